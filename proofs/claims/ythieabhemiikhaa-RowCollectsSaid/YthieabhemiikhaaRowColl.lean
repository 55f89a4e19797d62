/-
  Collect over a closure of the law's: the state, the closures that stand between.
-/
import Derived.Test.YthieabhemiikhaaRowFree
import Derived.LoopIn
namespace Go.Proofs.Ythieabhemiikhaa
set_option linter.unusedVariables false
open Go.RowKit Go.Shelf
attribute [local go_sem] Oper.semAt_some
/-- The variables of the law and of Collect: the list's, the count's (w's end and the next), the bound's, the result's, the sequence's. The result's slice is the call's own. -/
def CS (w : World) (lv : Value) (most : Int) (k : Int) (gs : List Int) (W : World) : Prop :=
  ∃ vg, Below w.heap.size w W ∧ W.heap[w.heap.size]? = some (.cells #[lv] 28 (0, 0)) ∧ W.heap[w.heap.size + 1]? = some (.cells #[.int .i64 k] 3 (0, 0)) ∧ W.heap[w.heap.size + 2]? = some (.cells #[.int .i64 most] 3 (0, 0)) ∧ Boxed W (w.heap.size + 3) 28 vg ∧ OffRow W 3 vg (gs.map VI) ∧
    (∀ g, vg.ownBlock = some g → w.heap.size ≤ g ∧ g ≠ w.heap.size + 1 ∧ g ≠ w.heap.size + 2) ∧ W.heap[w.heap.size + 4]? = some (.cells #[.func (.func 23) #[] #[.pointer (some ⟨w.heap.size, 0, none⟩), .pointer (some ⟨w.heap.size + 1, 0, none⟩)]] 40 (0, 0))
/-- The iterator's own two variables. -/
def Pv (gb yb l : Nat) (b : Bool) (W : World) : Prop := W.heap[gb]? = some (.cells #[.bool b] 4 (0, 0)) ∧ W.heap[yb]? = some (.cells #[.func (.yield l) #[] #[]] 48 (0, 0))
theorem CS.touch {w : World} {lv : Value} {most k : Int} {gs : List Int} {W W' : World} {A : Nat → Prop} (h : CS w lv most k gs W) (ht : Touch A W W') (hA : ∀ b, A b → b < W.heap.size → ∃ (c : Array Value) (t : TypeId) (f : Nat × Nat), W.heap[b]? = some (.cells c t f) ∧ t ≠ 28 ∧ t ≠ 3 ∧ t ≠ 40)
    (hw : ∀ b, A b → w.heap.size ≤ b) : CS w lv most k gs W' := by
  obtain ⟨vg, h1, h2, h3, h4, h5, h6, h7, h8⟩ := h
  have nA : ∀ (b : Nat) (c : Array Value) (t : TypeId) (f : Nat × Nat), W.heap[b]? = some (.cells c t f) → (t = 28 ∨ t = 3 ∨ t = 40) → ¬ A b := by
    intro b c t f hb ht hab
    obtain ⟨c', t', f', e1, e2, e3, e4⟩ := hA b hab (heap_lt hb)
    rw [hb] at e1; simp at e1
    rcases ht with rfl | rfl | rfl
    · exact e2 e1.2.1.symm
    · exact e3 e1.2.1.symm
    · exact e4 e1.2.1.symm
  have kp : ∀ (b : Nat) (c : Array Value) (t : TypeId) (f : Nat × Nat), W.heap[b]? = some (.cells c t f) → (t = 28 ∨ t = 3 ∨ t = 40) → W'.heap[b]? = some (.cells c t f) := fun b c t f hb hh => (ht.block b (heap_lt hb) (nA b c t f hb hh)).trans hb
  exact ⟨vg, h1.trans (ht.below h1.size (fun b _ hb => hw b hb)), kp _ _ _ _ h2 (.inl rfl), kp _ _ _ _ h3 (.inr (.inl rfl)), kp _ _ _ _ h4 (.inr (.inl rfl)), kp _ _ _ _ h5 (.inl rfl), h6.but ht (fun g hg => by obtain ⟨cur, hc⟩ := h6.typed hg; exact nA _ _ _ _ hc (.inr (.inl rfl))), h7, kp _ _ _ _ h8 (.inr (.inr rfl))⟩
theorem CS.alloc {w : World} {lv : Value} {most k : Int} {gs : List Int} {W W' : World} (h : CS w lv most k gs W) (hb : Below W.heap.size W W') : CS w lv most k gs W' :=
  h.touch (Touch.ofBelow (A := fun _ => False) hb) (fun _ h => h.elim) (fun _ h => h.elim)
theorem CS.going {w : World} {lv : Value} {most k : Int} {gs : List Int} {W : World} {gb yb l : Nat} {b b' : Bool} (h : CS w lv most k gs W) (hp : Pv gb yb l b W) (hw : w.heap.size ≤ gb) : CS w lv most k gs (W.setCell ⟨gb, 0, none⟩ (.bool b')) ∧ Pv gb yb l b' (W.setCell ⟨gb, 0, none⟩ (.bool b')) := by
  refine ⟨h.touch (Touch.set W gb 0 _) (fun x hx _ => by subst hx; exact ⟨_, _, _, hp.1, by decide, by decide, by decide⟩) (fun x hx => by rw [hx]; exact hw), ?_, ?_⟩
  · have := hp.1; simp [World.setCell, Array.getElem?_modify, this]
  · refine (Below.heap_setCell W _ _ _ ?_).trans hp.2
    rintro rfl
    have := hp.1.symm.trans hp.2; simp at this
theorem set_one {w : World} {b : Nat} {v u : Value} {t : TypeId} {f : Nat × Nat} (h : w.heap[b]? = some (.cells #[v] t f)) : (w.setCell ⟨b, 0, none⟩ u).heap[b]? = some (.cells #[u] t f) := by
  simp [World.setCell, Array.getElem?_modify, h]
theorem CS.asked {w : World} {lv : Value} {most k k' : Int} {gs : List Int} {W : World} (h : CS w lv most k gs W) : CS w lv most k' gs (W.setCell ⟨w.heap.size + 1, 0, none⟩ (.int .i64 k')) := by
  obtain ⟨vg, h1, h2, h3, h4, h5, h6, h7, h8⟩ := h
  have o : ∀ (b : Nat) (c : Array Value) (t : TypeId) (f : Nat × Nat), b ≠ w.heap.size + 1 → W.heap[b]? = some (.cells c t f) → (W.setCell ⟨w.heap.size + 1, 0, none⟩ (.int .i64 k')).heap[b]? = some (.cells c t f) := fun b c t f hne hb => (Below.heap_setCell W _ _ _ hne).trans hb
  exact ⟨vg, h1.setCell (p := ⟨w.heap.size + 1, 0, none⟩) (by simp) _, o _ _ _ _ (by omega) h2, set_one h3, o _ _ _ _ (by omega) h4, o _ _ _ _ (by omega) h5, h6.but (Touch.set W _ 0 _) (fun g hg => (h7 g hg).2.1), h7, o _ _ _ _ (by omega) h8⟩
theorem Pv.asked {w : World} {lv : Value} {most k k' : Int} {gs : List Int} {W : World} {gb yb l : Nat} {b : Bool} (h : CS w lv most k gs W) (hp : Pv gb yb l b W) : Pv gb yb l b (W.setCell ⟨w.heap.size + 1, 0, none⟩ (.int .i64 k')) := by
  obtain ⟨vg, h1, h2, h3, h4, h5, h6, h7, h8⟩ := h
  refine ⟨(Below.heap_setCell W _ _ _ ?_).trans hp.1, (Below.heap_setCell W _ _ _ ?_).trans hp.2⟩
  · rintro rfl; have := h3.symm.trans hp.1; simp at this
  · rintro rfl; have := h3.symm.trans hp.2; simp at this
theorem Pv.alloc {gb yb l : Nat} {b : Bool} {W W' : World} (hp : Pv gb yb l b W) (hb : Below W.heap.size W W') : Pv gb yb l b W' := ⟨(hb.block _ (heap_lt hp.1)).trans hp.1, (hb.block _ (heap_lt hp.2)).trans hp.2⟩
theorem CS.cells {w : World} {lv : Value} {most k : Int} {gs : List Int} {W : World} (h : CS w lv most k gs W) : W.cell? ⟨w.heap.size, 0, none⟩ = some lv ∧ W.cell? ⟨w.heap.size + 1, 0, none⟩ = some (.int .i64 k) ∧ W.cell? ⟨w.heap.size + 2, 0, none⟩ = some (.int .i64 most) ∧ W.frozen? ⟨w.heap.size + 1, 0, none⟩ = false := by
  obtain ⟨vg, h1, h2, h3, h4, -⟩ := h
  exact ⟨by rw [cells_of h2]; rfl, by rw [cells_of h3]; rfl, by rw [cells_of h4]; rfl, frozen_of h3⟩
theorem CS.below {w : World} {lv : Value} {most k : Int} {gs : List Int} {W : World} (h : CS w lv most k gs W) : Below w.heap.size w W := by
  obtain ⟨vg, h1, -⟩ := h; exact h1
theorem CS.own {β : Type} (w : World) (lv : Value) (most : Int) (k : β → Int) (gs : β → List Int) {N : Nat} (hN : w.heap.size ≤ N) : OwnFrom N (fun (s : β) W => CS w lv most (k s) (gs s) W) := by
  rintro s X Y row ⟨vg, h1, h2, h3, h4, h5, h6, h7, h8⟩ hg hrow
  have hr : ∀ r, row = some r → ∃ o : Obj, X.heap[r]? = some o ∧ o.isCells = false := fun r e => (hrow r e).2
  exact ⟨vg, h1.grown hg h1.size (fun k e => Nat.le_trans hN (hrow k e).1), kept_blk h2 hg hr, kept_blk h3 hg hr, kept_blk h4 hg hr, kept_blk h5 hg hr, h6.own hg hr, h7, kept_blk h8 hg hr⟩
theorem Pv.own {X Y : World} {row : Option Nat} {gb yb l : Nat} {b : Bool} (hp : Pv gb yb l b X) (hg : X.grownBy Y row) (hr : ∀ r, row = some r → ∃ o : Obj, X.heap[r]? = some o ∧ o.isCells = false) : Pv gb yb l b Y := ⟨kept_blk hp.1 hg hr, kept_blk hp.2 hg hr⟩
set_option maxRecDepth 100000 in
set_option maxHeartbeats 4000000 in
/-- The closure that keeps back what comes behind the last one. -/
theorem c36 (m gb yb l : Nat) (x : Int) (W : World) (A B : World → Prop) (hp : Pv gb yb l true W)
    (hY : YieldAt Fence.wide (m - 1) Try.prog l #[.int .i64 x] W fun e W' => (e = .returned (.bool true) ∧ A W' ∧ Pv gb yb l true W') ∨ (e = .returned (.bool false) ∧ B W' ∧ Pv gb yb l true W')) :
    CallsIn Fence.wide m Try.prog 36 #[.int .i64 x, .pointer (some ⟨gb, 0, none⟩), .pointer (some ⟨yb, 0, none⟩)] W fun e W' =>
      (e = .returned (.bool true) ∧ ∃ W0, A W0 ∧ Pv gb yb l true W0 ∧ W' = W0.setCell ⟨gb, 0, none⟩ (.bool true)) ∨ (e = .returned (.bool false) ∧ ∃ W0, B W0 ∧ Pv gb yb l true W0 ∧ W' = W0.setCell ⟨gb, 0, none⟩ (.bool false)) := by
  have cg : W.cell? ⟨gb, 0, none⟩ = some (.bool true) := by rw [cells_of hp.1]; rfl
  have cy : W.cell? ⟨yb, 0, none⟩ = some (.func (.yield l) #[] #[]) := by rw [cells_of hp.2]; rfl
  have hY2 := YieldAt.mono hY (R' := fun e W' => (e = .returned (.bool true) ∧ W'.cell? ⟨gb, 0, none⟩ = some (.bool true) ∧ W'.frozen? ⟨gb, 0, none⟩ = false ∧ (W'.setCell ⟨gb, 0, none⟩ (.bool true)).cell? ⟨gb, 0, none⟩ = some (.bool true) ∧ Hid (A W' ∧ Pv gb yb l true W')) ∨ (e = .returned (.bool false) ∧ W'.cell? ⟨gb, 0, none⟩ = some (.bool true) ∧ W'.frozen? ⟨gb, 0, none⟩ = false ∧ (W'.setCell ⟨gb, 0, none⟩ (.bool false)).cell? ⟨gb, 0, none⟩ = some (.bool false) ∧ Hid (B W' ∧ Pv gb yb l true W'))) (by
    rintro e W' (⟨h1, h2, h3⟩ | ⟨h1, h2, h3⟩)
    · exact .inl ⟨h1, by rw [cells_of h3.1]; rfl, frozen_of h3.1, by rw [cells_of (set_one h3.1)]; rfl, h2, h3⟩
    · exact .inr ⟨h1, by rw [cells_of h3.1]; rfl, frozen_of h3.1, by rw [cells_of (set_one h3.1)]; rfl, h2, h3⟩)
  obtain ⟨fn, tmps, assign, body, hy, hR⟩ := hY2
  clear hY hp
  refine callsIn_of_wp Try.func36 rfl trivial ?_ rfl
  simp only [Try.ntmps36, List.size_toArray, List.length_cons, List.length_nil, Nat.reduceAdd, Nat.reduceSub, Array.replicate_succ, Array.replicate_zero, List.push_toArray, List.append_toArray, List.nil_append, List.cons_append]
  gi_wp2_with ((try refine ⟨fun h => (by cases h), ?_⟩); refine hR.mono ?_; clear hR; rintro e W3 (⟨rfl, d1, d2, d3, h3⟩ | ⟨rfl, d1, d2, d3, h3⟩))
  · go_ret
    exact .inl ⟨rfl, W3, h3.out.1, h3.out.2, rfl⟩
  · go_ret
    exact .inr ⟨rfl, W3, h3.out.1, h3.out.2, rfl⟩
/-- At a yield; behind a round that goes on; behind one that leaves; at the end; left early. The index: the iterator's own two variables, the loop, how many there were. -/
def JyC (w : World) (lv : Value) (most : Nat) (zs : List Int) (b : Nat × Nat × Nat × Nat) (x : Int) (W : World) : Prop := w.heap.size ≤ b.1 ∧ zs[b.2.2.2]? = some x ∧ CS w lv most ((b.2.2.2 : Int) + 1) (zs.take b.2.2.2) W ∧ Pv b.1 b.2.1 b.2.2.1 true W ∧ b.2.2.2 < most
def JrC (w : World) (lv : Value) (most : Nat) (zs : List Int) (b : Nat × Nat × Nat × Nat) (_ : Int) (W : World) : Prop := CS w lv most ((b.2.2.2 : Int) + 1) (zs.take (b.2.2.2 + 1)) W ∧ Pv b.1 b.2.1 b.2.2.1 true W ∧ b.2.2.2 + 1 < most
def JxC (w : World) (lv : Value) (most : Nat) (zs : List Int) (b : Nat × Nat × Nat × Nat) (c : Code) (W : World) : Prop := c = .exit 0 ∧ CS w lv most ((b.2.2.2 : Int) + 1) (zs.take (b.2.2.2 + 1)) W ∧ Pv b.1 b.2.1 b.2.2.1 true W ∧ b.2.2.2 + 1 = most
def JDC (w : World) (lv : Value) (most : Nat) (zs : List Int) (W : World) : Prop := CS w lv most zs.length zs W ∧ zs.length < most
def JXC (w : World) (lv : Value) (most : Nat) (zs : List Int) (c : Code) (W : World) : Prop := c = .exit 0 ∧ CS w lv most most (zs.take most) W ∧ most ≤ zs.length
set_option maxRecDepth 100000 in
set_option maxHeartbeats 4000000 in
theorem c23 (m gb yb l : Nat) (w : World) (a : Option Addr) (cap most : Nat) (zs : List Int) (hr : Reads w (.slice a zs.length cap) (zs.map VI)) (hlen : zs.length ≤ 1000000) (W : World) (Bk : World → Prop) (Bx : Code → World → Prop)
    (hk : ∀ X Y, KeepsOthers X Y → Bk X → Bk Y) (hx : ∀ c X Y, KeepsOthers X Y → Bx c X → Bx c Y)
    (hY : ∀ m b x W, JyC w (.slice a zs.length cap) most zs b x W → Bk W → b.2.2.1 = l → YieldAt Fence.wide m Try.prog l #[.int .i64 x] W fun e W' => (e = .returned (.bool true) ∧ JrC w (.slice a zs.length cap) most zs b x W' ∧ Bk W') ∨ (e = .returned (.bool false) ∧ ∃ c, JxC w (.slice a zs.length cap) most zs b c W' ∧ Bx c W'))
    (h0 : CS w (.slice a zs.length cap) most 0 [] W) (hp : Pv gb yb l true W) (hb : Bk W) (hgb : w.heap.size ≤ gb) (hm : 0 < most) :
    CallsIn Fence.wide m Try.prog 23 #[.func (.func 36) #[] #[.pointer (some ⟨gb, 0, none⟩), .pointer (some ⟨yb, 0, none⟩)], .pointer (some ⟨w.heap.size, 0, none⟩), .pointer (some ⟨w.heap.size + 1, 0, none⟩)] W
      fun e W' => (∃ v, e = .returned v) ∧ ((JDC w (.slice a zs.length cap) most zs W' ∧ Bk W') ∨ ∃ c, JXC w (.slice a zs.length cap) most zs c W' ∧ Bx c W') := by
  have hcap : zs.length ≤ cap ∧ cap ≤ 9223372036854775807 := by
    obtain ⟨a', c', he, h1, h2, -⟩ := id hr
    obtain ⟨-, -, rfl⟩ := Value.slice.inj he
    unfold maxLen at h2
    exact ⟨by simpa using h1, h2⟩
  obtain ⟨hcap1, hcap2⟩ := hcap
  have hcell : ∀ k (h : k < zs.length), ∃ b off, a = some ⟨b, off, none⟩ ∧ b < w.heap.size ∧ w.cell? ⟨b, off + k, none⟩ = some (.int .i64 zs[k]) := by
    intro k hk
    obtain ⟨a', c', he, h1, h2, h3⟩ := hr
    obtain ⟨rfl, -, rfl⟩ := Value.slice.inj he
    rcases h3 with h3 | ⟨b, off, h4, h5, h6⟩
    · omega
    · exact ⟨b, off, h4, h5, by have := h6 k (by simpa using hk); simpa using this⟩
  have HC := Lib.hid hcell
  have HY := Lib.hid hY
  have HK := Lib.hid hk
  have HX := Lib.hid hx
  have H0 : Hid (CS w (.slice a zs.length cap) most 0 [] W ∧ Pv gb yb l true W ∧ Bk W) := Lib.hid ⟨h0, hp, hb⟩
  clear hr hcell hY hk hx h0 hp hb
  refine callsIn_of_wp Try.func23 rfl trivial ?_ rfl
  simp only [Try.ntmps23, List.size_toArray, List.length_cons, List.length_nil, Nat.reduceAdd, Nat.reduceSub, Array.replicate_succ, Array.replicate_zero, List.push_toArray, List.append_toArray, List.nil_append, List.cons_append]
  gi_wp2_with fail
  gi_loopw [4] (fun i wr => ∃ k : Nat, k ≤ zs.length ∧ i = .int .i64 k ∧ k < most ∧ Hid (CS w (.slice a zs.length cap) most k (zs.take k) wr ∧ Pv gb yb l true wr ∧ Bk wr)) (fun i _ => zs.length - (intOf i).toNat)
  case atStart => exact ⟨0, Nat.zero_le _, rfl, hm, Lib.hid (by simpa using H0.out)⟩
  case round =>
    obtain ⟨k, hk, rfl, hkm, hI⟩ := hrel
    obtain ⟨c0, c1, -, f1⟩ := hI.out.1.cells
    by_cases hlt : k < zs.length
    · obtain ⟨b, off, rfl, hbb, hc⟩ := HC.out k hlt
      have hz : zs[k]? = some zs[k] := List.getElem?_eq_getElem hlt
      obtain ⟨W2, hW2⟩ : ∃ W2, W2 = wr.setCell ⟨w.heap.size + 1, 0, none⟩ (.int .i64 ((k : Int) + 1)) := ⟨_, rfl⟩
      have hcs2 : CS w (.slice (some ⟨b, off, none⟩) zs.length cap) most ((k : Int) + 1) (zs.take k) W2 := by rw [hW2]; exact hI.out.1.asked
      have hpv2 : Pv gb yb l true W2 := by rw [hW2]; exact Pv.asked hI.out.1 hI.out.2.1
      have hbk2 : Bk W2 := by rw [hW2]; exact HK.out _ _ (KeepsOthers.setCell _ _ _) hI.out.2.2
      have hy := HY.out (m - 1 - 1) (gb, yb, l, k) zs[k] W2 ⟨hgb, hz, hcs2, hpv2, hkm⟩ hbk2 rfl
      have h36 := (c36 (m - 1) gb yb l zs[k] W2 (fun W' => CS w (.slice (some ⟨b, off, none⟩) zs.length cap) most ((k : Int) + 1) (zs.take (k + 1)) W' ∧ Bk W' ∧ k + 1 < most) (fun W' => ∃ c, (c = .exit 0 ∧ CS w (.slice (some ⟨b, off, none⟩) zs.length cap) most ((k : Int) + 1) (zs.take (k + 1)) W' ∧ k + 1 = most) ∧ Bx c W') hpv2 (YieldAt.mono hy (by
        rintro e W' (⟨h1, ⟨h2, h3, h4⟩, h5⟩ | ⟨h1, c, ⟨h2, h3, h4, h5⟩, h6⟩)
        · exact .inl ⟨h1, ⟨h2, h5, h4⟩, h3⟩
        · exact .inr ⟨h1, ⟨c, ⟨h2, h3, h5⟩, h6⟩, h4⟩))).mono (R' := fun e W' => (e = .returned (.bool true) ∧ k + 1 < most ∧ Hid (CS w (.slice (some ⟨b, off, none⟩) zs.length cap) most ((k : Int) + 1) (zs.take (k + 1)) W' ∧ Pv gb yb l true W' ∧ Bk W')) ∨ (e = .returned (.bool false) ∧ Hid (∃ c, JXC w (.slice (some ⟨b, off, none⟩) zs.length cap) most zs c W' ∧ Bx c W'))) (by
        rintro e W' (⟨h1, W0, ⟨h2, h3, h4⟩, h5, rfl⟩ | ⟨h1, W0, ⟨c, ⟨h2, h3, h4⟩, h6⟩, h5, rfl⟩)
        · obtain ⟨g1, g2⟩ := h2.going (b' := true) h5 hgb
          exact .inl ⟨h1, h4, g1, g2, HK.out _ _ (KeepsOthers.setCell _ _ _) h3⟩
        · obtain ⟨g1, -⟩ := h3.going (b' := false) h5 hgb
          have e2 : ((k : Int) + 1) = (most : Int) := by omega
          rw [e2, h4] at g1
          exact .inr ⟨h1, c, ⟨h2, g1, by omega⟩, HX.out _ _ _ (KeepsOthers.setCell _ _ _) h6⟩)
      have H36 := Lib.hid h36
      have hbel := hI.out.1.below
      have ck := (hbel.cell (p := ⟨b, off + k, none⟩) hbb).trans hc
      have hb1 : b ≠ w.heap.size + 1 := by omega
      have ck2 : W2.cell? ⟨b, off + k, none⟩ = some (.int .i64 zs[k]) := (hcs2.below.cell (p := ⟨b, off + k, none⟩) hbb).trans hc
      have c02 : W2.cell? ⟨w.heap.size, 0, none⟩ = some (.slice (some ⟨b, off, none⟩) zs.length cap) := hcs2.cells.1
      have hki : (k : Int) < (zs.length : Int) := by omega
      have HW2 := Lib.hid hW2
      generalize zs[k] = x at ck ck2 H36
      clear h36 hy hcs2 hpv2 hbk2 hbel hc hz hW2
      gi_wp2_with (first
        | ((try refine ⟨trivial, ?_⟩); (try refine ⟨fun h => (by cases h), ?_⟩); gi_at_call 36; rw [← HW2.out]; refine H36.out.mono ?_; rintro e W3 (⟨rfl, hkm2, h3⟩ | ⟨rfl, h3⟩)))
      · go_roundw
        case rel => exact ⟨k + 1, by omega, by go_num, hkm2, h3⟩
        case measure => simp [intOf]; omega
      · refine bodyPost_ret (results_none rfl _ _ _) rfl ?_
        exact ⟨⟨_, rfl⟩, .inr h3.out⟩
    · obtain rfl : k = zs.length := by omega
      gi_wp2_with fail
      go_end0
      refine ⟨⟨_, rfl⟩, .inl ⟨⟨?_, hkm⟩, hI.out.2.2⟩⟩
      have := hI.out.1
      rwa [List.take_length] at this
end Go.Proofs.Ythieabhemiikhaa
