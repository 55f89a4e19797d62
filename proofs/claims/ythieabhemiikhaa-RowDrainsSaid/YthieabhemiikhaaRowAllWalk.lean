/-
  The walk of RowAll.
-/
import Derived.Deep.RegionHeld3
import Derived.Test.YthieabhemiikhaaRowFirst
import Derived.Test.YthieabhemiikhaaRowClonesWalk
namespace Go.Proofs.Ythieabhemiikhaa
set_option linter.unusedVariables false
open Go.RowKit Go.Shelf
attribute [local go_sem] Oper.semAt_some
theorem results_boolcell {fn : Func} {p : Tmp} (h : fn.results = #[.cell p 4]) (tmps : Array Value) (w : World) (g : Nat) (b : Bool)
    (hp : tmps.getD p undef = .pointer (some ⟨g, 0, none⟩)) (hc : w.cell? ⟨g, 0, none⟩ = some (.bool b)) :
    (results fn tmps).run Try.prog w = .ok (.bool b) w := by
  have hp' : tmps[p]?.getD undef = .pointer (some ⟨g, 0, none⟩) := by simpa using hp
  simp [results, h, hp', asAddr, loadVar, go_sem, hc]
/-- The queue q of c values, a variable's box B that holds vg, a slice that reads zs; they share no block. -/
def QB (w : World) (b4 b5 q B : Nat) (c : Nat) (vg : Value) (zs : List Int) (W : World) : Prop :=
  ∃ vq ys, Below w.heap.size w W ∧ QI W q vq 1000 ys ∧ ys.length = c ∧ Boxed W B 28 vg ∧ OffRow W 3 vg (zs.map VI) ∧ (∀ g, vq.ownBlock = some g → w.heap.size ≤ g) ∧ (∀ g, vg.ownBlock = some g → w.heap.size ≤ g) ∧ (∀ g, vq.ownBlock = some g → vg.ownBlock ≠ some g) ∧
    W.heap[b4]? = some (.cells #[.bool false] 4 (0, 0)) ∧ W.heap[b5]? = some (.cells #[.pointer (some ⟨q, 0, none⟩)] 23 (0, 0))
def OQ (q B : Nat) (W : World) (k : Nat) : Prop := k = q ∨ (∃ v, W.cell? ⟨q, 0, none⟩ = some v ∧ v.ownBlock = some k) ∨ OBox B W k
def StepQ (q B : Nat) (W W' : World) : Prop := KeepsOthers W W' ∧ KO (OQ q B) W W'
theorem StepQ.trans {q B : Nat} {X Y Z : World} (h : StepQ q B X Y) (k : StepQ q B Y Z) : StepQ q B X Z := ⟨h.1.trans k.1, h.2.trans k.2⟩
theorem OQ.ko {q B : Nat} {W W' : World} {A : Nat → Prop} (ht : Touch A W W') (hA : ∀ k, A k → OQ q B W k) (hq : ∀ v k, W'.cell? ⟨q, 0, none⟩ = some v → v.ownBlock = some k → k < W.heap.size → OQ q B W k)
    (hb : ∀ v k, W'.cell? ⟨B, 0, none⟩ = some v → v.ownBlock = some k → k < W.heap.size → OQ q B W k) : KO (OQ q B) W W' :=
  ⟨ht.size, fun k c t f hk hn => (ht.block k (heap_lt hk) (fun ha => hn (hA k ha))).trans hk, fun k hk ho => by
    rcases ho with ho | ⟨v, h1, h2⟩ | ho | ⟨v, h1, h2⟩
    · exact .inl ho
    · exact hq v k h1 h2 hk
    · exact .inr (.inr (.inl ho))
    · exact hb v k h1 h2 hk⟩
theorem touch_others {A : Nat → Prop} {W W' : World} (ht : Touch A W W') (hc : ∀ k, A k → k < W.heap.size → ∃ c t f, W.heap[k]? = some (.cells c t f)) : KeepsOthers W W' :=
  ⟨ht.size, fun k o hk ho => (ht.block k (heap_lt hk) (fun ha => by
    obtain ⟨c, t, f, h⟩ := hc k ha (heap_lt hk)
    rw [hk] at h; cases h; cases ho)).trans hk⟩
theorem own2_cells {W : World} {q : Nat} {vq : Value} {room : Nat} {ys : List Value} (h : QI W q vq room ys) : ∀ k, Own2 q vq k → k < W.heap.size → ∃ c t f, W.heap[k]? = some (.cells c t f) := by
  rintro k (rfl | hk) _
  · exact ⟨_, _, _, h.1⟩
  · obtain ⟨cur, hc⟩ := h.2.typed hk; exact ⟨_, _, _, hc⟩
theorem QB.alloc {w : World} {b4 b5 q B c : Nat} {vg : Value} {zs : List Int} {W W' : World} (h : QB w b4 b5 q B c vg zs W) (hb : Below W.heap.size W W') : QB w b4 b5 q B c vg zs W' := by
  obtain ⟨vq, ys, h1, h2, h3, h4, h5, h6, h7, h8, h9, h10⟩ := h
  exact ⟨vq, ys, h1.trans (hb.mono h1.size), h2.mono hb, h3, (hb.block _ h4.lt).trans h4, h5.mono hb, h6, h7, h8, (hb.block _ (heap_lt h9)).trans h9, (hb.block _ (heap_lt h10)).trans h10⟩
theorem QB.stepAlloc {w : World} {b4 b5 q B c : Nat} {vg : Value} {zs : List Int} {W : World} (h : QB w b4 b5 q B c vg zs W) (cs : Array Value) (t : TypeId) : StepQ q B W (W.alloc (.cells cs t)) := by
  obtain ⟨vq, ys, h1, h2, h3, h4, -⟩ := h
  have hA : Below W.heap.size W (W.alloc (.cells cs t)) := (Below.refl _ _).alloc (Nat.le_refl _) _
  refine ⟨KeepsOthers.alloc _ _, OQ.ko (Touch.ofBelow (A := fun _ => False) hA) (fun _ h => h.elim) (fun v k hv hk _ => .inr (.inl ⟨v, ?_, hk⟩)) (fun v k hv hk _ => .inr (.inr (.inr ⟨v, ?_, hk⟩)))⟩
  · rw [← hA.cell (p := ⟨q, 0, none⟩) h2.lt]; exact hv
  · rw [← hA.cell (p := ⟨B, 0, none⟩) h4.lt]; exact hv
/-- Behind a call that writes the queue alone. -/
theorem QB.turned {w : World} {b4 b5 q B c : Nat} {vg : Value} {zs : List Int} {W W' : World} (h : QB w b4 b5 q B c vg zs W) (hqw : w.heap.size ≤ q) (vq : Value) (ys : List Value) (hQ : QI W q vq 1000 ys)
    (hown : ∀ g, vq.ownBlock = some g → w.heap.size ≤ g) (hdis : ∀ g, vq.ownBlock = some g → vg.ownBlock ≠ some g)
    (v' : Value) (ys' : List Value) (p1 : QI W' q v' 1000 ys') (p2 : Touch (Own2 q vq) W W') (p3 : Kin W vq v') (c' : Nat) (hc' : ys'.length = c') : QB w b4 b5 q B c' vg zs W' ∧ StepQ q B W W' := by
  obtain ⟨vq0, ys0, h1, h2, h3, h4', h5', h6, h7, h8, h9, h10⟩ := h
  have hvq : vq0 = vq := by
    have := h2.1.symm.trans hQ.1
    simp at this; exact this
  have hB : ¬ Own2 q vq B := by
    rintro (rfl | hk)
    · have := h4'.symm.trans hQ.1; simp at this
    · obtain ⟨cur, hcur⟩ := hQ.2.typed hk
      have := h4'.symm.trans hcur; simp at this
  have h5n : ¬ Own2 q vq b5 := by
    rintro (hk | hk)
    · rw [hk] at h10; have := h10.symm.trans hQ.1; simp at this
    · obtain ⟨cur, hcur⟩ := hQ.2.typed hk
      have := h10.symm.trans hcur; simp at this
  have h4n : ¬ Own2 q vq b4 := by
    rintro (hk | hk)
    · rw [hk] at h9; have := h9.symm.trans hQ.1; simp at this
    · obtain ⟨cur, hcur⟩ := hQ.2.typed hk
      have := h9.symm.trans hcur; simp at this
  have hgn : ∀ g, vg.ownBlock = some g → ¬ Own2 q vq g := by
    rintro g hg (rfl | hk)
    · exact h5'.ne hQ.1 (by decide) hg rfl
    · exact hdis g hk hg
  refine ⟨⟨v', ys', h1.trans (p2.below h1.size (fun k _ hk => ?_)), p1, hc', (p2.block _ h4'.lt hB).trans h4', h5'.but p2 hgn, fun g hg => ?_, h7, fun g hg hg2 => ?_, (p2.block _ (heap_lt h9) h4n).trans h9, (p2.block _ (heap_lt h10) h5n).trans h10⟩, touch_others p2 (own2_cells hQ), OQ.ko p2 ?_ ?_ ?_⟩
  · rcases hk with rfl | hk
    · exact hqw
    · exact hown k hk
  · rcases p3 with p3 | p3 | ⟨g', p3, p4⟩
    · exact hown g (by rw [← p3]; exact hg)
    · rw [p3] at hg; cases hg
    · rw [p3] at hg; cases hg; exact Nat.le_trans h1.size p4
  · rcases p3 with p3 | p3 | ⟨g', p3, p4⟩
    · exact hdis g (by rw [← p3]; exact hg) hg2
    · rw [p3] at hg; cases hg
    · rw [p3] at hg; cases hg; have := h5'.lt hg2; omega
  · rintro k (rfl | hk)
    · exact .inl rfl
    · exact .inr (.inl ⟨vq, hQ.cells.1, hk⟩)
  · intro v k hv hk hlt
    rw [p1.cells.1] at hv; cases hv
    rcases p3 with p3 | p3 | ⟨g', p3, p4⟩
    · exact .inr (.inl ⟨vq, hQ.cells.1, by rw [← p3]; exact hk⟩)
    · rw [p3] at hk; cases hk
    · rw [p3] at hk; cases hk; omega
  · intro v k hv hk hlt
    refine .inr (.inr (.inr ⟨v, ?_, hk⟩))
    rw [← World.cell?_of_block (w := W) (a := ⟨B, 0, none⟩) (p2.block _ h4'.lt hB)]; exact hv
theorem QB.c5 {w : World} {b4 b5 q B c : Nat} {vg : Value} {zs : List Int} {W : World} (h : QB w b4 b5 q B c vg zs W) : W.cell? ⟨b5, 0, none⟩ = some (.pointer (some ⟨q, 0, none⟩)) ∧ W.cell? ⟨B, 0, none⟩ = some vg := by
  obtain ⟨vq, ys, h1, h2, h3, h4, h5, h6, h7, h8, h9, h10⟩ := h
  exact ⟨by rw [cells_of h10]; rfl, h4.cell⟩
theorem QB.row {w : World} {b4 b5 q B c : Nat} {vg : Value} {zs : List Int} {W : World} {x : Int} (h : QB w b4 b5 q B c vg zs W) : OffRow (W.alloc (.cells #[.int .i64 x] 3)) 3 vg (zs.map VI) := by
  obtain ⟨vq, ys, h1, h2, h3, h4, h5, -⟩ := h
  exact h5.mono ((Below.refl _ _).alloc (Nat.le_refl _) _)
theorem QB.pop {w : World} {b4 b5 q B c : Nat} {vg : Value} {zs : List Int} {W : World} (h : QB w b4 b5 q B (c + 1) vg zs W) (hqw : w.heap.size ≤ q) :
    Calls Try.prog 13 #[.pointer (some ⟨q, 0, none⟩)] W fun e W' => (∃ x y, e = .returned (.tuple #[x, y])) ∧ Hid (QB w b4 b5 q B c vg zs W' ∧ StepQ q B W W') := by
  obtain ⟨vq, ys, h1, h2, h3, h4, h5, h6, h7, h8, h9, h10⟩ := id h
  cases ys with
  | nil => simp at h3
  | cons y ys =>
    refine (pop_consI W q vq 1000 y ys h2).mono ?_
    rintro e W' ⟨rfl, v', p1, p2, p3⟩
    exact ⟨⟨_, _, rfl⟩, h.turned hqw vq _ h2 h6 h8 v' ys p1 p2 p3 c (by simpa using h3)⟩
theorem QB.push {w : World} {b4 b5 q B c : Nat} {vg : Value} {zs : List Int} {W : World} (h : QB w b4 b5 q B c vg zs W) (hqw : w.heap.size ≤ q) (hc : c + 2 ≤ 1000) (y z : Int) :
    Calls Try.prog 12 #[.pointer (some ⟨q, 0, none⟩), .slice (some ⟨W.heap.size, 0, none⟩) 2 2] (W.alloc (.cells #[.int .i64 y, .int .i64 z] 3)) fun e W' => e = .returned (.bool true) ∧ Hid (QB w b4 b5 q B (c + 2) vg zs W' ∧ StepQ q B W W') := by
  have hA : Below W.heap.size W (W.alloc (.cells #[.int .i64 y, .int .i64 z] 3)) := (Below.refl _ _).alloc (Nat.le_refl _) _
  have hst := h.stepAlloc #[.int .i64 y, .int .i64 z] 3
  have h' := h.alloc hA
  obtain ⟨vq, ys, h1, h2, h3, h4, h5, h6, h7, h8, h9, h10⟩ := id h'
  have hr : Reads (W.alloc (.cells #[.int .i64 y, .int .i64 z] 3)) (.slice (some ⟨W.heap.size, 0, none⟩) 2 2) [.int .i64 y, .int .i64 z] := by
    refine ⟨_, 2, rfl, by simp, by simp [maxLen], .inr ⟨W.heap.size, 0, rfl, by simp, ?_⟩⟩
    intro j hj
    rw [cells_of (new_at rfl)]
    have : j = 0 ∨ j = 1 := by simp at hj; omega
    rcases this with rfl | rfl <;> rfl
  refine (push_okI _ q vq 1000 ys h2 _ _ hr (by simp [Value.oneCell']) (by simp; omega) (by omega)).mono ?_
  rintro e W' ⟨rfl, v', p1, p2, p3⟩
  obtain ⟨r1, r2⟩ := h'.turned hqw vq _ h2 h6 h8 v' _ p1 p2 p3 (c + 2) (by simp; omega)
  exact ⟨rfl, r1, hst.trans r2⟩
theorem QB.appended {w : World} {b4 b5 q B c : Nat} {vg v' : Value} {zs : List Int} {x : Int} {W w1 : World} (h : QB w b4 b5 q B c vg zs W) (hB : w.heap.size ≤ B) (hg : Grew (W.alloc (.cells #[.int .i64 x] 3)) 3 vg (zs.map VI ++ [VI x]) v' w1) :
    w1.cell? ⟨B, 0, none⟩ = some vg ∧ w1.frozen? ⟨B, 0, none⟩ = false ∧ (w1.setCell ⟨B, 0, none⟩ v').cell? ⟨B, 0, none⟩ = some v' ∧ (∃ a c, v' = .slice a (zs.length + 1) c) ∧ Hid (QB w b4 b5 q B c v' (zs ++ [x]) (w1.setCell ⟨B, 0, none⟩ v') ∧ StepQ q B W (w1.setCell ⟨B, 0, none⟩ v')) := by
  obtain ⟨vq, ys, h1, h2, h3, h4, h5, h6, h7, h8, h9, h10⟩ := h
  obtain ⟨hv1, -, k1, k2, -, ht⟩ := BoxRow.step h4 h5 h7 hB h1.size hg
  obtain ⟨g1, g2, g3, -⟩ := hg
  have hA : Below W.heap.size W (W.alloc (.cells #[.int .i64 x] 3)) := (Below.refl _ _).alloc (Nat.le_refl _) _
  have hnq : ¬ (q = B ∨ vg.ownBlock = some q) := by
    rintro (rfl | hk)
    · have := h4.symm.trans h2.1; simp at this
    · exact h5.ne h2.1 (by decide) hk rfl
  have hnv : ∀ g, vq.ownBlock = some g → ¬ (g = B ∨ vg.ownBlock = some g) := by
    rintro g hg (rfl | hk)
    · exact h2.2.ne h4 (by decide) hg rfl
    · exact h8 g hg hk
  have h5n : ¬ (b5 = B ∨ vg.ownBlock = some b5) := by
    rintro (rfl | hk)
    · have := h4.symm.trans h10; simp at this
    · exact h5.ne h10 (by decide) hk rfl
  have h4n : ¬ (b4 = B ∨ vg.ownBlock = some b4) := by
    rintro (rfl | hk)
    · have := h4.symm.trans h9; simp at this
    · exact h5.ne h9 (by decide) hk rfl
  have hown : ∀ g, v'.ownBlock = some g → vg.ownBlock = some g ∨ W.heap.size ≤ g := by
    intro g hg
    rcases g3 with g3 | ⟨g', g3, g4⟩
    · exact .inl (by rw [← g3]; exact hg)
    · rw [g3] at hg; cases hg; exact .inr (Nat.le_trans hA.size g4)
  have hf : ∃ a c, v' = .slice a (zs.length + 1) c := by
    rcases g1 with ⟨_, h0⟩ | ⟨g, off, cap, e1, -⟩
    · simp at h0
    · exact ⟨some ⟨g, off, none⟩, cap, by rw [e1]; simp⟩
  refine ⟨hv1.cell, hv1.frozen, (hv1.set v').cell, hf, ⟨vq, ys, h1.trans (ht.below h1.size (fun k _ hk => ?_)), h2.but ht hnq hnv, h3, hv1.set v', ?_, h6, fun g hg => ?_, fun g hg hg2 => ?_, (ht.block _ (heap_lt h9) h4n).trans h9, (ht.block _ (heap_lt h10) h5n).trans h10⟩, k1, OQ.ko ht ?_ ?_ ?_⟩
  · rcases hk with rfl | hk
    · exact hB
    · exact h7 k hk
  · rw [List.map_append]; exact g1.but (Touch.set w1 B 0 _) (fun g hg => g1.ne hv1 (by decide) hg)
  · rcases hown g hg with h | h
    · exact h7 g h
    · exact Nat.le_trans h1.size h
  · rcases hown g hg2 with h | h
    · exact h8 g hg h
    · have := h2.2.lt hg; omega
  · rintro k (rfl | hk)
    · exact .inr (.inr (.inl rfl))
    · exact .inr (.inr (.inr ⟨vg, h4.cell, hk⟩))
  · intro v k hv hk hlt
    rw [World.cell?_of_block (w := W) (a := ⟨q, 0, none⟩) (ht.block _ h2.lt hnq)] at hv
    exact .inr (.inl ⟨v, hv, hk⟩)
  · intro v k hv hk hlt
    rw [(hv1.set v').cell] at hv; cases hv
    rcases hown k hk with h | h
    · exact .inr (.inr (.inr ⟨vg, h4.cell, h⟩))
    · omega
theorem QB.ownFrom {β : Type} (w : World) (b4 b5 q B : Nat) (c : β → Nat) (zs : β → List Int) {N : Nat} (hN : w.heap.size ≤ N) : OwnFrom N (fun (s : β) W => ∃ vg, QB w b4 b5 q B (c s) vg (zs s) W) := by
  rintro s X Y row ⟨vg, vq, ys, h1, h2, h3, h4, h5, h6, h7, h8, h9, h10⟩ hg hrow
  have hr : ∀ r, row = some r → ∃ o : Obj, X.heap[r]? = some o ∧ o.isCells = false := fun r e => (hrow r e).2
  exact ⟨vg, vq, ys, h1.grown hg h1.size (fun k e => Nat.le_trans hN (hrow k e).1), ⟨kept_blk h2.1 hg hr, h2.2.own hg hr⟩, h3, kept_blk h4 hg hr, h5.own hg hr, h6, h7, h8, kept_blk h9 hg hr, kept_blk h10 hg hr⟩
theorem OQ.kb {q B : Nat} {W : World} {l : Nat} {o o' : Obj} (hq : q < l) (hl : B < l) (h : W.heap[l]? = some o) (hc : o.isCells = false) : KO (OQ q B) W (W.putObj l o') := by
  have hkb := OBox.kb (B := B) (o' := o') hl h hc
  refine ⟨by simp, fun k c t f hk _ => ?_, fun k hk ho => ?_⟩
  · rw [World.putObj_heap_other (by rintro rfl; rw [hk] at h; cases h; cases hc)]; exact hk
  · rcases ho with ho | ⟨v, h1, h2⟩ | ho
    · exact .inl ho
    · exact .inr (.inl ⟨v, by rw [← World.cell?_of_block (w := W) (a := ⟨q, 0, none⟩) (World.putObj_heap_other (show q ≠ l by omega) : (W.putObj l o').heap[q]? = W.heap[q]?)]; exact h1, h2⟩)
    · exact .inr (.inr (hkb.own k hk ho))
end Go.Proofs.Ythieabhemiikhaa
