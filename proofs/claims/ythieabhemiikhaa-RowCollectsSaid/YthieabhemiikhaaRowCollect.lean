/-
  untilLeft and Collect over the law's own sequence; the walk of RowCollects.
-/
import Derived.Test.YthieabhemiikhaaRowColl
import Derived.Test.YthieabhemiikhaaRowAllLaw
namespace Go.Proofs.Ythieabhemiikhaa
set_option linter.unusedVariables false
open Go.RowKit Go.Shelf
attribute [local go_sem] Oper.semAt_some
theorem until_any (w : World) (f : Fn) (x y : Array Value) : Calls Try.prog 33 #[.func f x y] w fun e w' => e = .returned (.func (.func 35) #[] #[.pointer (some ⟨w.heap.size, 0, none⟩)]) ∧ w' = w.alloc (.cells #[.func f x y] 40) := by
  go_enter Try.func33, Try.ntmps33
  go_wp2
  go_ret
  exact ⟨rfl, rfl⟩
set_option maxRecDepth 100000 in
set_option maxHeartbeats 4000000 in
theorem until_free (n : Nat) (w : World) (a : Option Addr) (cap most : Nat) (zs : List Int) (hr : Reads w (.slice a zs.length cap) (zs.map VI)) (hlen : zs.length ≤ 1000000) (hm : 0 < most) :
    SeqFree Fence.wide n Try.prog 35 #[.pointer (some ⟨w.heap.size + 4, 0, none⟩)] (fun x : Int => #[.int .i64 x]) (fun W => CS w (.slice a zs.length cap) most 0 [] W)
      (JyC w (.slice a zs.length cap) most zs) (JrC w (.slice a zs.length cap) most zs) (JDC w (.slice a zs.length cap) most zs) (JxC w (.slice a zs.length cap) most zs) (JXC w (.slice a zs.length cap) most zs) := by
  intro l W Bk Bx hs hk hx hb hY
  obtain ⟨W2, hW2⟩ : ∃ W2, W2 = (W.alloc (.cells #[.func (.yield l) #[] #[]] 48)).alloc (.cells #[.bool true] 4) := ⟨_, rfl⟩
  have hb2 : Below W.heap.size W W2 := by rw [hW2]; exact ((Below.refl W.heap.size W).alloc (Nat.le_refl _) _).alloc (by simp) _
  have hp : Pv (W.heap.size + 1) W.heap.size l true W2 := by
    rw [hW2]; exact ⟨new_at (by simp), (Below.heap_alloc _ _ _ (by simp)).trans (new_at rfl)⟩
  have hbk : Bk W2 := by rw [hW2]; exact hk _ _ ((KeepsOthers.alloc W _).trans (KeepsOthers.alloc _ _)) hb
  have h23 := c23 (n - 1) (W.heap.size + 1) W.heap.size l w a cap most zs hr hlen W2 Bk Bx hk hx (fun m b x W h1 h2 _ => hY m b x W h1 h2) (hs.alloc hb2) hp hbk (by have := hs.below.size; omega) hm
  have H23 := Lib.hid h23
  have c4 : W.cell? ⟨w.heap.size + 4, 0, none⟩ = some (.func (.func 23) #[] #[.pointer (some ⟨w.heap.size, 0, none⟩), .pointer (some ⟨w.heap.size + 1, 0, none⟩)]) := by
    obtain ⟨vg, h1, h2, h3, h4, h5, h6, h7, h8⟩ := hs
    rw [cells_of h8]; rfl
  have hlt4 : w.heap.size + 4 < W.heap.size := World.block_lt_of_cell? W _ c4
  have HW2 := Lib.hid hW2
  clear hs hk hx hb hY h23 hp hbk hb2 hr hW2
  refine callsIn_of_wp Try.func35 rfl trivial ?_ rfl
  simp only [Try.ntmps35, List.size_toArray, List.length_cons, List.length_nil, Nat.reduceAdd, Nat.reduceSub, Array.replicate_succ, Array.replicate_zero, List.push_toArray, List.append_toArray, List.nil_append, List.cons_append]
  gi_wp2_with ((try refine ⟨trivial, ?_⟩); (try refine ⟨fun h => (by cases h), ?_⟩); gi_at_call 23; rw [← HW2.out]; refine H23.out.mono ?_; rintro e W3 ⟨⟨v, rfl⟩, h3⟩; have H3 := Lib.hid h3; clear h3)
  go_end0
  exact ⟨⟨_, rfl⟩, H3.out⟩
theorem collect_zero (w : World) (f : Fn) (x y : Array Value) (n : Int) (hn : n < 1) : Calls Try.prog 24 #[.func f x y, .int .i64 n] w fun e w' => e = .returned (.slice none 0 0) ∧ Below w.heap.size w w' := by
  have hd : decide (n < 1) = true := decide_eq_true hn
  go_enter Try.func24, Try.ntmps24
  go_wp2
  go_ret
  exact ⟨rfl, (Below.refl _ _).alloc (Nat.le_refl _) _⟩
theorem CS.step {w : World} {lv : Value} {most k : Int} {gs : List Int} {W : World} (h : CS w lv most k gs W) (x : Int) :
    ∃ vg, W.cell? ⟨w.heap.size + 3, 0, none⟩ = some vg ∧ OffRow W 3 vg (gs.map VI) ∧ ∀ v' w1, Grew (W.alloc (.cells #[.int .i64 x] 3)) 3 vg (gs.map VI ++ [VI x]) v' w1 →
      w1.cell? ⟨w.heap.size + 3, 0, none⟩ = some vg ∧ w1.frozen? ⟨w.heap.size + 3, 0, none⟩ = false ∧ (∃ a c, v' = .slice a (gs.length + 1) c) ∧ (w1.setCell ⟨w.heap.size + 3, 0, none⟩ v').cell? ⟨w.heap.size + 3, 0, none⟩ = some v' ∧ (w1.setCell ⟨w.heap.size + 3, 0, none⟩ v').cell? ⟨w.heap.size + 2, 0, none⟩ = some (.int .i64 most) ∧
      Hid (KeepsOthers W (w1.setCell ⟨w.heap.size + 3, 0, none⟩ v') ∧ CS w lv most k (gs ++ [x]) (w1.setCell ⟨w.heap.size + 3, 0, none⟩ v') ∧ ∀ gb yb l b, Pv gb yb l b W → Pv gb yb l b (w1.setCell ⟨w.heap.size + 3, 0, none⟩ v')) := by
  obtain ⟨vg, h1, h2, h3, h4, h5, h6, h7, h8⟩ := h
  refine ⟨vg, h5.cell, h6, fun v' w1 hg => ?_⟩
  obtain ⟨hv1, ⟨v2, e1, e2, e3⟩, k1, -, -, ht⟩ := BoxRow.step h5 h6 (fun g hg => (h7 g hg).1) (show w.heap.size ≤ w.heap.size + 3 by omega) h1.size hg
  have hv' : v2 = v' := by
    have := (hv1.set v').symm.trans e1
    simpa using this.symm
  subst hv'
  have hA : Below W.heap.size W (W.alloc (.cells #[.int .i64 x] 3)) := (Below.refl _ _).alloc (Nat.le_refl _) _
  have hf : ∃ a c, v2 = .slice a (gs.length + 1) c := by
    rcases hg.1 with ⟨_, h0⟩ | ⟨g, off, cap, q1, -⟩
    · simp at h0
    · exact ⟨some ⟨g, off, none⟩, cap, by rw [q1]; simp⟩
  have nA : ∀ (b : Nat) (c : Array Value) (t : TypeId) (f : Nat × Nat), W.heap[b]? = some (.cells c t f) → b ≠ w.heap.size + 3 → vg.ownBlock ≠ some b → (w1.setCell ⟨w.heap.size + 3, 0, none⟩ v2).heap[b]? = some (.cells c t f) := fun b c t f hb hn1 hn2 => (ht.block b (heap_lt hb) (fun hh => by
    rcases hh with hh | hh
    · exact hn1 hh
    · exact hn2 hh)).trans hb
  have nT : ∀ (b : Nat) (c : Array Value) (t : TypeId) (f : Nat × Nat), W.heap[b]? = some (.cells c t f) → t ≠ 3 → vg.ownBlock ≠ some b := fun b c t f hb ht hh => by
    obtain ⟨cur, hc⟩ := h6.typed hh
    rw [hb] at hc; simp at hc; exact ht hc.2.1
  have r4 := nA _ _ _ _ h4 (by omega) (fun hh => (h7 _ hh).2.2 rfl)
  refine ⟨hv1.cell, hv1.frozen, hf, e1.cell, by rw [cells_of r4]; rfl, k1, ⟨v2, h1.trans (ht.below h1.size (fun b _ hb => ?_)), nA _ _ _ _ h2 (by omega) (nT _ _ _ _ h2 (by decide)), nA _ _ _ _ h3 (by omega) (fun hh => (h7 _ hh).2.1 rfl), r4, e1, e2, fun g hgg => ?_, nA _ _ _ _ h8 (by omega) (nT _ _ _ _ h8 (by decide))⟩, fun gb yb l b hp => ⟨nA _ _ _ _ hp.1 ?_ (nT _ _ _ _ hp.1 (by decide)), nA _ _ _ _ hp.2 ?_ (nT _ _ _ _ hp.2 (by decide))⟩⟩
  · rcases hb with rfl | hb
    · omega
    · exact (h7 _ hb).1
  · rcases hg.2.2.1 with g3 | ⟨g', g3, g4⟩
    · exact h7 g (by rw [← g3]; exact hgg)
    · rw [g3] at hgg; cases hgg
      have := hA.size; have := heap_lt h4
      exact ⟨by omega, by omega, by omega⟩
  · rintro rfl; have := h5.symm.trans hp.1; simp at this
  · rintro rfl; have := h5.symm.trans hp.2; simp at this
/-- What Collect leaves. -/
def CollOut (w : World) (lv : Value) (k : Int) (gs : List Int) (e : Ending) (W' : World) : Prop :=
  ∃ v, e = .returned v ∧ OffRow W' 3 v (gs.map VI) ∧ Below w.heap.size w W' ∧ W'.heap[w.heap.size]? = some (.cells #[lv] 28 (0, 0)) ∧ W'.heap[w.heap.size + 1]? = some (.cells #[.int .i64 k] 3 (0, 0))
theorem CS.out {w : World} {lv : Value} {most k : Int} {gs : List Int} {W : World} (h : CS w lv most k gs W) {D : Nat} (hD : w.heap.size ≤ D) (o' : Obj) {o : Obj} (hK : W.heap[D]? = some o) (hc : o.isCells = false) :
    ∃ v, W.cell? ⟨w.heap.size + 3, 0, none⟩ = some v ∧ CollOut w lv k gs (.returned v) (W.putObj D o') := by
  obtain ⟨vg, h1, h2, h3, h4, h5, h6, h7, h8⟩ := h
  have hr : ∀ r, some D = some r → ∃ o : Obj, W.heap[r]? = some o ∧ o.isCells = false := fun r e => by cases e; exact ⟨_, hK, hc⟩
  have hg := grownBy_putObj' W D o'
  exact ⟨vg, h5.cell, vg, rfl, h6.own hg hr, h1.grown hg h1.size (fun k e => by cases e; exact hD), kept_blk h2 hg hr, kept_blk h3 hg hr⟩
theorem take_snoc' {zs : List Int} {i : Nat} {x : Int} (h : zs[i]? = some x) : zs.take i ++ [x] = zs.take (i + 1) := by
  obtain ⟨hi, rfl⟩ := List.getElem?_eq_some_iff.1 h
  exact (List.take_succ_eq_append_getElem hi).symm
set_option maxRecDepth 100000 in
set_option maxHeartbeats 8000000 in
theorem collect_any (w V : World) (a : Option Addr) (cap most : Nat) (zs : List Int) (hr : Reads w (.slice a zs.length cap) (zs.map VI)) (hlen : zs.length ≤ 100) (hm : 0 < most) (hmost : (most : Int) ≤ 9223372036854775807)
    (hV : V = (w.alloc (.cells #[.slice a zs.length cap] 28)).alloc (.cells #[.int .i64 0] 3)) :
    Calls Try.prog 24 #[.func (.func 23) #[] #[.pointer (some ⟨w.heap.size, 0, none⟩), .pointer (some ⟨w.heap.size + 1, 0, none⟩)], .int .i64 most] V
      (CollOut w (.slice a zs.length cap) (min most zs.length : Nat) (zs.take most)) := by
  obtain ⟨i0, hi, hz0, hz1, hz2⟩ := infoI'
  have hk1 : decide ((most : Int) < 1) = false := decide_eq_false (by omega)
  obtain ⟨W0, hW0⟩ : ∃ W0, W0 = ((V.alloc (.cells #[.int .i64 most] 3)).alloc (.cells #[.slice none 0 0] 28)).alloc (.cells #[.func (.func 23) #[] #[.pointer (some ⟨w.heap.size, 0, none⟩), .pointer (some ⟨w.heap.size + 1, 0, none⟩)]] 40) := ⟨_, rfl⟩
  have sV : V.heap.size = w.heap.size + 2 := by rw [hV]; simp
  have bV : Below w.heap.size w V := by rw [hV]; exact ((Below.refl w.heap.size w).alloc (Nat.le_refl _) _).alloc (by simp) _
  have bW : Below V.heap.size V W0 := by rw [hW0]; exact (((Below.refl V.heap.size V).alloc (Nat.le_refl _) _).alloc (by simp) _).alloc (by simp; omega) _
  have v0 : V.heap[w.heap.size]? = some (.cells #[.slice a zs.length cap] 28 (0, 0)) := by rw [hV]; exact (Below.heap_alloc _ _ _ (by simp)).trans (new_at rfl)
  have v1 : V.heap[w.heap.size + 1]? = some (.cells #[.int .i64 0] 3 (0, 0)) := by rw [hV]; exact new_at (by simp)
  have hcs : CS w (.slice a zs.length cap) most 0 [] W0 := by
    refine ⟨.slice none 0 0, bV.trans (bW.mono bV.size), (bW.block _ (heap_lt v0)).trans v0, (bW.block _ (heap_lt v1)).trans v1, ?_, ?_, OffRow.nil _ _, by simp [Value.ownBlock], ?_⟩
    · rw [hW0]; exact ((Below.heap_alloc _ _ _ (by simp; omega)).trans (Below.heap_alloc _ _ _ (by simp; omega))).trans (new_at (by omega))
    · rw [hW0]; exact (Below.heap_alloc _ _ _ (by simp; omega)).trans (new_at (by simp; omega))
    · rw [hW0]; exact new_at (by simp; omega)
  have sW : W0.heap.size = w.heap.size + 5 := by rw [hW0]; simp; omega
  have hseq := until_free 2 w a cap most zs hr (by omega) hm
  have hun := callsIn_wide (n := 2).2 (until_any ((V.alloc (.cells #[.int .i64 most] 3)).alloc (.cells #[.slice none 0 0] 28)) (.func 23) #[] #[.pointer (some ⟨w.heap.size, 0, none⟩), .pointer (some ⟨w.heap.size + 1, 0, none⟩)])
  rw [← hW0] at hun
  have HUN := Lib.hid hun
  have HCS := Lib.hid hcs
  have HSQ := Lib.hid hseq
  have SV := Lib.hid sV
  have SW := Lib.hid sW
  clear hun hcs hseq sV sW hV v0 v1 bV bW hW0 hr
  refine callsIn_wide.1 (callsIn_of_wp_marks (n := 3) Try.func24 rfl trivial ?_ rfl)
  simp only [Try.ntmps24, List.size_toArray, List.length_cons, List.length_nil, Nat.reduceAdd, Nat.reduceSub, Array.replicate_succ, Array.replicate_zero, List.push_toArray, List.append_toArray, List.nil_append, List.cons_append]
  gi_wp2_with fail
  refine ⟨trivial, ?_⟩
  refine HUN.out.mono ?_
  rintro e w' ⟨rfl, hww⟩
  obtain rfl : W0 = w' := hww.symm
  gi_wp2_with fail
  rw [SV.out]
  have hN : w.heap.size ≤ W0.heap.size := by have := SW.out; omega
  have hHN := Lib.hid hN
  refine wpIn_rangeFunc_free rfl rfl (gf := 35) (lb := #[.pointer (some ⟨w.heap.size + 4, 0, none⟩)]) rfl trivial (enters_of Try.func35 (by kernel_rfl) rfl) HSQ.out (fun _ => rfl)
    (fun W1 hb => HCS.out.alloc hb)
    (fun s X Y row hs hg hr => ⟨hs.1, hs.2.1, CS.own w _ _ (fun _ : Unit => _) (fun _ => _) hN () X Y row hs.2.2.1 hg hr, hs.2.2.2.1.own hg (fun r e => (hr r e).2), hs.2.2.2.2⟩)
    (fun s X Y row hs hg hr => ⟨CS.own w _ _ (fun _ : Unit => _) (fun _ => _) hN () X Y row hs.1 hg hr, hs.2.1.own hg (fun r e => (hr r e).2), hs.2.2⟩)
    (fun s X Y row hs hg hr => ⟨CS.own w _ _ (fun _ : Unit => _) (fun _ => _) hN () X Y row hs.1 hg hr, hs.2⟩)
    (fun b s X Y row hs hg hr => ⟨hs.1, CS.own w _ _ (fun _ : Unit => _) (fun _ => _) hN () X Y row hs.2.1 hg hr, hs.2.2.1.own hg (fun r e => (hr r e).2), hs.2.2.2⟩)
    (fun s X Y row hs hg hr => ⟨hs.1, CS.own w _ _ (fun _ : Unit => _) (fun _ => _) hN () X Y row hs.2.1 hg hr, hs.2.2⟩)
    (fun x => { tmps := #[.func (.func 23) #[] #[.pointer (some ⟨w.heap.size, 0, none⟩), .pointer (some ⟨w.heap.size + 1, 0, none⟩)], .int .i64 most, undef, .pointer (some ⟨w.heap.size + 2, 0, none⟩), .slice none 0 0, .pointer (some ⟨w.heap.size + 3, 0, none⟩), .int .i64 x, .int .i64 most, .bool false, .func (.func 23) #[] #[.pointer (some ⟨w.heap.size, 0, none⟩), .pointer (some ⟨w.heap.size + 1, 0, none⟩)], .func (.func 35) #[] #[.pointer (some ⟨w.heap.size + 4, 0, none⟩)], .int .i64 x, undef, undef, undef, undef, undef, undef, undef, undef, undef], defers := [] }) ?assign ?body ?done ?stop
  case assign =>
    intro l x W K hK
    gi_wp2
    exact hK
  case body =>
    rintro l ⟨gb, yb, l2, i⟩ x W ⟨hgb, hz, hcs, hpv, him⟩
    simp only at hgb hz hcs hpv him
    have hil : i < zs.length := (List.getElem?_eq_some_iff.1 hz).1
    have htk := take_snoc' hz
    have hlt : (zs.take i).length = i := by rw [List.length_take]; omega
    obtain ⟨vg, c5, hrow, hst⟩ := hcs.step x
    rw [htk, hlt] at hst
    have c3 := hcs.cells.2.2.1
    have hpush : ((zs.take i).map VI).length = i := by rw [List.length_map, hlt]
    have HS := Lib.hid hst
    have HR := Lib.hid hrow
    have HPV := Lib.hid hpv
    have HPL := Lib.hid hpush
    have HLT := Lib.hid hlt
    clear hst hrow hpv hcs hpush hlt htk
    by_cases hlast : i + 1 = most
    · have he : ((i : Int) + 1 == (most : Int)) = true := by simp; omega
      have HL := Lib.hid hlast
      clear hlast
      gi_wp2_with (gi_at_builtin; refine wpListIn_append_off _ rfl _ _ 28 28 rfl (e := 3) (i := i0) (z := .int .i64 0) (bytes := 8) Try.underlying28 hi hz0 hz1 hz2 rfl rfl (HR.out.mono ((Below.refl _ _).alloc (Nat.le_refl _) _)) _ [VI x] rfl (one_src W x) (by rw [HPL.out]; unfold maxLen; simp; omega) (by rw [HPL.out]; simp; omega) ?_; intro v' w1 hg; obtain ⟨e1, e2, ⟨a', c', rfl⟩, e3, e4, HE⟩ := HS.out _ _ hg; clear hg)
      obtain ⟨f1, f2, f3⟩ := HE.out
      exact ⟨f1.from _, rfl, f2, f3 _ _ _ _ HPV.out, HL.out⟩
    · have he : ((i : Int) + 1 == (most : Int)) = false := by simp; omega
      have HL := Lib.hid hlast
      clear hlast
      gi_wp2_with (gi_at_builtin; refine wpListIn_append_off _ rfl _ _ 28 28 rfl (e := 3) (i := i0) (z := .int .i64 0) (bytes := 8) Try.underlying28 hi hz0 hz1 hz2 rfl rfl (HR.out.mono ((Below.refl _ _).alloc (Nat.le_refl _) _)) _ [VI x] rfl (one_src W x) (by rw [HPL.out]; unfold maxLen; simp; omega) (by rw [HPL.out]; simp; omega) ?_; intro v' w1 hg; obtain ⟨e1, e2, ⟨a', c', rfl⟩, e3, e4, HE⟩ := HS.out _ _ hg; clear hg)
      obtain ⟨f1, f2, f3⟩ := HE.out
      exact ⟨f1.from _, trivial, f2, f3 _ _ _ _ HPV.out, by have := HL.out; show i + 1 < most; omega⟩
  case done =>
    rintro D W hD ⟨hcs, hlt⟩ hK
    obtain ⟨v, hc, hout⟩ := hcs.out (show w.heap.size ≤ D by have := hHN.out; omega) (.deferred none) hK rfl
    have HO := Lib.hid hout
    have HKD := Lib.hid hK
    clear hcs hout hK
    gi_wp2
    refine ⟨by simp, .inl ⟨_, _, rfl, run_takeDeferred HKD.out, ?_⟩⟩
    have e1 : min most zs.length = zs.length := by omega
    have e2 : zs.take most = zs := List.take_of_length_le (by omega)
    rw [e1, e2]
    exact ⟨_, results_tmp (t := 4) rfl _ _ _, HO.out⟩
  case stop =>
    rintro D c W hD ⟨rfl, hcs, hle⟩ hK
    obtain ⟨v, hc, hout⟩ := hcs.out (show w.heap.size ≤ D by have := hHN.out; omega) (.deferred none) hK rfl
    have HO := Lib.hid hout
    have HKD := Lib.hid hK
    clear hcs hout hK
    gi_wp2
    refine ⟨by simp, .inl ⟨_, _, rfl, run_takeDeferred HKD.out, ?_⟩⟩
    have e1 : min most zs.length = most := by omega
    rw [e1]
    exact ⟨_, results_tmp (t := 4) rfl _ _ _, HO.out⟩
set_option maxRecDepth 100000 in
theorem collects_long (w : World) (a0 : Option Addr) (len0 cap0 : Nat) (z0 : List Int) (h0 : ArgI w a0 len0 cap0 z0) (n1 : Int) (h : 100 < len0) :
    Calls Try.prog 6 #[.slice a0 len0 cap0, .int .i64 n1] w fun e w' => e = .returned (.bool true) ∧ Below w.heap.size w w' := by
  obtain ⟨-, -, m0, -⟩ := h0.elim
  unfold maxLen at m0
  have hd1 : decide (100 < (len0 : Int)) = true := decide_eq_true (by omega)
  have hb : Below w.heap.size w (w.alloc (.cells #[.slice a0 len0 cap0] 28)) := (Below.refl _ _).alloc (Nat.le_refl _) _
  clear h0
  go_enter Try.func6, Try.ntmps6
  go_wp2_with fail
  refine (wakes_any _).mono ?_
  rintro e wd ⟨rfl, bc⟩
  go_wp2_with fail
  go_ret
  exact ⟨rfl, hb.trans (bc.mono hb.size)⟩
/-- Collect as the law calls it: the list, the count. -/
theorem collects_call (w : World) (a : Option Addr) (cap : Nat) (zs : List Int) (hr : Reads w (.slice a zs.length cap) (zs.map VI)) (hlen : zs.length ≤ 100) (n1 : Int) (r1 : InR n1) :
    Calls Try.prog 24 #[.func (.func 23) #[] #[.pointer (some ⟨w.heap.size, 0, none⟩), .pointer (some ⟨w.heap.size + 1, 0, none⟩)], .int .i64 n1] ((w.alloc (.cells #[.slice a zs.length cap] 28)).alloc (.cells #[.int .i64 0] 3))
      (CollOut w (.slice a zs.length cap) (min n1.toNat zs.length : Nat) (zs.take n1.toNat)) := by
  by_cases h : n1 < 1
  · refine (collect_zero _ _ _ _ n1 h).mono ?_
    rintro e w' ⟨rfl, hb⟩
    have e0 : n1.toNat = 0 := by omega
    have v0 : ((w.alloc (.cells #[.slice a zs.length cap] 28)).alloc (.cells #[.int .i64 0] 3)).heap[w.heap.size]? = some (.cells #[.slice a zs.length cap] 28 (0, 0)) := (Below.heap_alloc _ _ _ (by simp)).trans (new_at rfl)
    have v1 : ((w.alloc (.cells #[.slice a zs.length cap] 28)).alloc (.cells #[.int .i64 0] 3)).heap[w.heap.size + 1]? = some (.cells #[.int .i64 0] 3 (0, 0)) := new_at (by simp)
    have bV : Below w.heap.size w ((w.alloc (.cells #[.slice a zs.length cap] 28)).alloc (.cells #[.int .i64 0] 3)) := ((Below.refl w.heap.size w).alloc (Nat.le_refl _) _).alloc (by simp) _
    rw [e0]
    exact ⟨_, rfl, OffRow.nil _ _, bV.trans (hb.mono bV.size), (hb.block _ (heap_lt v0)).trans v0, by simpa using (hb.block _ (heap_lt v1)).trans v1⟩
  · obtain ⟨most, rfl⟩ : ∃ most : Nat, n1 = most := ⟨n1.toNat, by omega⟩
    have := collect_any w _ a cap most zs hr hlen (by omega) r1.2 rfl
    simpa using this
set_option maxRecDepth 100000 in
set_option maxHeartbeats 4000000 in
theorem collects_walk (w : World) (a0 : Option Addr) (len0 cap0 : Nat) (z0 : List Int) (h0 : ArgI w a0 len0 cap0 z0) (n1 : Int) (r1 : InR n1) :
    Calls Try.prog 6 #[.slice a0 len0 cap0, .int .i64 n1] w fun e w' => e = .returned (.bool true) ∧ Below w.heap.size w w' := by
  by_cases hlong : 100 < len0
  · exact collects_long w a0 len0 cap0 z0 h0 n1 hlong
  obtain ⟨rfl, r0, m0, -⟩ := h0.elim
  have hd : decide (100 < (z0.length : Int)) = false := decide_eq_false (by omega)
  have hlen : z0.length ≤ 100 := by omega
  have hcap : z0.length ≤ cap0 ∧ cap0 ≤ 9223372036854775807 := by
    obtain ⟨a', c', he, h1, h2, -⟩ := id r0
    obtain ⟨-, -, rfl⟩ := Value.slice.inj he
    unfold maxLen at h2
    exact ⟨by simpa using h1, h2⟩
  obtain ⟨hcap1, hcap2⟩ := hcap
  obtain ⟨m, hm⟩ : ∃ m : Nat, m = min n1.toNat z0.length := ⟨_, rfl⟩
  have hm3 : m ≤ z0.length := by omega
  have hcol := collects_call w a0 cap0 z0 r0 hlen n1 r1
  rw [← hm] at hcol
  have htk : z0.take n1.toNat = z0.take m := by
    by_cases h : n1.toNat ≤ z0.length
    · rw [hm, Nat.min_eq_left h]
    · rw [hm, Nat.min_eq_right (by omega), List.take_length, List.take_of_length_le (by omega)]
  rw [htk] at hcol
  have hre : ∀ W', Below w.heap.size w W' → Reads W' (.slice a0 m cap0) ((z0.take m).map VI) := fun W' hb => by
    obtain ⟨a', c', he, h1, h2, h3⟩ := r0.mono hb
    obtain ⟨rfl, -, rfl⟩ := Value.slice.inj he
    refine ⟨a0, cap0, by rw [List.length_map, List.length_take]; congr 1; omega, by rw [List.length_map, List.length_take]; omega, h2, ?_⟩
    rcases h3 with h3 | ⟨b, off, h4, h5, h6⟩
    · exact .inl h3
    · refine .inr ⟨b, off, h4, h5, fun j hj => ?_⟩
      simp only [List.length_map, List.length_take] at hj
      rw [h6 j (by simp; omega)]
      simp
  have HCOL := Lib.hid hcol
  have HRE := Lib.hid hre
  have hmi : (m : Int) ≤ (z0.length : Int) := by omega
  have hmc : (m : Int) ≤ (cap0 : Int) := by omega
  have HM := Lib.hid hm
  clear hcol hre htk r0 h0 hlong m0
  by_cases hA : n1 < 0
  · obtain rfl : m = 0 := by omega
    clear hm HM
    go_enter Try.func6, Try.ntmps6
    go_wp2_with fail
    refine HCOL.out.mono ?_
    unfold CollOut
    rintro e wa ⟨v, rfl, ho, hb, h0, h1⟩
    have c0 : wa.cell? ⟨w.heap.size, 0, none⟩ = some (.slice a0 z0.length cap0) := by rw [cells_of h0]; rfl
    have c1 : wa.cell? ⟨w.heap.size + 1, 0, none⟩ = some (.int .i64 0) := by rw [cells_of h1]; simp
    have hrd := Lib.hid ho.reads
    have hb := Lib.hid hb
    have h1 := Lib.hid h1
    obtain ⟨va, vc, hv, -⟩ := id hrd.out
    rw [show ((z0.take 0).map VI).length = 0 by rw [List.length_map, List.length_take]; omega] at hv
    subst hv
    rename_i hb0 h10
    clear ho h0 hb0 h10
    go_wp2_with fail
    refine (ints_any wa _ _ (z0.take 0) (z0.take 0) hrd.out (HRE.out _ hb.out) true (by simp)).mono ?_
    rintro e wb ⟨rfl, hbb⟩
    have hb2 := Lib.hid (hb.out.trans (hbb.mono hb.out.size))
    have c1' : wb.cell? ⟨w.heap.size + 1, 0, none⟩ = some (.int .i64 0) := by rw [cells_of ((hbb.block _ (heap_lt h1.out)).trans h1.out)]; simp
    clear c0 c1 hbb h1
    go_wp2_with fail
    refine (wakes_any wb).mono ?_
    rintro e wc ⟨rfl, hbc⟩
    go_wp2_with fail
    go_ret
    exact ⟨rfl, hb2.out.trans (hbc.mono hb2.out.size)⟩
  by_cases hB : n1 = 0
  · subst hB
    obtain rfl : m = 0 := by omega
    clear hm HM
    go_enter Try.func6, Try.ntmps6
    go_wp2_with fail
    refine HCOL.out.mono ?_
    unfold CollOut
    rintro e wa ⟨v, rfl, ho, hb, h0, h1⟩
    have c0 : wa.cell? ⟨w.heap.size, 0, none⟩ = some (.slice a0 z0.length cap0) := by rw [cells_of h0]; rfl
    have c1 : wa.cell? ⟨w.heap.size + 1, 0, none⟩ = some (.int .i64 0) := by rw [cells_of h1]; simp
    have hrd := Lib.hid ho.reads
    have hb := Lib.hid hb
    have h1 := Lib.hid h1
    obtain ⟨va, vc, hv, -⟩ := id hrd.out
    rw [show ((z0.take 0).map VI).length = 0 by rw [List.length_map, List.length_take]; omega] at hv
    subst hv
    rename_i hb0 h10
    clear ho h0 hb0 h10
    go_wp2_with fail
    refine (ints_any wa _ _ (z0.take 0) (z0.take 0) hrd.out (HRE.out _ hb.out) true (by simp)).mono ?_
    rintro e wb ⟨rfl, hbb⟩
    have hb2 := Lib.hid (hb.out.trans (hbb.mono hb.out.size))
    have c1' : wb.cell? ⟨w.heap.size + 1, 0, none⟩ = some (.int .i64 0) := by rw [cells_of ((hbb.block _ (heap_lt h1.out)).trans h1.out)]; simp
    clear c0 c1 hbb h1
    go_wp2_with fail
    refine (wakes_any wb).mono ?_
    rintro e wc ⟨rfl, hbc⟩
    go_wp2_with fail
    go_ret
    exact ⟨rfl, hb2.out.trans (hbc.mono hb2.out.size)⟩
  by_cases hC : n1 ≤ z0.length
  · obtain rfl : n1 = m := by omega
    clear hm HM
    go_enter Try.func6, Try.ntmps6
    go_wp2_with fail
    refine HCOL.out.mono ?_
    unfold CollOut
    rintro e wa ⟨v, rfl, ho, hb, h0, h1⟩
    have c0 : wa.cell? ⟨w.heap.size, 0, none⟩ = some (.slice a0 z0.length cap0) := by rw [cells_of h0]; rfl
    have c1 : wa.cell? ⟨w.heap.size + 1, 0, none⟩ = some (.int .i64 m) := by rw [cells_of h1]; simp
    have hrd := Lib.hid ho.reads
    have hb := Lib.hid hb
    have h1 := Lib.hid h1
    obtain ⟨va, vc, hv, -⟩ := id hrd.out
    rw [show ((z0.take m).map VI).length = m by rw [List.length_map, List.length_take]; omega] at hv
    subst hv
    rename_i hb0 h10
    clear ho h0 hb0 h10
    go_wp2_with fail
    refine (ints_any wa _ _ (z0.take m) (z0.take m) hrd.out (HRE.out _ hb.out) true (by simp)).mono ?_
    rintro e wb ⟨rfl, hbb⟩
    have hb2 := Lib.hid (hb.out.trans (hbb.mono hb.out.size))
    have c1' : wb.cell? ⟨w.heap.size + 1, 0, none⟩ = some (.int .i64 m) := by rw [cells_of ((hbb.block _ (heap_lt h1.out)).trans h1.out)]; simp
    clear c0 c1 hbb h1
    go_wp2_with fail
    refine (wakes_any wb).mono ?_
    rintro e wc ⟨rfl, hbc⟩
    go_wp2_with fail
    go_ret
    exact ⟨rfl, hb2.out.trans (hbc.mono hb2.out.size)⟩
  · obtain rfl : m = z0.length := by omega
    clear hm HM
    go_enter Try.func6, Try.ntmps6
    go_wp2_with fail
    refine HCOL.out.mono ?_
    unfold CollOut
    rintro e wa ⟨v, rfl, ho, hb, h0, h1⟩
    have c0 : wa.cell? ⟨w.heap.size, 0, none⟩ = some (.slice a0 z0.length cap0) := by rw [cells_of h0]; rfl
    have c1 : wa.cell? ⟨w.heap.size + 1, 0, none⟩ = some (.int .i64 z0.length) := by rw [cells_of h1]; simp
    have hrd := Lib.hid ho.reads
    have hb := Lib.hid hb
    have h1 := Lib.hid h1
    obtain ⟨va, vc, hv, -⟩ := id hrd.out
    rw [show ((z0.take z0.length).map VI).length = z0.length by rw [List.length_map, List.length_take]; omega] at hv
    subst hv
    rename_i hb0 h10
    clear ho h0 hb0 h10
    go_wp2_with fail
    refine (ints_any wa _ _ (z0.take z0.length) (z0.take z0.length) hrd.out (HRE.out _ hb.out) true (by simp)).mono ?_
    rintro e wb ⟨rfl, hbb⟩
    have hb2 := Lib.hid (hb.out.trans (hbb.mono hb.out.size))
    have c1' : wb.cell? ⟨w.heap.size + 1, 0, none⟩ = some (.int .i64 z0.length) := by rw [cells_of ((hbb.block _ (heap_lt h1.out)).trans h1.out)]; simp
    clear c0 c1 hbb h1
    go_wp2_with fail
    refine (wakes_any wb).mono ?_
    rintro e wc ⟨rfl, hbc⟩
    go_wp2_with fail
    go_ret
    exact ⟨rfl, hb2.out.trans (hbc.mono hb2.out.size)⟩
end Go.Proofs.Ythieabhemiikhaa
