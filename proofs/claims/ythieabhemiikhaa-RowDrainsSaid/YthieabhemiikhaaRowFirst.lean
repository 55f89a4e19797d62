/-
  ponderkeep.First at int, of any sequence whose contract is known. No condition but bounds on lengths.
-/
import Derived.Test.YthieabhemiikhaaRowList
namespace Go.Proofs.Ythieabhemiikhaa
set_option linter.unusedVariables false
open Go.RowKit Go.Shelf
attribute [local go_sem] Oper.semAt_some
theorem OBox.far' {W0 : World} {B : Nat} (hB : Boxed W0 B 28 (.slice none 0 0)) : ∀ W1 k, Below W0.heap.size W0 W1 → OBox B W1 k → k < W0.heap.size := by
  rintro W1 k hb (rfl | ⟨v, h1, h2⟩)
  · exact hB.lt
  · rw [hb.cell (p := ⟨B, 0, none⟩) hB.lt, hB.cell] at h1
    cases h1; simp [Value.ownBlock] at h2
theorem int_own (B : Nat) (k : Int) : Own (fun (_ : List Int) W => W.heap[B]? = some (.cells #[.int .i64 k] 3 (0, 0))) := fun _ _ _ _ hs hg hrow => kept_blk hs hg hrow
theorem first_zero (fn : Fn) (a lb : Array Value) (n : Int) (hn : n < 1) (w : World) :
    Calls Try.prog 20 #[.func fn a lb, .int .i64 n] w (ListOut w []) := by
  have hef := eql_func_nilI fn a lb
  have hd : decide (n < 1) = true := decide_eq_true hn
  go_enter Try.func20, Try.ntmps20
  go_wp2
  go_ret
  exact ⟨_, rfl, OffRow.nil _ _, ((Below.refl w.heap.size w).alloc (Nat.le_refl _) _).alloc (by simp) _, by simp [Value.ownBlock]⟩
set_option maxRecDepth 100000 in
set_option maxHeartbeats 4000000 in
theorem first_in (gf : Nat) (lb : Array Value) (eg : ∀ args w, (callFunc gf args).run Try.prog w = .ok (.enter gf args) w) (k : Nat) (hk : 1 ≤ k) (hk2 : k ≤ 1000000)
    (xs : List Int) (hlen : xs.length ≤ 1000000) (w : World)
    (hseq : SeqStopsK Fence.wide 2 Try.prog gf lb (fun x : Int => #[.int .i64 x]) (KO (OBox (w.heap.size + 1))) (fun ys => ys = xs) (fun pre => pre <+: xs) xs.length ((w.alloc (.cells #[.int .i64 k] 3)).alloc (.cells #[.slice none 0 0] 28))) :
    CallsIn Fence.wide 3 Try.prog 20 #[.func (.func gf) #[] lb, .int .i64 k] w (ListOut w (xs.take k)) := by
  obtain ⟨i0, hi, hz0, hz1, hz2⟩ := infoI'
  have hk1 : decide ((k : Int) < 1) = false := decide_eq_false (by omega)
  refine callsIn_of_wp_marks Try.func20 rfl trivial ?_ rfl
  simp only [Try.ntmps20, List.size_toArray, List.length_cons, List.length_nil, Nat.reduceAdd, Nat.reduceSub, Array.replicate_succ, Array.replicate_zero, List.push_toArray, List.append_toArray, List.nil_append, List.cons_append]
  have hef := eql_func_nilI (.func gf) #[] lb
  gi_wp2
  obtain ⟨W0, hW0⟩ : ∃ W0, W0 = (w.alloc (.cells #[.int .i64 k] 3)).alloc (.cells #[.slice none 0 0] 28) := ⟨_, rfl⟩
  have hB0 : Below w.heap.size w W0 := by rw [hW0]; exact ((Below.refl w.heap.size w).alloc (Nat.le_refl _) _).alloc (by simp) _
  have bO : Boxed W0 (w.heap.size + 1) 28 (.slice none 0 0) := by rw [hW0]; exact new_at (by simp)
  have bN : W0.heap[w.heap.size]? = some (.cells #[.int .i64 k] 3 (0, 0)) := by rw [hW0]; exact (Below.heap_alloc _ _ _ (by simp)).trans (new_at rfl)
  have z0 : W0.heap.size = w.heap.size + 2 := by rw [hW0]; simp
  have Z0 := Lib.hid z0
  rw [← hW0] at hseq ⊢
  clear hW0 z0
  refine wpIn_rangeFunc_ownG rfl (by omega) (gf := gf) (lb := lb) rfl trivial eg
    hseq (fun h k => KO.trans h k) (fun W l o o' hl h hc _ => OBox.kb (by have := Z0.out; omega) h hc) (Below.refl _ _) (fun _ => rfl)
    (fun pre W => BoxRow (w.heap.size + 1) (w.heap.size + 1) W pre ∧ (Below w.heap.size w W ∧ (W.heap[w.heap.size]? = some (.cells #[.int .i64 k] 3 (0, 0)) ∧ pre.length < k)))
    (fun c pre W => BoxRow (w.heap.size + 1) (w.heap.size + 1) W pre ∧ (Below w.heap.size w W ∧ (c = .exit 0 ∧ pre.length = k)))
    (OwnFrom.and (Own.from (BoxRow.own _ _) _) (OwnFrom.and (ownFrom_below (Nat.le_refl _) (by rw [Z0.out]; omega)) (fun s X Y row hs hg hr => ⟨kept_blk hs.1 hg (fun r e => (hr r e).2), hs.2⟩)))
    (fun c => OwnFrom.and (Own.from (BoxRow.own _ _) _) (OwnFrom.and (ownFrom_below (Nat.le_refl _) (by rw [Z0.out]; omega)) (fun _ _ _ _ h _ _ => h)))
    ⟨⟨_, bO, OffRow.nil _ _, by simp [Value.ownBlock]⟩, hB0, bN, hk⟩
    (fun x => { tmps := #[.func (.func gf) #[] lb, .int .i64 k, undef, .pointer (some ⟨w.heap.size, 0, none⟩), .slice none 0 0, .pointer (some ⟨w.heap.size + 1, 0, none⟩), .int .i64 x, .func (.func gf) #[] lb, .bool false, .bool false, .int .i64 k, .bool false, .bool false, .func (.func gf) #[] lb, .int .i64 x, undef, undef, undef, undef, undef, undef, undef, undef, undef], defers := [] }) ?assign ?body ?done ?stop
  case assign =>
    intro l x W K hK
    gi_wp2
    exact hK
  case body =>
    rintro l pre x W ⟨⟨v, hv, hrow, hbs⟩, hB, hn, hkl⟩ hlt
    have hc := hv.cell
    have hnc : W.cell? ⟨w.heap.size, 0, none⟩ = some (.int .i64 k) := by rw [cells_of hn]; rfl
    have hz : w.heap.size + 1 ≤ W.heap.size := Nat.le_of_lt hv.lt
    have hstep : ∀ v' w1, Grew (W.alloc (.cells #[.int .i64 x] 3)) 3 v (pre.map VI ++ [VI x]) v' w1 → (∃ a c, v' = .slice a (pre.length + 1) c) ∧ w1.cell? ⟨w.heap.size + 1, 0, none⟩ = some v ∧ w1.frozen? ⟨w.heap.size + 1, 0, none⟩ = false ∧ (w1.setCell ⟨w.heap.size + 1, 0, none⟩ v').cell? ⟨w.heap.size + 1, 0, none⟩ = some v' ∧ (w1.setCell ⟨w.heap.size + 1, 0, none⟩ v').cell? ⟨w.heap.size, 0, none⟩ = some (.int .i64 k) ∧
        Hid (KeepsFrom W0.heap.size W (w1.setCell ⟨w.heap.size + 1, 0, none⟩ v') ∧ KO (OBox (w.heap.size + 1)) W (w1.setCell ⟨w.heap.size + 1, 0, none⟩ v') ∧ BoxRow (w.heap.size + 1) (w.heap.size + 1) (w1.setCell ⟨w.heap.size + 1, 0, none⟩ v') (pre ++ [x]) ∧ Below w.heap.size w (w1.setCell ⟨w.heap.size + 1, 0, none⟩ v') ∧ (w1.setCell ⟨w.heap.size + 1, 0, none⟩ v').heap[w.heap.size]? = some (.cells #[.int .i64 k] 3 (0, 0))) := by
      intro v' w1 hg
      obtain ⟨hv1, h2, h3, h4, h5, h6⟩ := BoxRow.step hv hrow hbs (Nat.le_refl _) hz hg
      have hnk := (h6.block _ (heap_lt hn) (fun hA => by
        rcases hA with hA | hA
        · omega
        · have := hbs _ hA; omega)).trans hn
      have hf : ∃ a c, v' = .slice a (pre.length + 1) c := by
        rcases hg.1 with ⟨_, h0⟩ | ⟨g, off, cap, h1, -⟩
        · simp at h0
        · exact ⟨some ⟨g, off, none⟩, cap, by rw [h1]; simp⟩
      exact ⟨hf, hv1.cell, hv1.frozen, (hv1.set v').cell, by rw [cells_of hnk]; rfl, h3.from _, h4, h2, hB.trans (h5.mono (by omega)), hnk⟩
    have HS := Lib.hid hstep
    have HR := Lib.hid hrow
    clear hstep hn hrow hbs hB hv
    by_cases hlast : pre.length + 1 = k
    · have hge : (k : Int) ≤ ((pre.length : Int) + 1) := by omega
      have Hlast := Lib.hid hlast
      clear hlast
      gi_wp2_with (gi_at_builtin; refine wpListIn_append_off _ rfl _ _ 28 28 rfl (e := 3) (i := i0) (z := .int .i64 0) (bytes := 8) Try.underlying28 hi hz0 hz1 hz2 rfl rfl (HR.out.mono ((Below.refl _ _).alloc (Nat.le_refl _) _)) _ [VI x] rfl (one_src W x) (by unfold maxLen; simp; omega) (by simp; omega) ?_; intro v' w1 hg; obtain ⟨⟨a', c', rfl⟩, e1, e2, e3, e4, HE⟩ := HS.out _ _ hg; clear hg)
      obtain ⟨f1, f2, f3, f4, f5⟩ := HE.out
      exact ⟨f1, f3, f4, rfl, by simpa using Hlast.out⟩
    · have hge : ¬ (k : Int) ≤ ((pre.length : Int) + 1) := by omega
      gi_wp2_with (gi_at_builtin; refine wpListIn_append_off _ rfl _ _ 28 28 rfl (e := 3) (i := i0) (z := .int .i64 0) (bytes := 8) Try.underlying28 hi hz0 hz1 hz2 rfl rfl (HR.out.mono ((Below.refl _ _).alloc (Nat.le_refl _) _)) _ [VI x] rfl (one_src W x) (by unfold maxLen; simp; omega) (by simp; omega) ?_; intro v' w1 hg; obtain ⟨⟨a', c', rfl⟩, e1, e2, e3, e4, HE⟩ := HS.out _ _ hg; clear hg)
      obtain ⟨f1, f2, f3, f4, f5⟩ := HE.out
      exact ⟨f1, f2, f3, f4, f5, by simp; omega⟩
  case done =>
    rintro D ys W hD rfl ⟨⟨v, hv, hrow, hbs⟩, hB, hn, hkl⟩ hK
    have hc := hv.cell
    gi_wp2
    refine ⟨by simp, .inl ⟨_, _, rfl, run_takeDeferred hK, ?_⟩⟩
    rw [List.take_of_length_le (by omega)]
    exact ⟨_, results_tmp rfl _ _ _, v, rfl, hrow.own (grownBy_putObj' W D _) (fun r e => by cases e; exact ⟨_, hK, rfl⟩), hB.trans (belowK_b (w := w) (Nat.le_refl _) W D _ _ (by have := Z0.out; omega) hK rfl rfl), fun g hg => by have := hbs g hg; omega⟩
  case stop =>
    rintro D c pre W hD hp ⟨⟨v, hv, hrow, hbs⟩, hB, rfl, hkl⟩ hK
    have hc := hv.cell
    have hpe : xs.take k = pre := by rw [← hkl]; exact (List.prefix_iff_eq_take.1 hp).symm
    gi_wp2
    refine ⟨by simp, .inl ⟨_, _, rfl, run_takeDeferred hK, ?_⟩⟩
    rw [hpe]
    exact ⟨_, results_tmp rfl _ _ _, v, rfl, hrow.own (grownBy_putObj' W D _) (fun r e => by cases e; exact ⟨_, hK, rfl⟩), hB.trans (belowK_b (w := w) (Nat.le_refl _) W D _ _ (by have := Z0.out; omega) hK rfl rfl), fun g hg => by have := hbs g hg; omega⟩
/-- First of a queue's All. -/
theorem first_all (w : World) (Bt q : Nat) (v : Value) (room : Nat) (zs : List Int) (hn : zs.length ≤ 1000000) (hBt : w.heap[Bt]? = some (.cells #[.pointer (some ⟨q, 0, none⟩)] 23 (0, 0))) (hQ : QI w q v room (zs.map VI)) (k : Nat) (hk : k ≤ 1000000) :
    Calls Try.prog 20 #[.func (.func 30) #[] #[.pointer (some ⟨Bt, 0, none⟩)], .int .i64 k] w (ListOut w (zs.take k)) := by
  by_cases h0 : k = 0
  · subst h0
    exact first_zero _ _ _ 0 (by omega) w
  · have hb : Below w.heap.size w ((w.alloc (.cells #[.int .i64 k] 3)).alloc (.cells #[.slice none 0 0] 28)) := ((Below.refl w.heap.size w).alloc (Nat.le_refl _) _).alloc (by simp) _
    exact callsIn_wide.1 (first_in 30 _ (enters_of Try.func30 (by kernel_rfl) rfl) k (by omega) hk zs hn w
      (all_stops (OBox (w.heap.size + 1)) 2 Bt q v room zs hn _ ((hb.block _ (heap_lt hBt)).trans hBt) (hQ.mono hb) (OBox.far' (new_at (by simp)))))
end Go.Proofs.Ythieabhemiikhaa
