/-
  OrderMeanwhile: the statement.
-/
import Derived.Test.YtggijlblipmfaaaRows
import Derived.WalkKit
import Derived.ProofKit
import Derived.OpenShut
import Derived.ShutString
import Derived.ChangeOld
import Derived.Below
import Derived.Test.YtggijlblipmfaaaMeanWalk
namespace Go.Proofs.Ytggijlblipmfaaa.orderMeanwhile
open Go.ChangeShapes Go.WideShapes Go.ChangeAt Go.RowKit
set_option linter.unusedVariables false

theorem own : ownKnob Try.prog.godebug = none := by kernel_rfl
theorem laidOut : laidOutB Try.prog = true := by kernel_rfl
set_option maxRecDepth 100000 in
set_option maxHeartbeats 4000000 in
theorem mean_long (w : World) (p1 p2 : Option Addr) (n1 n2 c1 c2 : Nat) (m1 : n1 ≤ maxLen) (m2 : n2 ≤ maxLen) (h : 40 < n1 ∨ 40 < n2) :
    Calls Try.prog 6 #[.slice p1 n1 c1, .slice p2 n2 c2] w fun e w' => e = .returned (.bool true) ∧ Below w.heap.size w w' := by
  unfold maxLen at m1 m2
  obtain ⟨W2, hW2⟩ : ∃ W2, W2 = (w.alloc (.cells #[.slice p2 n2 c2] 28)).alloc (.cells #[.bool false] 4) := ⟨_, rfl⟩
  have bb : Below w.heap.size w W2 := by rw [hW2]; go_grown
  have b4 : Hid (W2.heap[w.heap.size + 1]? = some (.cells #[.bool false] 4 (0, 0))) := Lib.hid (by rw [hW2]; exact new_at (by simp))
  have HW2 := Lib.hid hW2
  clear hW2
  by_cases h1 : 40 < n1
  · have hd1 : decide (40 < (n1 : Int)) = true := by simp; omega
    refine callsIn_wide.1 (callsIn_of_wp_marks (n := 3) Try.func6 rfl trivial (wpIn_wide.2 ?_) rfl)
    simp only [Try.ntmps6, List.size_toArray, List.length_cons, List.length_nil, Nat.reduceAdd, Nat.reduceSub, Array.replicate_succ, Array.replicate_zero, List.push_toArray, List.append_toArray, List.nil_append, List.cons_append]
    go_wp2_with fail
    rw [← HW2.out]
    refine (wakes_any W2).mono ?_
    rintro e wd ⟨rfl, bc⟩
    have hb4 := (bc.block _ (heap_lt b4.out)).trans b4.out
    have ba := bb.trans (bc.mono bb.size)
    have c4 : wd.cell? ⟨w.heap.size + 1, 0, none⟩ = some (.bool false) := by rw [cells_of hb4]; rfl
    have f4 : wd.frozen? ⟨w.heap.size + 1, 0, none⟩ = false := frozen_of hb4
    have Hb4 := Lib.hid hb4
    clear hb4 bc
    go_wp2_with fail
    refine ⟨_, results_boolcell rfl _ _ (w.heap.size + 1) true rfl (by rw [cells_of (set_heap Hb4.out)]; rfl), rfl, ba.trans (belowg (gset _ _ _ _) ba.size (by omega))⟩
  · have hd1 : decide (40 < (n1 : Int)) = false := by simp; omega
    have hd2 : decide (40 < (n2 : Int)) = true := by simp; omega
    refine callsIn_wide.1 (callsIn_of_wp_marks (n := 3) Try.func6 rfl trivial (wpIn_wide.2 ?_) rfl)
    simp only [Try.ntmps6, List.size_toArray, List.length_cons, List.length_nil, Nat.reduceAdd, Nat.reduceSub, Array.replicate_succ, Array.replicate_zero, List.push_toArray, List.append_toArray, List.nil_append, List.cons_append]
    go_wp2_with fail
    rw [← HW2.out]
    refine (wakes_any W2).mono ?_
    rintro e wd ⟨rfl, bc⟩
    have hb4 := (bc.block _ (heap_lt b4.out)).trans b4.out
    have ba := bb.trans (bc.mono bb.size)
    have c4 : wd.cell? ⟨w.heap.size + 1, 0, none⟩ = some (.bool false) := by rw [cells_of hb4]; rfl
    have f4 : wd.frozen? ⟨w.heap.size + 1, 0, none⟩ = false := frozen_of hb4
    have Hb4 := Lib.hid hb4
    clear hb4 bc
    go_wp2_with fail
    refine ⟨_, results_boolcell rfl _ _ (w.heap.size + 1) true rfl (by rw [cells_of (set_heap Hb4.out)]; rfl), rfl, ba.trans (belowg (gset _ _ _ _) ba.size (by omega))⟩
theorem walk (w : World) (p1 p2 : Option Addr) (n1 n2 c1 c2 : Nat) (m1 : n1 ≤ maxLen) (m2 : n2 ≤ maxLen)
    (h1 : ∃ xs : List Sy, xs.length = n1 ∧ ArgAt w (.slice p1 n1 c1) xs) (h2 : ∃ xs : List Sy, xs.length = n2 ∧ ArgAt w (.slice p2 n2 c2) xs) :
    Calls Try.prog 6 #[.slice p1 n1 c1, .slice p2 n2 c2] w fun e w' => e = .returned (.bool true) ∧ Below w.heap.size w w' := by
  by_cases h : 40 < n1 ∨ 40 < n2
  · exact mean_long w p1 p2 n1 n2 c1 c2 m1 m2 h
  · obtain ⟨A, rfl, hA⟩ := h1
    obtain ⟨B, rfl, hB⟩ := h2
    exact mean_walk w p1 p2 c1 c2 A B hA hB (by omega) (by omega)

set_option maxRecDepth 100000 in
theorem lifted (os : Os) (started : os.Started) (H : Type) (enc : TypeId × Value → H) :
    ReturnsInHanded {} Try.checked os 6 .any (Rows.orderMeanwhileSpec.pre6 enc Try.prog Try.f6 Rows.orderMeanwhileRow.domain false) (Rows.orderMeanwhileSpec.post enc Try.prog Try.f6 false true false false) := by
  refine returnsInHanded_of_change (C := Try.checked) own started (by kernel_rfl) Try.func6
    (ChangeSpec.witness6 (enc := enc) (C := Try.checked) false ⟨#[], #[.slice none 0 0, .slice none 0 0], []⟩ 8 (by kernel_rfl) (by kernel_rfl) (by kernel_rfl) (by kernel_rfl)) ?_
  intro W base args ds gs before hval0 hW hcnd _
  have hval : ∀ (j : Nat) t v, Try.f6.params[j]? = some t → args[j]? = some v → Value.okWide Try.prog W .any base t v := hval0
  have hW' := hW
  obtain ⟨p, q, hA0, hV, rfl, hfz, hnd⟩ := hW
  have hA : DataW.TrodAll enc Try.prog W 0 (fun _ => true) true Try.f6.params.toList args.toList ds p := hA0
  rw [Try.params6] at hA hval
  obtain ⟨v0, vs0, d0, ds0, p0, q0, hargs, rfl, rfl, h0, r0⟩ := trodAll_cons hA
  obtain ⟨v1, vs1, d1, ds1, p1, q1, rfl, rfl, rfl, h1, r1⟩ := trodAll_cons r0
  obtain ⟨rfl, rfl, rfl⟩ := trodAll_nil r1
  obtain rfl : args = #[v0, v1] := by cases args; simp_all
  obtain ⟨rfl, rfl⟩ := trodVars_none hV
  obtain ⟨a0, len0, cap0, rfl⟩ := okWide_slice Try.underlying28 (hval 0 28 v0 rfl rfl)
  obtain ⟨a1, len1, cap1, rfl⟩ := okWide_slice Try.underlying28 (hval 1 28 v1 rfl rfl)
  have lt0 : ∀ x ∈ p0, x.block < W.heap.size := by obtain ⟨m, hm⟩ := h0; exact DataW.trod_lt m _ _ _ hm
  have lt1 : ∀ x ∈ p1, x.block < W.heap.size := by obtain ⟨m, hm⟩ := h1; exact DataW.trod_lt m _ _ _ hm
  obtain ⟨m0, w0⟩ := arg_syms h0
  obtain ⟨m1, w1⟩ := arg_syms h1
  clear hA0 hval0
  refine (walk W a0 a1 len0 len1 cap0 cap1 m0 m1 w0 w1).mono fun e W' ⟨he, bel⟩ => ?_
  subst he
  exact ⟨_, rfl, _, _, _, [], _, [], hW', trodAll_mk1 (shut_bool Try.underlying4 _),
    (trodAll_cons_mk (Below.trod laidOut (by kernel_rfl) (of_decide_eq_true (by kernel_rfl)) h0 bel lt0)
      (trodAll_cons_mk (Below.trod laidOut (by kernel_rfl) (of_decide_eq_true (by kernel_rfl)) h1 bel lt1) trodAll_mk0)), rfl, bel.frame _, fun h => by cases h⟩

theorem over : Rows.orderMeanwhileRow.holds Try.pinned (OpenSpec.ofChange Rows.orderMeanwhileSpec) :=
  OpenClaim.holds_of_wide 6 Try.f6 rfl rfl rfl rfl rfl rfl rfl ⟨rfl, rfl, rfl, rfl, rfl⟩ rfl rfl rfl rfl rfl (by kernel_rfl) Try.func6 (by kernel_rfl)
    (of_decide_eq_true (by kernel_rfl)) (by unfold Func.isWrapper; first | (rw [if_pos (by decide +kernel)]; kernel_rfl) | (rw [if_neg (by decide +kernel)]; exact ⟨rfl, rfl⟩))
    (fun os started H enc _ => lifted os started H enc)

theorem proved : Rows.OrderMeanwhileSaid := over
#print axioms proved
end Go.Proofs.Ytggijlblipmfaaa.orderMeanwhile
