/-
  ShapeInside: the statement: whatever the arguments, the law answers true and the arguments read as they read. No condition.
-/
import Derived.Test.YtccphigpobnjmaaShInU0
import Derived.Test.YtccphigpobnjmaaShInU1
import Derived.Test.YtccphigpobnjmaaShInU2
import Derived.Test.YtccphigpobnjmaaShInU3
import Derived.Test.YtccphigpobnjmaaShInU4
import Derived.Test.YtccphigpobnjmaaShInU5
import Derived.Test.YtccphigpobnjmaaRows
import Derived.WalkKit
import Derived.ProofKit
import Derived.OpenShut
import Derived.ShutString
import Derived.ChangeOld
import Derived.Below
import Derived.Test.YtccphigpobnjmaaShIn
namespace Go.Proofs.Ytccphigpobnjmaa
open Go.RowKit
theorem inside_walk (w : World) (kd : Int) (hk : -9223372036854775808 ≤ kd ∧ kd ≤ 9223372036854775807) (us : Int) (hu : -9223372036854775808 ≤ us ∧ us ≤ 9223372036854775807) :
    Calls Try.prog 10 #[.int .i64 kd, .int .i64 us] w fun e w' => e = .returned (.bool true) ∧ Below w.heap.size w w' := by
  obtain h | h | h : kd % 3 = 0 ∨ kd % 3 = 1 ∨ kd % 3 = 2 := by omega
  · obtain h2 | h2 | h2 | h2 : us % 4 = 0 ∨ us % 4 = 1 ∨ us % 4 = 2 ∨ us % 4 = 3 := by omega
    · exact inside_0_0 w kd us hk.1 hk.2 hu.1 hu.2 h h2
    · exact inside_0_1 w kd us hk.1 hk.2 hu.1 hu.2 h h2
    · exact inside_0_2 w kd us hk.1 hk.2 hu.1 hu.2 h h2
    · exact inside_0_3 w kd us hk.1 hk.2 hu.1 hu.2 h h2
  · obtain h2 | h2 | h2 | h2 : us % 4 = 0 ∨ us % 4 = 1 ∨ us % 4 = 2 ∨ us % 4 = 3 := by omega
    · exact inside_1_0 w kd us hk.1 hk.2 hu.1 hu.2 h h2
    · exact inside_1_1 w kd us hk.1 hk.2 hu.1 hu.2 h h2
    · exact inside_1_2 w kd us hk.1 hk.2 hu.1 hu.2 h h2
    · exact inside_1_3 w kd us hk.1 hk.2 hu.1 hu.2 h h2
  · obtain h2 | h2 | h2 | h2 : us % 4 = 0 ∨ us % 4 = 1 ∨ us % 4 = 2 ∨ us % 4 = 3 := by omega
    · exact inside_2_0 w kd us hk.1 hk.2 hu.1 hu.2 h h2
    · exact inside_2_1 w kd us hk.1 hk.2 hu.1 hu.2 h h2
    · exact inside_2_2 w kd us hk.1 hk.2 hu.1 hu.2 h h2
    · exact inside_2_3 w kd us hk.1 hk.2 hu.1 hu.2 h h2
end Go.Proofs.Ytccphigpobnjmaa
namespace Go.Proofs.Ytccphigpobnjmaa.shapeInside
open Go.ChangeShapes Go.WideShapes Go.ChangeAt Go.RowKit
set_option linter.unusedVariables false
theorem own : ownKnob Try.prog.godebug = none := by kernel_rfl
theorem laidOut : laidOutB Try.prog = true := by kernel_rfl
set_option maxRecDepth 100000 in
theorem lifted (os : Os) (started : os.Started) (H : Type) (enc : TypeId × Value → H) :
    ReturnsInHanded {} Try.checked os 10 .any (Rows.shapeInsideSpec.pre6 enc Try.prog Try.f10 Rows.shapeInsideRow.domain false) (Rows.shapeInsideSpec.post enc Try.prog Try.f10 false true false false) := by
  refine returnsInHanded_of_change (C := Try.checked) own started (by kernel_rfl) Try.func10
    (ChangeSpec.witness6 (enc := enc) (C := Try.checked) false ⟨#[], #[.int .i64 0, .int .i64 0], []⟩ 8 (by kernel_rfl) (by kernel_rfl) (by kernel_rfl) (by kernel_rfl)) ?_
  intro W base args ds gs before hval0 hW hcnd _
  have hval : ∀ (j : Nat) t v, Try.f10.params[j]? = some t → args[j]? = some v → Value.okWide Try.prog W .any base t v := hval0
  have hW' := hW
  obtain ⟨p, q, hA0, hV, rfl, hfz, hnd⟩ := hW
  have hA : DataW.TrodAll enc Try.prog W 0 (fun _ => true) true Try.f10.params.toList args.toList ds p := hA0
  rw [Try.params10] at hA hval
  obtain ⟨v0, vs0, d0, ds0, p0, q0, hargs, rfl, rfl, h0, r0⟩ := trodAll_cons hA
  obtain ⟨v1, vs1, d1, ds1, p1, q1, rfl, rfl, rfl, h1, r1⟩ := trodAll_cons r0
  obtain ⟨rfl, rfl, rfl⟩ := trodAll_nil r1
  obtain rfl : args = #[v0, v1] := by cases args; simp_all
  obtain ⟨rfl, rfl⟩ := trodVars_none hV
  have lt0 : ∀ x ∈ p0, x.block < W.heap.size := by obtain ⟨m, hm⟩ := h0; exact DataW.trod_lt m _ _ _ hm
  obtain ⟨n0, hv0, -, -, w0⟩ := open_int Try.underlying3 (hval 0 3 v0 rfl rfl) h0
  subst hv0
  have w0 := bounds_i64 w0
  have lt1 : ∀ x ∈ p1, x.block < W.heap.size := by obtain ⟨m, hm⟩ := h1; exact DataW.trod_lt m _ _ _ hm
  obtain ⟨n1, hv1, -, -, w1⟩ := open_int Try.underlying3 (hval 1 3 v1 rfl rfl) h1
  subst hv1
  have w1 := bounds_i64 w1
  clear hA0 hval0
  refine (inside_walk W n0 w0 n1 w1).mono fun e W' ⟨he, bel⟩ => ?_
  subst he
  exact ⟨_, rfl, _, _, _, [], _, [], hW', trodAll_mk1 (shut_bool Try.underlying4 _),
    (trodAll_cons_mk (Below.trod laidOut (by kernel_rfl) (of_decide_eq_true (by kernel_rfl)) h0 bel lt0)
      (trodAll_cons_mk (Below.trod laidOut (by kernel_rfl) (of_decide_eq_true (by kernel_rfl)) h1 bel lt1)
      trodAll_mk0)), rfl, bel.frame _, fun h => by cases h⟩
theorem over : Rows.shapeInsideRow.holds Try.pinned (OpenSpec.ofChange Rows.shapeInsideSpec) :=
  OpenClaim.holds_of_wide 10 Try.f10 rfl rfl rfl rfl rfl rfl rfl ⟨rfl, rfl, rfl, rfl, rfl⟩ rfl rfl rfl rfl rfl (by kernel_rfl) Try.func10 (by kernel_rfl)
    (of_decide_eq_true (by kernel_rfl)) (by unfold Func.isWrapper; first | (rw [if_pos (by decide +kernel)]; kernel_rfl) | (rw [if_neg (by decide +kernel)]; exact ⟨rfl, rfl⟩))
    (fun os started H enc _ => lifted os started H enc)
theorem proved : Rows.ShapeInsideSaid := over
#print axioms proved
end Go.Proofs.Ytccphigpobnjmaa.shapeInside
