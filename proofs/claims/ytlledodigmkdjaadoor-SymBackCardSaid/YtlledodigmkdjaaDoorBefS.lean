/-
  ponderref04.Before. No condition. (For a seat without RefS.)
-/
import Derived.Test.YtlledodigmkdjaaDoorSymW
namespace Go.Proofs.YtlledodigmkdjaaDoor
set_option linter.unusedVariables false
open Go.RowKit
theorem cmpI_lt {a b : Int} : cmpI a b < 0 ↔ a < b := by unfold cmpI; split <;> (try split) <;> omega
theorem cmpI_zero {a b : Int} : cmpI a b = 0 ↔ a = b := by unfold cmpI; split <;> (try split) <;> omega
theorem cmpS_zero {a b : ByteArray} : cmpS a b = 0 ↔ a = b := ⟨cmpS_eq, fun h => by rw [h]; exact cmpS_cmp.refl b⟩
theorem cmpS_lt {a b : ByteArray} : cmpS a b < 0 ↔ Op.bytesLess a.toList b.toList = true := by
  unfold cmpS; split
  · simp_all
  · split <;> simp_all
theorem cmpY_zero {a b : Sy} : cmpY a b = 0 ↔ a = b := ⟨cmpY_eq, fun h => by rw [h]; exact cmpY_cmp.refl b⟩
theorem befY_k {a b : Sy} (h : a.k ≠ b.k) : decide (cmpY a b < 0) = decide (a.k < b.k) := by
  have h1 : cmpI a.k b.k ≠ 0 := fun e => h (cmpI_zero.1 e)
  unfold cmpY; rw [if_pos h1]; simp [cmpI_lt]
theorem befY_t {a b : Sy} (h : a.k = b.k) (h2 : a.t ≠ b.t) : decide (cmpY a b < 0) = Op.bytesLess a.t.toList b.t.toList := by
  have h1 : cmpI a.k b.k = 0 := cmpI_zero.2 h
  have h3 : cmpS a.t b.t ≠ 0 := fun e => h2 (cmpS_zero.1 e)
  unfold cmpY; rw [if_neg (by simp [h1]), if_pos h3, Bool.eq_iff_iff]; simp [cmpS_lt]
theorem befY_n {a b : Sy} (h : a.k = b.k) (h2 : a.t = b.t) : decide (cmpY a b < 0) = decide (a.n < b.n) := by
  have h1 : cmpI a.k b.k = 0 := cmpI_zero.2 h
  have h3 : cmpS a.t b.t = 0 := cmpS_zero.2 h2
  unfold cmpY; rw [if_neg (by simp [h1]), if_neg (by simp [h3])]; simp [cmpI_lt]
theorem bef_any (a b : Sy) (w : World) : Calls Tryd.prog 10 #[.agg #[.int .i64 a.k, .string a.t, .int .i64 a.n], .agg #[.int .i64 b.k, .string b.t, .int .i64 b.n]] w fun e w' => e = .returned (.bool (decide (cmpY a b < 0))) ∧ Below w.heap.size w w' := by
  by_cases hk : a.k = b.k
  · have hk' : (a.k != b.k) = false := by simp [hk]
    by_cases ht : a.t = b.t
    · have ht' : (!a.t.toList == b.t.toList) = false := by simp [ht]
      have hr := befY_n hk ht
      rw [hr]
      clear hk ht hr
      go_enter Tryd.func10, Tryd.ntmps10
      go_wp2
      go_ret
      exact ⟨rfl, by go_grown⟩
    · have ht' : (!a.t.toList == b.t.toList) = true := by
        simp only [Bool.not_eq_true', beq_eq_false_iff_ne, ne_eq]
        intro e; apply ht
        rw [Lib.toList_data, Lib.toList_data] at e
        exact ByteArray.ext (Array.toList_inj.mp e)
      have hr := befY_t hk ht
      rw [hr]
      clear hk ht hr
      go_enter Tryd.func10, Tryd.ntmps10
      go_wp2
      go_ret
      exact ⟨rfl, by go_grown⟩
  · have hk' : (a.k != b.k) = true := by simp [hk]
    have hr := befY_k hk
    rw [hr]
    clear hk hr
    go_enter Tryd.func10, Tryd.ntmps10
    go_wp2
    go_ret
    exact ⟨rfl, by go_grown⟩
theorem sy_iff {x y : Sy} : x = y ↔ x.k = y.k ∧ x.t.toList = y.t.toList ∧ x.n = y.n := by
  constructor
  · rintro rfl; exact ⟨rfl, rfl, rfl⟩
  · rintro ⟨h1, h2, h3⟩
    cases x; cases y
    simp only [Lib.toList_data] at h2
    simp only at h1 h3
    subst h1; subst h3
    rw [ByteArray.ext (Array.toList_inj.mp h2)]
theorem eqY_run (x y : Sy) (w : World) : (binOp .eql 23 (.agg #[.int .i64 x.k, .string x.t, .int .i64 x.n]) (.agg #[.int .i64 y.k, .string y.t, .int .i64 y.n])).run Tryd.prog w = .ok (.bool (decide (x = y))) w := by
  simp only [sy_iff]
  simp [go_sem]
  split <;> (try split) <;> (try split) <;> simp_all
theorem neY_run (x y : Sy) (w : World) : (binOp .neq 23 (.agg #[.int .i64 x.k, .string x.t, .int .i64 x.n]) (.agg #[.int .i64 y.k, .string y.t, .int .i64 y.n])).run Tryd.prog w = .ok (.bool (!decide (x = y))) w := by
  simp only [sy_iff]
  simp [go_sem]
  split <;> (try split) <;> (try split) <;> simp_all
theorem eqY_yes {x y : Sy} (h : x = y) (w : World) : (binOp .eql 23 (.agg #[.int .i64 x.k, .string x.t, .int .i64 x.n]) (.agg #[.int .i64 y.k, .string y.t, .int .i64 y.n])).run Tryd.prog w = .ok (.bool true) w := by rw [eqY_run]; simp [h]
theorem eqY_no {x y : Sy} (h : x ≠ y) (w : World) : (binOp .eql 23 (.agg #[.int .i64 x.k, .string x.t, .int .i64 x.n]) (.agg #[.int .i64 y.k, .string y.t, .int .i64 y.n])).run Tryd.prog w = .ok (.bool false) w := by rw [eqY_run]; simp [h]
theorem neY_yes {x y : Sy} (h : x ≠ y) (w : World) : (binOp .neq 23 (.agg #[.int .i64 x.k, .string x.t, .int .i64 x.n]) (.agg #[.int .i64 y.k, .string y.t, .int .i64 y.n])).run Tryd.prog w = .ok (.bool true) w := by rw [neY_run]; simp [h]
theorem neY_no {x y : Sy} (h : x = y) (w : World) : (binOp .neq 23 (.agg #[.int .i64 x.k, .string x.t, .int .i64 x.n]) (.agg #[.int .i64 y.k, .string y.t, .int .i64 y.n])).run Tryd.prog w = .ok (.bool false) w := by rw [neY_run]; simp [h]
end Go.Proofs.YtlledodigmkdjaaDoor
