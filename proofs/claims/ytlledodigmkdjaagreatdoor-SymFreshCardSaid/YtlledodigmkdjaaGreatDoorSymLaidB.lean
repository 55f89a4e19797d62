/-
  What the listed package-level variables give the walks: strconv.Itoa at every number; strconv.Atoi at every text. No condition.
-/
import Derived.Test.YtlledodigmkdjaaGreatDoorRows
import Derived.Test.YtlledodigmkdjaaGreatDoorSymNums
import Derived.LaidMore
import Derived.Lib.LaidTab
import Derived.Lib.SmallJoins
import Derived.Stop.LaidErr
namespace Go.Proofs.YtlledodigmkdjaaGreatDoor
set_option linter.unusedVariables false
open Go.RowKit
abbrev laid5 : List (String × DataW Unit) := [("math/bits.deBruijn32tab", Rows.laid_math_bits_deBruijn32tab), ("math/bits.deBruijn64tab", Rows.laid_math_bits_deBruijn64tab), ("internal/strconv.uint64pow10", Rows.laid_internal_strconv_uint64pow10), ("strconv.ErrRange", Rows.laid_strconv_ErrRange), ("strconv.ErrSyntax", Rows.laid_strconv_ErrSyntax)]
theorem door_met (os : Os) (args : Array Value) : laidMetH Tryz.prog laid5 ((World.doorLaid Tryz.prog 400 os).forCall (fun _ _ => 0) ⟨#[], args, []⟩).memory :=
  laidMetH_of_parts3 (fuel := 8) (laidMet_of_run' 8 (by kernel_rfl) (by kernel_rfl)) (by kernel_rfl) (by kernel_rfl)
theorem pow_data : (Rows.laid_internal_strconv_uint64pow10 : DataW Unit) = Lib.tabData .u64 Lib.pow10Tab := by kernel_rfl
theorem tab_of_laid {W : World} (h : laidMetH Tryz.prog laid5 W) : Lib.TabIs Tryz.prog W "internal/strconv.uint64pow10" .u64 Lib.pow10Tab := by
  rw [MakeChecks.laidMetH_plain _ _ _ (by kernel_rfl)] at h
  have h2 := h.tail.tail
  rw [pow_data] at h2
  exact Lib.tabIs_of_head (g := 0) (t := 138) (e := 117) (by kernel_rfl) (by kernel_rfl) Tryz.underlying138 Tryz.underlying117 (by kernel_rfl) (by kernel_rfl) h2
theorem itoa_of_laid {W : World} (h : laidMetH Tryz.prog laid5 W) : ItoaAll W := fun n h0 h1 w' hb =>
  (Tryz.strconv_Itoa n (by omega) (by omega) w' (Go.Joins.tab_stays (g := 0) (by kernel_rfl) (tab_of_laid h) hb (Nat.le_refl _))).mono (by
    rintro e w2 ⟨rfl, k, os, rfl⟩
    exact ⟨rfl, Lib.below_grow _ _ (Nat.le_refl _) _ _⟩)
theorem star : "*" ++ "errors.errorString" = "*errors.errorString" := by decide
theorem row_err (u : TypeId) (h : Tryz.prog.typeName? 3 u = some "*errors.errorString") : u = 153 :=
  typeName_ptr_named (nm := "errors.errorString") (by rw [star]; kernel_rfl) (by kernel_rfl) (by decide) u (by rw [star]; exact h)
theorem errs_of_laid {W : World} (h : laidMetH Tryz.prog laid5 W) : (∃ tp p, W.var? Tryz.prog "strconv.ErrRange" = some #[.iface tp p]) ∧ (∃ tp p, W.var? Tryz.prog "strconv.ErrSyntax" = some #[.iface tp p]) := by
  rw [MakeChecks.laidMetH_plain _ _ _ (by kernel_rfl)] at h
  have h2 := h.tail.tail.tail
  obtain ⟨a, s, hv, -⟩ := laid_sentinel h2 (g := 2) (ti := 81) (te := 155) (by kernel_rfl) (by kernel_rfl) Tryz.underlying81 row_err Tryz.underlying153 Tryz.underlying155 rfl rfl Tryz.underlying9 (by kernel_rfl) (by kernel_rfl)
  obtain ⟨a2, s2, hv2, -⟩ := laid_sentinel h2.tail (g := 1) (ti := 81) (te := 155) (by kernel_rfl) (by kernel_rfl) Tryz.underlying81 row_err Tryz.underlying153 Tryz.underlying155 rfl rfl Tryz.underlying9 (by kernel_rfl) (by kernel_rfl)
  exact ⟨⟨_, _, hv⟩, ⟨_, _, hv2⟩⟩
theorem atoi_of_laid {W : World} (h : laidMetH Tryz.prog laid5 W) (t : ByteArray) (ht : t.size ≤ 1000000) : AtoiAt W t := by
  obtain ⟨⟨tr, pr, hr⟩, ⟨tx, px, hx⟩⟩ := errs_of_laid h
  intro w' hb
  have hr' := Go.Joins.var_stays (g := 2) (by kernel_rfl) hr hb (Nat.le_refl _)
  have hx' := Go.Joins.var_stays (g := 1) (by kernel_rfl) hx hb (Nat.le_refl _)
  cases ha : Lib.atoiAll t.data.toList with
  | ok v => exact atoi_fine w' t ht v ha w' (Below.refl _ _)
  | range =>
    refine (Any.strconv_Atoi_range_var Tryz.laysC172 t (by omega) ha tr pr w' hr').mono ?_
    rintro e w2 ⟨n, rfl, -, -, h2⟩
    exact ⟨_, by unfold atoiN; rw [ha], h2⟩
  | _ =>
    refine (Any.strconv_Atoi_syntax_var Tryz.laysC172 t (by omega) ha tx px w' hx').mono ?_
    rintro e w2 ⟨n, rfl, -, -, h2⟩
    exact ⟨_, by unfold atoiN; rw [ha], h2⟩
end Go.Proofs.YtlledodigmkdjaaGreatDoor
