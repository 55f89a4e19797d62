/-
  What the listed package-level variables give the walks: strconv.Itoa at every number; strconv.Atoi at every text. No condition.
-/
import Derived.Test.YtlledodigmkdjaaGreatDoorRows
import Derived.Test.YtlledodigmkdjaaGreatDoorSymTextsWalk
import Derived.LaidMore
import Derived.Lib.LaidTab
import Derived.Lib.SmallJoins
import Derived.Stop.LaidErr
namespace Go.Proofs.YtlledodigmkdjaaGreatDoor
set_option linter.unusedVariables false
open Go.RowKit
abbrev laid5 : List (String × DataW Unit) := [("math/bits.deBruijn32tab", Rows.laid_math_bits_deBruijn32tab), ("math/bits.deBruijn64tab", Rows.laid_math_bits_deBruijn64tab), ("internal/strconv.uint64pow10", Rows.laid_internal_strconv_uint64pow10), ("strconv.ErrRange", Rows.laid_strconv_ErrRange), ("strconv.ErrSyntax", Rows.laid_strconv_ErrSyntax)]
theorem door_met (os : Os) (args : Array Value) : laidMetH Tryz.prog laid5 ((World.doorLaid Tryz.prog 400 os).forCall (fun _ _ => 0) ⟨#[], args, []⟩).memory :=
  laidMetH_of_parts3 (fuel := 8) (laidMet_of_run' 8 (by kernel_rfl) (by kernel_rfl)) (by kernel_rfl) (by kernel_rfl)
theorem pow_data : (Rows.laid_internal_strconv_uint64pow10 : DataW Unit) = Lib.tabData .u64 Lib.pow10Tab := by kernel_rfl
theorem tab_of_laid {W : World} (h : laidMetH Tryz.prog laid5 W) : Lib.TabIs Tryz.prog W "internal/strconv.uint64pow10" .u64 Lib.pow10Tab := by
  rw [MakeChecks.laidMetH_plain _ _ _ (by kernel_rfl)] at h
  have h2 := h.tail.tail
  rw [pow_data] at h2
  exact Lib.tabIs_of_head (g := 0) (t := 138) (e := 117) (by kernel_rfl) (by kernel_rfl) Tryz.underlying138 Tryz.underlying117 (by kernel_rfl) (by kernel_rfl) h2
theorem itoa_of_laid {W : World} (h : laidMetH Tryz.prog laid5 W) : ItoaAll W := fun n h0 h1 w' hb =>
  (Tryz.strconv_Itoa n (by omega) (by omega) w' (Go.Joins.tab_stays (g := 0) (by kernel_rfl) (tab_of_laid h) hb (Nat.le_refl _))).mono (by
    rintro e w2 ⟨rfl, k, os, rfl⟩
    exact ⟨rfl, Lib.below_grow _ _ (Nat.le_refl _) _ _⟩)
end Go.Proofs.YtlledodigmkdjaaGreatDoor
