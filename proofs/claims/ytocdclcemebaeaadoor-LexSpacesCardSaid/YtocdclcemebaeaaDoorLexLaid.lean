/-
  What the listed package-level variables give the walks over package lex. No condition.
-/
import Derived.Test.YtocdclcemebaeaaDoorRows
import Derived.Test.YtocdclcemebaeaaDoorLexWakes
import Derived.LaidMore
import Derived.Lib.LaidTab
import Derived.Lib.SmallJoins
import Derived.Stop.LaidErr
namespace Go.Proofs.YtocdclcemebaeaaDoor
set_option linter.unusedVariables false
open Go.RowKit
abbrev laid6 : List (String × DataW Unit) := [("math/bits.deBruijn32tab", Rows.laid_math_bits_deBruijn32tab), ("math/bits.deBruijn64tab", Rows.laid_math_bits_deBruijn64tab), ("internal/strconv.uint64pow10", Rows.laid_internal_strconv_uint64pow10), ("strconv.ErrRange", Rows.laid_strconv_ErrRange), ("strconv.ErrSyntax", Rows.laid_strconv_ErrSyntax), ("ponder/lex.signs", Rows.laid_ponder_lex_signs)]
theorem door_met (os : Os) (args : Array Value) : laidMetH Tryd.prog laid6 ((World.doorLaid Tryd.prog 400 os).forCall (fun _ _ => 0) ⟨#[], args, []⟩).memory :=
  laidMetH_of_parts3 (fuel := 8) (laidMet_of_run' 8 (by kernel_rfl) (by kernel_rfl)) (by kernel_rfl) (by kernel_rfl)
theorem pow_data : (Rows.laid_internal_strconv_uint64pow10 : DataW Unit) = Lib.tabData .u64 Lib.pow10Tab := by kernel_rfl
theorem tab_of_laid {W : World} (h : laidMetH Tryd.prog laid6 W) : Lib.TabIs Tryd.prog W "internal/strconv.uint64pow10" .u64 Lib.pow10Tab := by
  rw [MakeChecks.laidMetH_plain _ _ _ (by kernel_rfl)] at h
  have h2 := h.tail.tail
  rw [pow_data] at h2
  exact Lib.tabIs_of_head (g := 3) (t := 108) (e := 88) (by kernel_rfl) (by kernel_rfl) Tryd.underlying108 Tryd.underlying88 (by kernel_rfl) (by kernel_rfl) h2
theorem itoa_of_laid {W : World} (h : laidMetH Tryd.prog laid6 W) : ∀ n : Int, -2147483648 ≤ n → n ≤ 2147483648 → ItoaAt W n := fun n h0 h1 w' hb =>
  (Tryd.strconv_Itoa n (by omega) (by omega) w' (Go.Joins.tab_stays (g := 3) (by kernel_rfl) (tab_of_laid h) hb (Nat.le_refl _))).mono (by
    rintro e w2 ⟨rfl, k, os, rfl⟩
    exact ⟨rfl, Lib.below_grow _ _ (Nat.le_refl _) _ _⟩)
theorem star : "*" ++ "errors.errorString" = "*errors.errorString" := by decide
theorem row_err (u : TypeId) (h : Tryd.prog.typeName? 3 u = some "*errors.errorString") : u = 103 :=
  typeName_ptr_named (nm := "errors.errorString") (by rw [star]; kernel_rfl) (by kernel_rfl) (by decide) u (by rw [star]; exact h)
theorem errs_of_laid {W : World} (h : laidMetH Tryd.prog laid6 W) : (∃ tp p, W.var? Tryd.prog "strconv.ErrRange" = some #[.iface tp p]) ∧ (∃ tp p, W.var? Tryd.prog "strconv.ErrSyntax" = some #[.iface tp p]) := by
  rw [MakeChecks.laidMetH_plain _ _ _ (by kernel_rfl)] at h
  have h2 := h.tail.tail.tail
  obtain ⟨a, s, hv, -⟩ := laid_sentinel h2 (g := 2) (ti := 74) (te := 105) (by kernel_rfl) (by kernel_rfl) Tryd.underlying74 row_err Tryd.underlying103 Tryd.underlying105 rfl rfl Tryd.underlying9 (by kernel_rfl) (by kernel_rfl)
  obtain ⟨a2, s2, hv2, -⟩ := laid_sentinel h2.tail (g := 1) (ti := 74) (te := 105) (by kernel_rfl) (by kernel_rfl) Tryd.underlying74 row_err Tryd.underlying103 Tryd.underlying105 rfl rfl Tryd.underlying9 (by kernel_rfl) (by kernel_rfl)
  exact ⟨⟨_, _, hv⟩, ⟨_, _, hv2⟩⟩
theorem atoi_of_laid {W : World} (h : laidMetH Tryd.prog laid6 W) (t : ByteArray) (ht : t.size ≤ 1000000) : AtoiAt W t := by
  obtain ⟨⟨tr, pr, hr⟩, ⟨tx, px, hx⟩⟩ := errs_of_laid h
  intro w' hb
  have hr' := Go.Joins.var_stays (g := 2) (by kernel_rfl) hr hb (Nat.le_refl _)
  have hx' := Go.Joins.var_stays (g := 1) (by kernel_rfl) hx hb (Nat.le_refl _)
  cases ha : Lib.atoiAll t.data.toList with
  | ok v => exact atoi_fine w' t ht v ha w' (Below.refl _ _)
  | range =>
    refine (Any.strconv_Atoi_range_var Tryd.laysC172 t (by omega) ha tr pr w' hr').mono ?_
    rintro e w2 ⟨n, rfl, -, -, h2⟩
    exact ⟨_, by unfold atoiN; rw [ha], h2⟩
  | _ =>
    refine (Any.strconv_Atoi_syntax_var Tryd.laysC172 t (by omega) ha tx px w' hx').mono ?_
    rintro e w2 ⟨n, rfl, -, -, h2⟩
    exact ⟨_, by unfold atoiN; rw [ha], h2⟩
/-- An array of strings as a row lists it. -/
def strData {H : Type} (zs : List (List UInt8)) : DataW H := .agg (zs.map fun z => .lit (.string z))
theorem cells_of_strs {H : Type} {enc : TypeId × Value → H} {P : Program} {w : World} {base : Nat} {sp : Nat → Bool} {held : Bool} {fuel : Nat} {t e : TypeId} {n : Nat} {cs : List Value} {zs : List (List UInt8)} {p : List MemPlace}
    (ht : P.underlying t = some (.array n e)) (he : P.underlying e = some .string) (hce : P.cellsOf e = 1) (hct : P.cellsOf t = n)
    (h : DataW.trod enc P w base sp held fuel t cs = some (strData zs, p)) : cs = zs.map fun z => Value.string ⟨z.toArray⟩ := by
  cases fuel with
  | zero => simp [DataW.trod] at h
  | succ fuel =>
    simp only [DataW.trod, ht, hce, hct, Nat.mul_one] at h
    split at h
    · rename_i hl
      obtain ⟨xs, hm, hx⟩ := Option.map_eq_some_iff.1 h
      have hxs : xs.map (·.1) = zs.map fun z => (DataW.lit (.string z) : DataW H) := by
        have := congrArg Prod.fst hx
        simpa [strData] using this
      have hxl : xs.length = n := by simpa using Lib.mapM_length hm
      have hzl : zs.length = n := by
        have := congrArg List.length hxs
        simp at this
        omega
      apply List.ext_getElem?
      intro i
      by_cases hi : i < n
      · obtain ⟨b, hb, hf⟩ := Lib.mapM_at hm i i (by simp [hi])
        obtain ⟨z, hc, rfl, _⟩ := DataW.trod_string he hf
        have h1 : cs[i]? = some (.string z) := by
          have := congrArg (·[0]?) hc
          simpa [List.getElem?_take, List.getElem?_drop] using this
        have h2 : (xs.map (·.1))[i]? = some (DataW.lit (.string z.data.toList) : DataW H) := by simp [hb]
        rw [hxs] at h2
        simp only [List.getElem?_map, Option.map_eq_some_iff, DataW.lit.injEq, Lit.string.injEq] at h2
        obtain ⟨z', hz', h3⟩ := h2
        simp [h1, hz', h3]
      · rw [List.getElem?_eq_none (by omega), List.getElem?_eq_none (by simp; omega)]
    · cases h
theorem signs_data : (Rows.laid_ponder_lex_signs : DataW Unit) = strData signsL := by kernel_rfl
theorem signs_of_laid {W : World} (h : laidMetH Tryd.prog laid6 W) : W.var? Tryd.prog "ponder/lex.signs" = some (signsL.map fun z => Value.string ⟨z.toArray⟩).toArray := by
  rw [MakeChecks.laidMetH_plain _ _ _ (by kernel_rfl)] at h
  have h2 := h.tail.tail.tail.tail.tail
  rw [signs_data] at h2
  obtain ⟨ps, ⟨g', t', cs, fuel, p, q, hg', ht', hvar, hd, _, _⟩, _⟩ := h2
  obtain rfl := Option.some.inj ((show Tryd.prog.globalNamed "ponder/lex.signs" = some 0 by kernel_rfl).symm.trans hg')
  obtain rfl := Option.some.inj ((show (Tryd.prog.globals[0]?).map (·.type) = some 63 by kernel_rfl).symm.trans ht')
  rw [hvar, ← cells_of_strs Tryd.underlying63 Tryd.underlying9 (by kernel_rfl) (by kernel_rfl) hd]
theorem lex_of_laid {W : World} (h : laidMetH Tryd.prog laid6 W) : LexAt W where
  signs := fun w' hb i hi => by
    have hv := Go.Joins.var_stays (g := 0) (by kernel_rfl) (signs_of_laid h) hb (Nat.le_refl _)
    rw [World.var?_cell (by kernel_rfl) hv i]
    have hl : signsL.length = 20 := rfl
    unfold sgn
    rw [List.getElem?_toArray, List.getElem?_map, List.getElem?_eq_getElem (by rw [hl]; exact hi)]
    rfl
  itoa := itoa_of_laid h
  atoi := atoi_of_laid h
end Go.Proofs.YtocdclcemebaeaaDoor
