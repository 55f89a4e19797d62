/-
  The zero symbol; a struct of three cells written into its box. No condition.
-/
import Derived.Test.YthgidldcblchmaaOrdS
namespace Go.Proofs.Ythgidldcblchmaa
set_option linter.unusedVariables false
open Go.RowKit
def zeroS : Sy := ⟨0, ⟨#[]⟩, 0⟩
theorem set3 {w : World} {B : Nat} {a b c u0 u1 u2 : Value} {t : TypeId} (h : w.heap[B]? = some (.cells #[u0, u1, u2] t (0, 0))) :
    (w.setCell ⟨B, 0, none⟩ a).cell? ⟨B, 0, none⟩ = some a ∧ ((w.setCell ⟨B, 0, none⟩ a).setCell ⟨B, 1, none⟩ b).cell? ⟨B, 1, none⟩ = some b ∧
      (((w.setCell ⟨B, 0, none⟩ a).setCell ⟨B, 1, none⟩ b).setCell ⟨B, 2, none⟩ c).cell? ⟨B, 2, none⟩ = some c := by
  refine ⟨?_, ?_, ?_⟩ <;> simp [World.setCell, World.cell?, Array.getElem?_modify, h]
end Go.Proofs.Ythgidldcblchmaa
