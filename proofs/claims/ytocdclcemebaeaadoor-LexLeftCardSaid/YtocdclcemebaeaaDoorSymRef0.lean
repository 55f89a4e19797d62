/-
  Plain lemmas on beginnings of texts. No condition.
-/
import Derived.Test.YtocdclcemebaeaaDoorSymP
import Derived.Laws.IdiomStrings
namespace Go.Proofs.YtocdclcemebaeaaDoor
set_option linter.unusedVariables false
open Go.RowKit
theorem all_take_all {s : ByteArray} : s.data.toList.take s.size = s.data.toList := by
  rw [List.take_of_length_le]; simp
theorem take_snocB (s : ByteArray) (k : Nat) (h : k < s.size) : s.data.toList.take (k + 1) = s.data.toList.take k ++ [s[k]] := by
  rw [List.take_succ_eq_append_getElem (by simpa using h)]; rfl
end Go.Proofs.YtocdclcemebaeaaDoor
