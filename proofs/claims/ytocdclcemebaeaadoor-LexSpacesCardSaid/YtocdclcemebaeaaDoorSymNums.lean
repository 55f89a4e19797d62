/-
  strconv.Itoa at whatever number a symbol may have, as a premise; bounds on numbers; texts and symbols hold each other. No condition. (For a seat without SymDig and SymTextsWalk.)
-/
import Derived.Test.YtocdclcemebaeaaDoorSymP
namespace Go.Proofs.YtocdclcemebaeaaDoor
set_option linter.unusedVariables false
open Go.RowKit
/-- strconv.Itoa, at whatever number a symbol may have. -/
def ItoaAll (w : World) : Prop := ∀ n : Int, -2147483648 ≤ n → n ≤ 2147483648 → ItoaAt w n
theorem ItoaAll.mono {w w1 : World} (h : ItoaAll w) (hb : Below w.heap.size w w1) : ItoaAll w1 := fun n h0 h1 => (h n h0 h1).mono hb
theorem valid_num {s : Sy} (h : validY s = true) (h3 : s.k ≠ 3) : -2147483647 ≤ s.n ∧ s.n ≤ 2147483647 := by
  unfold validY validL at h
  split at h
  · simp only [Bool.and_eq_true, decide_eq_true_eq] at h; omega
  · split at h
    · simp only [Bool.and_eq_true, decide_eq_true_eq] at h; omega
    · first | (rw [if_neg h3] at h; cases h) | cases h
end Go.Proofs.YtocdclcemebaeaaDoor
