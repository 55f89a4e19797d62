/-
  A slice of symbols that ponderkeep.List made, read as a list. No condition.
-/
import Derived.Test.YthgidldcblchmaaListB
import Derived.Test.YthgidldcblchmaaArgS
namespace Go.Proofs.Ythgidldcblchmaa
set_option linter.unusedVariables false
open Go.RowKit
theorem flat_encS : ∀ (ys : List Sy) (i : Nat) (h : i < ys.length) (j : Nat), j < 3 → (ys.flatMap encS)[i * 3 + j]? = (encS ys[i])[j]?
  | [], _, h, _, _ => by simp at h
  | y :: ys, 0, _, j, hj => by
    rw [List.flatMap_cons, List.getElem?_append_left (by simp [encS]; omega)]; simp
  | y :: ys, i + 1, h, j, hj => by
    rw [List.flatMap_cons, List.getElem?_append_right (by simp [encS]; omega)]
    have := flat_encS ys i (by simpa using h) j hj
    have e : (i + 1) * 3 + j - (encS y).length = i * 3 + j := by simp [encS]; omega
    rw [e, this]; simp
theorem slice_of_owns {w : World} {base : Nat} {e : TypeId} {v : Value} {ys : List Sy} (h : w.ownsRow base e 3 v ys.length (ys.flatMap encS)) : SliceAt encS 3 w v ys := by
  rcases owns_cells h with ⟨h1, h2⟩ | ⟨g, cap, h1, h2, h3, h4, h5⟩
  · exact .inl ⟨h1, List.eq_nil_of_length_eq_zero h2⟩
  · refine .inr ⟨g, 0, cap, h1, h3, h4, fun i hi j c hc => ?_⟩
    have hj : j < 3 := by
      have := (List.getElem?_eq_some_iff.1 hc).1
      simpa [encS] using this
    rw [Nat.zero_add]
    exact h5 _ c ((flat_encS ys i hi j hj).trans hc)
def ListedS (w : World) (ys : List Sy) (e : Ending) (w2 : World) : Prop := ∃ v, e = .returned v ∧ Below w.heap.size w w2 ∧ SliceAt encS 3 w2 v ys
end Go.Proofs.Ythgidldcblchmaa
