/-
  Plain lemmas: what is left when a member is taken out. No condition.
-/
import Derived.Test.YtccphigpobnjmaaKit4
namespace Go.Proofs.Ytccphigpobnjmaa
set_option linter.unusedVariables false
open Go.RowKit
section
variable {α : Type} {c : α → α → Int} (H : Cmp c)
theorem del_none {x : α} {xs : List α} (h : has c x xs = false) : del c x xs = xs := by
  unfold del has at *
  rw [List.filter_eq_self]
  intro y hy
  rw [List.any_eq_false] at h
  have := h y hy
  simpa [bne] using this
theorem del_append (x : α) (a b : List α) : del c x (a ++ b) = del c x a ++ del c x b := by simp [del]
theorem del_cons_ne {x v : α} (b : List α) (h : c x v ≠ 0) : del c x (v :: b) = v :: del c x b := by
  unfold del; rw [List.filter_cons_of_pos]; simpa using h
theorem del_cons_eq {x v : α} (b : List α) (h : c x v = 0) : del c x (v :: b) = del c x b := by
  unfold del; rw [List.filter_cons_of_neg]; simpa using h
theorem del_sorted {x : α} {xs : List α} (h : Sorted c xs) : Sorted c (del c x xs) := List.Pairwise.filter _ h
theorem del_length (x : α) (xs : List α) : (del c x xs).length ≤ xs.length := List.length_filter_le _ _
include H
theorem del_mid_lt {x v : α} {a b : List α} (hs : Sorted c (a ++ v :: b)) (h : c x v < 0) : del c x (a ++ v :: b) = del c x a ++ v :: b := by
  obtain ⟨-, -, -, hb⟩ := sorted_mid hs
  rw [del_append, del_cons_ne _ (by omega), del_none (has_none_of_gt H (by omega) hb)]
theorem del_mid_gt {x v : α} {a b : List α} (hs : Sorted c (a ++ v :: b)) (h : 0 < c x v) : del c x (a ++ v :: b) = a ++ v :: del c x b := by
  obtain ⟨-, -, ha, -⟩ := sorted_mid hs
  rw [del_append, del_cons_ne _ (by omega), del_none (has_none_of_lt H (by omega) ha)]
theorem del_mid_eq {x v : α} {a b : List α} (hs : Sorted c (a ++ v :: b)) (h : c x v = 0) : del c x (a ++ v :: b) = a ++ b := by
  obtain ⟨-, -, ha, hb⟩ := sorted_mid hs
  rw [del_append, del_cons_eq _ h, del_none (has_none_of_lt H (by omega) ha), del_none (has_none_of_gt H (by omega) hb)]
theorem has_del {x y : α} : ∀ {xs : List α}, has c x (del c y xs) = (has c x xs && !(c x y == 0))
  | [] => by simp [del, has]
  | z :: zs => by
    by_cases h : c y z = 0
    · rw [del_cons_eq _ h, has_del, has_cons]
      by_cases h2 : c x z = 0
      · have h3 : c x y = 0 := by
          have a1 := H.flip y z
          have a2 := H.trans x z y (by omega) (by omega)
          have a3 := H.flip x z
          have a4 := H.trans y z x (by omega) (by omega)
          have a5 := H.flip x y
          omega
        simp [h3]
      · have : (c x z == 0) = false := by simp [h2]
        simp [this]
    · rw [del_cons_ne _ h, has_cons, has_del, has_cons]
      by_cases h2 : c x z = 0
      · have h3 : c x y ≠ 0 := by
          intro h3
          have a1 := H.flip x y
          have a2 := H.trans y x z (by omega) (by omega)
          have a3 := H.flip x z
          have a4 := H.trans z x y (by omega) (by omega)
          have a5 := H.flip y z
          omega
        have : (c x y == 0) = false := by simp [h3]
        simp [h2, this]
      · have : (c x z == 0) = false := by simp [h2]
        simp [this]
end
end Go.Proofs.Ytccphigpobnjmaa
