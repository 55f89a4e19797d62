/-
  Plain lemmas: what is found, counted, taken out of sorted lists. No condition.
-/
import Derived.Test.YtccphigpobnjmaaKit2
namespace Go.Proofs.Ytccphigpobnjmaa
set_option linter.unusedVariables false
open Go.RowKit
section
variable {α : Type} {c : α → α → Int} (H : Cmp c)
include H
theorem look_none_of_gt {x v : α} {b : List α} (h : c x v ≤ 0) (hb : ∀ y ∈ b, c v y < 0) : look c x b = none := by
  simp only [look, List.find?_eq_none]
  intro y hy
  have := H.lt_of_le_of_lt h (hb y hy)
  simp; omega
theorem look_none_of_lt {x v : α} {a : List α} (h : 0 ≤ c x v) (ha : ∀ y ∈ a, c y v < 0) : look c x a = none := by
  simp only [look, List.find?_eq_none]
  intro y hy
  have := gt_all H h ha y hy
  simp; omega
theorem look_mid_lt {x v : α} {a b : List α} (hs : Sorted c (a ++ v :: b)) (h : c x v < 0) : look c x (a ++ v :: b) = look c x a := by
  obtain ⟨-, -, -, hb⟩ := sorted_mid hs
  have h1 := look_none_of_gt H (show c x v ≤ 0 by omega) hb
  unfold look at *
  have h2 : (c x v == 0) = false := by simp; omega
  rw [List.find?_append, List.find?_cons, h2, h1]; simp
theorem look_mid_gt {x v : α} {a b : List α} (hs : Sorted c (a ++ v :: b)) (h : 0 < c x v) : look c x (a ++ v :: b) = look c x b := by
  obtain ⟨-, -, ha, -⟩ := sorted_mid hs
  have h1 := look_none_of_lt H (show 0 ≤ c x v by omega) ha
  unfold look at *
  have h2 : (c x v == 0) = false := by simp; omega
  rw [List.find?_append, List.find?_cons, h2, h1]; simp
theorem look_mid_eq {x v : α} {a b : List α} (hs : Sorted c (a ++ v :: b)) (h : c x v = 0) : look c x (a ++ v :: b) = some v := by
  obtain ⟨-, -, ha, -⟩ := sorted_mid hs
  have h1 := look_none_of_lt H (show 0 ≤ c x v by omega) ha
  unfold look at *
  have h2 : (c x v == 0) = true := by simp [h]
  rw [List.find?_append, List.find?_cons, h2, h1]; simp
theorem place_of_gt {x v : α} {b : List α} (h : c x v ≤ 0) (hb : ∀ y ∈ b, c v y < 0) : place c x b = 0 := by
  unfold place
  rw [List.length_eq_zero_iff, List.filter_eq_nil_iff]
  intro y hy
  have h1 := H.lt_of_le_of_lt h (hb y hy)
  have h2 := H.flip x y
  simp; omega
theorem place_of_lt {x v : α} {a : List α} (h : 0 ≤ c x v) (ha : ∀ y ∈ a, c y v < 0) : place c x a = a.length := by
  unfold place
  rw [List.length_filter_eq_length_iff]
  intro y hy
  have h1 := gt_all H h ha y hy
  have h2 := H.flip x y
  simp; omega
omit H in
theorem place_append (x : α) (a b : List α) : place c x (a ++ b) = place c x a + place c x b := by simp [place]
omit H in
theorem place_cons (x v : α) (b : List α) : place c x (v :: b) = (if c v x < 0 then 1 else 0) + place c x b := by
  unfold place
  by_cases h : c v x < 0
  · simp [h]; omega
  · simp [h]
theorem place_mid_lt {x v : α} {a b : List α} (hs : Sorted c (a ++ v :: b)) (h : c x v < 0) : place c x (a ++ v :: b) = place c x a := by
  obtain ⟨-, -, -, hb⟩ := sorted_mid hs
  have := H.flip x v
  rw [place_append, place_cons, place_of_gt H (by omega) hb, if_neg (by omega)]; rfl
theorem place_mid_gt {x v : α} {a b : List α} (hs : Sorted c (a ++ v :: b)) (h : 0 < c x v) : place c x (a ++ v :: b) = a.length + 1 + place c x b := by
  obtain ⟨-, -, ha, -⟩ := sorted_mid hs
  have := H.flip x v
  rw [place_append, place_cons, place_of_lt H (by omega) ha, if_pos (by omega)]; omega
theorem place_mid_eq {x v : α} {a b : List α} (hs : Sorted c (a ++ v :: b)) (h : c x v = 0) : place c x (a ++ v :: b) = a.length := by
  obtain ⟨-, -, ha, hb⟩ := sorted_mid hs
  have := H.flip x v
  rw [place_append, place_cons, place_of_lt H (by omega) ha, place_of_gt H (by omega) hb, if_neg (by omega)]; rfl
omit H in
theorem place_le (x : α) (a : List α) : place c x a ≤ a.length := List.length_filter_le _ _
omit H in
theorem place_nil (x : α) : place c x [] = 0 := rfl
omit H in
theorem look_nil (x : α) : look c x [] = none := rfl
omit H in
theorem has_look {x : α} : ∀ (a : List α), has c x a = (look c x a).isSome
  | [] => rfl
  | y :: a => by
    have ih := has_look (x := x) a
    unfold has look at *
    rw [List.any_cons, List.find?_cons, ih]
    cases c x y == 0 <;> simp
end
end Go.Proofs.Ytccphigpobnjmaa
