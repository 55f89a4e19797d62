/-
  Plain lemmas: what was put in a set is found there; each member has its place. No condition.
-/
import Derived.Test.YtccphigpobnjmaaKit3
namespace Go.Proofs.Ytccphigpobnjmaa
set_option linter.unusedVariables false
open Go.RowKit
section
variable {α : Type} {c : α → α → Int} (H : Cmp c)
include H
theorem has_ins {x y : α} : ∀ {xs : List α}, has c x (ins c y xs) = ((c x y == 0) || has c x xs)
  | [] => by simp [ins, has]
  | z :: zs => by
    unfold ins
    split
    · simp [has_cons]
    · split
      · rename_i h1 h2
        rw [has_cons]
        by_cases h3 : c x y = 0
        · have h4 : c x z = 0 := by
            have a1 := H.trans x y z (by omega) (by omega)
            have a2 := H.flip x y
            have a3 := H.flip y z
            have a4 := H.trans z y x (by omega) (by omega)
            have a5 := H.flip x z
            omega
          simp [h3, h4]
        · have : (c x y == 0) = false := by simp [h3]
          simp [this]
      · rw [has_cons, has_ins, has_cons]
        cases c x y == 0 <;> cases c x z == 0 <;> simp
theorem has_insAll {x : α} : ∀ (xs acc : List α), has c x (insAll c acc xs) = (has c x acc || xs.any fun y => c x y == 0)
  | [], acc => by simp [insAll]
  | y :: ys, acc => by
    have ih := has_insAll (x := x) ys (ins c y acc)
    unfold insAll at *
    rw [List.foldl_cons, ih, has_ins H, List.any_cons]
    cases has c x acc <;> cases c x y == 0 <;> simp
omit H in
theorem split_at {xs : List α} {i : Nat} (h : i < xs.length) : xs = xs.take i ++ xs[i] :: xs.drop (i + 1) := by
  rw [← List.drop_eq_getElem_cons h, List.take_append_drop]
theorem place_self {xs : List α} (hs : Sorted c xs) {i : Nat} (h : i < xs.length) : place c xs[i] xs = i := by
  have e := split_at h
  have hs' : Sorted c (xs.take i ++ xs[i] :: xs.drop (i + 1)) := by rw [← e]; exact hs
  have h1 := place_mid_eq H hs' (H.refl xs[i])
  rw [← e] at h1
  rw [h1, List.length_take]; omega
theorem has_self {xs : List α} {i : Nat} (h : i < xs.length) : has c xs[i] xs = true := by
  unfold has
  rw [List.any_eq_true]
  exact ⟨xs[i], List.getElem_mem h, by simp [H.refl]⟩
omit H in
theorem sorted_step {xs : List α} (hs : Sorted c xs) {i : Nat} (h : i + 1 < xs.length) : c xs[i] xs[i + 1] < 0 :=
  (List.pairwise_iff_getElem.1 hs) i (i + 1) (by omega) h (by omega)
omit H in
theorem look_of_has {x : α} {xs : List α} (he : ∀ a b, c a b = 0 → a = b) (h : has c x xs = true) : look c x xs = some x := by
  rw [has_look] at h
  cases hl : look c x xs with
  | none => rw [hl] at h; cases h
  | some y =>
    unfold look at hl
    have h2 := List.find?_some hl
    rw [he x y (by simpa using h2)]
end
theorem any_cmpI (x : Int) (xs : List Int) : (xs.any fun y => cmpI x y == 0) = xs.any fun y => y == x := by
  congr 1; funext y
  have : cmpI x y = 0 ↔ y = x := ⟨fun h => (cmpI_eq h).symm, fun h => by rw [h]; exact cmpI_cmp.refl x⟩
  rw [Bool.eq_iff_iff]; simpa using this
theorem any_take_succ {α : Type} (p : α → Bool) (xs : List α) {k : Nat} (h : k < xs.length) : (xs.take (k + 1)).any p = ((xs.take k).any p || p xs[k]) := by
  rw [List.take_succ_eq_append_getElem h, List.any_append]; simp
theorem owns_cells {w : World} {base : Nat} {e : TypeId} {size : Nat} {v : Value} {n : Nat} {xs : List Value} (h : w.ownsRow base e size v n xs) :
    (v = .slice none 0 0 ∧ n = 0) ∨ ∃ g cap, v = .slice (some ⟨g, 0, none⟩) n cap ∧ base ≤ g ∧ g < w.heap.size ∧ (n ≤ cap ∧ cap ≤ maxLen) ∧ ∀ i u, xs[i]? = some u → w.cell? ⟨g, i, none⟩ = some u := by
  obtain ⟨hl, h | ⟨g, cap, cur, h1, h2, h3, h4, h5, h6, h7⟩⟩ := h
  · exact .inl h
  · refine .inr ⟨g, cap, h1, h2, heap_lt h3, ⟨h4, h5⟩, fun i u hi => ?_⟩
    rw [cells_of h3]
    rw [← h7, List.getElem?_take] at hi
    split at hi
    · simpa using hi
    · cases hi
end Go.Proofs.Ytccphigpobnjmaa
