/-
  The algebra of sorted lists under Union, Meet, Less; the four calls outside a fence.
-/
import Derived.Test.YtggijlblipmfaaaSameS
import Derived.Test.YtggijlblipmfaaaMeetS
import Derived.Test.YtggijlblipmfaaaAtS
namespace Go.Proofs.Ytggijlblipmfaaa
set_option linter.unusedVariables false
open Go.RowKit
/-! The sets' algebra: membership tells sorted lists apart. -/
theorem has_meetL (z : Sy) (xs ys : List Sy) : has cmpY z (meetL xs ys) = (has cmpY z xs && has cmpY z ys) := by
  rw [Bool.eq_iff_iff]
  simp only [has, meetL, List.any_eq_true, List.mem_filter, Bool.and_eq_true, beq_iff_eq]
  constructor
  · rintro ⟨x, ⟨h1, y, h2, h3⟩, h4⟩
    have := cmpY_eq h4; subst this
    exact ⟨⟨_, h1, h4⟩, y, h2, h3⟩
  · rintro ⟨⟨x, h1, h4⟩, y, h2, h3⟩
    have := cmpY_eq h4; subst this
    exact ⟨_, ⟨h1, y, h2, h3⟩, h4⟩
theorem has_uni (z : Sy) (xs ys : List Sy) : has cmpY z (insAll cmpY xs ys) = (has cmpY z xs || has cmpY z ys) := by
  rw [has_insAll cmpY_cmp]; rfl
theorem has_delAll (z : Sy) : ∀ (ys xs : List Sy), has cmpY z (delAll cmpY xs ys) = (has cmpY z xs && !has cmpY z ys)
  | [], xs => by simp [delAll, has]
  | y :: ys, xs => by
    have ih := has_delAll z ys (del cmpY y xs)
    have h1 : delAll cmpY xs (y :: ys) = delAll cmpY (del cmpY y xs) ys := rfl
    rw [h1, ih, has_del cmpY_cmp, has_cons]
    cases has cmpY z xs <;> cases (cmpY z y == 0) <;> cases has cmpY z ys <;> rfl
theorem sorted_ext : ∀ {xs ys : List Sy}, Sorted cmpY xs → Sorted cmpY ys → (∀ z, has cmpY z xs = has cmpY z ys) → xs = ys
  | [], [], _, _, _ => rfl
  | [], y :: ys, _, _, h => by have := h y; simp [has, cmpY_cmp.refl] at this
  | x :: xs, [], _, _, h => by have := h x; simp [has, cmpY_cmp.refl] at this
  | x :: xs, y :: ys, h1, h2, h => by
    unfold Sorted at h1 h2
    rw [List.pairwise_cons] at h1 h2
    have hxy : x = y := by
      by_cases hc : cmpY x y = 0
      · exact cmpY_eq hc
      · exfalso
        have hx := h x
        have hy := h y
        simp only [has_cons, cmpY_cmp.refl] at hx hy
        have hf := cmpY_cmp.flip x y
        have hyx : cmpY y x ≠ 0 := fun e => hc (by have := cmpY_eq e; subst this; exact cmpY_cmp.refl _)
        have e1 : (cmpY x y == 0) = false := by simpa using hc
        have e2 : (cmpY y x == 0) = false := by simpa using hyx
        rw [e1] at hx; rw [e2] at hy
        simp [has] at hx hy
        obtain ⟨u, hu, hu2⟩ := hx
        obtain ⟨v, hv, hv2⟩ := hy
        have := cmpY_eq hu2; subst this
        have := cmpY_eq hv2; subst this
        have a1 := h2.1 _ hu
        have a2 := h1.1 _ hv
        omega
    subst hxy
    congr 1
    refine sorted_ext h1.2 h2.2 fun z => ?_
    have hz := h z
    rw [has_cons, has_cons] at hz
    cases hc : (cmpY z x == 0) with
    | false => simpa [hc] using hz
    | true =>
      have := cmpY_eq (by simpa using hc); subst this
      have f : ∀ l : List Sy, (∀ a ∈ l, cmpY z a < 0) → has cmpY z l = false := fun l hl => by
        simp only [has, List.any_eq_false]
        intro a ha; have := hl a ha; simp; omega
      rw [f _ h1.1, f _ h2.1]
theorem sameL_self (xs : List Sy) : sameL xs xs = true := by
  simp only [sameL, beq_self_eq_true, Bool.true_and, List.all_eq_true]
  intro x hx
  simp only [has, List.any_eq_true]
  exact ⟨x, hx, by simp [cmpY_cmp.refl]⟩
theorem nil_of_has {xs : List Sy} (h : ∀ z, has cmpY z xs = false) : xs = [] := by
  cases xs with
  | nil => rfl
  | cons x xs => have := h x; simp [has, cmpY_cmp.refl] at this
theorem IsSet.srt {α : Type} {enc : α → List Value} {nt st : Nat} {c : α → α → Int} {w : World} {b : Nat} {xs : List α} (h : IsSet enc nt st c w b xs) : Sorted c xs := by
  obtain ⟨p, T, -, -, -, h⟩ := h; exact h
/-- Same, of two sets with the same members. -/
theorem same_true (W : World) (a b : Nat) (xs ys : List Sy) (ha : SetS W a xs) (hb : SetS W b ys) (hz : xs.length ≤ 1000000) (hz2 : ys.length ≤ 1000000) (hh : ∀ z, has cmpY z xs = has cmpY z ys) :
    Calls Try.prog 45 #[.pointer (some ⟨a, 0, none⟩), .pointer (some ⟨b, 0, none⟩)] W (fun e w' => e = .returned (.bool true) ∧ Below W.heap.size W w') := by
  have := sorted_ext ha.srt hb.srt hh
  subst this
  exact (callsIn_wide.1 (same_in 3 (by omega) W a b xs xs ha hb hz hz2)).mono fun e w' h => by rw [sameL_self] at h; exact h
theorem union_a (W : World) (a b : Nat) (xs ys : List Sy) (ha : SetS W a xs) (hb : SetS W b ys) (hz : xs.length + ys.length ≤ 1000000) :
    Calls Try.prog 42 #[.pointer (some ⟨a, 0, none⟩), .pointer (some ⟨b, 0, none⟩)] W (MadeS W (insAll cmpY xs ys)) := callsIn_wide.1 (union_in 3 (by omega) W a b xs ys ha hb hz)
theorem meet_a (W : World) (a b : Nat) (xs ys : List Sy) (ha : SetS W a xs) (hb : SetS W b ys) (hz : xs.length ≤ 1000000) :
    Calls Try.prog 43 #[.pointer (some ⟨a, 0, none⟩), .pointer (some ⟨b, 0, none⟩)] W (MadeS W (insAll cmpY [] (meetL xs ys))) := callsIn_wide.1 (meet_in 3 (by omega) W a b xs ys ha hb hz)
theorem less_a (W : World) (a b : Nat) (xs ys : List Sy) (ha : SetS W a xs) (hb : SetS W b ys) (hz : xs.length + ys.length ≤ 1000000) :
    Calls Try.prog 44 #[.pointer (some ⟨a, 0, none⟩), .pointer (some ⟨b, 0, none⟩)] W (MadeS W (delAll cmpY xs ys)) := callsIn_wide.1 (less_in 3 (by omega) W a b xs ys ha hb hz)
end Go.Proofs.Ytggijlblipmfaaa
