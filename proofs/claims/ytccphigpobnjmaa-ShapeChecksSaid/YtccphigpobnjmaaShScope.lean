/-
  The scopes of package shape: what is known, what became known. No condition but a bound on sizes.
-/
import Derived.Test.YtccphigpobnjmaaFindV
import Derived.Test.YtccphigpobnjmaaShLeaf
namespace Go.Proofs.Ytccphigpobnjmaa
set_option linter.unusedVariables false
open Go.RowKit
/-- A scope at block b, its set at block s: xs is known; v is the slice of what became known in it. -/
def ScopeAt (w : World) (b s : Nat) (xs : List ByteArray) (v : Value) : Prop := w.heap[b]? = some (.cells #[.pointer (some ⟨s, 0, none⟩), v] 115 (0, 0)) ∧ SetV w s xs
theorem new_scope (w : World) : Calls Try.prog 75 #[] w fun e w' => ∃ b s, e = .returned (.pointer (some ⟨b, 0, none⟩)) ∧ w.heap.size ≤ b ∧ w.heap.size ≤ s ∧ Below w.heap.size w w' ∧ ScopeAt w' b s [] (.slice none 0 0) := by
  have hn := new_anyV w (.slice none 0 0) [] (.inl ⟨rfl, rfl⟩) (by simp)
  have Hn := Lib.hid hn
  clear hn
  go_enter Try.func75, Try.ntmps75
  go_wp2_with (go_at_call 96; refine Hn.out.mono ?_; rintro e w1 ⟨s, rfl, hs, hb, hset⟩; have Hs := Lib.hid hset; clear hset)
  go_ret
  exact ⟨_, s, rfl, hb.size, hs, hb.alloc hb.size _, new_at rfl, IsSet.mono Hs.out (by go_grown)⟩
theorem inner_scope (w : World) (b s : Nat) (xs : List ByteArray) (v : Value) (h : ScopeAt w b s xs v) : Calls Try.prog 108 #[.pointer (some ⟨b, 0, none⟩)] w fun e w' => ∃ b' s', e = .returned (.pointer (some ⟨b', 0, none⟩)) ∧ w.heap.size ≤ b' ∧ w.heap.size ≤ s' ∧ Below w.heap.size w w' ∧ ScopeAt w' b' s' xs (.slice none 0 0) := by
  have h0 : w.cell? ⟨b, 0, none⟩ = some (.pointer (some ⟨s, 0, none⟩)) := by rw [cells_of h.1]; rfl
  have hn := clone_setV w s xs h.2
  have Hn := Lib.hid hn
  clear hn h
  go_enter Try.func108, Try.ntmps108
  go_wp2_with (go_at_call 117; refine Hn.out.mono ?_; rintro e w1 ⟨rfl, hb, hset⟩; have Hs := Lib.hid hset; clear hset)
  go_ret
  exact ⟨_, _, rfl, hb.size, Nat.le_refl _, hb.alloc hb.size _, new_at rfl, IsSet.mono Hs.out (by go_grown)⟩
def knowsB (xs : List ByteArray) (x : ByteArray) : Bool := decide (x.size = 0) || has cmpS x xs
theorem look_has {x : ByteArray} {xs : List ByteArray} : (look cmpS x xs).isSome = has cmpS x xs := by
  unfold look has
  rw [Bool.eq_iff_iff, List.find?_isSome, List.any_eq_true]
theorem knows_scope (w : World) (b s : Nat) (xs : List ByteArray) (v : Value) (x : ByteArray) (h : ScopeAt w b s xs v) : Calls Try.prog 98 #[.pointer (some ⟨b, 0, none⟩), .string x] w fun e w' => e = .returned (.bool (knowsB xs x)) ∧ Below w.heap.size w w' := by
  have h0 : w.cell? ⟨b, 0, none⟩ = some (.pointer (some ⟨s, 0, none⟩)) := by rw [cells_of h.1]; rfl
  have hg := get_setV x w s xs h.2
  have Hg := Lib.hid hg
  clear hg h
  by_cases hz : x.size = 0
  · have he : x.toList = [] := by rw [Lib.toList_data]; exact bytes_nil _ hz
    have he2 : x.toList.isEmpty = true := by rw [he]; rfl
    have HR := Lib.hid (show knowsB xs x = true by simp [knowsB, hz])
    clear hz
    go_enter Try.func98, Try.ntmps98
    go_wp2_with fail
    go_ret
    exact ⟨by rw [HR.out]; rfl, Below.refl _ _⟩
  · have he : ¬ x.toList = [] := by rw [Lib.toList_data, bytes_cons _ (by omega)]; simp
    have he2 : x.toList.isEmpty = false := by rw [Lib.toList_data, bytes_cons _ (by omega)]; rfl
    have HR := Lib.hid (show knowsB xs x = (look cmpS x xs).isSome by rw [look_has]; simp [knowsB, hz])
    clear hz
    generalize look cmpS x xs = o at Hg HR
    unfold FindOutV at Hg
    go_enter Try.func98, Try.ntmps98
    go_wp2_with (go_at_call 110; refine Hg.out.mono ?_; rintro e w1 ⟨hb, rfl⟩)
    go_ret
    exact ⟨by rw [HR.out]; rfl, hb⟩
end Go.Proofs.Ytccphigpobnjmaa
