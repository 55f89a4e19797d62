/-
  Walks over package sym: letters, words. No condition.
-/
import Derived.Test.YtccphigpobnjmaaShelf
import Derived.Test.YtccphigpobnjmaaSymPlain
import Derived.Test.YtccphigpobnjmaaSyS
import Derived.Lib.AppendIntMem
namespace Go.Proofs.Ytccphigpobnjmaa
set_option linter.unusedVariables false
open Go.RowKit
theorem ret_bool {a b : Bool} (h : a = b) : Ending.returned (.bool a) = .returned (.bool b) := by rw [h]
theorem cap_any (c : UInt8) (w : World) : Calls Try.prog 115 #[.int .u8 c.toNat] w fun e w' => e = .returned (.bool (capB c)) ∧ w = w' := by
  by_cases h1 : 65 ≤ c.toNat <;> by_cases h2 : c.toNat ≤ 90
  all_goals
    have z1 : (65 : Int) ≤ (c.toNat : Int) ↔ 65 ≤ c.toNat := by omega
    have z2 : (c.toNat : Int) ≤ 90 ↔ c.toNat ≤ 90 := by omega
    go_enter Try.func115, Try.ntmps115
    go_wp2
    all_goals first | (exfalso; omega) | (go_ret; exact ⟨by simp [capB, h1, h2], rfl⟩)
theorem small_any (c : UInt8) (w : World) : Calls Try.prog 86 #[.int .u8 c.toNat] w fun e w' => e = .returned (.bool (smallB c)) ∧ w = w' := by
  by_cases h1 : 97 ≤ c.toNat <;> by_cases h2 : c.toNat ≤ 122
  all_goals
    have z1 : (97 : Int) ≤ (c.toNat : Int) ↔ 97 ≤ c.toNat := by omega
    have z2 : (c.toNat : Int) ≤ 122 ↔ c.toNat ≤ 122 := by omega
    go_enter Try.func86, Try.ntmps86
    go_wp2
    all_goals first | (exfalso; omega) | (go_ret; exact ⟨by simp [smallB, h1, h2], rfl⟩)
theorem notOf_any (w : World) : PredAt Try.prog 88 #[] encR notPart w := fun W r _ => by
  unfold FnGives
  go_enter Try.func88, Try.ntmps88
  go_wp2
  all_goals
    go_ret
    refine ⟨ret_bool ?_, 0, rfl⟩
    refine Bool.eq_iff_iff.2 ⟨fun h => ?_, fun h => ?_⟩ <;> simp only [notPart, Bool.and_eq_true, Bool.or_eq_true, decide_eq_true_eq, bne_iff_ne, ne_eq, Bool.false_eq_true] at * <;> omega
theorem contains_any (s : ByteArray) (w : World) : Calls Try.prog 87 #[.string s, .func (.func 88) #[] #[]] w fun e w' => e = .returned (.bool (!s.data.toList.all partB)) ∧ Below w.heap.size w w' := by
  have h := Try.strings_ContainsFunc 88 #[] (enters_of Try.func88 (by kernel_rfl) rfl) notPart s w (notOf_any w)
  rw [idx_all] at h
  exact h
theorem word_any (s : ByteArray) (w : World) (hs : s.size ≤ 1000000) : Calls Try.prog 62 #[.string s] w fun e w' => e = .returned (.bool (wordB s.data.toList)) ∧ Below w.heap.size w w' := by
  have hcon := contains_any s w
  have Hcon := Lib.hid hcon
  clear hcon
  by_cases hz : s.size = 0
  · have hl := bytes_nil s hz
    have he : s.toList = [] := by rw [Lib.toList_data]; exact hl
    have he2 : s.toList.isEmpty = true := by rw [he]; rfl
    have HL := Lib.hid hl
    clear hl
    go_enter Try.func62, Try.ntmps62
    go_wp2_with fail
    go_ret
    exact ⟨by rw [HL.out]; rfl, Below.refl _ _⟩
  · have hpos : 0 < s.size := by omega
    have hl := bytes_cons s hpos
    have hne : ¬ s.toList = [] := by rw [Lib.toList_data, hl]; simp
    have he2 : s.toList.isEmpty = false := by rw [Lib.toList_data, hl]; rfl
    have hlen : (s.data.toList.drop 1).length + 1 = s.size := by simp; omega
    have HL := Lib.hid hl
    have HN := Lib.hid hlen
    clear hl hlen
    by_cases h32 : 32 < s.size
    · go_enter Try.func62, Try.ntmps62
      go_wp2_with fail
      go_ret
      exact ⟨by rw [HL.out, wordB_cons, HN.out]; simp; omega, Below.refl _ _⟩
    · have h32' : s.size ≤ 32 := by omega
      go_enter Try.func62, Try.ntmps62
      cases hsm : smallB s[0] with
      | false =>
        go_wp2_with (go_at_call 86; refine (small_any _ _).mono ?_; rintro e w' ⟨rfl, rfl⟩; rw [hsm])
        go_ret
        exact ⟨by rw [HL.out, word_small _ _ hsm]; rfl, Below.refl _ _⟩
      | true =>
        go_wp2_with (first | (go_at_call 86; refine (small_any _ _).mono ?_; rintro e w' ⟨rfl, rfl⟩; rw [hsm]) | (go_at_call 87; refine Hcon.out.mono ?_; rintro e w' ⟨rfl, hb⟩))
        go_ret
        refine ⟨ret_bool ?_, hb⟩
        have h1 : wordB s.data.toList = s.data.toList.all partB := by
          rw [HL.out, wordB_cons, HN.out]
          unfold smallB at hsm
          rw [hsm]
          simp [h32']
        rw [h1]; simp
end Go.Proofs.Ytccphigpobnjmaa
