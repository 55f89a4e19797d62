/-
  Walks over package sym: Valid, Text. No condition.
-/
import Derived.Test.YtccphigpobnjmaaSymW
namespace Go.Proofs.Ytccphigpobnjmaa
set_option linter.unusedVariables false
open Go.RowKit
def validY (s : Sy) : Bool := validL s.k s.t.data.toList s.n
theorem caps_one (t : ByteArray) (h : t.size = 1) (h0 : 0 < t.size) : capsL t.data.toList = capB (t[0]'h0) := by
  rw [bytes_cons t h0]
  have : (t.data.toList.drop 1) = [] := List.eq_nil_of_length_eq_zero (by simp; omega)
  rw [this]; rfl
theorem caps_not (t : ByteArray) (h : ¬ t.size = 1) : capsL t.data.toList = false := by
  have hl : t.data.toList.length = t.size := by simp
  cases ht : t.data.toList with
  | nil => rfl
  | cons c r =>
    cases r with
    | nil => rw [ht] at hl; simp at hl; omega
    | cons d r => rfl
theorem empty_size (t : ByteArray) : t.data.toList.isEmpty = decide (t.size = 0) := by
  have hl : t.data.toList.length = t.size := by simp
  cases ht : t.data.toList with
  | nil => rw [ht] at hl; simp at hl; simp [← hl]
  | cons c r =>
    have h1 : ¬ t.size = 0 := by rw [← hl, ht]; simp
    simp [h1]
set_option maxHeartbeats 1000000 in
theorem valid_any (s : Sy) (w : World) (hs : s.t.size ≤ 1000000) : Calls Try.prog 103 #[.agg #[.int .i64 s.k, .string s.t, .int .i64 s.n]] w fun e w' => e = .returned (.bool (validY s)) ∧ Below w.heap.size w w' := by
  have hB : Below w.heap.size w (w.alloc (.cells #[.int .i64 s.k, .string s.t, .int .i64 s.n] 47)) := by go_grown
  by_cases k1 : s.k = 1
  · have b1 : (s.k == 1) = true := by simp [k1]
    have hv : validY s = (capsL s.t.data.toList && decide (1 ≤ s.n ∧ s.n ≤ 1048576)) := by unfold validY validL; rw [if_pos k1]
    have HV := Lib.hid hv
    clear hv k1
    by_cases h1 : s.t.size = 1
    · have hp : 0 < s.t.size := by omega
      have hc := caps_one s.t h1 hp
      have HC := Lib.hid hc
      clear hc
      have e1 : ((s.t.size : Int) == 1) = true := by simp [h1]
      clear h1
      cases hcap : capB s.t[0] with
      | false =>
        have HQ : Hid (validY s = false) := Lib.hid (by rw [HV.out, HC.out, hcap]; rfl)
        go_enter Try.func103, Try.ntmps103
        go_wp2_with (go_at_call 115; refine (cap_any _ _).mono ?_; rintro e w' ⟨rfl, rfl⟩; rw [hcap])
        all_goals
          go_ret
          exact ⟨by rw [HQ.out]; rfl, hB⟩
      | true =>
        have HQ : Hid (validY s = decide (1 ≤ s.n ∧ s.n ≤ 1048576)) := Lib.hid (by rw [HV.out, HC.out, hcap]; rfl)
        go_enter Try.func103, Try.ntmps103
        go_wp2_with (go_at_call 115; refine (cap_any _ _).mono ?_; rintro e w' ⟨rfl, rfl⟩; rw [hcap])
        all_goals
          go_ret
          refine ⟨?_, hB⟩
          rw [HQ.out]
          refine ret_bool (Bool.eq_iff_iff.2 ⟨fun h => ?_, fun h => ?_⟩) <;> simp only [decide_eq_true_eq, Bool.false_eq_true] at * <;> omega
    · have HQ : Hid (validY s = false) := Lib.hid (by rw [HV.out, caps_not _ h1]; rfl)
      have e1 : ((s.t.size : Int) == 1) = false := by simp; omega
      clear h1
      go_enter Try.func103, Try.ntmps103
      go_wp2_with fail
      all_goals
        go_ret
        exact ⟨by rw [HQ.out]; rfl, hB⟩
  · by_cases k2 : s.k = 2
    · have b1 : (s.k == 1) = false := by simp [k2]
      have b2 : (s.k == 2) = true := by simp [k2]
      have hv : validY s = (decide (s.t.size = 0) && decide (-2147483647 ≤ s.n ∧ s.n ≤ 2147483647)) := by unfold validY validL; rw [if_neg k1, if_pos k2, empty_size]
      have HV := Lib.hid hv
      clear hv k1 k2
      by_cases hz : s.t.size = 0
      · have he : s.t.toList = [] := by rw [Lib.toList_data]; exact bytes_nil _ hz
        have he2 : s.t.toList.isEmpty = true := by rw [he]; rfl
        have HQ : Hid (validY s = decide (-2147483647 ≤ s.n ∧ s.n ≤ 2147483647)) := Lib.hid (by rw [HV.out]; simp [hz])
        clear hz
        go_enter Try.func103, Try.ntmps103
        go_wp2_with fail
        all_goals
          go_ret
          refine ⟨?_, hB⟩
          rw [HQ.out]
          refine ret_bool (Bool.eq_iff_iff.2 ⟨fun h => ?_, fun h => ?_⟩) <;> simp only [decide_eq_true_eq, Bool.false_eq_true] at * <;> omega
      · have he : ¬ s.t.toList = [] := by rw [Lib.toList_data, bytes_cons _ (by omega)]; simp
        have he2 : s.t.toList.isEmpty = false := by rw [Lib.toList_data, bytes_cons _ (by omega)]; rfl
        have HQ : Hid (validY s = false) := Lib.hid (by rw [HV.out]; simp [hz])
        clear hz
        go_enter Try.func103, Try.ntmps103
        go_wp2_with fail
        all_goals
          go_ret
          exact ⟨by rw [HQ.out]; rfl, hB⟩
    · have b1 : (s.k == 1) = false := by simp [k1]
      have b2 : (s.k == 2) = false := by simp [k2]
      by_cases k3 : s.k = 3
      · have b3 : (s.k == 3) = true := by simp [k3]
        have hv : validY s = (decide (s.n = 0) && wordB s.t.data.toList) := by unfold validY validL; rw [if_neg k1, if_neg k2, if_pos k3]
        have HV := Lib.hid hv
        clear hv k1 k2 k3
        have hw := fun w' => word_any s.t w' hs
        have Hw := Lib.hid hw
        clear hw
        by_cases hn : s.n = 0
        · have bn : (s.n == 0) = true := by simp [hn]
          have HQ : Hid (validY s = wordB s.t.data.toList) := Lib.hid (by rw [HV.out]; simp [hn])
          clear hn
          go_enter Try.func103, Try.ntmps103
          go_wp2_with (go_at_call 62; refine (Hw.out _).mono ?_; rintro e w' ⟨rfl, hb⟩)
          all_goals
            go_ret
            exact ⟨by rw [HQ.out]; rfl, hB.trans (hb.mono hB.size)⟩
        · have bn : (s.n == 0) = false := by simp [hn]
          have HQ : Hid (validY s = false) := Lib.hid (by rw [HV.out]; simp [hn])
          clear hn
          go_enter Try.func103, Try.ntmps103
          go_wp2_with fail
          all_goals
            go_ret
            exact ⟨by rw [HQ.out]; rfl, hB⟩
      · have b3 : (s.k == 3) = false := by simp [k3]
        have HQ : Hid (validY s = false) := Lib.hid (by unfold validY validL; rw [if_neg k1, if_neg k2, if_neg k3])
        clear k1 k2 k3
        go_enter Try.func103, Try.ntmps103
        go_wp2_with fail
        all_goals
          go_ret
          exact ⟨by rw [HQ.out]; rfl, hB⟩
end Go.Proofs.Ytccphigpobnjmaa
