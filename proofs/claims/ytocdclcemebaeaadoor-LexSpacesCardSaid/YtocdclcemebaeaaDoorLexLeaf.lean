/-
  Walks over package lex: classes of bytes, runs, blanks, sizes of words, numbers, variables. No condition but bounds on sizes.
-/
import Derived.Test.YtocdclcemebaeaaDoorShelf
import Derived.Test.YtocdclcemebaeaaDoorLexPlain
import Derived.Test.YtocdclcemebaeaaDoorSymP
namespace Go.Proofs.YtocdclcemebaeaaDoor
set_option linter.unusedVariables false
open Go.RowKit
theorem lblank_any (c : UInt8) (w : World) : Calls Tryd.prog 31 #[.int .u8 c.toNat] w fun e w' => e = .returned (.bool (blankB c)) ∧ w = w' := by
  go_enter Tryd.func31, Tryd.ntmps31
  go_wp2
  all_goals
    go_ret
    refine ⟨ret_bool ?_, rfl⟩
    refine Bool.eq_iff_iff.2 ⟨fun h => ?_, fun h => ?_⟩ <;> simp [blankB] at * <;> omega
theorem lline_any (c : UInt8) (w : World) : Calls Tryd.prog 33 #[.int .u8 c.toNat] w fun e w' => e = .returned (.bool (lineB c)) ∧ w = w' := by
  go_enter Tryd.func33, Tryd.ntmps33
  go_wp2
  all_goals
    go_ret
    refine ⟨ret_bool ?_, rfl⟩
    refine Bool.eq_iff_iff.2 ⟨fun h => ?_, fun h => ?_⟩ <;> simp [lineB] at * <;> omega
theorem lsmall_any (c : UInt8) (w : World) : Calls Tryd.prog 40 #[.int .u8 c.toNat] w fun e w' => e = .returned (.bool (smallB c)) ∧ w = w' := by
  go_enter Tryd.func40, Tryd.ntmps40
  go_wp2
  all_goals
    go_ret
    refine ⟨ret_bool ?_, rfl⟩
    refine Bool.eq_iff_iff.2 ⟨fun h => ?_, fun h => ?_⟩ <;> simp [smallB] at * <;> omega
theorem ldig_any (c : UInt8) (w : World) : Calls Tryd.prog 43 #[.int .u8 c.toNat] w fun e w' => e = .returned (.bool (digB c)) ∧ w = w' := by
  go_enter Tryd.func43, Tryd.ntmps43
  go_wp2
  all_goals
    go_ret
    refine ⟨ret_bool ?_, rfl⟩
    refine Bool.eq_iff_iff.2 ⟨fun h => ?_, fun h => ?_⟩ <;> simp [digB] at * <;> omega
theorem lpart_any (c : UInt8) (w : World) : Calls Tryd.prog 41 #[.int .u8 c.toNat] w fun e w' => e = .returned (.bool (partB c)) ∧ w = w' := by
  have hp : partB c = (smallB c || digB c || decide (c.toNat = 45) || decide (c.toNat = 95)) := rfl
  cases hs : smallB c with
  | true =>
    go_enter Tryd.func41, Tryd.ntmps41
    go_wp2_with (go_at_call 40; refine (lsmall_any _ _).mono ?_; rintro e w' ⟨rfl, rfl⟩; rw [hs])
    all_goals
      go_ret
      exact ⟨ret_bool (by rw [hp, hs]; rfl), rfl⟩
  | false =>
    cases hd : digB c with
    | true =>
      go_enter Tryd.func41, Tryd.ntmps41
      go_wp2_with (first | (go_at_call 40; refine (lsmall_any _ _).mono ?_; rintro e w' ⟨rfl, rfl⟩; rw [hs]) | (go_at_call 43; refine (ldig_any _ _).mono ?_; rintro e w' ⟨rfl, rfl⟩; rw [hd]))
      all_goals
        go_ret
        exact ⟨ret_bool (by rw [hp, hs, hd]; rfl), rfl⟩
    | false =>
      have HP : Hid (partB c = (decide (c.toNat = 45) || decide (c.toNat = 95))) := Lib.hid (by rw [hp, hs, hd]; rfl)
      clear hp
      go_enter Tryd.func41, Tryd.ntmps41
      go_wp2_with (first | (go_at_call 40; refine (lsmall_any _ _).mono ?_; rintro e w' ⟨rfl, rfl⟩; rw [hs]) | (go_at_call 43; refine (ldig_any _ _).mono ?_; rintro e w' ⟨rfl, rfl⟩; rw [hd]))
      all_goals
        go_ret
        refine ⟨ret_bool ?_, rfl⟩
        rw [HP.out]
        refine Bool.eq_iff_iff.2 ⟨fun h => ?_, fun h => ?_⟩ <;> simp at * <;> omega
theorem runB_step (p : UInt8 → Bool) (t : ByteArray) (k : Nat) (h : k < t.size) : runL p (t.data.toList.drop k) = if p t[k] then 1 + runL p (t.data.toList.drop (k + 1)) else 0 :=
  runL_step p t.data.toList k (by simpa using h)
theorem runB_end (p : UInt8 → Bool) (t : ByteArray) : runL p (t.data.toList.drop t.size) = 0 := runL_end p _ _ (by simp)

set_option maxHeartbeats 1000000 in
theorem run_line (t : ByteArray) (w : World) (ht : t.size ≤ 1000000) : Calls Tryd.prog 32 #[.string t, .func (.func 33) #[] #[]] w fun e w' => e = .returned (.int .i64 (runL lineB t.data.toList)) ∧ w = w' := by
  have hstep := runB_step lineB t
  have Hstep := Lib.hid hstep
  have Hend := Lib.hid (runB_end lineB t)
  clear hstep
  go_enter Tryd.func32, Tryd.ntmps32
  go_wp2_with fail
  go_loop [8] (fun i => ∃ k : Nat, k ≤ t.size ∧ i = .int .i64 k ∧ Hid (runL lineB t.data.toList = k + runL lineB (t.data.toList.drop k))) (fun i => t.size - (intOf i).toNat)
  case atStart => exact ⟨0, Nat.zero_le _, rfl, Lib.hid (by simp)⟩
  case round =>
    obtain ⟨k, hk, rfl, hr⟩ := hrel
    by_cases hlt : k < t.size
    · have HS := Lib.hid (Hstep.out k hlt)
      cases hc : lineB t[k] with
      | true =>
        have HR : Hid (runL lineB t.data.toList = (k + 1 : Nat) + runL lineB (t.data.toList.drop (k + 1))) := Lib.hid (by rw [hr.out, HS.out, hc]; simp; omega)
        go_wp2_with (go_at_call 33; refine (lline_any _ _).mono ?_; rintro e w' ⟨rfl, rfl⟩; rw [hc])
        go_round
        case rel => exact ⟨k + 1, by omega, by go_num, HR⟩
        case measure => simp [intOf]; omega
      | false =>
        have HR : Hid (runL lineB t.data.toList = k) := Lib.hid (by rw [hr.out, HS.out, hc]; simp)
        go_wp2_with (go_at_call 33; refine (lline_any _ _).mono ?_; rintro e w' ⟨rfl, rfl⟩; rw [hc])
        go_ret
        exact ⟨by rw [HR.out]; rfl, rfl⟩
    · obtain rfl : k = t.size := by omega
      have HR : Hid (runL lineB t.data.toList = t.size) := Lib.hid (by rw [hr.out, Hend.out]; rfl)
      go_wp2_with fail
      go_ret
      exact ⟨by rw [HR.out]; rfl, rfl⟩

set_option maxHeartbeats 1000000 in
theorem run_part (t : ByteArray) (w : World) (ht : t.size ≤ 1000000) : Calls Tryd.prog 32 #[.string t, .func (.func 41) #[] #[]] w fun e w' => e = .returned (.int .i64 (runL partB t.data.toList)) ∧ w = w' := by
  have hstep := runB_step partB t
  have Hstep := Lib.hid hstep
  have Hend := Lib.hid (runB_end partB t)
  clear hstep
  go_enter Tryd.func32, Tryd.ntmps32
  go_wp2_with fail
  go_loop [8] (fun i => ∃ k : Nat, k ≤ t.size ∧ i = .int .i64 k ∧ Hid (runL partB t.data.toList = k + runL partB (t.data.toList.drop k))) (fun i => t.size - (intOf i).toNat)
  case atStart => exact ⟨0, Nat.zero_le _, rfl, Lib.hid (by simp)⟩
  case round =>
    obtain ⟨k, hk, rfl, hr⟩ := hrel
    by_cases hlt : k < t.size
    · have HS := Lib.hid (Hstep.out k hlt)
      cases hc : partB t[k] with
      | true =>
        have HR : Hid (runL partB t.data.toList = (k + 1 : Nat) + runL partB (t.data.toList.drop (k + 1))) := Lib.hid (by rw [hr.out, HS.out, hc]; simp; omega)
        go_wp2_with (go_at_call 41; refine (lpart_any _ _).mono ?_; rintro e w' ⟨rfl, rfl⟩; rw [hc])
        go_round
        case rel => exact ⟨k + 1, by omega, by go_num, HR⟩
        case measure => simp [intOf]; omega
      | false =>
        have HR : Hid (runL partB t.data.toList = k) := Lib.hid (by rw [hr.out, HS.out, hc]; simp)
        go_wp2_with (go_at_call 41; refine (lpart_any _ _).mono ?_; rintro e w' ⟨rfl, rfl⟩; rw [hc])
        go_ret
        exact ⟨by rw [HR.out]; rfl, rfl⟩
    · obtain rfl : k = t.size := by omega
      have HR : Hid (runL partB t.data.toList = t.size) := Lib.hid (by rw [hr.out, Hend.out]; rfl)
      go_wp2_with fail
      go_ret
      exact ⟨by rw [HR.out]; rfl, rfl⟩

set_option maxHeartbeats 1000000 in
theorem run_dig (t : ByteArray) (w : World) (ht : t.size ≤ 1000000) : Calls Tryd.prog 32 #[.string t, .func (.func 43) #[] #[]] w fun e w' => e = .returned (.int .i64 (runL digB t.data.toList)) ∧ w = w' := by
  have hstep := runB_step digB t
  have Hstep := Lib.hid hstep
  have Hend := Lib.hid (runB_end digB t)
  clear hstep
  go_enter Tryd.func32, Tryd.ntmps32
  go_wp2_with fail
  go_loop [8] (fun i => ∃ k : Nat, k ≤ t.size ∧ i = .int .i64 k ∧ Hid (runL digB t.data.toList = k + runL digB (t.data.toList.drop k))) (fun i => t.size - (intOf i).toNat)
  case atStart => exact ⟨0, Nat.zero_le _, rfl, Lib.hid (by simp)⟩
  case round =>
    obtain ⟨k, hk, rfl, hr⟩ := hrel
    by_cases hlt : k < t.size
    · have HS := Lib.hid (Hstep.out k hlt)
      cases hc : digB t[k] with
      | true =>
        have HR : Hid (runL digB t.data.toList = (k + 1 : Nat) + runL digB (t.data.toList.drop (k + 1))) := Lib.hid (by rw [hr.out, HS.out, hc]; simp; omega)
        go_wp2_with (go_at_call 43; refine (ldig_any _ _).mono ?_; rintro e w' ⟨rfl, rfl⟩; rw [hc])
        go_round
        case rel => exact ⟨k + 1, by omega, by go_num, HR⟩
        case measure => simp [intOf]; omega
      | false =>
        have HR : Hid (runL digB t.data.toList = k) := Lib.hid (by rw [hr.out, HS.out, hc]; simp)
        go_wp2_with (go_at_call 43; refine (ldig_any _ _).mono ?_; rintro e w' ⟨rfl, rfl⟩; rw [hc])
        go_ret
        exact ⟨by rw [HR.out]; rfl, rfl⟩
    · obtain rfl : k = t.size := by omega
      have HR : Hid (runL digB t.data.toList = t.size) := Lib.hid (by rw [hr.out, Hend.out]; rfl)
      go_wp2_with fail
      go_ret
      exact ⟨by rw [HR.out]; rfl, rfl⟩

end Go.Proofs.YtocdclcemebaeaaDoor
