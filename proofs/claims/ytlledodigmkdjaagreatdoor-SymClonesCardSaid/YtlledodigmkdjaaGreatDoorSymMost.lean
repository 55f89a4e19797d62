/-
  The law's most: the greatest number of Q's identifiers. All of a table; Fresh of a table, whatever comes. No condition but a bound on the length.
-/
import Derived.Test.YtlledodigmkdjaaGreatDoorSymUnk
namespace Go.Proofs.YtlledodigmkdjaaGreatDoor
set_option linter.unusedVariables false
open Go.RowKit
theorem great_succ (c : UInt8) (xs : List Sy) {k : Nat} (h : k < xs.length) : great c (xs.take (k + 1)) = stepG c (great c (xs.take k)) xs[k] := by
  rw [List.take_succ_eq_append_getElem h, great_snoc]
theorem q_list (t : ByteArray) : (t.toList == [81]) = decide (t.data.toList = [81]) := by
  rw [Bool.eq_iff_iff, Lib.toList_data]
  simp
set_option maxHeartbeats 1000000 in
theorem most_any (w : World) (a : Option Addr) (cap : Nat) (xs : List Sy) (he : Elts w a xs) (hz : xs.length ≤ 1000000) :
    Calls Tryz.prog 32 #[.slice a xs.length cap] w fun e w' => e = .returned (.int .i64 (great 81 xs)) ∧ Below w.heap.size w w' := by
  have Hel := Lib.hid he
  clear he
  go_enter Tryz.func32, Tryz.ntmps32
  go_wp2_with fail
  go_loopw [3, 4] (fun n i wr => ∃ k : Nat, k ≤ xs.length ∧ n = .int .i64 (great 81 (xs.take k)) ∧ i = .int .i64 k ∧ Below w.heap.size w wr) (fun _ i _ => xs.length - (intOf i).toNat)
  case atStart => exact ⟨0, Nat.zero_le _, rfl, rfl, Below.refl _ _⟩
  case round =>
    obtain ⟨k, hk, rfl, rfl, hbw⟩ := hrel
    by_cases hlt : k < xs.length
    · obtain ⟨bb, off, rfl, hcell⟩ := Hel.out.at hlt
      obtain ⟨c0, c1, c2⟩ := hcell wr hbw
      have hnext := great_succ 81 xs hlt
      obtain ⟨x, hx⟩ : ∃ x, x = xs[k] := ⟨_, rfl⟩
      rw [← hx] at c0 c1 c2 hnext
      have HN := Lib.hid hnext
      have hki : (k : Int) < (xs.length : Int) := by omega
      clear hnext hx hcell
      generalize great 81 (xs.take k) = g at HN ⊢
      by_cases k1 : x.k = 1
      · have b1 : (x.k == 1) = true := by simp [k1]
        by_cases ht : x.t.data.toList = [81]
        · have b2 : (x.t.toList == [81]) = true := by rw [q_list]; simp [ht]
          have HQ : Hid (great 81 (xs.take (k + 1)) = max g x.n) := Lib.hid (by rw [HN.out]; unfold stepG isL; rw [if_pos (by simp [k1, ht])])
          clear k1 ht HN
          go_wp2_with fail
          go_roundw
          case rel => exact ⟨k + 1, by omega, by rw [HQ.out], by go_num, hbw⟩
          case measure => simp [intOf]; omega
        · have b2 : (x.t.toList == [81]) = false := by rw [q_list]; simp [ht]
          have HQ : Hid (great 81 (xs.take (k + 1)) = g) := Lib.hid (by rw [HN.out]; unfold stepG isL; rw [if_neg (by simp [ht])])
          clear k1 ht HN
          go_wp2_with fail
          go_roundw
          case rel => exact ⟨k + 1, by omega, by rw [HQ.out], by go_num, hbw⟩
          case measure => simp [intOf]; omega
      · have b1 : (x.k == 1) = false := by simp [k1]
        have HQ : Hid (great 81 (xs.take (k + 1)) = g) := Lib.hid (by rw [HN.out]; unfold stepG isL; rw [if_neg (by simp [k1])])
        clear k1 HN
        go_wp2_with fail
        go_roundw
        case rel => exact ⟨k + 1, by omega, by rw [HQ.out], by go_num, hbw⟩
        case measure => simp [intOf]; omega
    · obtain rfl : k = xs.length := by omega
      rw [List.take_length]
      go_wp2_with fail
      go_ret
      exact ⟨rfl, hbw⟩
end Go.Proofs.YtlledodigmkdjaaGreatDoor
