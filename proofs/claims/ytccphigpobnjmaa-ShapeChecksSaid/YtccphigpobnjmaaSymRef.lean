/-
  Walks over ponderref04: Part, Word, Valid, digits, Number, Text. No condition.
-/
import Derived.Test.YtccphigpobnjmaaSymV
namespace Go.Proofs.Ytccphigpobnjmaa
set_option linter.unusedVariables false
open Go.RowKit
set_option maxHeartbeats 1000000 in
theorem rpart_any (c : UInt8) (w : World) : Calls Try.prog 71 #[.int .u8 c.toNat] w fun e w' => e = .returned (.bool (partB c)) ∧ w = w' := by
  go_enter Try.func71, Try.ntmps71
  go_wp2
  all_goals
    go_ret
    refine ⟨ret_bool ?_, rfl⟩
    refine Bool.eq_iff_iff.2 ⟨fun h => ?_, fun h => ?_⟩ <;> simp only [partB, Bool.or_eq_true, decide_eq_true_eq, beq_iff_eq] at * <;> omega
theorem all_take_all {s : ByteArray} : s.data.toList.take s.size = s.data.toList := by
  rw [List.take_of_length_le (by simp)]
theorem take_snocB (s : ByteArray) (k : Nat) (h : k < s.size) : s.data.toList.take (k + 1) = s.data.toList.take k ++ [s[k]] := by
  rw [List.take_succ_eq_append_getElem (by simpa using h)]; rfl
theorem all_drop_false (s : ByteArray) (k : Nat) (h : k < s.size) (hp : partB s[k] = false) : s.data.toList.all partB = false := by
  rw [List.all_eq_false]
  exact ⟨s[k], by simp [ByteArray.getElem_eq_getElem_data], by simp [hp]⟩
set_option maxHeartbeats 1000000 in
theorem rword_any (s : ByteArray) (w : World) (hs : s.size ≤ 1000000) : Calls Try.prog 42 #[.string s] w fun e w' => e = .returned (.bool (wordB s.data.toList)) ∧ w = w' := by
  by_cases hz : s.size = 0
  · have hl := bytes_nil s hz
    have HL := Lib.hid hl
    have hz1 : decide ((s.size : Int) < 1) = true := by simp; omega
    clear hl hz
    go_enter Try.func42, Try.ntmps42
    go_wp2_with fail
    go_ret
    exact ⟨by rw [HL.out]; rfl, rfl⟩
  · have hpos : 0 < s.size := by omega
    have hl := bytes_cons s hpos
    have hlen : (s.data.toList.drop 1).length + 1 = s.size := by simp; omega
    have HL := Lib.hid hl
    have HN := Lib.hid hlen
    clear hl hlen hz
    by_cases h32 : 32 < s.size
    · go_enter Try.func42, Try.ntmps42
      go_wp2_with fail
      go_ret
      exact ⟨by rw [HL.out, wordB_cons, HN.out]; simp; omega, rfl⟩
    · by_cases hlo : s[0].toNat < 97
      · have HQ : Hid (wordB s.data.toList = false) := Lib.hid (by rw [HL.out]; exact word_small _ _ (by unfold smallB; simp; omega))
        go_enter Try.func42, Try.ntmps42
        go_wp2_with fail
        go_ret
        exact ⟨by rw [HQ.out]; rfl, rfl⟩
      · by_cases hhi : 122 < s[0].toNat
        · have HQ : Hid (wordB s.data.toList = false) := Lib.hid (by rw [HL.out]; exact word_small _ _ (by unfold smallB; simp; omega))
          go_enter Try.func42, Try.ntmps42
          go_wp2_with fail
          go_ret
          exact ⟨by rw [HQ.out]; rfl, rfl⟩
        · have HQ : Hid (wordB s.data.toList = s.data.toList.all partB) := Lib.hid (by
            rw [HL.out, wordB_cons, HN.out]
            have h1 : decide (s.size ≤ 32) = true := by simp; omega
            have h2 : decide (97 ≤ s[0].toNat ∧ s[0].toNat ≤ 122) = true := by simp; omega
            rw [h1, h2]; simp)
          have h32' : s.size ≤ 32 := by omega
          go_enter Try.func42, Try.ntmps42
          go_wp2_with fail
          go_loop [3] (fun i => ∃ k : Nat, k ≤ s.size ∧ i = .int .i64 k ∧ (s.data.toList.take k).all partB = true) (fun i => s.size - (intOf i).toNat)
          case atStart => exact ⟨0, Nat.zero_le _, rfl, rfl⟩
          case round =>
            obtain ⟨k, hk, rfl, hall⟩ := hrel
            have HA := Lib.hid hall
            clear hall
            by_cases hlt : k < s.size
            · cases hp : partB s[k] with
              | true =>
                go_wp2_with (go_at_call 71; refine (rpart_any _ _).mono ?_; rintro e w' ⟨rfl, rfl⟩; rw [hp])
                go_round
                case rel => exact ⟨k + 1, by omega, by go_num, by rw [take_snocB s k hlt, List.all_append, HA.out]; simp [hp]⟩
                case measure => simp [intOf]; omega
              | false =>
                have HF := Lib.hid (all_drop_false s k hlt hp)
                go_wp2_with (go_at_call 71; refine (rpart_any _ _).mono ?_; rintro e w' ⟨rfl, rfl⟩; rw [hp])
                go_ret
                exact ⟨by rw [HQ.out, HF.out]; rfl, rfl⟩
            · obtain rfl : k = s.size := by omega
              go_wp2_with fail
              go_ret
              exact ⟨by rw [HQ.out, ← all_take_all, HA.out]; rfl, rfl⟩
set_option maxHeartbeats 1000000 in
theorem rvalid_any (s : Sy) (w : World) (hs : s.t.size ≤ 1000000) : Calls Try.prog 105 #[.agg #[.int .i64 s.k, .string s.t, .int .i64 s.n]] w fun e w' => e = .returned (.bool (validY s)) ∧ Below w.heap.size w w' := by
  have hB : Below w.heap.size w (w.alloc (.cells #[.int .i64 s.k, .string s.t, .int .i64 s.n] 47)) := by go_grown
  by_cases k1 : s.k = 1
  · have b1 : (s.k == 1) = true := by simp [k1]
    have hv : validY s = (capsL s.t.data.toList && decide (1 ≤ s.n ∧ s.n ≤ 1048576)) := by unfold validY validL; rw [if_pos k1]
    have HV := Lib.hid hv
    clear hv k1
    by_cases h1 : s.t.size = 1
    · have hp : 0 < s.t.size := by omega
      have hc := caps_one s.t h1 hp
      have HC := Lib.hid hc
      clear hc
      have e1 : ((s.t.size : Int) == 1) = true := by simp [h1]
      clear h1
      have HQ : Hid (validY s = (decide (65 ≤ s.t[0].toNat ∧ s.t[0].toNat ≤ 90) && decide (1 ≤ s.n ∧ s.n ≤ 1048576))) := Lib.hid (by rw [HV.out, HC.out]; rfl)
      go_enter Try.func105, Try.ntmps105
      go_wp2_with fail
      all_goals
        go_ret
        refine ⟨?_, hB⟩
        rw [HQ.out]
        refine ret_bool (Bool.eq_iff_iff.2 ⟨fun h => ?_, fun h => ?_⟩) <;> simp only [Bool.and_eq_true, decide_eq_true_eq, Bool.false_eq_true] at * <;> omega
    · have HQ : Hid (validY s = false) := Lib.hid (by rw [HV.out, caps_not _ h1]; rfl)
      have e1 : ((s.t.size : Int) == 1) = false := by simp; omega
      clear h1
      go_enter Try.func105, Try.ntmps105
      go_wp2_with fail
      all_goals
        go_ret
        exact ⟨by rw [HQ.out]; rfl, hB⟩
  · by_cases k2 : s.k = 2
    · have b1 : (s.k == 1) = false := by simp [k2]
      have b2 : (s.k == 2) = true := by simp [k2]
      have hv : validY s = (decide (s.t.size = 0) && decide (-2147483647 ≤ s.n ∧ s.n ≤ 2147483647)) := by unfold validY validL; rw [if_neg k1, if_pos k2, empty_size]
      have HV := Lib.hid hv
      clear hv k1 k2
      by_cases hz : s.t.size = 0
      · have he : s.t.toList = [] := by rw [Lib.toList_data]; exact bytes_nil _ hz
        have he2 : s.t.toList.isEmpty = true := by rw [he]; rfl
        have HQ : Hid (validY s = decide (-2147483647 ≤ s.n ∧ s.n ≤ 2147483647)) := Lib.hid (by rw [HV.out]; simp [hz])
        clear hz
        go_enter Try.func105, Try.ntmps105
        go_wp2_with fail
        all_goals
          go_ret
          refine ⟨?_, hB⟩
          rw [HQ.out]
          refine ret_bool (Bool.eq_iff_iff.2 ⟨fun h => ?_, fun h => ?_⟩) <;> simp only [decide_eq_true_eq, Bool.false_eq_true] at * <;> omega
      · have he : ¬ s.t.toList = [] := by rw [Lib.toList_data, bytes_cons _ (by omega)]; simp
        have he2 : s.t.toList.isEmpty = false := by rw [Lib.toList_data, bytes_cons _ (by omega)]; rfl
        have HQ : Hid (validY s = false) := Lib.hid (by rw [HV.out]; simp [hz])
        clear hz
        go_enter Try.func105, Try.ntmps105
        go_wp2_with fail
        all_goals
          go_ret
          exact ⟨by rw [HQ.out]; rfl, hB⟩
    · have b1 : (s.k == 1) = false := by simp [k1]
      have b2 : (s.k == 2) = false := by simp [k2]
      by_cases k3 : s.k = 3
      · have b3 : (s.k == 3) = true := by simp [k3]
        have hv : validY s = (decide (s.n = 0) && wordB s.t.data.toList) := by unfold validY validL; rw [if_neg k1, if_neg k2, if_pos k3]
        have HV := Lib.hid hv
        clear hv k1 k2 k3
        have hw := fun w' => rword_any s.t w' hs
        have Hw := Lib.hid hw
        clear hw
        by_cases hn : s.n = 0
        · have bn : (s.n == 0) = true := by simp [hn]
          have HQ : Hid (validY s = wordB s.t.data.toList) := Lib.hid (by rw [HV.out]; simp [hn])
          clear hn
          go_enter Try.func105, Try.ntmps105
          go_wp2_with (go_at_call 42; refine (Hw.out _).mono ?_; rintro e w' ⟨rfl, rfl⟩)
          all_goals
            go_ret
            exact ⟨by rw [HQ.out]; rfl, hB⟩
        · have bn : (s.n == 0) = false := by simp [hn]
          have HQ : Hid (validY s = false) := Lib.hid (by rw [HV.out]; simp [hn])
          clear hn
          go_enter Try.func105, Try.ntmps105
          go_wp2_with fail
          all_goals
            go_ret
            exact ⟨by rw [HQ.out]; rfl, hB⟩
      · have b3 : (s.k == 3) = false := by simp [k3]
        have HQ : Hid (validY s = false) := Lib.hid (by unfold validY validL; rw [if_neg k1, if_neg k2, if_neg k3])
        clear k1 k2 k3
        go_enter Try.func105, Try.ntmps105
        go_wp2_with fail
        all_goals
          go_ret
          exact ⟨by rw [HQ.out]; rfl, hB⟩
end Go.Proofs.Ytccphigpobnjmaa
