/-
  Walks over ponderref05: classes of bytes, skip, parts, sized. No condition but bounds on sizes.
-/
import Derived.Test.YtocdclcemebaeaaDoorLexHelp
namespace Go.Proofs.YtocdclcemebaeaaDoor
set_option linter.unusedVariables false
open Go.RowKit
theorem rblank_any (c : UInt8) (w : World) : Calls Tryd.prog 25 #[.int .u8 c.toNat] w fun e w' => e = .returned (.bool (blankB c)) ∧ w = w' := by
  go_enter Tryd.func25, Tryd.ntmps25
  go_wp2
  all_goals
    go_ret
    refine ⟨ret_bool ?_, rfl⟩
    refine Bool.eq_iff_iff.2 ⟨fun h => ?_, fun h => ?_⟩ <;> simp [blankB] at * <;> omega
theorem rsmall_any (c : UInt8) (w : World) : Calls Tryd.prog 26 #[.int .u8 c.toNat] w fun e w' => e = .returned (.bool (smallB c)) ∧ w = w' := by
  go_enter Tryd.func26, Tryd.ntmps26
  go_wp2
  all_goals
    go_ret
    refine ⟨ret_bool ?_, rfl⟩
    refine Bool.eq_iff_iff.2 ⟨fun h => ?_, fun h => ?_⟩ <;> simp [smallB] at * <;> omega
theorem rdig_any (c : UInt8) (w : World) : Calls Tryd.prog 29 #[.int .u8 c.toNat] w fun e w' => e = .returned (.bool (digB c)) ∧ w = w' := by
  go_enter Tryd.func29, Tryd.ntmps29
  go_wp2
  all_goals
    go_ret
    refine ⟨ret_bool ?_, rfl⟩
    refine Bool.eq_iff_iff.2 ⟨fun h => ?_, fun h => ?_⟩ <;> simp [digB] at * <;> omega
theorem rpart_any (c : UInt8) (w : World) : Calls Tryd.prog 39 #[.int .u8 c.toNat] w fun e w' => e = .returned (.bool (partB c)) ∧ w = w' := by
  go_enter Tryd.func39, Tryd.ntmps39
  go_wp2
  all_goals
    go_ret
    refine ⟨ret_bool ?_, rfl⟩
    refine Bool.eq_iff_iff.2 ⟨fun h => ?_, fun h => ?_⟩ <;> simp [partB] at * <;> omega

theorem gap_true_step {c : UInt8} (r : List UInt8) (h : ¬ c.toNat = 10) : gapL true (c :: r) = 1 + gapL true r := by
  have hl : lineB c = true := by simp [lineB, h]
  show (if lineB c then _ else _) = _; rw [hl]; rfl
theorem gap_true_end {c : UInt8} (r : List UInt8) (h : c.toNat = 10) : gapL true (c :: r) = gapL false (c :: r) := by
  have hl : lineB c = false := by simp [lineB, h]
  have hb : blankB c = true := by simp [blankB, h]
  rw [gap_blank r hb]
  show (if lineB c then _ else 1 + gapL false r) = _; rw [hl]; rfl
theorem gap_true_start {c : UInt8} (r : List UInt8) (h : c.toNat = 35) : gapL false (c :: r) = gapL true (c :: r) := by
  rw [gap_true_step r (by omega)]
  have hb : blankB c = false := by simp [blankB, h]
  show (if blankB c then _ else if c.toNat = 35 then 1 + gapL true r else 0) = _
  rw [hb, if_pos h]; rfl
set_option maxHeartbeats 2000000 in
theorem rskip_any (t : ByteArray) (w : World) (ht : t.size ≤ 1000000) (k : Nat) (hk : k ≤ t.size) (g : Nat) (hg : g = k + gapL false (t.data.toList.drop k)) : Calls Tryd.prog 19 #[.string t, .int .i64 k] w fun e w' => e = .returned (.int .i64 g) ∧ w = w' := by
  have HG := Lib.hid hg
  clear hg
  go_enter Tryd.func19, Tryd.ntmps19
  go_wp2_with fail
  go_loop [1] (fun i => ∃ m : Nat, m ≤ t.size ∧ i = .int .i64 m ∧ Hid (g = m + gapL false (t.data.toList.drop m))) (fun i => t.size - (intOf i).toNat)
  case atStart => exact ⟨k, hk, rfl, HG⟩
  case round =>
    obtain ⟨m, hm, rfl, hI⟩ := hrel
    by_cases hlt : m < t.size
    · have hd := drop_consB t m hlt
      have HD := Lib.hid hd
      clear hd
      have hmi : (m : Int) < (t.size : Int) := by omega
      cases hb : blankB t[m] with
      | true =>
        have HN : Hid (g = (m + 1 : Nat) + gapL false (t.data.toList.drop (m + 1))) := Lib.hid (by rw [hI.out, HD.out, gap_blank _ hb]; omega)
        go_wp2_with (go_at_call 25; refine (rblank_any _ _).mono ?_; rintro e w' ⟨rfl, rfl⟩; rw [hb])
        go_round
        case rel => exact ⟨m + 1, by omega, by go_num, HN⟩
        case measure => simp [intOf]; omega
      | false =>
        by_cases h35 : t[m].toNat = 35
        · have b35 : ((t[m].toNat : Int) == 35) = true := by simp; omega
          have HS : Hid (g = m + gapL true (t.data.toList.drop m)) := Lib.hid (by rw [hI.out, HD.out, gap_true_start _ h35])
          have H35 := Lib.hid h35
          clear h35
          go_wp2_with (go_at_call 25; refine (rblank_any _ _).mono ?_; rintro e w' ⟨rfl, rfl⟩; rw [hb])
          go_loop [1] (fun i => ∃ j : Nat, m ≤ j ∧ j ≤ t.size ∧ i = .int .i64 j ∧ Hid (g = j + gapL true (t.data.toList.drop j))) (fun i => t.size - (intOf i).toNat)
          case atStart => exact ⟨m, Nat.le_refl _, hm, rfl, HS⟩
          case round =>
            obtain ⟨j, hj1, hj2, rfl, hJ⟩ := hrel
            by_cases hjl : j < t.size
            · have hd2 := drop_consB t j hjl
              have hji : (j : Int) < (t.size : Int) := by omega
              by_cases h10 : t[j].toNat = 10
              · have b10 : ((t[j].toNat : Int) != 10) = false := by simp; omega
                have HN : Hid (g = j + gapL false (t.data.toList.drop j)) := Lib.hid (by rw [hJ.out, hd2, gap_true_end _ h10])
                have hne : m ≠ j := by
                  intro e
                  subst e
                  have := H35.out
                  omega
                clear h10 hd2
                go_wp2_with fail
                go_round
                case rel => exact ⟨j, by omega, rfl, HN⟩
                case measure => simp [intOf]; omega
              · have b10 : ((t[j].toNat : Int) != 10) = true := by simp; omega
                have HN : Hid (g = (j + 1 : Nat) + gapL true (t.data.toList.drop (j + 1))) := Lib.hid (by rw [hJ.out, hd2, gap_true_step _ h10]; omega)
                clear h10 hd2
                go_wp2_with fail
                go_round
                case rel => exact ⟨j + 1, by omega, by omega, by go_num, HN⟩
                case measure => simp [intOf]; omega
            · obtain rfl : j = t.size := by omega
              have HN : Hid (g = t.size + gapL false (t.data.toList.drop t.size)) := Lib.hid (by rw [hJ.out, List.drop_of_length_le (by simp)]; rfl)
              go_wp2_with fail
              go_round
              case rel => exact ⟨t.size, Nat.le_refl _, rfl, HN⟩
              case measure => simp [intOf]; omega
        · have b35 : ((t[m].toNat : Int) == 35) = false := by simp; omega
          have HN : Hid (g = m) := Lib.hid (by rw [hI.out, HD.out, gap_none _ hb h35]; rfl)
          clear h35
          go_wp2_with (go_at_call 25; refine (rblank_any _ _).mono ?_; rintro e w' ⟨rfl, rfl⟩; rw [hb])
          go_ret
          exact ⟨by rw [HN.out]; rfl, rfl⟩
    · obtain rfl : m = t.size := by omega
      have HN : Hid (g = t.size) := Lib.hid (by rw [hI.out, List.drop_of_length_le (by simp)]; rfl)
      go_wp2_with fail
      go_ret
      exact ⟨by rw [HN.out]; rfl, rfl⟩
set_option maxHeartbeats 2000000 in
theorem rparts_any (t : ByteArray) (w : World) (ht : t.size ≤ 1000000) (k : Nat) (hk : k ≤ t.size) (g : Nat) (hg : g = k + runL partB (t.data.toList.drop k)) : Calls Tryd.prog 27 #[.string t, .int .i64 k] w fun e w' => e = .returned (.int .i64 g) ∧ w = w' := by
  have HG := Lib.hid hg
  clear hg
  go_enter Tryd.func27, Tryd.ntmps27
  go_wp2_with fail
  go_loop [1] (fun i => ∃ m : Nat, m ≤ t.size ∧ i = .int .i64 m ∧ Hid (g = m + runL partB (t.data.toList.drop m))) (fun i => t.size - (intOf i).toNat)
  case atStart => exact ⟨k, hk, rfl, HG⟩
  case round =>
    obtain ⟨m, hm, rfl, hI⟩ := hrel
    by_cases hlt : m < t.size
    · have hd := runB_step partB t m hlt
      have HD := Lib.hid hd
      clear hd
      have hmi : (m : Int) < (t.size : Int) := by omega
      cases hb : partB t[m] with
      | true =>
        have HN : Hid (g = (m + 1 : Nat) + runL partB (t.data.toList.drop (m + 1))) := Lib.hid (by rw [hI.out, HD.out, hb]; simp; omega)
        go_wp2_with (go_at_call 39; refine (rpart_any _ _).mono ?_; rintro e w' ⟨rfl, rfl⟩; rw [hb])
        go_round
        case rel => exact ⟨m + 1, by omega, by go_num, HN⟩
        case measure => simp [intOf]; omega
      | false =>
        have HN : Hid (g = m) := Lib.hid (by rw [hI.out, HD.out, hb]; simp)
        go_wp2_with (go_at_call 39; refine (rpart_any _ _).mono ?_; rintro e w' ⟨rfl, rfl⟩; rw [hb])
        go_ret
        exact ⟨by rw [HN.out]; rfl, rfl⟩
    · obtain rfl : m = t.size := by omega
      have HN : Hid (g = t.size) := Lib.hid (by rw [hI.out, runB_end]; rfl)
      go_wp2_with fail
      go_ret
      exact ⟨by rw [HN.out]; rfl, rfl⟩
theorem rsized_any (k : Int) (p : ByteArray) (a n : Nat) (w : World) (hn : n ≤ 1000000) (z : Sy) (hz : z = if n ≤ 32 then ⟨k, p, a⟩ else ⟨6, p, a⟩) :
    Calls Tryd.prog 28 #[.int .i64 k, .string p, .int .i64 a, .int .i64 n] w fun e w' => e = .returned (.agg #[.int .i64 z.k, .string z.t, .int .i64 z.n]) ∧ Below w.heap.size w w' := by
  have hx : (w.alloc (.cells #[.int .i64 0, .string ⟨#[]⟩, .int .i64 0] 46)).heap[w.heap.size]? = some (.cells #[.int .i64 0, .string ⟨#[]⟩, .int .i64 0] 46 (0, 0)) := new_at rfl
  have HX := Lib.hid hx
  clear hx
  by_cases h : n ≤ 32
  · rw [if_pos h] at hz
    subst hz
    have hd : decide (32 < n) = false := by simp; omega
    go_enter Tryd.func28, Tryd.ntmps28
    go_wp2_with fail
    obtain ⟨s0, s1, s2⟩ := set3 (a := .int .i64 k) (b := .string p) (c := .int .i64 a) HX.out
    refine bodyPost_ret (by simp [results, Tryd.results28, go_sem]; rfl) rfl ?_
    exact ⟨rfl, by go_grown⟩
  · rw [if_neg h] at hz
    subst hz
    have hd : decide (32 < n) = true := by simp; omega
    go_enter Tryd.func28, Tryd.ntmps28
    go_wp2_with fail
    obtain ⟨s0, s1, s2⟩ := set3 (a := .int .i64 6) (b := .string p) (c := .int .i64 a) HX.out
    refine bodyPost_ret (by simp [results, Tryd.results28, go_sem]; rfl) rfl ?_
    exact ⟨rfl, by go_grown⟩
end Go.Proofs.YtocdclcemebaeaaDoor
