/-
  The walk of the law LexPlaces. What the listed variables give is a premise.
-/
import Derived.Test.YtocdclcemebaeaaDoorLexHelp
import Derived.Deep.RegionHeld3
namespace Go.Proofs.YtocdclcemebaeaaDoor
set_option linter.unusedVariables false
open Go.RowKit
def textB (z : Sy) : ByteArray := ⟨(textT z).toArray⟩
theorem ltext_any (z : Sy) (w : World) (hz : z.t.size ≤ 999000) : Calls Tryd.prog 17 #[.agg #[.int .i64 z.k, .string z.t, .int .i64 z.n]] w fun e w' => e = .returned (.string (textB z)) ∧ Below w.heap.size w w' := by
  by_cases h3 : z.k = 3
  · have b3 : (z.k == 3) = true := by simp [h3]
    have ha1 := add_str ⟨#[60]⟩ z.t (by decide) (by omega)
    have ha2 := add_str (⟨#[60]⟩ ++ z.t) ⟨#[62]⟩ (by rw [cat_size]; show 1 + z.t.size ≤ 1000000; omega) (by decide)
    have HQ : Hid (textB z = (⟨#[60]⟩ : ByteArray) ++ z.t ++ ⟨#[62]⟩) := Lib.hid (by
      refine (str_list _ _ ?_).symm
      rw [cat_data, cat_data]; unfold textT; rw [if_pos h3]; simp)
    clear h3
    go_enter Tryd.func17, Tryd.ntmps17
    go_wp2_with fail
    go_ret
    exact ⟨by rw [HQ.out]; rfl, by go_grown⟩
  · have b3 : (z.k == 3) = false := by simp [h3]
    have HQ : Hid (textB z = z.t) := Lib.hid (by unfold textB textT; rw [if_neg h3, str_self])
    clear h3
    go_enter Tryd.func17, Tryd.ntmps17
    go_wp2_with fail
    go_ret
    exact ⟨by rw [HQ.out]; rfl, by go_grown⟩
theorem emp_hash {c : UInt8} (r : List UInt8) (h : c.toNat = 35) (he : emptyL false (c :: r) = true) : emptyL true (c :: r) = true := by
  have h1 : emptyL false (c :: r) = emptyL true r := by show (if c.toNat = 35 then _ else _) = _; rw [if_pos h]
  have hl : lineB c = true := by simp [lineB, h]
  show (if lineB c then emptyL true r else _) = true
  rw [if_pos hl, ← h1, he]
theorem emp_line {c : UInt8} (r : List UInt8) (h : ¬ c.toNat = 10) (he : emptyL true (c :: r) = true) : emptyL true r = true := by
  have hl : lineB c = true := by simp [lineB, h]
  have h1 : emptyL true (c :: r) = emptyL true r := by show (if lineB c then _ else _) = _; rw [if_pos hl]
  rw [← h1, he]
theorem emp_end {c : UInt8} (r : List UInt8) (h : c.toNat = 10) (he : emptyL true (c :: r) = true) : emptyL false r = true := by
  have hl : ¬ lineB c = true := by simp [lineB, h]
  have h1 : emptyL true (c :: r) = emptyL false r := by show (if lineB c then _ else emptyL false r) = _; rw [if_neg hl]
  rw [← h1, he]
theorem emp_blank {c : UInt8} (r : List UInt8) (h : ¬ c.toNat = 35) (he : emptyL false (c :: r) = true) : blankB c = true ∧ emptyL false r = true := by
  have h1 : emptyL false (c :: r) = if blankB c then emptyL false r else false := by show (if c.toNat = 35 then _ else _) = _; rw [if_neg h]
  rw [h1] at he
  cases hb : blankB c with
  | true => rw [hb] at he; exact ⟨rfl, he⟩
  | false => rw [hb] at he; cases he
set_option maxRecDepth 100000 in
set_option maxHeartbeats 4000000 in
theorem lempty_any (t : ByteArray) (w : World) (ht : t.size ≤ 1000000) (he : emptyL false t.data.toList = true) : Calls Tryd.prog 18 #[.string t] w fun e w' => e = .returned (.bool true) ∧ w = w' := by
  have HE := Lib.hid he
  clear he
  go_enter Tryd.func18, Tryd.ntmps18
  go_wp2_with fail
  go_loop [3] (fun i => ∃ k : Nat, k ≤ t.size + 1 ∧ i = .int .i64 k ∧ Hid (emptyL false (t.data.toList.drop k) = true)) (fun i => t.size + 1 - (intOf i).toNat)
  case atStart => exact ⟨0, Nat.zero_le _, rfl, Lib.hid (by rw [List.drop_zero]; exact HE.out)⟩
  case round =>
    obtain ⟨k, hk, rfl, hg⟩ := hrel
    by_cases hlt : k < t.size
    · have hd := drop_consB t k hlt
      have hg1 := hg.out
      rw [hd] at hg1
      have HD := Lib.hid hd
      clear hd
      have hki : (k : Int) < (t.size : Int) := by omega
      by_cases h35 : t[k].toNat = 35
      · have b35 : ((t[k].toNat : Int) == 35) = true := by simp; omega
        have HG := Lib.hid (emp_hash _ h35 hg1)
        clear h35 hg1
        go_wp2_with fail
        go_loop [3] (fun i => ∃ m : Nat, k ≤ m ∧ m ≤ t.size ∧ i = .int .i64 m ∧ Hid (emptyL true (t.data.toList.drop m) = true)) (fun i => t.size - (intOf i).toNat)
        case atStart => exact ⟨k, Nat.le_refl _, by omega, rfl, Lib.hid (by rw [HD.out]; exact HG.out)⟩
        case round =>
          obtain ⟨m, hm1, hm2, rfl, hm⟩ := hrel
          by_cases hml : m < t.size
          · have hd2 := drop_consB t m hml
            have hm3 := hm.out
            rw [hd2] at hm3
            have hmi : (m : Int) < (t.size : Int) := by omega
            by_cases h10 : t[m].toNat = 10
            · have b10 : ((t[m].toNat : Int) != 10) = false := by simp; omega
              have HN := Lib.hid (emp_end _ h10 hm3)
              clear h10 hm3 hd2
              go_wp2_with fail
              go_round
              case rel => exact ⟨m + 1, by omega, by go_num, HN⟩
              case measure => simp [intOf]; omega
            · have b10 : ((t[m].toNat : Int) != 10) = true := by simp; omega
              have HN := Lib.hid (emp_line _ h10 hm3)
              clear h10 hm3 hd2
              go_wp2_with fail
              go_round
              case rel => exact ⟨m + 1, by omega, by omega, by go_num, HN⟩
              case measure => simp [intOf]; omega
          · obtain rfl : m = t.size := by omega
            go_wp2_with fail
            go_round
            case rel => exact ⟨t.size + 1, by omega, by go_num, Lib.hid (by rw [List.drop_of_length_le (by simp)]; rfl)⟩
            case measure => simp [intOf]; omega
      · have b35 : ((t[k].toNat : Int) == 35) = false := by simp; omega
        obtain ⟨hb, hr⟩ := emp_blank _ h35 hg1
        have HG := Lib.hid hr
        unfold blankB at hb
        rw [decide_eq_true_eq] at hb
        clear h35 hg1 hr
        have HBl := Lib.hid hb
        clear hb
        go_wp2_with fail
        all_goals first
          | (exfalso; have hx := HBl.out; rename_i hh hw0; simp only [bne_iff_ne, ne_eq] at hh; omega)
          | skip
        all_goals
          go_round
          case rel => exact ⟨k + 1, by omega, by go_num, HG⟩
          case measure => simp [intOf]; omega
    · go_wp2_with fail
      go_ret
      exact ⟨rfl, rfl⟩
end Go.Proofs.YtocdclcemebaeaaDoor
