/-
  Walks over ponderref04: Read, only, Parse. No condition.
-/
import Derived.Test.YtocdclcemebaeaaDoorSymRef0
import Derived.Test.YtocdclcemebaeaaDoorSymP
import Derived.Deep.Cut
namespace Go.Proofs.YtocdclcemebaeaaDoor
set_option linter.unusedVariables false
open Go.RowKit
theorem readL_nil : readL [] = none := by decide
theorem valL_take (r : ByteArray) (k : Nat) (h : k < r.size) : valL 0 (r.data.toList.take (k + 1)) = 10 * valL 0 (r.data.toList.take k) + (r[k].toNat - 48) := by
  rw [take_snocB r k h, valL_append]
theorem all_take (r : ByteArray) (k : Nat) (h : k < r.size) : (r.data.toList.take (k + 1)).all digB = ((r.data.toList.take k).all digB && digB r[k]) := by
  rw [take_snocB r k h, List.all_append]; simp
theorem all_dig_false (s : ByteArray) (k : Nat) (h : k < s.size) (hp : digB s[k] = false) : s.data.toList.all digB = false := by
  rw [List.all_eq_false]
  exact ⟨s[k], by simp [ByteArray.getElem_eq_getElem_data], by simp [hp]⟩
theorem readU_one (neg : Bool) (r : ByteArray) (h : r.size < 1 ∨ 10 < r.size) : readU neg r.data.toList = none := by
  unfold readU
  have hl : r.data.toList.length = r.size := by simp
  rw [if_pos (by rw [hl]; omega)]
theorem readU_zero (neg : Bool) (r : ByteArray) (h0 : 0 < r.size) (h : r[0].toNat = 48) (h2 : 1 < r.size ∨ neg = true) : readU neg r.data.toList = none := by
  unfold readU
  have hl : r.data.toList.length = r.size := by simp
  have hh : r.data.toList.head? = some 48 := by rw [bytes_cons r h0]; exact congrArg some (UInt8.toNat_inj.1 h)
  rw [if_pos (.inr (.inr ⟨hh, by rw [hl]; exact h2⟩))]
theorem readU_fine (neg : Bool) (r : ByteArray) (h0 : 0 < r.size) (h10 : r.size ≤ 10) (h : ¬ (r[0].toNat = 48 ∧ (1 < r.size ∨ neg = true))) : readU neg r.data.toList = if r.data.toList.all digB then some (if neg then -(valL 0 r.data.toList : Int) else valL 0 r.data.toList) else none := by
  unfold readU
  have hl : r.data.toList.length = r.size := by simp
  rw [if_neg]
  rw [hl]
  rintro (h1 | h1 | ⟨h1, h2⟩)
  · omega
  · omega
  · rw [bytes_cons r h0] at h1
    simp only [List.head?_cons, Option.some.injEq] at h1
    exact h ⟨by rw [h1]; rfl, h2⟩
def retO (o : Option Int) : Value := match o with
  | some n => .tuple #[.int .i64 n, .bool true]
  | none => .tuple #[.int .i64 0, .bool false]

set_option maxHeartbeats 4000000 in
theorem rread_any (t : ByteArray) (w : World) (ht : t.size ≤ 1000000) : Calls Tryd.prog 30 #[.string t] w fun e w' => e = .returned (retO (readL t.data.toList)) ∧ w = w' := by
  by_cases hm : ∃ h : 0 < t.size, t[0].toNat = 45
  · obtain ⟨hpos, h45⟩ := hm
    have b45 : ((t[0].toNat : Int) == 45) = true := by simp; omega
    obtain ⟨r, hr⟩ : ∃ r, r = t.extract 1 t.size := ⟨_, rfl⟩
    have HO : Hid (readL t.data.toList = readU true r.data.toList) := Lib.hid (by
      unfold readL
      rw [hr, ext_one, bytes_cons t hpos, List.head?_cons, if_pos (by exact congrArg some (UInt8.toNat_inj.1 h45))]
      rfl)
    have HR := Lib.hid hr
    clear h45 hr
    by_cases c1 : r.size < 1
    · have HQ : Hid (readU true r.data.toList = none) := Lib.hid (readU_one true r (.inl c1))
      go_enter Tryd.func30, Tryd.ntmps30
      go_upto_region 4 with (fail)
      rw [← HR.out]
      go_wp2_with fail
      go_ret2
      exact ⟨by rw [HO.out, HQ.out]; rfl, rfl⟩
    · by_cases c2 : 10 < r.size
      · have HQ : Hid (readU true r.data.toList = none) := Lib.hid (readU_one true r (.inr c2))
        go_enter Tryd.func30, Tryd.ntmps30
        go_upto_region 4 with (fail)
        rw [← HR.out]
        go_wp2_with fail
        go_ret2
        exact ⟨by rw [HO.out, HQ.out]; rfl, rfl⟩
      · have h0 : 0 < r.size := by omega
        have h10 : r.size ≤ 10 := by omega
        by_cases c3 : r[0].toNat = 48 ∧ (1 < r.size ∨ true = true)
        · obtain ⟨c3, c4⟩ := c3
          have HQ : Hid (readU true r.data.toList = none) := Lib.hid (readU_zero true r h0 c3 c4)
          have b3 : ((r[0].toNat : Int) == 48) = true := by simp; omega
          clear c4
          clear c3
          go_enter Tryd.func30, Tryd.ntmps30
          go_upto_region 4 with (fail)
          rw [← HR.out]
          go_wp2_with fail
          all_goals
            go_ret2
            exact ⟨by rw [HO.out, HQ.out]; rfl, rfl⟩
        · have HQ := Lib.hid (readU_fine true r h0 h10 c3)
          by_cases c5 : r[0].toNat = 48
          · have b3 : ((r[0].toNat : Int) == 48) = true := by simp; omega
            exact absurd ⟨c5, .inr rfl⟩ c3
          · have b3 : ((r[0].toNat : Int) == 48) = false := by simp; omega
            clear c3 c5
            go_enter Tryd.func30, Tryd.ntmps30
            go_upto_region 4 with (fail)
            rw [← HR.out]
            go_wp2_with fail
            go_loop [5, 6] (fun n i => ∃ k : Nat, k ≤ r.size ∧ i = .int .i64 k ∧ n = .int .i64 (valL 0 (r.data.toList.take k)) ∧ (r.data.toList.take k).all digB = true) (fun _ i => r.size - (intOf i).toNat)
            case atStart => exact ⟨0, Nat.zero_le _, rfl, rfl, rfl⟩
            case round =>
              obtain ⟨k, hk, rfl, rfl, hall⟩ := hrel
              have hbd : valL 0 (r.data.toList.take k) < 10000000000 := by
                have h1 := valL_lt (r.data.toList.take k) 0 hall
                have h2 : (r.data.toList.take k).length ≤ 10 := by simp; omega
                have h3 : 10 ^ (r.data.toList.take k).length ≤ 10 ^ 10 := Nat.pow_le_pow_right (by omega) h2
                have h4 : 10 ^ 10 = 10000000000 := by decide
                rw [h4] at h3
                omega
              have HA := Lib.hid hall
              clear hall
              by_cases hlt : k < r.size
              · have HT := Lib.hid (valL_take r k hlt)
                have HAT := Lib.hid (all_take r k hlt)
                cases hd : digB r[k] with
                | true =>
                  have hd2 : 48 ≤ r[k].toNat ∧ r[k].toNat ≤ 57 := by simpa [digB] using hd
                  obtain ⟨e1, e2⟩ := hd2
                  generalize hV : valL 0 (r.data.toList.take k) = V at hbd HT
                  have HV := Lib.hid hV
                  clear hV hd
                  go_wp2_with fail
                  go_round
                  case rel => exact ⟨k + 1, by omega, by go_num, by rw [HT.out]; go_num, by rw [HAT.out, HA.out]; simp [digB]; omega⟩
                  case measure => simp [intOf]; omega
                | false =>
                  have HF := Lib.hid (all_dig_false r k hlt hd)
                  have hd2 : r[k].toNat < 48 ∨ 57 < r[k].toNat := by
                    have : ¬ (48 ≤ r[k].toNat ∧ r[k].toNat ≤ 57) := by intro h; simp [digB] at hd; omega
                    omega
                  clear hd
                  rcases hd2 with hd2 | hd2
                  all_goals
                    go_wp2_with fail
                    go_ret2
                    exact ⟨by rw [HO.out, HQ.out, HF.out]; rfl, rfl⟩
              · obtain rfl : k = r.size := by omega
                have hA := HA.out
                rw [all_take_all] at hA hbd
                obtain ⟨V, hV⟩ : ∃ V, V = valL 0 r.data.toList := ⟨_, rfl⟩
                rw [← hV] at hbd
                have HV := Lib.hid hV
                have HAll := Lib.hid hA
                have htk := all_take_all (s := r)
                rw [htk, ← hV]
                clear hV hA HA htk
                go_wp2_with fail
                go_ret2
                refine ⟨?_, rfl⟩
                rw [HO.out, HQ.out, if_pos HAll.out, ← HV.out]
                rfl
  · have HO : Hid (readL t.data.toList = readU false t.data.toList) := Lib.hid (by
      unfold readL
      rw [if_neg]
      intro h
      by_cases hp : 0 < t.size
      · rw [bytes_cons t hp, List.head?_cons, Option.some.injEq] at h
        exact hm ⟨hp, by rw [h]; rfl⟩
      · rw [bytes_nil t (by omega)] at h; cases h)
    have h45 : 0 < t.size → ∀ h : 0 < t.size, ((t[0].toNat : Int) == 45) = false := by
      intro _ hp
      have : ¬ t[0].toNat = 45 := fun e => hm ⟨hp, e⟩
      simp; omega
    clear hm
    obtain ⟨r, rfl⟩ : ∃ r, r = t := ⟨_, rfl⟩
    by_cases c1 : r.size < 1
    · have HQ : Hid (readU false r.data.toList = none) := Lib.hid (readU_one false r (.inl c1))
      go_enter Tryd.func30, Tryd.ntmps30
      go_wp2_with fail
      go_ret2
      exact ⟨by rw [HO.out, HQ.out]; rfl, rfl⟩
    · by_cases c2 : 10 < r.size
      · have HQ : Hid (readU false r.data.toList = none) := Lib.hid (readU_one false r (.inr c2))
        go_enter Tryd.func30, Tryd.ntmps30
        go_wp2_with fail
        go_ret2
        exact ⟨by rw [HO.out, HQ.out]; rfl, rfl⟩
      · have h0 : 0 < r.size := by omega
        have h10 : r.size ≤ 10 := by omega
        by_cases c3 : r[0].toNat = 48 ∧ (1 < r.size ∨ false = true)
        · obtain ⟨c3, c4⟩ := c3
          have HQ : Hid (readU false r.data.toList = none) := Lib.hid (readU_zero false r h0 c3 c4)
          have b3 : ((r[0].toNat : Int) == 48) = true := by simp; omega
          have c4 : 1 < r.size := by simpa using c4
          clear c3
          go_enter Tryd.func30, Tryd.ntmps30
          go_wp2_with fail
          all_goals
            go_ret2
            exact ⟨by rw [HO.out, HQ.out]; rfl, rfl⟩
        · have HQ := Lib.hid (readU_fine false r h0 h10 c3)
          by_cases c5 : r[0].toNat = 48
          · have b3 : ((r[0].toNat : Int) == 48) = true := by simp; omega
            have c6 : ¬ 1 < r.size := fun h => c3 ⟨c5, .inl h⟩
            clear c3 c5
            go_enter Tryd.func30, Tryd.ntmps30
            go_wp2_with fail
            go_loop [5, 6] (fun n i => ∃ k : Nat, k ≤ r.size ∧ i = .int .i64 k ∧ n = .int .i64 (valL 0 (r.data.toList.take k)) ∧ (r.data.toList.take k).all digB = true) (fun _ i => r.size - (intOf i).toNat)
            case atStart => exact ⟨0, Nat.zero_le _, rfl, rfl, rfl⟩
            case round =>
              obtain ⟨k, hk, rfl, rfl, hall⟩ := hrel
              have hbd : valL 0 (r.data.toList.take k) < 10000000000 := by
                have h1 := valL_lt (r.data.toList.take k) 0 hall
                have h2 : (r.data.toList.take k).length ≤ 10 := by simp; omega
                have h3 : 10 ^ (r.data.toList.take k).length ≤ 10 ^ 10 := Nat.pow_le_pow_right (by omega) h2
                have h4 : 10 ^ 10 = 10000000000 := by decide
                rw [h4] at h3
                omega
              have HA := Lib.hid hall
              clear hall
              by_cases hlt : k < r.size
              · have HT := Lib.hid (valL_take r k hlt)
                have HAT := Lib.hid (all_take r k hlt)
                cases hd : digB r[k] with
                | true =>
                  have hd2 : 48 ≤ r[k].toNat ∧ r[k].toNat ≤ 57 := by simpa [digB] using hd
                  obtain ⟨e1, e2⟩ := hd2
                  generalize hV : valL 0 (r.data.toList.take k) = V at hbd HT
                  have HV := Lib.hid hV
                  clear hV hd
                  go_wp2_with fail
                  go_round
                  case rel => exact ⟨k + 1, by omega, by go_num, by rw [HT.out]; go_num, by rw [HAT.out, HA.out]; simp [digB]; omega⟩
                  case measure => simp [intOf]; omega
                | false =>
                  have HF := Lib.hid (all_dig_false r k hlt hd)
                  have hd2 : r[k].toNat < 48 ∨ 57 < r[k].toNat := by
                    have : ¬ (48 ≤ r[k].toNat ∧ r[k].toNat ≤ 57) := by intro h; simp [digB] at hd; omega
                    omega
                  clear hd
                  rcases hd2 with hd2 | hd2
                  all_goals
                    go_wp2_with fail
                    go_ret2
                    exact ⟨by rw [HO.out, HQ.out, HF.out]; rfl, rfl⟩
              · obtain rfl : k = r.size := by omega
                have hA := HA.out
                rw [all_take_all] at hA hbd
                obtain ⟨V, hV⟩ : ∃ V, V = valL 0 r.data.toList := ⟨_, rfl⟩
                rw [← hV] at hbd
                have HV := Lib.hid hV
                have HAll := Lib.hid hA
                have htk := all_take_all (s := r)
                rw [htk, ← hV]
                clear hV hA HA htk
                go_wp2_with fail
                go_ret2
                refine ⟨?_, rfl⟩
                rw [HO.out, HQ.out, if_pos HAll.out, ← HV.out]
                rfl
          · have b3 : ((r[0].toNat : Int) == 48) = false := by simp; omega
            clear c3 c5
            go_enter Tryd.func30, Tryd.ntmps30
            go_wp2_with fail
            go_loop [5, 6] (fun n i => ∃ k : Nat, k ≤ r.size ∧ i = .int .i64 k ∧ n = .int .i64 (valL 0 (r.data.toList.take k)) ∧ (r.data.toList.take k).all digB = true) (fun _ i => r.size - (intOf i).toNat)
            case atStart => exact ⟨0, Nat.zero_le _, rfl, rfl, rfl⟩
            case round =>
              obtain ⟨k, hk, rfl, rfl, hall⟩ := hrel
              have hbd : valL 0 (r.data.toList.take k) < 10000000000 := by
                have h1 := valL_lt (r.data.toList.take k) 0 hall
                have h2 : (r.data.toList.take k).length ≤ 10 := by simp; omega
                have h3 : 10 ^ (r.data.toList.take k).length ≤ 10 ^ 10 := Nat.pow_le_pow_right (by omega) h2
                have h4 : 10 ^ 10 = 10000000000 := by decide
                rw [h4] at h3
                omega
              have HA := Lib.hid hall
              clear hall
              by_cases hlt : k < r.size
              · have HT := Lib.hid (valL_take r k hlt)
                have HAT := Lib.hid (all_take r k hlt)
                cases hd : digB r[k] with
                | true =>
                  have hd2 : 48 ≤ r[k].toNat ∧ r[k].toNat ≤ 57 := by simpa [digB] using hd
                  obtain ⟨e1, e2⟩ := hd2
                  generalize hV : valL 0 (r.data.toList.take k) = V at hbd HT
                  have HV := Lib.hid hV
                  clear hV hd
                  go_wp2_with fail
                  go_round
                  case rel => exact ⟨k + 1, by omega, by go_num, by rw [HT.out]; go_num, by rw [HAT.out, HA.out]; simp [digB]; omega⟩
                  case measure => simp [intOf]; omega
                | false =>
                  have HF := Lib.hid (all_dig_false r k hlt hd)
                  have hd2 : r[k].toNat < 48 ∨ 57 < r[k].toNat := by
                    have : ¬ (48 ≤ r[k].toNat ∧ r[k].toNat ≤ 57) := by intro h; simp [digB] at hd; omega
                    omega
                  clear hd
                  rcases hd2 with hd2 | hd2
                  all_goals
                    go_wp2_with fail
                    go_ret2
                    exact ⟨by rw [HO.out, HQ.out, HF.out]; rfl, rfl⟩
              · obtain rfl : k = r.size := by omega
                have hA := HA.out
                rw [all_take_all] at hA hbd
                obtain ⟨V, hV⟩ : ∃ V, V = valL 0 r.data.toList := ⟨_, rfl⟩
                rw [← hV] at hbd
                have HV := Lib.hid hV
                have HAll := Lib.hid hA
                have htk := all_take_all (s := r)
                rw [htk, ← hV]
                clear hV hA HA htk
                go_wp2_with fail
                go_ret2
                refine ⟨?_, rfl⟩
                rw [HO.out, HQ.out, if_pos HAll.out, ← HV.out]
                rfl
end Go.Proofs.YtocdclcemebaeaaDoor
