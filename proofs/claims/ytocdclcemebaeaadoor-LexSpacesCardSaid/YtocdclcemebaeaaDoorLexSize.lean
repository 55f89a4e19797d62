/-
  Walks over package lex: prefixes, sizes of words, numbers, variables. No condition but bounds on sizes.
-/
import Derived.Test.YtocdclcemebaeaaDoorLexLeaf
namespace Go.Proofs.YtocdclcemebaeaaDoor
set_option linter.unusedVariables false
open Go.RowKit
theorem hasP_lite (s p : ByteArray) (w : World) : Calls Tryd.prog 50 #[.string s, .string p] w fun e w' => e = .returned (.bool (Lib.hasPrefix s.data.toList p.data.toList)) ∧ w' = w := by
  rw [← Lib.hasPrefix_of_take, ← Lib.size_eq, ← Lib.size_eq]
  go_enter Tryd.func50, Tryd.ntmps50
  go_wp2
  · rename_i h
    go_ret
    refine ⟨?_, rfl⟩
    show Ending.returned (Value.bool ((s.extract 0 p.size).toList == p.toList)) = _
    rw [Lib.extract_toList, Lib.toList_data]
    simp [h]
  · rename_i h
    go_ret
    refine ⟨?_, rfl⟩
    show Ending.returned (Value.bool false) = _
    simp [h]
theorem hasP_any (s p : ByteArray) (w : World) : Calls Tryd.prog 45 #[.string s, .string p] w fun e w' => e = .returned (.bool (Lib.hasPrefix s.data.toList p.data.toList)) ∧ w' = w := by
  go_enter Tryd.func45, Tryd.ntmps45
  go_wp2_with (go_at_call 50; refine (hasP_lite _ _ _).mono ?_; rintro e w' ⟨rfl, rfl⟩)
  go_ret
  exact ⟨rfl, rfl⟩
theorem hasPrefix_size {s p : ByteArray} (h : Lib.hasPrefix s.data.toList p.data.toList = true) : p.size ≤ s.size := by
  have := isPrefixOf_le h
  simpa using this
/-- What is left behind a prefix. -/
def rests (s p : ByteArray) : ByteArray := if Lib.hasPrefix s.data.toList p.data.toList then s.extract p.size s.size else s
theorem trimP_lite (s p : ByteArray) (w : World) : Calls Tryd.prog 48 #[.string s, .string p] w fun e w' => e = .returned (.string (rests s p)) ∧ w' = w := by
  cases h : Lib.hasPrefix s.data.toList p.data.toList with
  | true =>
    have hz := hasPrefix_size h
    have HR : Hid (rests s p = s.extract p.size s.size) := Lib.hid (by unfold rests; rw [h]; rfl)
    go_enter Tryd.func48, Tryd.ntmps48
    go_wp2_with (go_at_call 50; refine (hasP_lite _ _ _).mono ?_; rintro e w' ⟨rfl, hw⟩; rw [hw, h])
    go_ret
    exact ⟨by rw [HR.out]; rfl, rfl⟩
  | false =>
    have HR : Hid (rests s p = s) := Lib.hid (by unfold rests; rw [h]; rfl)
    go_enter Tryd.func48, Tryd.ntmps48
    go_wp2_with (go_at_call 50; refine (hasP_lite _ _ _).mono ?_; rintro e w' ⟨rfl, hw⟩; rw [hw, h])
    go_ret
    exact ⟨by rw [HR.out]; rfl, rfl⟩
theorem trimP_any (s p : ByteArray) (w : World) : Calls Tryd.prog 42 #[.string s, .string p] w fun e w' => e = .returned (.string (rests s p)) ∧ w' = w := by
  go_enter Tryd.func42, Tryd.ntmps42
  go_wp2_with (go_at_call 48; refine (trimP_lite _ _ _).mono ?_; rintro e w' ⟨rfl, rfl⟩)
  go_ret
  exact ⟨rfl, rfl⟩
theorem cutP_lite (s p : ByteArray) (w : World) : Calls Tryd.prog 49 #[.string s, .string p] w fun e w' => e = .returned (.tuple #[.string (rests s p), .bool (Lib.hasPrefix s.data.toList p.data.toList)]) ∧ w' = w := by
  cases h : Lib.hasPrefix s.data.toList p.data.toList with
  | true =>
    have hz := hasPrefix_size h
    have HR : Hid (rests s p = s.extract p.size s.size) := Lib.hid (by unfold rests; rw [h]; rfl)
    go_enter Tryd.func49, Tryd.ntmps49
    go_wp2_with (go_at_call 50; refine (hasP_lite _ _ _).mono ?_; rintro e w' ⟨rfl, hw⟩; rw [hw, h])
    go_ret2
    exact ⟨by rw [HR.out]; rfl, rfl⟩
  | false =>
    have HR : Hid (rests s p = s) := Lib.hid (by unfold rests; rw [h]; rfl)
    go_enter Tryd.func49, Tryd.ntmps49
    go_wp2_with (go_at_call 50; refine (hasP_lite _ _ _).mono ?_; rintro e w' ⟨rfl, hw⟩; rw [hw, h])
    go_ret2
    exact ⟨by rw [HR.out]; rfl, rfl⟩
theorem cutP_any (s p : ByteArray) (w : World) : Calls Tryd.prog 44 #[.string s, .string p] w fun e w' => e = .returned (.tuple #[.string (rests s p), .bool (Lib.hasPrefix s.data.toList p.data.toList)]) ∧ w' = w := by
  go_enter Tryd.func44, Tryd.ntmps44
  go_wp2_with (go_at_call 49; refine (cutP_lite _ _ _).mono ?_; rintro e w' ⟨rfl, rfl⟩)
  go_ret2
  exact ⟨rfl, rfl⟩
theorem prefix_one (c : UInt8) : ∀ l : List UInt8, Lib.hasPrefix l [c] = decide (l.head? = some c)
  | [] => by simp [Lib.hasPrefix]
  | d :: l => by
    simp only [Lib.hasPrefix, List.isPrefixOf, List.head?_cons, Option.some.injEq, Bool.and_true]
    by_cases e : d = c
    · simp [e]
    · have e2 : ¬ c = d := fun h => e h.symm
      simp [e, e2]
theorem lword_any (t : ByteArray) (w : World) (ht : t.size ≤ 1000000) : Calls Tryd.prog 34 #[.string t] w fun e w' => e = .returned (.int .i64 (wordN t.data.toList)) ∧ w = w' := by
  have hrun := fun w' => run_part t w' ht
  have Hrun := Lib.hid hrun
  clear hrun
  by_cases hz : t.size = 0
  · have hl := bytes_nil t hz
    have he : t.toList = [] := by rw [Lib.toList_data]; exact hl
    have he2 : t.toList.isEmpty = true := by rw [he]; rfl
    have HR : Hid (wordN t.data.toList = 0) := Lib.hid (by rw [hl]; rfl)
    clear hl
    go_enter Tryd.func34, Tryd.ntmps34
    go_wp2_with fail
    go_ret
    exact ⟨by rw [HR.out]; rfl, rfl⟩
  · have hpos : 0 < t.size := by omega
    have hl := bytes_cons t hpos
    have he : ¬ t.toList = [] := by rw [Lib.toList_data, hl]; simp
    have he2 : t.toList.isEmpty = false := by rw [Lib.toList_data, hl]; rfl
    cases hsm : smallB t[0] with
    | false =>
      have HR : Hid (wordN t.data.toList = 0) := Lib.hid (by rw [hl]; show (if smallB t[0] then _ else 0) = 0; rw [hsm]; rfl)
      clear hl
      go_enter Tryd.func34, Tryd.ntmps34
      go_wp2_with (go_at_call 40; refine (lsmall_any _ _).mono ?_; rintro e w' ⟨rfl, rfl⟩; rw [hsm])
      go_ret
      exact ⟨by rw [HR.out]; rfl, rfl⟩
    | true =>
      have HR : Hid (wordN t.data.toList = runL partB t.data.toList) := Lib.hid (by rw [hl]; show (if smallB t[0] then _ else 0) = _; rw [hsm]; rfl)
      clear hl
      go_enter Tryd.func34, Tryd.ntmps34
      go_wp2_with (first | (go_at_call 40; refine (lsmall_any _ _).mono ?_; rintro e w' ⟨rfl, rfl⟩; rw [hsm]) | (go_at_call 32; refine (Hrun.out _).mono ?_; rintro e w' ⟨rfl, rfl⟩))
      go_ret
      exact ⟨by rw [HR.out]; rfl, rfl⟩
theorem lnum_any (t : ByteArray) (w : World) (ht : t.size ≤ 1000000) : Calls Tryd.prog 35 #[.string t] w fun e w' => e = .returned (.int .i64 (numN t.data.toList)) ∧ w = w' := by
  obtain ⟨r, hr⟩ : ∃ r, r = rests t ⟨#[45]⟩ := ⟨_, rfl⟩
  have hrs : r.size ≤ t.size ∧ numN t.data.toList = (if runL digB r.data.toList = 0 then 0 else t.size - r.size + runL digB r.data.toList) := by
    have hp : Lib.hasPrefix t.data.toList (⟨#[45]⟩ : ByteArray).data.toList = decide (t.data.toList.head? = some 45) := prefix_one 45 _
    unfold rests at hr
    rw [hp] at hr
    unfold numN
    by_cases h : t.data.toList.head? = some 45
    · simp only [h, decide_true, if_true] at hr ⊢
      have hz : 0 < t.size := by
        have := head_pos h
        simp at this; omega
      have h1 : (⟨#[45]⟩ : ByteArray).size = 1 := rfl
      rw [h1] at hr
      have h2 : r.data.toList = t.data.toList.tail := by rw [hr, ext_one, List.drop_one]
      have h3 : r.size + 1 = t.size := by
        have := congrArg List.length h2
        simp at this; omega
      rw [h2]
      refine ⟨by omega, ?_⟩
      split
      · rfl
      · omega
    · simp only [h, decide_false, if_false] at hr ⊢
      simp at hr
      subst hr
      refine ⟨Nat.le_refl _, ?_⟩
      split <;> omega
  obtain ⟨hrs, hnum⟩ := hrs
  obtain ⟨n, hn⟩ : ∃ n, n = runL digB r.data.toList := ⟨_, rfl⟩
  have htrim := fun w' => trimP_any t ⟨#[45]⟩ w'
  have hrun := fun w' => run_dig r w' (by omega)
  have hle : n ≤ 1000000 := by
    have := runL_le digB r.data.toList
    rw [← hn] at this
    have h2 : r.data.toList.length = r.size := by simp
    omega
  rw [← hr] at htrim
  rw [← hn] at hrun hnum
  have Htrim := Lib.hid htrim
  have Hrun := Lib.hid hrun
  have HN := Lib.hid hnum
  clear htrim hrun hnum hn hr
  by_cases h0 : n = 0
  · subst h0
    go_enter Tryd.func35, Tryd.ntmps35
    go_wp2_with (first | (go_at_call 42; refine (Htrim.out _).mono ?_; rintro e w' ⟨rfl, rfl⟩) | (go_at_call 32; refine (Hrun.out _).mono ?_; rintro e w' ⟨rfl, rfl⟩))
    go_ret
    exact ⟨by rw [HN.out]; rfl, rfl⟩
  · have hb : ((n : Int) == 0) = false := by simp; omega
    have HQ : Hid (((numN t.data.toList : Nat) : Int) = (t.size : Int) - (r.size : Int) + (n : Int)) := Lib.hid (by rw [HN.out, if_neg h0]; omega)
    clear h0
    go_enter Tryd.func35, Tryd.ntmps35
    go_wp2_with (first | (go_at_call 42; refine (Htrim.out _).mono ?_; rintro e w' ⟨rfl, rfl⟩) | (go_at_call 32; refine (Hrun.out _).mono ?_; rintro e w' ⟨rfl, rfl⟩))
    go_ret
    exact ⟨by rw [HQ.out]; rfl, rfl⟩
theorem lvar_any (t : ByteArray) (w : World) (ht : t.size ≤ 1000000) : Calls Tryd.prog 36 #[.string t] w fun e w' => e = .returned (.int .i64 (varN t.data.toList)) ∧ w = w' := by
  have hp : Lib.hasPrefix t.data.toList (⟨#[60]⟩ : ByteArray).data.toList = decide (t.data.toList.head? = some 60) := prefix_one 60 _
  obtain ⟨r, hr⟩ : ∃ r, r = rests t ⟨#[60]⟩ := ⟨_, rfl⟩
  have hcut := fun w' => cutP_any t ⟨#[60]⟩ w'
  rw [← hr, hp] at hcut
  by_cases h : t.data.toList.head? = some 60
  · simp only [h, decide_true] at hcut
    have hz : 0 < t.size := by
      have := head_pos h
      simp at this; omega
    have h1 : (⟨#[60]⟩ : ByteArray).size = 1 := rfl
    unfold rests at hr
    rw [hp] at hr
    simp only [h, decide_true, if_true, h1] at hr
    have h2 : r.data.toList = t.data.toList.drop 1 := by rw [hr, ext_one]
    have h3 : r.size + 1 = t.size := by
      have := congrArg List.length h2
      simp at this; omega
    have hv : varN t.data.toList = (if wordN r.data.toList = 0 then 0 else if (r.data.toList.drop (wordN r.data.toList)).head? = some 62 then wordN r.data.toList + 2 else 0) := by
      have hl := bytes_cons t hz
      rw [hl, List.head?_cons, Option.some.injEq] at h
      rw [hl, h2, h]; rfl
    obtain ⟨n, hn⟩ : ∃ n, n = wordN r.data.toList := ⟨_, rfl⟩
    have hle : n ≤ r.size := by
      have := wordN_le r.data.toList
      rw [← hn] at this
      have h2 : r.data.toList.length = r.size := by simp
      omega
    have hw := fun w' => lword_any r w' (by omega)
    have hq := fun w' => hasP_any (r.extract n r.size) ⟨#[62]⟩ w'
    have hq2 : Lib.hasPrefix (r.extract n r.size).data.toList (⟨#[62]⟩ : ByteArray).data.toList = decide ((r.data.toList.drop n).head? = some 62) := by
      rw [show (⟨#[62]⟩ : ByteArray).data.toList = [62] from rfl, prefix_one, Lib.extract_to_end]
    rw [hq2] at hq
    rw [← hn] at hw hv
    have Hcut := Lib.hid hcut
    have Hw := Lib.hid hw
    have Hq := Lib.hid hq
    have HV := Lib.hid hv
    clear hcut hw hq hv hq2 hn hr h2 hp h h1
    by_cases h0 : n = 0
    · subst h0
      go_enter Tryd.func36, Tryd.ntmps36
      go_wp2_with (first | (go_at_call 44; refine (Hcut.out _).mono ?_; rintro e w' ⟨rfl, rfl⟩) | (go_at_call 34; refine (Hw.out _).mono ?_; rintro e w' ⟨rfl, rfl⟩))
      go_ret
      exact ⟨by rw [HV.out]; rfl, rfl⟩
    · have hb : ((n : Int) == 0) = false := by simp; omega
      by_cases h6 : (r.data.toList.drop n).head? = some 62
      · have hq := Hq.out
        simp only [h6, decide_true] at hq
        have Hq2 := Lib.hid hq
        have HQ : Hid (varN t.data.toList = n + 2) := Lib.hid (by rw [HV.out, if_neg h0, if_pos h6])
        clear hq h6 h0
        go_enter Tryd.func36, Tryd.ntmps36
        go_wp2_with (first | (go_at_call 44; refine (Hcut.out _).mono ?_; rintro e w' ⟨rfl, rfl⟩) | (go_at_call 34; refine (Hw.out _).mono ?_; rintro e w' ⟨rfl, rfl⟩) | (go_at_call 45; refine (Hq2.out _).mono ?_; rintro e w' ⟨rfl, rfl⟩))
        go_ret
        refine ⟨ret_int ?_, rfl⟩
        rw [HQ.out]; omega
      · have hq := Hq.out
        simp only [h6, decide_false] at hq
        have Hq2 := Lib.hid hq
        have HQ : Hid (varN t.data.toList = 0) := Lib.hid (by rw [HV.out, if_neg h0, if_neg h6])
        clear hq h6 h0
        go_enter Tryd.func36, Tryd.ntmps36
        go_wp2_with (first | (go_at_call 44; refine (Hcut.out _).mono ?_; rintro e w' ⟨rfl, rfl⟩) | (go_at_call 34; refine (Hw.out _).mono ?_; rintro e w' ⟨rfl, rfl⟩) | (go_at_call 45; refine (Hq2.out _).mono ?_; rintro e w' ⟨rfl, rfl⟩))
        go_ret
        exact ⟨by rw [HQ.out]; rfl, rfl⟩
  · simp only [h, decide_false] at hcut
    have HV : Hid (varN t.data.toList = 0) := Lib.hid (by
      by_cases hz : t.size = 0
      · rw [bytes_nil t hz]; rfl
      · have hl := bytes_cons t (by omega)
        rw [hl, List.head?_cons, Option.some.injEq] at h
        rw [hl]
        show (if t[0].toNat = 60 then _ else 0) = 0
        rw [if_neg (show ¬ t[0].toNat = 60 from fun e => h (UInt8.toNat_inj.1 e))])
    have Hcut := Lib.hid hcut
    clear hcut hp hr h
    go_enter Tryd.func36, Tryd.ntmps36
    go_wp2_with (go_at_call 44; refine (Hcut.out _).mono ?_; rintro e w' ⟨rfl, rfl⟩)
    go_ret
    exact ⟨by rw [HV.out]; rfl, rfl⟩
end Go.Proofs.YtocdclcemebaeaaDoor
