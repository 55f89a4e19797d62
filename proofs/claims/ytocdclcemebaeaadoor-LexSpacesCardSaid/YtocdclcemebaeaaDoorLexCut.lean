/-
  Walks over package lex: signs, blanks and remarks, one token. What the listed variables give is a premise.
-/
import Derived.Test.YtocdclcemebaeaaDoorLexSize
import Derived.Test.YtocdclcemebaeaaDoorLexMath
import Derived.Test.YtocdclcemebaeaaDoorSymNums
import Derived.Test.YtocdclcemebaeaaDoorKitTouch
import Derived.Deep.MidRow
namespace Go.Proofs.YtocdclcemebaeaaDoor
set_option linter.unusedVariables false
open Go.RowKit
/-- The j-th sign. -/
def sgn (j : Nat) : ByteArray := ⟨((signsL[j]?).getD []).toArray⟩
theorem sgn_list (j : Nat) (h : j < 20) : (sgn j).data.toList = signsL[j]'h := by
  unfold sgn
  rw [List.getElem?_eq_getElem h]; rfl
/-- The list of signs lies as the program laid it. -/
def SignsAt (w : World) : Prop := ∀ i, i < 20 → w.cell? ⟨0, i, none⟩ = some (.string (sgn i))
/-- What the listed variables give, in this world and all later ones. -/
structure LexAt (w : World) : Prop where
  signs : ∀ w', Below w.heap.size w w' → SignsAt w'
  itoa : ∀ n : Int, -2147483648 ≤ n → n ≤ 2147483648 → ItoaAt w n
  atoi : ∀ t : ByteArray, t.size ≤ 1000000 → AtoiAt w t
theorem LexAt.mono {w w1 : World} (h : LexAt w) (hb : Below w.heap.size w w1) : LexAt w1 := ⟨fun w' h' => h.signs w' (hb.trans (h'.mono hb.size)), fun n a b => (h.itoa n a b).mono hb, fun t ht => (h.atoi t ht).mono hb⟩
theorem sign_step (l : List UInt8) (k : Nat) (hk : k < 20) (hno : ∀ j, j < k → Lib.hasPrefix l (sgn j).data.toList = false) (hy : Lib.hasPrefix l (sgn k).data.toList = true) : signN l = (sgn k).size := by
  have e : signsL.find? (fun s => s.isPrefixOf l) = some (signsL[k]'hk) := by
    rw [List.find?_eq_some_iff_getElem]
    rw [sgn_list k hk] at hy
    exact ⟨hy, k, hk, rfl, fun j hj => by have h := hno j hj; have hj2 : j < 20 := Nat.lt_trans hj hk; rw [sgn_list j hj2] at h; show (!(signsL[j]'hj2).isPrefixOf l) = true; unfold Lib.hasPrefix at h; rw [h]; rfl⟩
  have hz : (sgn k).size = (signsL[k]'hk).length := by rw [← sgn_list k hk]; simp
  unfold signN; rw [e, hz]; rfl
theorem sign_none (l : List UInt8) (hno : ∀ j, j < 20 → Lib.hasPrefix l (sgn j).data.toList = false) : signN l = 0 := by
  have e : signsL.find? (fun s => s.isPrefixOf l) = none := by
    rw [List.find?_eq_none]
    intro s hs
    obtain ⟨j, hj, rfl⟩ := List.getElem_of_mem hs
    have h := hno j hj
    rw [sgn_list j hj] at h
    unfold Lib.hasPrefix at h
    rw [h]; decide
  unfold signN; rw [e]; rfl
theorem sgn_size (j : Nat) (h : j < 20) : (sgn j).size ≤ 3 := by
  have hz : (sgn j).size = (signsL[j]'h).length := by rw [← sgn_list j h]; simp
  rw [hz]
  have : ∀ s ∈ signsL, s.length ≤ 3 := by decide
  exact this _ (List.getElem_mem h)
theorem index_sgn (B : Array Value) (s : ByteArray) (k : Nat) (hk : k < 20) (h : B[k]? = some (.string s)) (w : World) : (Instr.index 63 (.agg B) (.int .i64 k)).run Tryd.prog w = .ok (.string s) w := by
  have e1 : (Tryd.prog.info? 9).map (·.size) = some 1 := by kernel_rfl
  unfold Instr.index
  have hk1 : (0 : Int) ≤ k ∧ (k : Int) < 20 := by omega
  cases hq : Tryd.prog.info? 9 with
  | none => rw [hq] at e1; cases e1
  | some i =>
    have hs : i.size = 1 := by rw [hq] at e1; simpa using e1
    simp [go_sem, hk1, hk, part, isAgg, sizeOf, typeInfo, hq, hs, h]
set_option maxRecDepth 100000 in
set_option maxHeartbeats 4000000 in
theorem lsign_any (t : ByteArray) (w : World) (ht : t.size ≤ 1000000) (hL : SignsAt w) : Calls Tryd.prog 37 #[.string t] w fun e w' => e = .returned (.int .i64 (signN t.data.toList)) ∧ w = w' := by
  have hstep := sign_step t.data.toList
  have hnone := sign_none t.data.toList
  have hz := sgn_size
  have hL : ∀ i, i < 20 → w.cell? ⟨0, i, none⟩ = some (.string (sgn i)) := hL
  generalize sgn = g at hstep hnone hz hL
  obtain ⟨A, hA⟩ : ∃ A : List Value, A = (List.range 20).map fun i => Value.string (g i) := ⟨_, rfl⟩
  have hAl : A.length = 20 := by rw [hA]; simp
  have hAk : ∀ k, k < 20 → A.toArray[k]? = some (.string (g k)) := fun k hk => by rw [hA]; simp [hk]
  have hr : w.rangeAt 0 0 A := fun j v hv => by
    have hj : j < 20 := by rw [← hAl]; exact (List.getElem?_eq_some_iff.1 hv).1
    have h := hAk j hj
    rw [List.getElem?_toArray, hv] at h
    rw [Nat.zero_add, hL j hj, h]
  have hi : (Tryd.prog.info? 63).map (·.size) = some A.length := by rw [hAl]; kernel_rfl
  have HS := Lib.hid hstep
  have HN := Lib.hid hnone
  have HZ := Lib.hid hz
  have HA := Lib.hid hAk
  have HR := Lib.hid hr
  have HI := Lib.hid hi
  clear hstep hnone hz hAk hA hL hr hi hAl
  go_enter Tryd.func37, Tryd.ntmps37
  go_wp2_with (refine wpList_load_mid rfl 63 _ rfl 0 0 rfl A _ HR.out Tryd.underlying63 rfl HI.out ?_)
  generalize A.toArray = B at HA ⊢
  go_loop [6] (fun i => ∃ k : Nat, k ≤ 20 ∧ i = .int .i64 k ∧ Hid (∀ j, j < k → Lib.hasPrefix t.data.toList (g j).data.toList = false)) (fun i => 20 - (intOf i).toNat)
  case atStart => exact ⟨0, Nat.zero_le _, rfl, Lib.hid (fun j hj => absurd hj (by omega))⟩
  case round =>
    obtain ⟨k, hk, rfl, hno⟩ := hrel
    by_cases hlt : k < 20
    · have hix := index_sgn B (g k) k hlt (HA.out k hlt)
      have hq := fun w' => hasP_any t (g k) w'
      cases hb : Lib.hasPrefix t.data.toList (g k).data.toList with
      | true =>
        have HQ := Lib.hid (HS.out k hlt hno.out hb)
        go_wp2_with (go_at_call 45; refine (hq _).mono ?_; rintro e w' ⟨rfl, rfl⟩; rw [hb])
        go_ret
        exact ⟨by rw [HQ.out]; rfl, rfl⟩
      | false =>
        have HN2 : Hid (∀ j, j < k + 1 → Lib.hasPrefix t.data.toList (g j).data.toList = false) := Lib.hid (fun j hj => by
          rcases Nat.lt_or_ge j k with h | h
          · exact hno.out j h
          · obtain rfl : j = k := by omega
            exact hb)
        go_wp2_with (go_at_call 45; refine (hq _).mono ?_; rintro e w' ⟨rfl, rfl⟩; rw [hb])
        go_round
        case rel => exact ⟨k + 1, by omega, by go_num, HN2⟩
        case measure => simp [intOf]; omega
    · obtain rfl : k = 20 := by omega
      have HQ := Lib.hid (HN.out hno.out)
      go_wp2_with fail
      go_ret
      exact ⟨by rw [HQ.out]; rfl, rfl⟩
/-! blanks and remarks -/
theorem drop_consB (t : ByteArray) (k : Nat) (h : k < t.size) : t.data.toList.drop k = t[k] :: t.data.toList.drop (k + 1) := by
  rw [List.drop_eq_getElem_cons (by simpa using h)]; rfl
set_option maxHeartbeats 2000000 in
theorem lgap_any (t : ByteArray) (w : World) (ht : t.size ≤ 1000000) : Calls Tryd.prog 22 #[.string t] w fun e w' => e = .returned (.int .i64 (gapL false t.data.toList)) ∧ w = w' := by
  go_enter Tryd.func22, Tryd.ntmps22
  go_wp2_with fail
  go_loop [3] (fun i => ∃ k : Nat, k ≤ t.size ∧ i = .int .i64 k ∧ Hid (gapL false t.data.toList = k + gapL false (t.data.toList.drop k))) (fun i => t.size - (intOf i).toNat)
  case atStart => exact ⟨0, Nat.zero_le _, rfl, Lib.hid (by simp)⟩
  case round =>
    obtain ⟨k, hk, rfl, hg⟩ := hrel
    by_cases hlt : k < t.size
    · have hd := drop_consB t k hlt
      have HD := Lib.hid hd
      clear hd
      have hki : (k : Int) < (t.size : Int) := by omega
      cases hb : blankB t[k] with
      | true =>
        have HG : Hid (gapL false t.data.toList = (k + 1 : Nat) + gapL false (t.data.toList.drop (k + 1))) := Lib.hid (by rw [hg.out, HD.out, gap_blank _ hb]; omega)
        go_wp2_with (go_at_call 31; refine (lblank_any _ _).mono ?_; rintro e w' ⟨rfl, rfl⟩; rw [hb])
        go_round
        case rel => exact ⟨k + 1, by omega, by go_num, HG⟩
        case measure => simp [intOf]; omega
      | false =>
        by_cases h35 : t[k].toNat = 35
        · have b35 : ((t[k].toNat : Int) == 35) = true := by simp; omega
          obtain ⟨r, hr⟩ : ∃ r, r = t.extract k t.size := ⟨_, rfl⟩
          have hrl : r.data.toList = t.data.toList.drop k := by rw [hr, Lib.extract_to_end]
          have hrs : r.size = t.size - k := by rw [hr]; simp
          have hrun := fun w' => run_line r w' (by omega)
          rw [hrl] at hrun
          have hgh := gap_hash (t.data.toList.drop (k + 1)) h35
          rw [← HD.out, List.drop_drop] at hgh
          obtain ⟨m, hm⟩ : ∃ m, m = runL lineB (t.data.toList.drop k) := ⟨_, rfl⟩
          have hml := runL_le lineB (t.data.toList.drop k)
          have hmp : 1 ≤ m := by rw [hm, HD.out, runL_cons_true _ (by simp [lineB, h35])]; omega
          rw [← hm] at hrun hgh hml
          rw [List.length_drop] at hml
          have hml2 : k + m ≤ t.size := by have : t.data.toList.length = t.size := (by simp); omega
          have HG : Hid (gapL false t.data.toList = (k + m : Nat) + gapL false (t.data.toList.drop (k + m))) := Lib.hid (by rw [hg.out, hgh]; omega)
          have Hrun := Lib.hid hrun
          have HR := Lib.hid hr
          clear hrun hgh hml hm hrl hrs hr h35
          go_wp2_with (first | (go_at_call 31; refine (lblank_any _ _).mono ?_; rintro e w' ⟨rfl, rfl⟩; rw [hb]) | (go_at_call 32; rw [← HR.out]; refine (Hrun.out _).mono ?_; rintro e w' ⟨rfl, rfl⟩))
          go_round
          case rel => exact ⟨k + m, by omega, by go_num, HG⟩
          case measure => simp [intOf]; omega
        · have b35 : ((t[k].toNat : Int) == 35) = false := by simp; omega
          have HG : Hid (gapL false t.data.toList = k) := Lib.hid (by rw [hg.out, HD.out, gap_none _ hb h35]; rfl)
          clear h35
          go_wp2_with (go_at_call 31; refine (lblank_any _ _).mono ?_; rintro e w' ⟨rfl, rfl⟩; rw [hb])
          go_ret
          exact ⟨by rw [HG.out]; rfl, rfl⟩
    · obtain rfl : k = t.size := by omega
      have HG : Hid (gapL false t.data.toList = t.size) := Lib.hid (by rw [hg.out, List.drop_of_length_le (by simp)]; rfl)
      go_wp2_with fail
      go_ret
      exact ⟨by rw [HG.out]; rfl, rfl⟩
/-! one piece -/
theorem pos_beq {n : Nat} (h : n ≠ 0) : decide (0 < n) = true := by simp; omega
theorem extract_nil (t : ByteArray) : t.extract 0 0 = ⟨#[]⟩ := by
  apply ByteArray.ext
  apply Array.toList_inj.mp
  rw [Lib.extract_data]; simp
def CutOutL (t : ByteArray) (k : Int) (n : Nat) (w : World) (e : Ending) (w' : World) : Prop := e = .returned (.tuple #[.int .i64 k, .string (t.extract 0 n)]) ∧ Below w.heap.size w w'
set_option maxHeartbeats 2000000 in
theorem lcut_any (t : ByteArray) (w : World) (ht : t.size ≤ 1000000) (hL : SignsAt w) (hL2 : ∀ w', Below w.heap.size w w' → SignsAt w') (k : Int) (n : Nat) (hk : k = (cutL t.data.toList).1) (hn : n = (cutL t.data.toList).2) : Calls Tryd.prog 23 #[.string t] w (CutOutL t k n w) := by
  have hw1 := fun w' => lword_any t w' ht
  have hw2 := fun w' => lnum_any t w' ht
  have hw3 := fun w' => lvar_any t w' ht
  have hw4 := fun w' (hb : Below w.heap.size w w') => lsign_any t w' ht (hL2 w' hb)
  have hlen : t.data.toList.length = t.size := by simp
  have hl1 := wordN_le t.data.toList
  have hl2 := numN_le t.data.toList
  have hl3 := varN_le t.data.toList
  have hl4 := signN_le t.data.toList
  rw [hlen] at hl1 hl2 hl3 hl4
  have hcut : t.size ≠ 0 → cutL t.data.toList = if wordN t.data.toList ≠ 0 then (1, wordN t.data.toList) else if numN t.data.toList ≠ 0 then (2, numN t.data.toList) else if varN t.data.toList ≠ 0 then (3, varN t.data.toList) else if signN t.data.toList ≠ 0 then (4, signN t.data.toList) else (6, 1) := by
    intro h
    unfold cutL
    rw [if_neg]
    intro e
    rw [e] at hlen; simp at hlen; omega
  generalize wordN t.data.toList = n1 at *
  generalize numN t.data.toList = n2 at *
  generalize varN t.data.toList = n3 at *
  generalize signN t.data.toList = n4 at *
  have hB0 : Below w.heap.size w w := Below.refl _ _
  have H1 := Lib.hid hw1
  have H2 := Lib.hid hw2
  have H3 := Lib.hid hw3
  have H4 := Lib.hid hw4
  clear hw1 hw2 hw3 hw4 hlen hL hL2
  unfold CutOutL
  by_cases hz : t.size = 0
  · have hl := bytes_nil t hz
    have he : t.toList = [] := by rw [Lib.toList_data]; exact hl
    have he2 : t.toList.isEmpty = true := by rw [he]; rfl
    rw [hl] at hk hn
    obtain rfl : k = 5 := hk
    obtain rfl : n = 0 := hn
    rw [extract_nil]
    clear hl hcut
    go_enter Tryd.func23, Tryd.ntmps23
    go_wp2_with fail
    go_ret2
    exact ⟨rfl, Below.refl _ _⟩
  · have hpos : 0 < t.size := by omega
    have hl := bytes_cons t hpos
    have he : ¬ t.toList = [] := by rw [Lib.toList_data, hl]; simp
    have he2 : t.toList.isEmpty = false := by rw [Lib.toList_data, hl]; rfl
    have hc := hcut hz
    clear hl hcut hz
    by_cases h1 : n1 = 0
    · subst h1
      rw [if_neg (by simp)] at hc
      by_cases h2 : n2 = 0
      · subst h2
        rw [if_neg (by simp)] at hc
        by_cases h3 : n3 = 0
        · subst h3
          rw [if_neg (by simp)] at hc
          by_cases h4 : n4 = 0
          · subst h4
            rw [if_neg (by simp)] at hc
            rw [hc] at hk hn
            simp only at hk hn
            subst hk; subst hn
            clear hc
            go_enter Tryd.func23, Tryd.ntmps23
            go_wp2_with (first | (go_at_call 34; refine (H1.out _).mono ?_; rintro e w' ⟨rfl, rfl⟩) | (go_at_call 35; refine (H2.out _).mono ?_; rintro e w' ⟨rfl, rfl⟩) | (go_at_call 36; refine (H3.out _).mono ?_; rintro e w' ⟨rfl, rfl⟩) | (go_at_call 37; refine (H4.out _ hB0).mono ?_; rintro e w' ⟨rfl, rfl⟩))
            go_quiet (fail)
            go_wp2_with fail
            go_ret2
            exact ⟨rfl, bdN _ (Below.refl _ _)⟩
          · rw [if_pos h4] at hc
            rw [hc] at hk hn
            simp only at hk hn
            subst hk; subst hn
            have hd4 := pos_beq h4
            clear hc h4
            go_enter Tryd.func23, Tryd.ntmps23
            go_wp2_with (first | (go_at_call 34; refine (H1.out _).mono ?_; rintro e w' ⟨rfl, rfl⟩) | (go_at_call 35; refine (H2.out _).mono ?_; rintro e w' ⟨rfl, rfl⟩) | (go_at_call 36; refine (H3.out _).mono ?_; rintro e w' ⟨rfl, rfl⟩) | (go_at_call 37; refine (H4.out _ hB0).mono ?_; rintro e w' ⟨rfl, rfl⟩))
            go_quiet (fail)
            go_wp2_with fail
            go_ret2
            exact ⟨rfl, bdN _ (Below.refl _ _)⟩
        · rw [if_pos h3] at hc
          rw [hc] at hk hn
          simp only at hk hn
          subst hk; subst hn
          have hd3 := pos_beq h3
          clear hc h3
          go_enter Tryd.func23, Tryd.ntmps23
          go_wp2_with (first | (go_at_call 34; refine (H1.out _).mono ?_; rintro e w' ⟨rfl, rfl⟩) | (go_at_call 35; refine (H2.out _).mono ?_; rintro e w' ⟨rfl, rfl⟩) | (go_at_call 36; refine (H3.out _).mono ?_; rintro e w' ⟨rfl, rfl⟩) | (go_at_call 37; refine (H4.out _ hB0).mono ?_; rintro e w' ⟨rfl, rfl⟩))
          go_quiet (fail)
          go_wp2_with fail
          go_ret2
          exact ⟨rfl, bdN _ (Below.refl _ _)⟩
      · rw [if_pos h2] at hc
        rw [hc] at hk hn
        simp only at hk hn
        subst hk; subst hn
        have hd2 := pos_beq h2
        clear hc h2
        go_enter Tryd.func23, Tryd.ntmps23
        go_wp2_with (first | (go_at_call 34; refine (H1.out _).mono ?_; rintro e w' ⟨rfl, rfl⟩) | (go_at_call 35; refine (H2.out _).mono ?_; rintro e w' ⟨rfl, rfl⟩) | (go_at_call 36; refine (H3.out _).mono ?_; rintro e w' ⟨rfl, rfl⟩) | (go_at_call 37; refine (H4.out _ hB0).mono ?_; rintro e w' ⟨rfl, rfl⟩))
        go_quiet (fail)
        go_wp2_with fail
        go_ret2
        exact ⟨rfl, bdN _ (Below.refl _ _)⟩
    · rw [if_pos h1] at hc
      rw [hc] at hk hn
      simp only at hk hn
      subst hk; subst hn
      have hd1 := pos_beq h1
      clear hc h1
      go_enter Tryd.func23, Tryd.ntmps23
      go_wp2_with (first | (go_at_call 34; refine (H1.out _).mono ?_; rintro e w' ⟨rfl, rfl⟩) | (go_at_call 35; refine (H2.out _).mono ?_; rintro e w' ⟨rfl, rfl⟩) | (go_at_call 36; refine (H3.out _).mono ?_; rintro e w' ⟨rfl, rfl⟩) | (go_at_call 37; refine (H4.out _ hB0).mono ?_; rintro e w' ⟨rfl, rfl⟩))
      go_quiet (fail)
      go_wp2_with fail
      go_ret2
      exact ⟨rfl, bdN _ (Below.refl _ _)⟩
end Go.Proofs.YtocdclcemebaeaaDoor
