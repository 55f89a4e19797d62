/-
  The walk of the law LexNames. What the listed variables give is a premise.
-/
import Derived.Test.YtocdclcemebaeaaDoorLexHelp
namespace Go.Proofs.YtocdclcemebaeaaDoor
set_option linter.unusedVariables false
open Go.RowKit
/-- The first letters. -/
def lettersL (k : Nat) : List UInt8 := (List.range k).map fun i => UInt8.ofNat (97 + i % 26)
theorem letter_small (i : Nat) : smallB (UInt8.ofNat (97 + i % 26)) = true := by
  have h : (UInt8.ofNat (97 + i % 26)).toNat = 97 + i % 26 := by simp [UInt8.toNat_ofNat']; omega
  unfold smallB; rw [h]; simp; omega
theorem letters_small (k : Nat) : (lettersL k).all smallB = true := by
  rw [List.all_eq_true]
  intro c hc
  obtain ⟨i, -, rfl⟩ := List.mem_map.1 hc
  exact letter_small i
theorem letters_succ (k : Nat) : lettersL (k + 1) = lettersL k ++ [UInt8.ofNat (97 + k % 26)] := by simp [lettersL, List.range_succ]
theorem letters_len (k : Nat) : (lettersL k).length = k := by simp [lettersL]
set_option maxRecDepth 100000 in
set_option maxHeartbeats 8000000 in
theorem names_walk (w : World) (n0 kd : Int) (hn1 : -9223372036854775808 ≤ n0) (hn2 : n0 ≤ 9223372036854775807) (hk1 : -9223372036854775808 ≤ kd) (hk2 : kd ≤ 9223372036854775807) (hL : LexAt w) :
    Calls Tryd.prog 8 #[.int .i64 n0, .int .i64 kd] w fun e w' => e = .returned (.bool true) ∧ Below w.heap.size w w' := by
  have hw1 := fun w' => within_all w' n0 70 hn1 hn2 (by omega) (by omega)
  have hw2 := fun w' => within_all w' kd 3 hk1 hk2 (by omega) (by omega)
  have q1 := Int.emod_nonneg n0 (show (70 : Int) ≠ 0 by omega)
  have q2 := Int.emod_lt_of_pos n0 (show (0 : Int) < 70 by omega)
  have q3 := Int.emod_nonneg kd (show (3 : Int) ≠ 0 by omega)
  have q4 := Int.emod_lt_of_pos kd (show (0 : Int) < 3 by omega)
  obtain ⟨M, hM⟩ : ∃ M : Nat, n0 % 70 = M := ⟨(n0 % 70).toNat, by omega⟩
  obtain ⟨q, hq⟩ : ∃ q : Nat, kd % 3 = q := ⟨(kd % 3).toNat, by omega⟩
  have hw1 : ∀ w', Calls Tryd.prog 15 #[.int .i64 n0, .int .i64 70] w' fun e w2 => e = .returned (.int .i64 M) ∧ w' = w2 := fun w' => by have := hw1 w'; rwa [show ((70 : Nat) : Int) = 70 from rfl, hM] at this
  have hw2 : ∀ w', Calls Tryd.prog 15 #[.int .i64 kd, .int .i64 3] w' fun e w2 => e = .returned (.int .i64 q) ∧ w' = w2 := fun w' => by have := hw2 w'; rwa [show ((3 : Nat) : Int) = 3 from rfl, hq] at this
  have hM70 : M < 70 := by omega
  have hq3 : q < 3 := by omega
  obtain ⟨N, hN⟩ : ∃ N, N = M + 1 := ⟨_, rfl⟩
  have hsum : (1 : Int) + (M : Int) = (N : Int) := by omega
  have hN70 : N ≤ 70 := by omega
  have hN1 : 1 ≤ N := by omega
  have Hw1 := Lib.hid hw1
  have Hw2 := Lib.hid hw2
  have HL := Lib.hid hL
  clear hw1 hw2 q1 q2 q3 q4 hM hq hn1 hn2 hk1 hk2 hL hN hM70
  go_enter Tryd.func8, Tryd.ntmps8
  go_wp2_with (go_at_call 15; refine (Hw1.out _).mono ?_; rintro e w' ⟨rfl, rfl⟩)
  clear hsum
  go_loopw [5, 6] (fun s i wr => ∃ (k : Nat) (S : ByteArray), k ≤ N ∧ i = .int .i64 k ∧ s = .string S ∧ Hid (S.data.toList = lettersL k) ∧ Hid (Below w.heap.size w wr)) (fun _ i _ => N - (intOf i).toNat)
  case atStart => exact ⟨0, ⟨#[]⟩, Nat.zero_le _, rfl, rfl, Lib.hid rfl, Lib.hid (Below.refl _ _)⟩
  case round =>
    obtain ⟨k, S, hk, rfl, rfl, hS, hB⟩ := hrel
    have hSz : S.size = k := by rw [← str_size, hS.out, letters_len]
    by_cases hlt : k < N
    · obtain ⟨d, hd⟩ : ∃ d : UInt8, d = UInt8.ofNat (97 + k % 26) := ⟨_, rfl⟩
      have hd2 : d.toNat = 97 + k % 26 := by rw [hd]; simp [UInt8.toNat_ofNat']; omega
      have hcv := fun W => conv_one W (97 + (k : Int) % 26) d (by rw [hd2]; omega)
      have had := add_str S ⟨#[d]⟩ (by omega) (by have : (⟨#[d]⟩ : ByteArray).size = 1 := rfl; omega)
      have HS2 : Hid ((S ++ ⟨#[d]⟩).data.toList = lettersL (k + 1)) := Lib.hid (by rw [cat_data, hS.out, letters_succ, hd])
      clear hd hd2
      have hsz := hB.out.size
      have HBr := hB
      go_wp2_with fail
      go_roundw
      case rel => exact ⟨k + 1, _, by omega, by go_num, rfl, HS2, Lib.hid (by have := HBr.out; go_grown)⟩
      case measure => simp [intOf]; omega
    · obtain rfl : k = N := by omega
      have hLw := HL.out.mono hB.out
      have hwk := fun w' (h : Below wr.heap.size wr w') => lwakes_any w' (hLw.mono h)
      have Hwk := Lib.hid hwk
      have HLw := Lib.hid hLw
      have hSm : S.data.toList.all smallB = true := by rw [hS.out]; exact letters_small k
      have hSl : S.data.toList.length = k := by rw [hS.out, letters_len]
      have hSne : S.data.toList ≠ [] := by intro e; rw [e] at hSl; simp at hSl; omega
      have hq : q = 0 ∨ q = 1 ∨ q = 2 := by omega
      clear hwk hLw hS hlt hk
      rcases hq with rfl | rfl | rfl
      · have hlex := lex_word S.data.toList hSne hSm
        rw [hSl, str_self] at hlex
        have hall := lall_any S (by omega) wr HLw.out
        clear hSm hSl hSne hq3
        by_cases h32 : k ≤ 32
        · rw [hlex, if_pos h32] at hall
          have hd : decide (32 < k) = false := by simp; omega
          have Hall := Lib.hid hall
          clear hall hlex
          go_wp2_with (go_at_call 15; refine (Hw2.out _).mono ?_; rintro e w' ⟨rfl, rfl⟩)
          refine Hall.out.mono ?_
          rintro e w1 ⟨v, rfl, hown, -, hb⟩
          obtain ⟨g, cap, rfl, -, -, hc⟩ := owns_at hown (by simp)
          have c0 : w1.cell? ⟨g, 0, none⟩ = some _ := hc 0 (by simp) 0 _ rfl
          have c1 : w1.cell? ⟨g, 1, none⟩ = some _ := hc 0 (by simp) 1 _ rfl
          have HB := Lib.hid hb
          simp only [List.getElem_cons_zero] at c0 c1
          clear hown hc hb Hall
          go_wp2_with (go_at_call 9; refine (Hwk.out _ HB.out).mono ?_; rintro e w2 ⟨rfl, hb2⟩)
          go_ret
          exact ⟨rfl, hB.out.trans ((HB.out.trans (hb2.mono HB.out.size)).mono hB.out.size)⟩
        · rw [hlex, if_neg h32] at hall
          have hd : decide (32 < k) = true := by simp; omega
          have Hall := Lib.hid hall
          clear hall hlex
          go_wp2_with (go_at_call 15; refine (Hw2.out _).mono ?_; rintro e w' ⟨rfl, rfl⟩)
          refine Hall.out.mono ?_
          rintro e w1 ⟨v, rfl, hown, -, hb⟩
          obtain ⟨g, cap, rfl, -, -, hc⟩ := owns_at hown (by simp)
          have c0 : w1.cell? ⟨g, 0, none⟩ = some _ := hc 0 (by simp) 0 _ rfl
          have c1 : w1.cell? ⟨g, 1, none⟩ = some _ := hc 0 (by simp) 1 _ rfl
          have HB := Lib.hid hb
          simp only [List.getElem_cons_zero] at c0 c1
          clear hown hc hb Hall
          go_wp2_with (go_at_call 9; refine (Hwk.out _ HB.out).mono ?_; rintro e w2 ⟨rfl, hb2⟩)
          go_ret
          exact ⟨rfl, hB.out.trans ((HB.out.trans (hb2.mono HB.out.size)).mono hB.out.size)⟩
      · have hlex := lex_var S.data.toList hSne hSm
        have ha1 := add_str ⟨#[60]⟩ S (by decide) (by omega)
        have hz1 : ((⟨#[60]⟩ : ByteArray) ++ S).size = k + 1 := by rw [cat_size, hSz]; show 1 + k = _; omega
        have ha2 := add_str (⟨#[60]⟩ ++ S) ⟨#[62]⟩ (by omega) (by decide)
        obtain ⟨V, hV⟩ : ∃ V, V = (⟨#[60]⟩ : ByteArray) ++ S ++ ⟨#[62]⟩ := ⟨_, rfl⟩
        have hVl : V.data.toList = 60 :: (S.data.toList ++ [62]) := by rw [hV, cat_data, cat_data]; simp
        have hVz : V.size = k + 2 := by rw [hV, cat_size, hz1]; rfl
        rw [← hVl, hSl, str_self, str_self] at hlex
        rw [← hV] at ha2
        have hall := lall_any V (by omega) wr HLw.out
        clear hSm hSl hSne hq3 hVl hVz hV hz1
        by_cases h32 : k ≤ 32
        · rw [hlex, if_pos h32] at hall
          have hd : decide (32 < k) = false := by simp; omega
          have Hall := Lib.hid hall
          clear hall hlex
          go_wp2_with (go_at_call 15; refine (Hw2.out _).mono ?_; rintro e w' ⟨rfl, rfl⟩)
          refine Hall.out.mono ?_
          rintro e w1 ⟨v, rfl, hown, -, hb⟩
          obtain ⟨g, cap, rfl, -, -, hc⟩ := owns_at hown (by simp)
          have c0 : w1.cell? ⟨g, 0, none⟩ = some _ := hc 0 (by simp) 0 _ rfl
          have c1 : w1.cell? ⟨g, 1, none⟩ = some _ := hc 0 (by simp) 1 _ rfl
          have HB := Lib.hid hb
          simp only [List.getElem_cons_zero] at c0 c1
          clear hown hc hb Hall
          go_wp2_with (go_at_call 9; refine (Hwk.out _ HB.out).mono ?_; rintro e w2 ⟨rfl, hb2⟩)
          go_ret
          exact ⟨rfl, hB.out.trans ((HB.out.trans (hb2.mono HB.out.size)).mono hB.out.size)⟩
        · rw [hlex, if_neg h32] at hall
          have hd : decide (32 < k) = true := by simp; omega
          have Hall := Lib.hid hall
          clear hall hlex
          go_wp2_with (go_at_call 15; refine (Hw2.out _).mono ?_; rintro e w' ⟨rfl, rfl⟩)
          refine Hall.out.mono ?_
          rintro e w1 ⟨v, rfl, hown, -, hb⟩
          obtain ⟨g, cap, rfl, -, -, hc⟩ := owns_at hown (by simp)
          have c0 : w1.cell? ⟨g, 0, none⟩ = some _ := hc 0 (by simp) 0 _ rfl
          have c1 : w1.cell? ⟨g, 1, none⟩ = some _ := hc 0 (by simp) 1 _ rfl
          have HB := Lib.hid hb
          simp only [List.getElem_cons_zero] at c0 c1
          clear hown hc hb Hall
          go_wp2_with (go_at_call 9; refine (Hwk.out _ HB.out).mono ?_; rintro e w2 ⟨rfl, hb2⟩)
          go_ret
          exact ⟨rfl, hB.out.trans ((HB.out.trans (hb2.mono HB.out.size)).mono hB.out.size)⟩
      · clear hSm hSl hSne hq3
        go_wp2_with (go_at_call 15; refine (Hw2.out _).mono ?_; rintro e w' ⟨rfl, rfl⟩)
        go_loopw [9, 10] (fun s i wq => ∃ (m : Nat) (T : ByteArray), m ≤ k ∧ i = .int .i64 m ∧ s = .string T ∧ Hid (T.data.toList = List.replicate m 57) ∧ wq = wr) (fun _ i _ => k - (intOf i).toNat)
        case atStart => exact ⟨0, ⟨#[]⟩, Nat.zero_le _, rfl, rfl, Lib.hid rfl, rfl⟩
        case round =>
          obtain ⟨m, T, hm, rfl, rfl, hT, rfl⟩ := hrel
          have hTz : T.size = m := by rw [← str_size, hT.out, List.length_replicate]
          by_cases hml : m < k
          · have had := add_str T ⟨#[57]⟩ (by omega) (by decide)
            have HT2 : Hid ((T ++ ⟨#[57]⟩).data.toList = List.replicate (m + 1) 57) := Lib.hid (by rw [cat_data, hT.out, List.replicate_succ'])
            go_wp2_with fail
            go_roundw
            case rel => exact ⟨m + 1, _, by omega, by go_num, rfl, HT2, by first | rfl | trivial⟩
            case measure => simp [intOf]; omega
          · obtain rfl : m = k := by omega
            have hlex := lex_num m hN1
            have ha1 := add_str ⟨#[45]⟩ T (by decide) (by omega)
            obtain ⟨V, hV⟩ : ∃ V, V = (⟨#[45]⟩ : ByteArray) ++ T := ⟨_, rfl⟩
            have hVl : V.data.toList = 45 :: List.replicate m 57 := by rw [hV, cat_data, hT.out]; rfl
            have hVz : V.size = m + 1 := by rw [hV, cat_size, hTz]; show 1 + m = _; omega
            rw [← hVl, str_self] at hlex
            rw [← hV] at ha1
            have hall := lall_any V (by omega) wr HLw.out
            clear hT hVl hVz hV hml hm
            by_cases h9 : m ≤ 9
            · rw [hlex, if_pos h9] at hall
              have hd : decide (9 < m) = false := by simp; omega
              have Hall := Lib.hid hall
              clear hall hlex
              go_wp2_with fail
              refine Hall.out.mono ?_
              rintro e w1 ⟨v, rfl, hown, -, hb⟩
              obtain ⟨g, cap, rfl, -, -, hc⟩ := owns_at hown (by simp)
              have c0 : w1.cell? ⟨g, 0, none⟩ = some _ := hc 0 (by simp) 0 _ rfl
              have c1 : w1.cell? ⟨g, 1, none⟩ = some _ := hc 0 (by simp) 1 _ rfl
              have HB := Lib.hid hb
              simp only [List.getElem_cons_zero] at c0 c1
              clear hown hc hb Hall
              go_wp2_with (go_at_call 9; refine (Hwk.out _ HB.out).mono ?_; rintro e w2 ⟨rfl, hb2⟩)
              go_ret
              exact ⟨rfl, hB.out.trans ((HB.out.trans (hb2.mono HB.out.size)).mono hB.out.size)⟩
            · rw [hlex, if_neg h9] at hall
              have hd : decide (9 < m) = true := by simp; omega
              have Hall := Lib.hid hall
              clear hall hlex
              go_wp2_with fail
              refine Hall.out.mono ?_
              rintro e w1 ⟨v, rfl, hown, -, hb⟩
              obtain ⟨g, cap, rfl, -, -, hc⟩ := owns_at hown (by simp)
              have c0 : w1.cell? ⟨g, 0, none⟩ = some _ := hc 0 (by simp) 0 _ rfl
              have c1 : w1.cell? ⟨g, 1, none⟩ = some _ := hc 0 (by simp) 1 _ rfl
              have HB := Lib.hid hb
              simp only [List.getElem_cons_zero] at c0 c1
              clear hown hc hb Hall
              go_wp2_with (go_at_call 9; refine (Hwk.out _ HB.out).mono ?_; rintro e w2 ⟨rfl, hb2⟩)
              go_ret
              exact ⟨rfl, hB.out.trans ((HB.out.trans (hb2.mono HB.out.size)).mono hB.out.size)⟩
end Go.Proofs.YtocdclcemebaeaaDoor
