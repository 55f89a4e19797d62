/-
  The walk of the law LexPlaces. What the listed variables give is a premise.
-/
import Derived.Test.YtocdclcemebaeaaDoorLexEmpty
namespace Go.Proofs.YtocdclcemebaeaaDoor
set_option linter.unusedVariables false
open Go.RowKit
theorem place_step (t : ByteArray) (k : Nat) (hk : k ≤ t.size) : ∃ (A sz : Nat) (z : Sy) (P G : ByteArray), k ≤ A ∧ A + sz ≤ t.size ∧ P.size = sz ∧ textB z = P ∧ t.extract A (A + sz) = P ∧ t.extract k A = G ∧ G.size ≤ t.size ∧ emptyL false G.data.toList = true ∧ z.n = A ∧ z.t.size ≤ t.size ∧
    lexFrom k (t.data.toList.drop k) = (if z.k = 5 ∨ z.k = 6 then [z] else z :: lexFrom (A + sz) (t.data.toList.drop (A + sz))) ∧ (z.k = 5 → P = ⟨#[]⟩) := by
  obtain ⟨A, sz, kd, r, r2, p, z, ha, hat, hr, hr2, hp, hgap, hrs, hr2s, hkd, hsz, hps, hasz, hz, h3, hlex, hpos⟩ := tok_step t k hk
  have hpl : p.data.toList = r2.data.toList.take sz := by rw [hp, Lib.extract_data, List.drop_zero, Nat.sub_zero]
  have hr2l : r2.data.toList = t.data.toList.drop A := by rw [hr2, Lib.extract_to_end]
  have hzt : z = tokL A r2.data.toList := by rw [hz, hkd]; unfold tokL; rw [hpl, hsz]
  have htx : textT z = p.data.toList := by rw [hzt, tok_text, hpl, hsz]
  have hGl : (t.extract k A).data.toList = (t.data.toList.drop k).take (gapL false (t.data.toList.drop k)) := by rw [Lib.extract_data, ha, Nat.add_sub_cancel_left]
  refine ⟨A, sz, z, p, t.extract k A, by omega, hasz, hps, ?_, ?_, rfl, by simp; omega, ?_, ?_, ?_, hlex, ?_⟩
  · unfold textB; rw [htx, str_self]
  · apply ByteArray.ext; apply Array.toList_inj.mp
    rw [Lib.extract_data, hpl, hr2l, Nat.add_sub_cancel_left]
  · rw [hGl]; exact empty_gap false _
  · rw [hz]; unfold holdL; split <;> rfl
  · have h1 := congrArg List.length htx
    rw [str_size, hps] at h1
    have h2 := str_size z.t
    unfold textT at h1
    split at h1
    · simp at h1; omega
    · rw [h2] at h1; omega
  · intro h5
    have hn : r2.data.toList = [] := by
      apply Decidable.byContradiction
      intro hne
      exact tok_five A _ hne (hzt ▸ h5)
    have : p.data.toList = [] := by rw [hpl, hn]; simp
    exact str_list p [] this
set_option maxRecDepth 100000 in
set_option maxHeartbeats 4000000 in
theorem places_walk (w : World) (s : ByteArray) (hs : s.size ≤ maxLen) (hL : LexAt w) : Calls Tryd.prog 6 #[.string s] w fun e w' => e = .returned (.bool true) ∧ Below w.heap.size w w' := by
  unfold maxLen at hs
  by_cases hlong : 3000 < s.size
  · go_enter Tryd.func6, Tryd.ntmps6
    go_wp2_with (go_at_call 9; refine (lwakes_any _ hL).mono ?_; rintro e w2 ⟨rfl, hb2⟩)
    go_ret
    exact ⟨rfl, hb2⟩
  · have hs2 : s.size ≤ 3000 := by omega
    have hall := lall_any s (by omega) w hL
    obtain ⟨xs, hxs⟩ : ∃ xs, xs = lexL s.data.toList := ⟨_, rfl⟩
    rw [← hxs] at hall
    have hne : xs ≠ [] := by rw [hxs, lexL_from]; exact lex_ne _ _
    have hlen : xs.length ≤ 3001 := by
      have h1 := lex_len _ 0 s.data.toList (Nat.le_refl _)
      rw [← lexL_from, ← hxs, str_size] at h1
      omega
    have hn0 : ((xs.length : Int) == 0) = false := by
      have : xs.length ≠ 0 := fun e => hne (List.eq_nil_of_length_eq_zero e)
      simp; omega
    have Hall := Lib.hid hall
    have HX := Lib.hid hxs
    have HL := Lib.hid hL
    have HN := Lib.hid hne
    clear hall hxs hL hne hs
    go_enter Tryd.func6, Tryd.ntmps6
    go_wp2_with fail
    refine Hall.out.mono ?_
    rintro e w1 ⟨v, rfl, hown, -, hb⟩
    obtain ⟨g, cap, rfl, -, hg, hc⟩ := owns_at hown HN.out
    have HB := Lib.hid hb
    have HC := Lib.hid hc
    clear hown hc hb Hall
    go_wp2_with fail
    go_loopw [4, 5] (fun a i wr => ∃ (k n : Nat), k ≤ s.size ∧ n ≤ xs.length ∧ a = .int .i64 k ∧ i = .int .i64 n ∧ Hid (xs.drop n = lexFrom k (s.data.toList.drop k) ∨ n = xs.length) ∧ Hid (Below w1.heap.size w1 wr)) (fun _ i _ => xs.length - (intOf i).toNat)
    case atStart => exact ⟨0, 0, Nat.zero_le _, Nat.zero_le _, rfl, rfl, Lib.hid (.inl (by rw [List.drop_zero, List.drop_zero, HX.out]; rfl)), Lib.hid (Below.refl _ _)⟩
    case round =>
      obtain ⟨k, n, hk, hn, rfl, rfl, hI, hBr⟩ := hrel
      by_cases hlt : n < xs.length
      · obtain ⟨A, sz, z, P, G, hkA, hAs, hP, hT, hE, hG, hGs, hem, hzn, hzs, hlex, h5p⟩ := place_step s k hk
        have hdr : xs.drop n = lexFrom k (s.data.toList.drop k) := by
          rcases hI.out with h | h
          · exact h
          · omega
        rw [hlex, List.drop_eq_getElem_cons hlt] at hdr
        have hz : xs[n] = z := by
          split at hdr <;> exact (List.cons.inj hdr).1
        obtain ⟨c0, c1, c2⟩ := (CellsAt.mono HC.out hg hBr.out).three hlt
        rw [hz] at c0 c1 c2
        rw [hzn] at c2
        simp only [Nat.zero_add] at c0 c1 c2
        have hcell := fun w' (h : Below wr.heap.size wr w') => (CellsAt.mono HC.out hg (hBr.out.trans (h.mono hBr.out.size))).three hlt
        rw [hz, hzn] at hcell
        simp only [Nat.zero_add] at hcell
        have HK := Lib.hid hcell
        have htx := fun w' => ltext_any z w' (by omega)
        rw [hT, hzn] at htx
        have hemp := fun w' => lempty_any G w' (by omega) hem
        subst hP
        have hs1 : ∀ w', (Instr.slice 9 (.string s) (some (.int .i64 ((A : Nat) : Int))) (some (.int .i64 ((A : Int) + (P.size : Int)))) none).run Tryd.prog w' = .ok (.string P) w' := fun w' => by have h := str_slice s A (A + P.size) (by omega) (by omega) w'; rw [hE, Int.natCast_add] at h; exact h
        have hs2' : ∀ w', (Instr.slice 9 (.string s) (some (.int .i64 ((k : Nat) : Int))) (some (.int .i64 ((A : Nat) : Int))) none).run Tryd.prog w' = .ok (.string G) w' := fun w' => by rw [← hG]; exact str_slice s k A (by omega) (by omega) w'
        have hnx : n < xs.length := hlt
        have hni : (n : Int) < (xs.length : Int) := by omega
        have d1 : decide (A < k) = false := by simp; omega
        have d2 : decide ((s.size : Int) < (A : Int) + (P.size : Int)) = false := by simp; omega
        have d3 : decide (s.size < A + P.size) = false := by simp; omega
        have w2 : IntKind.i64.wrap ((A : Int) + (P.size : Int)) = (A : Int) + (P.size : Int) := by rw [IntKind.wrap_i64]; omega
        have HT := Lib.hid htx
        have HEm := Lib.hid hemp
        have hend : (z.k = 5 ∨ z.k = 6) → n + 1 = xs.length := fun h => by
          rw [if_pos h] at hdr
          have h1 := congrArg List.length (List.cons.inj hdr).2
          rw [List.length_drop, List.length_nil] at h1
          omega
        have hmid : ¬ (z.k = 5 ∨ z.k = 6) → n + 1 < xs.length ∧ xs.drop (n + 1) = lexFrom (A + P.size) (s.data.toList.drop (A + P.size)) := fun h => by
          rw [if_neg h] at hdr
          have h1 := (List.cons.inj hdr).2
          have h2 := lex_ne (A + P.size) (s.data.toList.drop (A + P.size))
          refine ⟨?_, h1⟩
          apply Decidable.byContradiction
          intro h3
          rw [← h1, List.drop_of_length_le (by omega)] at h2
          exact h2 rfl
        have HBr := hBr
        clear htx hemp hdr hlex hT hE hG hem hcell hzs hGs hz hI hzn hk hn
        by_cases k5 : z.k = 5
        · have b5 : (z.k == 5) = true := by simp [k5]
          have hP0 := h5p k5
          subst hP0
          have z0 : ((⟨#[]⟩ : ByteArray).size : Int) = 0 := rfl
          have hs0 : ∀ w', (Instr.slice 9 (.string s) (some (.int .i64 ((A : Nat) : Int))) (some (.int .i64 ((A : Nat) : Int))) none).run Tryd.prog w' = .ok (.string ⟨#[]⟩) w' := hs1
          have d4 : decide (s.size < A) = false := by simp; omega
          have hA0 : A ≤ s.size := by omega
          have w1 : IntKind.i64.wrap (A : Int) = (A : Int) := by rw [IntKind.wrap_i64]; omega
          clear hs1 d2 d3 w2
          have hen := hend (.inl k5)
          have bl : ((n : Int) == (xs.length : Int) - 1) = true := by simp; omega
          clear k5 h5p hend hmid
          go_wp2_with (go_at_call 17; refine (HT.out _).mono ?_; rintro e w2 ⟨rfl, hb2⟩; have HB2 := Lib.hid hb2; obtain ⟨e0, e1, e2⟩ := HK.out _ hb2; clear hb2)
          have hcur : Hid (Below wr.heap.size wr w2.drew) := Lib.hid HB2.out.drew
          go_region_held3 (fun w' => Below wr.heap.size wr w' ∧ w'.cell? ⟨g, n * 3, none⟩ = some (.int .i64 z.k) ∧ w'.cell? ⟨g, n * 3 + 1, none⟩ = some (.string z.t) ∧ w'.cell? ⟨g, n * 3 + 2, none⟩ = some (.int .i64 A))
            (first | exact ⟨hcur.out, HK.out _ hcur.out⟩ | go_keep)
            (first | (go_at_call 18; refine (HEm.out _).mono ?_; rintro e wx ⟨rfl, rfl⟩))
          rename_i hHeld
          have HH := Lib.hid (HBr.out.trans (hHeld.1.mono HBr.out.size))
          obtain ⟨-, i0, i1, i2⟩ := hHeld
          go_wp2_with fail
          go_roundw
          case rel => exact ⟨A, n + 1, by omega, by omega, by go_num, by go_num, Lib.hid (.inr hen), HH⟩
          case measure => simp [intOf]; omega
        · have b5 : (z.k == 5) = false := by simp [k5]
          by_cases k6 : z.k = 6
          · have b6 : (z.k == 6) = true := by simp [k6]
            have hen := hend (.inr k6)
            have bl : ((n : Int) == (xs.length : Int) - 1) = true := by simp; omega
            clear k5 k6 h5p hend hmid
            go_wp2_with (go_at_call 17; refine (HT.out _).mono ?_; rintro e w2 ⟨rfl, hb2⟩; have HB2 := Lib.hid hb2; obtain ⟨e0, e1, e2⟩ := HK.out _ hb2; clear hb2)
            have hcur : Hid (Below wr.heap.size wr w2.drew) := Lib.hid HB2.out.drew
            go_region_held3 (fun w' => Below wr.heap.size wr w' ∧ w'.cell? ⟨g, n * 3, none⟩ = some (.int .i64 z.k) ∧ w'.cell? ⟨g, n * 3 + 1, none⟩ = some (.string z.t) ∧ w'.cell? ⟨g, n * 3 + 2, none⟩ = some (.int .i64 A))
              (first | exact ⟨hcur.out, HK.out _ hcur.out⟩ | go_keep)
              (first | (go_at_call 18; refine (HEm.out _).mono ?_; rintro e wx ⟨rfl, rfl⟩))
            rename_i hHeld
            have HH := Lib.hid (HBr.out.trans (hHeld.1.mono HBr.out.size))
            obtain ⟨-, i0, i1, i2⟩ := hHeld
            go_wp2_with fail
            go_roundw
            case rel => exact ⟨A + P.size, n + 1, by omega, by omega, by go_num, by go_num, Lib.hid (.inr hen), HH⟩
            case measure => simp [intOf]; omega
          · have b6 : (z.k == 6) = false := by simp [k6]
            obtain ⟨hen, hrest⟩ := hmid (by simp only [not_or]; exact ⟨k5, k6⟩)
            have bl : ((n : Int) == (xs.length : Int) - 1) = false := by simp; omega
            have HR := Lib.hid hrest
            clear k5 k6 h5p hend hmid hrest
            go_wp2_with (go_at_call 17; refine (HT.out _).mono ?_; rintro e w2 ⟨rfl, hb2⟩; have HB2 := Lib.hid hb2; obtain ⟨e0, e1, e2⟩ := HK.out _ hb2; clear hb2)
            have hcur : Hid (Below wr.heap.size wr w2.drew) := Lib.hid HB2.out.drew
            go_region_held3 (fun w' => Below wr.heap.size wr w' ∧ w'.cell? ⟨g, n * 3, none⟩ = some (.int .i64 z.k) ∧ w'.cell? ⟨g, n * 3 + 1, none⟩ = some (.string z.t) ∧ w'.cell? ⟨g, n * 3 + 2, none⟩ = some (.int .i64 A))
              (first | exact ⟨hcur.out, HK.out _ hcur.out⟩ | go_keep)
              (first | (go_at_call 18; refine (HEm.out _).mono ?_; rintro e wx ⟨rfl, rfl⟩))
            rename_i hHeld
            have HH := Lib.hid (HBr.out.trans (hHeld.1.mono HBr.out.size))
            obtain ⟨-, i0, i1, i2⟩ := hHeld
            go_wp2_with fail
            go_roundw
            case rel => exact ⟨A + P.size, n + 1, by omega, by omega, by go_num, by go_num, Lib.hid (.inl HR.out), HH⟩
            case measure => simp [intOf]; omega
      · obtain rfl : n = xs.length := by omega
        have hBq := HB.out.trans (hBr.out.mono HB.out.size)
        have hwk := lwakes_any wr (HL.out.mono hBq)
        have HQ := Lib.hid hBq
        clear hBq
        go_wp2_with (go_at_call 9; refine hwk.mono ?_; rintro e w2 ⟨rfl, hb2⟩)
        go_ret
        exact ⟨rfl, HQ.out.trans (hb2.mono HQ.out.size)⟩
end Go.Proofs.YtocdclcemebaeaaDoor
