/-
  The walk of the law LexSpaces. What the listed variables give is a premise.
-/
import Derived.Test.YtocdclcemebaeaaDoorLexInts
import Derived.Test.YtocdclcemebaeaaDoorLexMath3
import Derived.Test.YtocdclcemebaeaaDoorLexEmpty
namespace Go.Proofs.YtocdclcemebaeaaDoor
set_option linter.unusedVariables false
open Go.RowKit
theorem cells_rowS {w w' : World} {g : Nat} {xs : List Sy} (h : CellsAt w g 0 xs) (hg : g < w.heap.size) (hb : Below w.heap.size w w') {k : Nat} (hk : k < xs.length) {z : Sy} (hz : xs[k] = z) :
    w'.cell? ⟨g, k * 3, none⟩ = some (.int .i64 z.k) ∧ w'.cell? ⟨g, k * 3 + 1, none⟩ = some (.string z.t) ∧ w'.cell? ⟨g, k * 3 + 2, none⟩ = some (.int .i64 z.n) := by
  have h3 := (CellsAt.mono h hg hb).three hk
  rw [hz] at h3
  simpa only [Nat.zero_add] using h3
def sepB (j : Nat) : ByteArray := ⟨(sepsL.getD j []).toArray⟩
/-- One round's strings. -/
theorem spaces_step (s : List UInt8) (hs : s.length ≤ 1000) (xs : List Sy) (hxs : xs = lexL s) (i : Nat) (u : ByteArray) (h : Wrote xs i u.data.toList) (hi : i + 1 < xs.length) (hx : xs.length ≤ 1001) (z : Sy) (hz : z = xs[i]'(by omega)) (j : Nat) (hj : j < 5) :
    ∃ T S U : ByteArray, textB z = T ∧ sepB j = S ∧ u.size ≤ 20000 ∧ T.size ≤ 20000 ∧ S.size ≤ 20000 ∧ z.t.size ≤ 20000 ∧ u ++ (T ++ S) = U ∧ Wrote xs (i + 1) U.data.toList := by
  subst hxs
  have hw := wrote_next h hi j hj
  have hl := wrote_len hw
  rw [← hz] at hw hl
  simp only [List.length_append] at hl
  rw [str_size] at hl
  have eT : (textB z).data.toList = textT z := by unfold textB; simp
  have eS : (sepB j).data.toList = sepsL[j]'hj := by
    unfold sepB
    rw [List.getD_eq_getElem?_getD, List.getElem?_eq_getElem (show j < sepsL.length from hj)]; simp; rfl
  have sT := str_size (textB z)
  have sS := str_size (sepB j)
  have sZ := str_size z.t
  rw [eT] at sT
  rw [eS] at sS
  have hzt : z.t.size ≤ (textT z).length := by
    unfold textT
    split
    · simp; omega
    · rw [sZ]; exact Nat.le_refl _
  refine ⟨_, _, _, rfl, rfl, by omega, by omega, by omega, by omega, rfl, ?_⟩
  rw [cat_data, cat_data, eT, eS]
  exact hw
set_option maxRecDepth 100000 in
set_option maxHeartbeats 8000000 in
theorem spaces_walk (w : World) (s : ByteArray) (hs : s.size ≤ maxLen) (a : Option Addr) (gl gc : Nat) (hgl : gl ≤ maxLen) (hz : ∃ zs : List Int, zs.length = gl ∧ IntsIn w a zs) (hL : LexAt w) : Calls Tryd.prog 5 #[.string s, .slice a gl gc] w fun e w' => e = .returned (.bool true) ∧ Below w.heap.size w w' := by
  unfold maxLen at hs hgl
  by_cases hlong : 1000 < s.size
  · clear hz
    go_enter Tryd.func5, Tryd.ntmps5
    go_wp2_with (go_at_call 9; refine (lwakes_any _ hL).mono ?_; rintro e w2 ⟨rfl, hb2⟩)
    go_ret
    exact ⟨rfl, hb2⟩
  have hs2 : s.size ≤ 1000 := by omega
  obtain ⟨zs, hzl, hzs⟩ := hz
  have hall := lall_any s (by omega) w hL
  obtain ⟨xs, hxs⟩ : ∃ xs, xs = lexL s.data.toList := ⟨_, rfl⟩
  rw [← hxs] at hall
  have hne : xs ≠ [] := by rw [hxs, lexL_from]; exact lex_ne _ _
  have hlen : xs.length ≤ 1001 := by
    have h1 := lex_len _ 0 s.data.toList (Nat.le_refl _)
    rw [← lexL_from, ← hxs, str_size] at h1
    omega
  have hx1 : 1 ≤ xs.length := List.length_pos_iff.2 hne
  have hn0 : ((xs.length : Int) == 0) = false := by simp; omega
  have Hall := Lib.hid hall
  have HX := Lib.hid hxs
  have HL := Lib.hid hL
  have HN := Lib.hid hne
  have HZS := Lib.hid hzs
  clear hall hxs hL hne hs hzs
  go_enter Tryd.func5, Tryd.ntmps5
  go_wp2_with fail
  refine Hall.out.mono ?_
  rintro e w1 ⟨v, rfl, hown, -, hb⟩
  obtain ⟨g, cap, rfl, -, hg, hc⟩ := owns_at hown HN.out
  have HB := Lib.hid hb
  have HC := Lib.hid hc
  clear hown hc hb Hall
  obtain ⟨n, hn⟩ : ∃ n, n = xs.length - 1 := ⟨_, rfl⟩
  have hnx : (xs.length : Int) - 1 = (n : Int) := by omega
  have hlt2 : n < xs.length := by omega
  have hni : (n : Int) < (xs.length : Int) := by omega
  obtain ⟨x, hx⟩ : ∃ x, x = xs[n]'hlt2 := ⟨_, rfl⟩
  obtain ⟨x0, x1, x2⟩ := cells_rowS HC.out hg (Below.refl _ _) hlt2 hx.symm
  have HXN := Lib.hid hx
  have HNE := Lib.hid hn
  clear hx hn
  by_cases k5 : x.k = 5
  · have b5 : (x.k != 5) = false := by simp [k5]
    have K5 := Lib.hid k5
    clear k5
    go_wp2_with fail
    clear x0 x1 x2 b5 hn0 hnx hni
    obtain ⟨W2, hW2⟩ : ∃ W2, W2 = w1.alloc (.cells #[.string ⟨#[32]⟩, .string ⟨#[10]⟩, .string ⟨#[9, 32, 13]⟩, .string ⟨#[32, 35, 32, 60, 120, 62, 32, 40, 10]⟩, .string ⟨#[32, 32]⟩] 9) := ⟨_, rfl⟩
    have hbW : Below w1.heap.size w1 W2 := by rw [hW2]; go_grown
    have hcs : ∀ w', Below W2.heap.size W2 w' → ∀ j, j < 5 → w'.cell? ⟨w1.heap.size, j, none⟩ = some (.string (sepB j)) := fun w' h j hj => by
      have hx : W2.heap[w1.heap.size]? = some (.cells #[.string ⟨#[32]⟩, .string ⟨#[10]⟩, .string ⟨#[9, 32, 13]⟩, .string ⟨#[32, 35, 32, 60, 120, 62, 32, 40, 10]⟩, .string ⟨#[32, 32]⟩] 9 (0, 0)) := by rw [hW2]; exact new_at rfl
      rw [cells_of ((h.block _ (heap_lt hx)).trans hx)]
      rcases (show j = 0 ∨ j = 1 ∨ j = 2 ∨ j = 3 ∨ j = 4 by omega) with rfl | rfl | rfl | rfl | rfl <;> rfl
    have HCS := Lib.hid hcs
    have HBW := Lib.hid hbW
    have HB2 := Lib.hid (HB.out.trans (hbW.mono HB.out.size))
    have HW2 := Lib.hid hW2
    clear hcs hbW hW2
    rw [← HW2.out]
    go_loopw [7, 8] (fun o i wr => ∃ (k : Nat) (u : ByteArray), o = .string u ∧ i = .int .i64 k ∧ k + 1 ≤ xs.length ∧ Hid (Wrote xs k u.data.toList) ∧ Hid (Below W2.heap.size W2 wr)) (fun _ i _ => xs.length - (intOf i).toNat)
    case atStart => exact ⟨0, ⟨#[]⟩, rfl, rfl, hx1, Lib.hid (wrote_none _), Lib.hid (Below.refl _ _)⟩
    case round =>
      obtain ⟨k, u, rfl, rfl, hk, hI, hBr⟩ := hrel
      by_cases hlt : k + 1 < xs.length
      · have hkx : k < xs.length := by omega
        have hki : (k : Int) < (xs.length : Int) := by omega
        have hki1 : (k : Int) + 1 < (xs.length : Int) := by omega
        obtain ⟨z, hz⟩ : ∃ z, z = xs[k]'hkx := ⟨_, rfl⟩
        obtain ⟨c0, c1, c2⟩ := cells_rowS HC.out hg (HBW.out.trans (hBr.out.mono HBW.out.size)) hkx hz.symm
        by_cases hi : k < gl
        · have hgi : (k : Int) < (gl : Int) := by omega
          obtain ⟨⟨b, off, rfl, hbl, hcz⟩, q1, q2⟩ := HZS.out k (by omega)
          obtain ⟨y, hy⟩ : ∃ y, y = zs[k]'(by omega) := ⟨_, rfl⟩
          rw [← hy] at hcz q1 q2
          have hgc : wr.cell? ⟨b, off + k, none⟩ = some (.int .i64 y) := by
            rw [← hcz]
            exact (HB2.out.trans (hBr.out.mono HB2.out.size)).cell hbl
          have q3 := Int.emod_nonneg y (show (5 : Int) ≠ 0 by omega)
          have q4 := Int.emod_lt_of_pos y (show (0 : Int) < 5 by omega)
          obtain ⟨j, hj⟩ : ∃ j : Nat, y % 5 = j := ⟨(y % 5).toNat, by omega⟩
          have hw0 : ∀ w', Calls Tryd.prog 15 #[.int .i64 y, .int .i64 5] w' fun e w2 => e = .returned (.int .i64 j) ∧ w' = w2 := fun w' => by have := within_all w' y 5 q1 q2 (by omega) (by omega); rwa [show ((5 : Nat) : Int) = 5 from rfl, hj] at this
          have hj5 : j < 5 := by omega
          clear hy hcz q1 q2 q3 q4 hj
          obtain ⟨T, S, U, eT, eS, su, sT, sS, sz, eU, hw⟩ := spaces_step s.data.toList (by rw [str_size]; exact hs2) xs HX.out k u hI.out hlt hlen z hz j hj5
          have hji : (j : Int) < 5 := by omega
          have htx := fun w' => ltext_any z w' (by omega)
          rw [eT] at htx
          have ad1 := add_str T S (by omega) (by omega)
          have ad2 := add_str u (T ++ S) (by omega) (by rw [cat_size]; omega)
          rw [eU] at ad2
          have hcj := fun w' (h : Below W2.heap.size W2 w') => HCS.out w' h j hj5
          rw [eS] at hcj
          have HT := Lib.hid htx
          have HCJ := Lib.hid hcj
          have HWn := Lib.hid hw0
          have HWr := Lib.hid hw
          clear eT eS eU hw htx hcj hw0 hz hI
          go_wp2_with (first
            | (go_at_call 17; refine (HT.out _).mono ?_; rintro e w2 ⟨rfl, hb2⟩; have HBn := Lib.hid (hBr.out.trans (hb2.mono hBr.out.size)); have cj := HCJ.out _ HBn.out; clear hb2)
            | (go_at_call 15; refine (HWn.out _).mono ?_; rintro e w' ⟨rfl, rfl⟩))
          go_roundw
          case rel => exact ⟨k + 1, U, rfl, by go_num, by omega, HWr, HBn⟩
          case measure => simp [intOf]; omega
        · have hgi : ¬ (k : Int) < (gl : Int) := by omega
          obtain ⟨j, hj⟩ : ∃ j : Nat, j = 0 := ⟨_, rfl⟩
          have hw0 : ∀ w', Calls Tryd.prog 15 #[.int .i64 0, .int .i64 5] w' fun e w2 => e = .returned (.int .i64 j) ∧ w' = w2 := fun w' => by have := within_all w' 0 5 (by omega) (by omega) (by omega) (by omega); rw [hj]; exact this
          have hj5 : j < 5 := by omega
          clear hj
          obtain ⟨T, S, U, eT, eS, su, sT, sS, sz, eU, hw⟩ := spaces_step s.data.toList (by rw [str_size]; exact hs2) xs HX.out k u hI.out hlt hlen z hz j hj5
          have hji : (j : Int) < 5 := by omega
          have htx := fun w' => ltext_any z w' (by omega)
          rw [eT] at htx
          have ad1 := add_str T S (by omega) (by omega)
          have ad2 := add_str u (T ++ S) (by omega) (by rw [cat_size]; omega)
          rw [eU] at ad2
          have hcj := fun w' (h : Below W2.heap.size W2 w') => HCS.out w' h j hj5
          rw [eS] at hcj
          have HT := Lib.hid htx
          have HCJ := Lib.hid hcj
          have HWn := Lib.hid hw0
          have HWr := Lib.hid hw
          clear eT eS eU hw htx hcj hw0 hz hI
          go_wp2_with (first
            | (go_at_call 17; refine (HT.out _).mono ?_; rintro e w2 ⟨rfl, hb2⟩; have HBn := Lib.hid (hBr.out.trans (hb2.mono hBr.out.size)); have cj := HCJ.out _ HBn.out; clear hb2)
            | (go_at_call 15; refine (HWn.out _).mono ?_; rintro e w' ⟨rfl, rfl⟩))
          go_roundw
          case rel => exact ⟨k + 1, U, rfl, by go_num, by omega, HWr, HBn⟩
          case measure => simp [intOf]; omega
      · have hk1 : k + 1 = xs.length := by omega
        have hki1 : ¬ (k : Int) + 1 < (xs.length : Int) := by omega
        have hkn : k = n := by have := HNE.out; omega
        subst hkn
        have hend : (lexL u.data.toList).map (fun z => (z.k, z.t)) = xs.map (fun z => (z.k, z.t)) := by
          have h1 := HX.out
          have h2 := hI.out
          have h3 := HXN.out
          have h4 := K5.out
          subst h1
          exact wrote_end h2 hk1 (by rw [← h3]; exact h4)
        have hus : u.size ≤ 20000 := by
          have h1 := HX.out
          have h2 := hI.out
          subst h1
          have h3 := wrote_len h2
          rw [str_size, str_size] at h3
          omega
        have hB3 := HB2.out.trans (hBr.out.mono HB2.out.size)
        have hall2 := lall_any u (by omega) wr (HL.out.mono hB3)
        obtain ⟨ys, hys⟩ : ∃ ys, ys = lexL u.data.toList := ⟨_, rfl⟩
        rw [← hys] at hall2 hend
        have hyl : ys.length = xs.length := by
          have h1 := congrArg List.length hend
          simpa using h1
        have hyn : ys ≠ [] := by rw [hys, lexL_from]; exact lex_ne _ _
        have hbn : ((ys.length : Int) != (xs.length : Int)) = false := by simp; omega
        have HB3 := Lib.hid hB3
        have HA2 := Lib.hid hall2
        have HEnd := Lib.hid hend
        have HYN := Lib.hid hyn
        have HBr1 := Lib.hid (HBW.out.trans (hBr.out.mono HBW.out.size))
        clear hend hall2 hys hyn hB3 hI hus hk1
        go_wp2_with fail
        refine HA2.out.mono ?_
        rintro e w3 ⟨v3, rfl, hown3, -, hb3⟩
        obtain ⟨gy, cy, rfl, -, hgy, hcy⟩ := owns_at hown3 HYN.out
        have HB4 := Lib.hid (HB3.out.trans (hb3.mono HB3.out.size))
        have HX4 := Lib.hid (HBr1.out.trans (hb3.mono HBr1.out.size))
        have CY := Lib.hid hcy
        clear hown3 hb3 hcy HA2
        go_wp2_with fail
        clear hbn
        go_loopw [11] (fun i wr => ∃ m : Nat, m ≤ xs.length ∧ i = .int .i64 m ∧ Hid (Below w3.heap.size w3 wr)) (fun i _ => xs.length - (intOf i).toNat)
        case atStart => exact ⟨0, Nat.zero_le _, rfl, Lib.hid (Below.refl _ _)⟩
        case round =>
          obtain ⟨m, hm, rfl, hBq⟩ := hrel
          by_cases hml : m < xs.length
          · have hmi : (m : Int) < (xs.length : Int) := by omega
            have hmy : m < ys.length := by omega
            have hmyi : (m : Int) < (ys.length : Int) := by omega
            have he : (ys[m].k, ys[m].t) = (xs[m].k, xs[m].t) := by
              have h1 := congrArg (fun l => l[m]?) HEnd.out
              simpa [hml, hmy] using h1
            obtain ⟨z, hz⟩ : ∃ z, z = xs[m] := ⟨_, rfl⟩
            obtain ⟨z0, z1, z2⟩ := cells_rowS HC.out hg (HX4.out.trans (hBq.out.mono HX4.out.size)) hml hz.symm
            obtain ⟨y0, y1, y2⟩ := cells_rowS CY.out hgy hBq.out hmy rfl
            rw [← hz] at he
            rw [(Prod.mk.inj he).1] at y0
            rw [(Prod.mk.inj he).2] at y1
            have d1 : (z.k != z.k) = false := by simp
            have d2 : (z.t.toList == z.t.toList) = true := by simp
            clear he hz y2 z2
            go_wp2_with fail
            go_quiet (fail)
            go_wp2_with fail
            go_roundw
            case rel => exact ⟨m + 1, by omega, by go_num, Lib.hid (bdN _ hBq.out)⟩
            case measure => simp [intOf]; omega
          · obtain rfl : m = xs.length := by omega
            have hBz := HB4.out.trans (hBq.out.mono HB4.out.size)
            have hwk := lwakes_any wr (HL.out.mono hBz)
            have HQ := Lib.hid hBz
            clear hBz
            go_wp2_with (go_at_call 9; refine hwk.mono ?_; rintro e w4 ⟨rfl, hb4⟩)
            go_ret
            exact ⟨rfl, HQ.out.trans (hb4.mono HQ.out.size)⟩
  · have b5 : (x.k != 5) = true := by simp [k5]
    have hwk := lwakes_any w1 (HL.out.mono HB.out)
    clear k5
    go_wp2_with (go_at_call 9; refine hwk.mono ?_; rintro e w2 ⟨rfl, hb2⟩)
    go_ret
    exact ⟨rfl, HB.out.trans (hb2.mono HB.out.size)⟩
end Go.Proofs.YtocdclcemebaeaaDoor
