/-
  The walk of the law SymBack. What strconv.Itoa and strconv.Atoi give are premises.
-/
import Derived.Test.YtlledodigmkdjaaDoorSymBackP
import Derived.Test.YtlledodigmkdjaaDoorSymWakes
import Derived.Test.YtlledodigmkdjaaDoorBefS
namespace Go.Proofs.YtlledodigmkdjaaDoor
set_option linter.unusedVariables false
open Go.RowKit
theorem str_beq (a b : ByteArray) : (a.toList == b.toList) = decide (a = b) := by
  rw [Bool.eq_iff_iff]
  simp only [beq_iff_eq, decide_eq_true_eq, Lib.toList_data]
  exact ⟨fun h => ByteArray.ext (Array.toList_inj.mp h), fun h => by rw [h]⟩
theorem old_at {w : World} {i : Nat} {o o2 : Obj} (h : w.heap[i]? = some o) : (w.alloc o2).heap[i]? = some o := (((Below.refl w.heap.size w).alloc (Nat.le_refl _) o2).block _ (heap_lt h)).trans h
set_option maxRecDepth 100000 in
set_option maxHeartbeats 2000000 in
theorem back_walk (w : World) (a b : Sy) (hI : ItoaAll w) (hA : ∀ u : ByteArray, u.size ≤ 1000000 → AtoiAt w u) : Calls Tryd.prog 3 #[.agg #[.int .i64 a.k, .string a.t, .int .i64 a.n], .agg #[.int .i64 b.k, .string b.t, .int .i64 b.n]] w fun e w' => e = .returned (.bool true) ∧ Below w.heap.size w w' := by
  obtain ⟨W1, hW1⟩ : ∃ W1, W1 = (w.alloc (.cells #[.int .i64 a.k, .string a.t, .int .i64 a.n] 23)).alloc (.cells #[.int .i64 b.k, .string b.t, .int .i64 b.n] 23) := ⟨_, rfl⟩
  have hB : Below w.heap.size w W1 := by rw [hW1]; go_grown
  have hxa : W1.heap[w.heap.size]? = some (.cells #[.int .i64 a.k, .string a.t, .int .i64 a.n] 23 (0, 0)) := by rw [hW1]; exact old_at (new_at rfl)
  have hxb : W1.heap[w.heap.size + 1]? = some (.cells #[.int .i64 b.k, .string b.t, .int .i64 b.n] 23 (0, 0)) := by rw [hW1]; exact new_at (by simp)
  have hk : ∀ w', Below W1.heap.size W1 w' → (w'.cell? ⟨w.heap.size, 0, none⟩ = some (.int .i64 a.k) ∧ w'.cell? ⟨w.heap.size, 1, none⟩ = some (.string a.t) ∧ w'.cell? ⟨w.heap.size, 2, none⟩ = some (.int .i64 a.n) ∧ w'.cell? ⟨w.heap.size + 1, 0, none⟩ = some (.int .i64 b.k) ∧ w'.cell? ⟨w.heap.size + 1, 1, none⟩ = some (.string b.t) ∧ w'.cell? ⟨w.heap.size + 1, 2, none⟩ = some (.int .i64 b.n)) := by
    intro w' h
    have h2 := (h.block _ (heap_lt hxa)).trans hxa
    have h3 := (h.block _ (heap_lt hxb)).trans hxb
    exact ⟨by rw [cells_of h2]; rfl, by rw [cells_of h2]; rfl, by rw [cells_of h2]; rfl, by rw [cells_of h3]; rfl, by rw [cells_of h3]; rfl, by rw [cells_of h3]; rfl⟩
  obtain ⟨d0, d1, d2, d3, d4, d5⟩ := hk W1 (Below.refl _ _)
  have HK := Lib.hid hk
  have HB := Lib.hid hB
  have HW := Lib.hid hW1
  rw [hW1] at d0 d1 d2 d3 d4 d5
  clear hk hB hxa hxb
  by_cases la : 100 < a.t.size
  · clear hW1 hI hA
    go_enter Tryd.func3, Tryd.ntmps3
    go_wp2_with (go_at_call 6; rw [← HW.out]; refine (swakes_any _).mono ?_; rintro e w2 ⟨rfl, hb2⟩)
    go_ret
    exact ⟨rfl, HB.out.trans (hb2.mono HB.out.size)⟩
  · by_cases lb : 100 < b.t.size
    · clear hW1 hI hA
      go_enter Tryd.func3, Tryd.ntmps3
      go_wp2_with (go_at_call 6; rw [← HW.out]; refine (swakes_any _).mono ?_; rintro e w2 ⟨rfl, hb2⟩)
      go_ret
      exact ⟨rfl, HB.out.trans (hb2.mono HB.out.size)⟩
    · have sa : a.t.size ≤ 1000000 := by omega
      have sb : b.t.size ≤ 1000000 := by omega
      have Hva := Lib.hid (fun w' => valid_any a w' sa)
      have Hvb := Lib.hid (fun w' => valid_any b w' sb)
      cases va : validY a with
      | false =>
        clear hW1 hI hA
        go_enter Tryd.func3, Tryd.ntmps3
        go_wp2_with (first | (go_at_call 5; rw [← HW.out]; with_reducible refine (Hva.out _).mono ?_; rintro e w2 ⟨rfl, hb2⟩; rw [va]; have HB2 := Lib.hid hb2; clear hb2; obtain ⟨d0, d1, d2, d3, d4, d5⟩ := HK.out _ HB2.out) | (go_at_call 6; refine (swakes_any _).mono ?_; rintro e w3 ⟨rfl, hb3⟩; have HB3 := Lib.hid hb3; clear hb3))
        go_ret
        exact ⟨rfl, HB.out.trans ((HB2.out.trans (HB3.out.mono HB2.out.size)).mono HB.out.size)⟩
      | true =>
        cases vb : validY b with
        | false =>
          clear hW1 hI hA
          have hcur : Hid (Below W1.heap.size W1 W1) := Lib.hid (Below.refl _ _)
          go_enter Tryd.func3, Tryd.ntmps3
          go_wp2_with fail
          rw [← HW.out]
          go_wp2_with (first | (go_at_call 5; with_reducible refine (Hva.out _).mono ?_; rintro e w2 ⟨rfl, hb2⟩; rw [va]; replace hcur := Lib.hid (hcur.out.trans (hb2.mono hcur.out.size)); clear hb2; obtain ⟨d0, d1, d2, d3, d4, d5⟩ := HK.out _ hcur.out) | (go_at_call 5; with_reducible refine (Hvb.out _).mono ?_; rintro e w2 ⟨rfl, hb2⟩; rw [vb]; replace hcur := Lib.hid (hcur.out.trans (hb2.mono hcur.out.size)); clear hb2; obtain ⟨d0, d1, d2, d3, d4, d5⟩ := HK.out _ hcur.out) | (go_at_call 6; refine (swakes_any _).mono ?_; rintro e w3 ⟨rfl, hb3⟩; replace hcur := Lib.hid (hcur.out.trans (hb3.mono hcur.out.size)); clear hb3))
          go_ret
          exact ⟨rfl, HB.out.trans (hcur.out.mono HB.out.size)⟩
        | true =>
          have hta := fun w' (hq : Below w.heap.size w w') => text_any a w' sa (fun h h3 => (hI a.n (by have := valid_num h h3; omega) (by have := valid_num h h3; omega)).mono hq)
          have htb := fun w' (hq : Below w.heap.size w w') => text_any b w' sb (fun h h3 => (hI b.n (by have := valid_num h h3; omega) (by have := valid_num h h3; omega)).mono hq)
          have hz := textY_size a va (by omega)
          have hp := fun w' (hq : Below w.heap.size w w') => parse_any (textY a) w' hz (fun _ => (hA _ (by simp; omega)).mono hq) (fun _ => (hA _ hz).mono hq)
            (fun h h3 => (hI _ (by have := valid_num h h3; omega) (by have := valid_num h h3; omega)).mono hq) (by rw [meant_of a va]; omega) a true (back_of a va)
          have hinj := textY_inj va vb
          obtain ⟨Ta, hTa⟩ : ∃ T, T = textY a := ⟨_, rfl⟩
          obtain ⟨Tb, hTb⟩ : ∃ T, T = textY b := ⟨_, rfl⟩
          rw [← hTa] at hta hp hinj
          rw [← hTb] at htb hinj
          have Hta := Lib.hid hta
          have Htb := Lib.hid htb
          have Hp := Lib.hid hp
          have Hinj := Lib.hid hinj
          clear hta htb hp hinj hTa hTb hz hI hA hW1 sa sb
          have hcur : Hid (Below W1.heap.size W1 W1) := Lib.hid (Below.refl _ _)
          go_enter Tryd.func3, Tryd.ntmps3
          go_wp2_with fail
          rw [← HW.out]
          go_wp2_with (first | (go_at_call 5; with_reducible refine (Hva.out _).mono ?_; rintro e w2 ⟨rfl, hb2⟩; rw [va]; replace hcur := Lib.hid (hcur.out.trans (hb2.mono hcur.out.size)); clear hb2; obtain ⟨d0, d1, d2, d3, d4, d5⟩ := HK.out _ hcur.out) | (go_at_call 5; with_reducible refine (Hvb.out _).mono ?_; rintro e w2 ⟨rfl, hb2⟩; rw [vb]; replace hcur := Lib.hid (hcur.out.trans (hb2.mono hcur.out.size)); clear hb2; obtain ⟨d0, d1, d2, d3, d4, d5⟩ := HK.out _ hcur.out) | (go_at_call 8; refine (Hta.out _ (HB.out.trans (hcur.out.mono HB.out.size))).mono ?_; rintro e w3 ⟨rfl, hb3⟩; replace hcur := Lib.hid (hcur.out.trans (hb3.mono hcur.out.size)); clear hb3; obtain ⟨d0, d1, d2, d3, d4, d5⟩ := HK.out _ hcur.out) | (go_at_call 7; refine (Hp.out _ (HB.out.trans (hcur.out.mono HB.out.size))).mono ?_; rintro e w4 ⟨rfl, hb4⟩; replace hcur := Lib.hid (hcur.out.trans (hb4.mono hcur.out.size)); clear hb4; obtain ⟨d0, d1, d2, d3, d4, d5⟩ := HK.out _ hcur.out))
          have hal : Below w4.heap.size w4 (w4.alloc (.cells #[.int .i64 a.k, .string a.t, .int .i64 a.n] 23)) := (Below.refl _ _).alloc (Nat.le_refl _) _
          obtain ⟨W2, hW2⟩ : ∃ W2, W2 = w4.alloc (.cells #[.int .i64 a.k, .string a.t, .int .i64 a.n] 23) := ⟨_, rfl⟩
          have hx2 : W2.heap[w4.heap.size]? = some (.cells #[.int .i64 a.k, .string a.t, .int .i64 a.n] 23 (0, 0)) := by rw [hW2]; exact new_at rfl
          rw [← hW2] at hal
          have H12 := Lib.hid (hcur.out.trans (hal.mono hcur.out.size))
          have HK2 := Lib.hid (p := ∀ w', Below W2.heap.size W2 w' → (w'.cell? ⟨w.heap.size, 0, none⟩ = some (.int .i64 a.k) ∧ w'.cell? ⟨w.heap.size, 1, none⟩ = some (.string a.t) ∧ w'.cell? ⟨w.heap.size, 2, none⟩ = some (.int .i64 a.n) ∧ w'.cell? ⟨w.heap.size + 1, 0, none⟩ = some (.int .i64 b.k) ∧ w'.cell? ⟨w.heap.size + 1, 1, none⟩ = some (.string b.t) ∧ w'.cell? ⟨w.heap.size + 1, 2, none⟩ = some (.int .i64 b.n) ∧ w'.cell? ⟨w4.heap.size, 0, none⟩ = some (.int .i64 a.k) ∧ w'.cell? ⟨w4.heap.size, 1, none⟩ = some (.string a.t) ∧ w'.cell? ⟨w4.heap.size, 2, none⟩ = some (.int .i64 a.n))) (by
            intro w' h
            obtain ⟨e0, e1, e2, e3, e4, e5⟩ := HK.out w' (H12.out.trans (h.mono H12.out.size))
            have h2 := (h.block _ (heap_lt hx2)).trans hx2
            exact ⟨e0, e1, e2, e3, e4, e5, by rw [cells_of h2]; rfl, by rw [cells_of h2]; rfl, by rw [cells_of h2]; rfl⟩)
          rw [← hW2]
          clear hal hx2 hW2 hcur d0 d1 d2 d3 d4 d5
          obtain ⟨d0, d1, d2, d3, d4, d5, d6, d7, d8⟩ := HK2.out W2 (Below.refl _ _)
          have hcur : Hid (Below W2.heap.size W2 W2.drew) := Lib.hid (Below.refl _ _).drew
          have H02 := Lib.hid (HB.out.trans (H12.out.mono HB.out.size))
          by_cases hab : a = b
          · subst hab
            obtain rfl : Ta = Tb := Hinj.out.2 rfl
            go_region_held3 (fun w' => Below W2.heap.size W2 w' ∧ w'.cell? ⟨w.heap.size, 0, none⟩ = some (.int .i64 a.k) ∧ w'.cell? ⟨w.heap.size, 1, none⟩ = some (.string a.t) ∧ w'.cell? ⟨w.heap.size, 2, none⟩ = some (.int .i64 a.n) ∧ w'.cell? ⟨w.heap.size + 1, 0, none⟩ = some (.int .i64 a.k) ∧ w'.cell? ⟨w.heap.size + 1, 1, none⟩ = some (.string a.t) ∧ w'.cell? ⟨w.heap.size + 1, 2, none⟩ = some (.int .i64 a.n) ∧ w'.cell? ⟨w4.heap.size, 0, none⟩ = some (.int .i64 a.k) ∧ w'.cell? ⟨w4.heap.size, 1, none⟩ = some (.string a.t) ∧ w'.cell? ⟨w4.heap.size, 2, none⟩ = some (.int .i64 a.n))
              (first | exact ⟨hcur.out, HK2.out _ hcur.out⟩ | go_keep)
              (first | (go_at_call 8; with_reducible refine (Hta.out _ (H02.out.trans (hcur.out.mono H02.out.size))).mono ?_; rintro e w5 ⟨rfl, hb5⟩; replace hcur := Lib.hid (hcur.out.trans (hb5.mono hcur.out.size)); clear hb5) | (go_at_call 6; refine (swakes_any _).mono ?_; rintro e w5 ⟨rfl, hb5⟩; replace hcur := Lib.hid (hcur.out.trans (hb5.mono hcur.out.size)); clear hb5))
            all_goals
              rename_i hHeld
              clear hHeld
              go_wp2_with fail
              go_ret
              exact ⟨rfl, H02.out.trans (hcur.out.mono H02.out.size)⟩
          · have hne : (Ta.toList == Tb.toList) = false := by
              rw [str_beq]; simp only [decide_eq_false_iff_not]; exact fun h => hab (Hinj.out.1 h)
            have heq := eqY_no hab
            go_region_held3 (fun w' => Below W2.heap.size W2 w' ∧ w'.cell? ⟨w.heap.size, 0, none⟩ = some (.int .i64 a.k) ∧ w'.cell? ⟨w.heap.size, 1, none⟩ = some (.string a.t) ∧ w'.cell? ⟨w.heap.size, 2, none⟩ = some (.int .i64 a.n) ∧ w'.cell? ⟨w.heap.size + 1, 0, none⟩ = some (.int .i64 b.k) ∧ w'.cell? ⟨w.heap.size + 1, 1, none⟩ = some (.string b.t) ∧ w'.cell? ⟨w.heap.size + 1, 2, none⟩ = some (.int .i64 b.n) ∧ w'.cell? ⟨w4.heap.size, 0, none⟩ = some (.int .i64 a.k) ∧ w'.cell? ⟨w4.heap.size, 1, none⟩ = some (.string a.t) ∧ w'.cell? ⟨w4.heap.size, 2, none⟩ = some (.int .i64 a.n))
              (first | exact ⟨hcur.out, HK2.out _ hcur.out⟩ | go_keep)
              (first | (go_at_call 8; with_reducible refine (Hta.out _ (H02.out.trans (hcur.out.mono H02.out.size))).mono ?_; rintro e w5 ⟨rfl, hb5⟩; replace hcur := Lib.hid (hcur.out.trans (hb5.mono hcur.out.size)); clear hb5) | (go_at_call 8; with_reducible refine (Htb.out _ (H02.out.trans (hcur.out.mono H02.out.size))).mono ?_; rintro e w5 ⟨rfl, hb5⟩; replace hcur := Lib.hid (hcur.out.trans (hb5.mono hcur.out.size)); clear hb5) | (go_at_call 6; refine (swakes_any _).mono ?_; rintro e w5 ⟨rfl, hb5⟩; replace hcur := Lib.hid (hcur.out.trans (hb5.mono hcur.out.size)); clear hb5))
            all_goals
              rename_i hHeld
              clear hHeld
              go_wp2_with fail
              go_ret
              exact ⟨rfl, H02.out.trans (hcur.out.mono H02.out.size)⟩
end Go.Proofs.YtlledodigmkdjaaDoor
