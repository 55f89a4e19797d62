/-
  The walk of the law SymOrder. No condition.
-/
import Derived.Test.YtlledodigmkdjaaDoorBefS
import Derived.Test.YtlledodigmkdjaaDoorSymWakes
namespace Go.Proofs.YtlledodigmkdjaaDoor
set_option linter.unusedVariables false
open Go.RowKit
theorem old_at3 {w : World} {i : Nat} {o o2 : Obj} (h : w.heap[i]? = some o) : (w.alloc o2).heap[i]? = some o := (((Below.refl w.heap.size w).alloc (Nat.le_refl _) o2).block _ (heap_lt h)).trans h
set_option maxRecDepth 100000 in
set_option maxHeartbeats 2000000 in
theorem order_walk (w : World) (a b d : Sy) : Calls Tryd.prog 4 #[.agg #[.int .i64 a.k, .string a.t, .int .i64 a.n], .agg #[.int .i64 b.k, .string b.t, .int .i64 b.n], .agg #[.int .i64 d.k, .string d.t, .int .i64 d.n]] w fun e w' => e = .returned (.bool true) ∧ Below w.heap.size w w' := by
  have hab := fun w' => cmp_anyS a b w'
  have hba := fun w' => cmp_anyS b a w'
  have hbd := fun w' => cmp_anyS b d w'
  have had := fun w' => cmp_anyS a d w'
  have hbf := fun w' => bef_any a b w'
  have f1 : cmpY a b = 0 ↔ a = b := cmpY_zero
  have f2 : cmpY a b < 0 ↔ 0 < cmpY b a := by
    have := cmpY_cmp.flip a b
    omega
  have f3 : cmpY a b < 0 → cmpY b d < 0 → cmpY a d < 0 := fun h1 h2 => cmpY_cmp.lt_of_lt_of_le h1 (by omega)
  obtain ⟨X, hX⟩ : ∃ X, X = cmpY a b := ⟨_, rfl⟩
  obtain ⟨Y, hY⟩ : ∃ Y, Y = cmpY b a := ⟨_, rfl⟩
  obtain ⟨U, hU⟩ : ∃ U, U = cmpY b d := ⟨_, rfl⟩
  obtain ⟨V, hV⟩ : ∃ V, V = cmpY a d := ⟨_, rfl⟩
  rw [← hX] at hab hbf f1 f2 f3
  rw [← hY] at hba f2
  rw [← hU] at hbd f3
  rw [← hV] at had f3
  have Hab := Lib.hid hab
  have Hba := Lib.hid hba
  have Hbd := Lib.hid hbd
  have Had := Lib.hid had
  have Hbf := Lib.hid hbf
  have F1 := Lib.hid f1
  have F2 := Lib.hid f2
  have F3 := Lib.hid f3
  clear hab hba hbd had hbf f1 f2 f3 hX hY hU hV
  obtain ⟨W1, hW1⟩ : ∃ W1, W1 = ((w.alloc (.cells #[.int .i64 a.k, .string a.t, .int .i64 a.n] 23)).alloc (.cells #[.int .i64 b.k, .string b.t, .int .i64 b.n] 23)).alloc (.cells #[.int .i64 d.k, .string d.t, .int .i64 d.n] 23) := ⟨_, rfl⟩
  have hB : Below w.heap.size w W1 := by rw [hW1]; go_grown
  have hxa : W1.heap[w.heap.size]? = some (.cells #[.int .i64 a.k, .string a.t, .int .i64 a.n] 23 (0, 0)) := by rw [hW1]; exact old_at3 (old_at3 (new_at rfl))
  have hxb : W1.heap[w.heap.size + 1]? = some (.cells #[.int .i64 b.k, .string b.t, .int .i64 b.n] 23 (0, 0)) := by rw [hW1]; exact old_at3 (new_at (by simp))
  have hxd : W1.heap[w.heap.size + 1 + 1]? = some (.cells #[.int .i64 d.k, .string d.t, .int .i64 d.n] 23 (0, 0)) := by rw [hW1]; exact new_at (by simp)
  have hk : ∀ w', Below W1.heap.size W1 w' → (w'.cell? ⟨w.heap.size, 0, none⟩ = some (.int .i64 a.k) ∧ w'.cell? ⟨w.heap.size, 1, none⟩ = some (.string a.t) ∧ w'.cell? ⟨w.heap.size, 2, none⟩ = some (.int .i64 a.n) ∧ w'.cell? ⟨w.heap.size + 1, 0, none⟩ = some (.int .i64 b.k) ∧ w'.cell? ⟨w.heap.size + 1, 1, none⟩ = some (.string b.t) ∧ w'.cell? ⟨w.heap.size + 1, 2, none⟩ = some (.int .i64 b.n) ∧ w'.cell? ⟨w.heap.size + 1 + 1, 0, none⟩ = some (.int .i64 d.k) ∧ w'.cell? ⟨w.heap.size + 1 + 1, 1, none⟩ = some (.string d.t) ∧ w'.cell? ⟨w.heap.size + 1 + 1, 2, none⟩ = some (.int .i64 d.n)) := by
    intro w' h
    have h2 := (h.block _ (heap_lt hxa)).trans hxa
    have h3 := (h.block _ (heap_lt hxb)).trans hxb
    have h4 := (h.block _ (heap_lt hxd)).trans hxd
    exact ⟨by rw [cells_of h2]; rfl, by rw [cells_of h2]; rfl, by rw [cells_of h2]; rfl, by rw [cells_of h3]; rfl, by rw [cells_of h3]; rfl, by rw [cells_of h3]; rfl, by rw [cells_of h4]; rfl, by rw [cells_of h4]; rfl, by rw [cells_of h4]; rfl⟩
  have HK := Lib.hid hk
  have HB := Lib.hid hB
  have HW := Lib.hid hW1
  obtain ⟨d0, d1, d2, d3, d4, d5, d6, d7, d8⟩ := hk W1 (Below.refl _ _)
  clear hk hB hxa hxb hxd hW1
  have hcur : Hid (Below W1.heap.size W1 W1.drew) := Lib.hid (Below.refl _ _).drew
  by_cases hab : a = b
  · have heq := eqY_yes hab
    have hX := F1.out.2 hab
    have hY : ¬ 0 < Y := by have := F2.out; omega
    have x0 : (X == 0) = true := by simp [hX]
    have xl : decide (X < 0) = false := by simp [hX]
    have yl : decide (0 < Y) = false := by simp; omega
    have xn : ¬ X < 0 := by omega
    clear hab
    go_enter Tryd.func4, Tryd.ntmps4
    go_wp2_with fail
    rw [← HW.out]
    go_region_held3 (fun w' => Below W1.heap.size W1 w' ∧ w'.cell? ⟨w.heap.size, 0, none⟩ = some (.int .i64 a.k) ∧ w'.cell? ⟨w.heap.size, 1, none⟩ = some (.string a.t) ∧ w'.cell? ⟨w.heap.size, 2, none⟩ = some (.int .i64 a.n) ∧ w'.cell? ⟨w.heap.size + 1, 0, none⟩ = some (.int .i64 b.k) ∧ w'.cell? ⟨w.heap.size + 1, 1, none⟩ = some (.string b.t) ∧ w'.cell? ⟨w.heap.size + 1, 2, none⟩ = some (.int .i64 b.n) ∧ w'.cell? ⟨w.heap.size + 1 + 1, 0, none⟩ = some (.int .i64 d.k) ∧ w'.cell? ⟨w.heap.size + 1 + 1, 1, none⟩ = some (.string d.t) ∧ w'.cell? ⟨w.heap.size + 1 + 1, 2, none⟩ = some (.int .i64 d.n))
      (first | exact ⟨hcur.out, HK.out _ hcur.out⟩ | go_keep)
      (first | (go_at_call 9; with_reducible refine (Hab.out _).mono ?_; rintro e w2 ⟨rfl, hb2⟩; replace hcur := Lib.hid (hcur.out.trans (hb2.mono hcur.out.size)); clear hb2) | (go_at_call 9; with_reducible refine (Hba.out _).mono ?_; rintro e w2 ⟨rfl, hb2⟩; replace hcur := Lib.hid (hcur.out.trans (hb2.mono hcur.out.size)); clear hb2))
    all_goals
      rename_i hHeld
      obtain ⟨-, d0, d1, d2, d3, d4, d5, d6, d7, d8⟩ := hHeld
      go_wp2_with (first | (go_at_call 10; refine (Hbf.out _).mono ?_; rintro e w3 ⟨rfl, hb3⟩; replace hcur := Lib.hid (hcur.out.trans (hb3.mono hcur.out.size)); clear hb3; obtain ⟨d0, d1, d2, d3, d4, d5, d6, d7, d8⟩ := HK.out _ hcur.out) | (go_at_call 9; with_reducible refine (Hbd.out _).mono ?_; rintro e w3 ⟨rfl, hb3⟩; replace hcur := Lib.hid (hcur.out.trans (hb3.mono hcur.out.size)); clear hb3; obtain ⟨d0, d1, d2, d3, d4, d5, d6, d7, d8⟩ := HK.out _ hcur.out) | (go_at_call 9; with_reducible refine (Had.out _).mono ?_; rintro e w3 ⟨rfl, hb3⟩; replace hcur := Lib.hid (hcur.out.trans (hb3.mono hcur.out.size)); clear hb3; obtain ⟨d0, d1, d2, d3, d4, d5, d6, d7, d8⟩ := HK.out _ hcur.out) | (go_at_call 6; refine (swakes_any _).mono ?_; rintro e w3 ⟨rfl, hb3⟩; replace hcur := Lib.hid (hcur.out.trans (hb3.mono hcur.out.size)); clear hb3))
      go_ret
      exact ⟨rfl, HB.out.trans (hcur.out.mono HB.out.size)⟩
  · have heq := eqY_no hab
    have hX : X ≠ 0 := fun h => hab (F1.out.1 h)
    have x0 : (X == 0) = false := by simp [hX]
    clear hab
    by_cases xl0 : X < 0
    · have hY : 0 < Y := F2.out.1 xl0
      have xl : decide (X < 0) = true := by simp [xl0]
      have yl : decide (0 < Y) = true := by simp [hY]
      by_cases ul0 : U < 0
      · have vl0 := F3.out xl0 ul0
        have ul : decide (U < 0) = true := by simp [ul0]
        have vl : decide (0 ≤ V) = false := by simp; omega
        go_enter Tryd.func4, Tryd.ntmps4
        go_wp2_with fail
        rw [← HW.out]
        go_region_held3 (fun w' => Below W1.heap.size W1 w' ∧ w'.cell? ⟨w.heap.size, 0, none⟩ = some (.int .i64 a.k) ∧ w'.cell? ⟨w.heap.size, 1, none⟩ = some (.string a.t) ∧ w'.cell? ⟨w.heap.size, 2, none⟩ = some (.int .i64 a.n) ∧ w'.cell? ⟨w.heap.size + 1, 0, none⟩ = some (.int .i64 b.k) ∧ w'.cell? ⟨w.heap.size + 1, 1, none⟩ = some (.string b.t) ∧ w'.cell? ⟨w.heap.size + 1, 2, none⟩ = some (.int .i64 b.n) ∧ w'.cell? ⟨w.heap.size + 1 + 1, 0, none⟩ = some (.int .i64 d.k) ∧ w'.cell? ⟨w.heap.size + 1 + 1, 1, none⟩ = some (.string d.t) ∧ w'.cell? ⟨w.heap.size + 1 + 1, 2, none⟩ = some (.int .i64 d.n))
          (first | exact ⟨hcur.out, HK.out _ hcur.out⟩ | go_keep)
          (first | (go_at_call 9; with_reducible refine (Hab.out _).mono ?_; rintro e w2 ⟨rfl, hb2⟩; replace hcur := Lib.hid (hcur.out.trans (hb2.mono hcur.out.size)); clear hb2) | (go_at_call 9; with_reducible refine (Hba.out _).mono ?_; rintro e w2 ⟨rfl, hb2⟩; replace hcur := Lib.hid (hcur.out.trans (hb2.mono hcur.out.size)); clear hb2))
        all_goals
          rename_i hHeld
          obtain ⟨-, d0, d1, d2, d3, d4, d5, d6, d7, d8⟩ := hHeld
          go_wp2_with (first | (go_at_call 10; refine (Hbf.out _).mono ?_; rintro e w3 ⟨rfl, hb3⟩; replace hcur := Lib.hid (hcur.out.trans (hb3.mono hcur.out.size)); clear hb3; obtain ⟨d0, d1, d2, d3, d4, d5, d6, d7, d8⟩ := HK.out _ hcur.out) | (go_at_call 9; with_reducible refine (Hbd.out _).mono ?_; rintro e w3 ⟨rfl, hb3⟩; replace hcur := Lib.hid (hcur.out.trans (hb3.mono hcur.out.size)); clear hb3; obtain ⟨d0, d1, d2, d3, d4, d5, d6, d7, d8⟩ := HK.out _ hcur.out) | (go_at_call 9; with_reducible refine (Had.out _).mono ?_; rintro e w3 ⟨rfl, hb3⟩; replace hcur := Lib.hid (hcur.out.trans (hb3.mono hcur.out.size)); clear hb3; obtain ⟨d0, d1, d2, d3, d4, d5, d6, d7, d8⟩ := HK.out _ hcur.out) | (go_at_call 6; refine (swakes_any _).mono ?_; rintro e w3 ⟨rfl, hb3⟩; replace hcur := Lib.hid (hcur.out.trans (hb3.mono hcur.out.size)); clear hb3))
          go_ret
          exact ⟨rfl, HB.out.trans (hcur.out.mono HB.out.size)⟩
      · have ul : decide (U < 0) = false := by simp; omega
        go_enter Tryd.func4, Tryd.ntmps4
        go_wp2_with fail
        rw [← HW.out]
        go_region_held3 (fun w' => Below W1.heap.size W1 w' ∧ w'.cell? ⟨w.heap.size, 0, none⟩ = some (.int .i64 a.k) ∧ w'.cell? ⟨w.heap.size, 1, none⟩ = some (.string a.t) ∧ w'.cell? ⟨w.heap.size, 2, none⟩ = some (.int .i64 a.n) ∧ w'.cell? ⟨w.heap.size + 1, 0, none⟩ = some (.int .i64 b.k) ∧ w'.cell? ⟨w.heap.size + 1, 1, none⟩ = some (.string b.t) ∧ w'.cell? ⟨w.heap.size + 1, 2, none⟩ = some (.int .i64 b.n) ∧ w'.cell? ⟨w.heap.size + 1 + 1, 0, none⟩ = some (.int .i64 d.k) ∧ w'.cell? ⟨w.heap.size + 1 + 1, 1, none⟩ = some (.string d.t) ∧ w'.cell? ⟨w.heap.size + 1 + 1, 2, none⟩ = some (.int .i64 d.n))
          (first | exact ⟨hcur.out, HK.out _ hcur.out⟩ | go_keep)
          (first | (go_at_call 9; with_reducible refine (Hab.out _).mono ?_; rintro e w2 ⟨rfl, hb2⟩; replace hcur := Lib.hid (hcur.out.trans (hb2.mono hcur.out.size)); clear hb2) | (go_at_call 9; with_reducible refine (Hba.out _).mono ?_; rintro e w2 ⟨rfl, hb2⟩; replace hcur := Lib.hid (hcur.out.trans (hb2.mono hcur.out.size)); clear hb2))
        all_goals
          rename_i hHeld
          obtain ⟨-, d0, d1, d2, d3, d4, d5, d6, d7, d8⟩ := hHeld
          go_wp2_with (first | (go_at_call 10; refine (Hbf.out _).mono ?_; rintro e w3 ⟨rfl, hb3⟩; replace hcur := Lib.hid (hcur.out.trans (hb3.mono hcur.out.size)); clear hb3; obtain ⟨d0, d1, d2, d3, d4, d5, d6, d7, d8⟩ := HK.out _ hcur.out) | (go_at_call 9; with_reducible refine (Hbd.out _).mono ?_; rintro e w3 ⟨rfl, hb3⟩; replace hcur := Lib.hid (hcur.out.trans (hb3.mono hcur.out.size)); clear hb3; obtain ⟨d0, d1, d2, d3, d4, d5, d6, d7, d8⟩ := HK.out _ hcur.out) | (go_at_call 9; with_reducible refine (Had.out _).mono ?_; rintro e w3 ⟨rfl, hb3⟩; replace hcur := Lib.hid (hcur.out.trans (hb3.mono hcur.out.size)); clear hb3; obtain ⟨d0, d1, d2, d3, d4, d5, d6, d7, d8⟩ := HK.out _ hcur.out) | (go_at_call 6; refine (swakes_any _).mono ?_; rintro e w3 ⟨rfl, hb3⟩; replace hcur := Lib.hid (hcur.out.trans (hb3.mono hcur.out.size)); clear hb3))
          go_ret
          exact ⟨rfl, HB.out.trans (hcur.out.mono HB.out.size)⟩
    · have hY : ¬ 0 < Y := by have := F2.out; omega
      have xl : decide (X < 0) = false := by simp; omega
      have yl : decide (0 < Y) = false := by simp; omega
      go_enter Tryd.func4, Tryd.ntmps4
      go_wp2_with fail
      rw [← HW.out]
      go_region_held3 (fun w' => Below W1.heap.size W1 w' ∧ w'.cell? ⟨w.heap.size, 0, none⟩ = some (.int .i64 a.k) ∧ w'.cell? ⟨w.heap.size, 1, none⟩ = some (.string a.t) ∧ w'.cell? ⟨w.heap.size, 2, none⟩ = some (.int .i64 a.n) ∧ w'.cell? ⟨w.heap.size + 1, 0, none⟩ = some (.int .i64 b.k) ∧ w'.cell? ⟨w.heap.size + 1, 1, none⟩ = some (.string b.t) ∧ w'.cell? ⟨w.heap.size + 1, 2, none⟩ = some (.int .i64 b.n) ∧ w'.cell? ⟨w.heap.size + 1 + 1, 0, none⟩ = some (.int .i64 d.k) ∧ w'.cell? ⟨w.heap.size + 1 + 1, 1, none⟩ = some (.string d.t) ∧ w'.cell? ⟨w.heap.size + 1 + 1, 2, none⟩ = some (.int .i64 d.n))
        (first | exact ⟨hcur.out, HK.out _ hcur.out⟩ | go_keep)
        (first | (go_at_call 9; with_reducible refine (Hab.out _).mono ?_; rintro e w2 ⟨rfl, hb2⟩; replace hcur := Lib.hid (hcur.out.trans (hb2.mono hcur.out.size)); clear hb2) | (go_at_call 9; with_reducible refine (Hba.out _).mono ?_; rintro e w2 ⟨rfl, hb2⟩; replace hcur := Lib.hid (hcur.out.trans (hb2.mono hcur.out.size)); clear hb2))
      all_goals
        rename_i hHeld
        obtain ⟨-, d0, d1, d2, d3, d4, d5, d6, d7, d8⟩ := hHeld
        go_wp2_with (first | (go_at_call 10; refine (Hbf.out _).mono ?_; rintro e w3 ⟨rfl, hb3⟩; replace hcur := Lib.hid (hcur.out.trans (hb3.mono hcur.out.size)); clear hb3; obtain ⟨d0, d1, d2, d3, d4, d5, d6, d7, d8⟩ := HK.out _ hcur.out) | (go_at_call 9; with_reducible refine (Hbd.out _).mono ?_; rintro e w3 ⟨rfl, hb3⟩; replace hcur := Lib.hid (hcur.out.trans (hb3.mono hcur.out.size)); clear hb3; obtain ⟨d0, d1, d2, d3, d4, d5, d6, d7, d8⟩ := HK.out _ hcur.out) | (go_at_call 9; with_reducible refine (Had.out _).mono ?_; rintro e w3 ⟨rfl, hb3⟩; replace hcur := Lib.hid (hcur.out.trans (hb3.mono hcur.out.size)); clear hb3; obtain ⟨d0, d1, d2, d3, d4, d5, d6, d7, d8⟩ := HK.out _ hcur.out) | (go_at_call 6; refine (swakes_any _).mono ?_; rintro e w3 ⟨rfl, hb3⟩; replace hcur := Lib.hid (hcur.out.trans (hb3.mono hcur.out.size)); clear hb3))
        go_ret
        exact ⟨rfl, HB.out.trans (hcur.out.mono HB.out.size)⟩
end Go.Proofs.YtlledodigmkdjaaDoor
