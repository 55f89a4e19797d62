/-
  Walks over without and below of the statements of chapter 1, over ponderkeep.Within. No condition but bounds on sizes.
-/
import Derived.Test.YtggijlblipmfaaaRefMoreS
namespace Go.Proofs.Ytggijlblipmfaaa
set_option linter.unusedVariables false
open Go.RowKit
theorem del_take_yes {x : Sy} {xs : List Sy} {k : Nat} (h : k < xs.length) (e : xs[k] ≠ x) : del cmpY x (xs.take (k + 1)) = del cmpY x (xs.take k) ++ [xs[k]] := by
  rw [List.take_succ_eq_append_getElem h, del_append, del_cons_ne _ (fun c => e (cmpY_eq c).symm)]; rfl
theorem del_take_no {x : Sy} {xs : List Sy} {k : Nat} (h : k < xs.length) (e : xs[k] = x) : del cmpY x (xs.take (k + 1)) = del cmpY x (xs.take k) := by
  rw [List.take_succ_eq_append_getElem h, del_append, del_cons_eq _ (by rw [e]; exact cmpY_cmp.refl x)]; simp [del]
theorem place_take {x : Sy} {xs : List Sy} {k : Nat} (h : k < xs.length) : place cmpY x (xs.take (k + 1)) = place cmpY x (xs.take k) + (if cmpY xs[k] x < 0 then 1 else 0) := by
  rw [List.take_succ_eq_append_getElem h, place_append, place_cons]; rfl
theorem ListedS.of {w w' : World} {v : Value} {ys : List Sy} (h1 : Below w.heap.size w w') (h2 : SliceAt encS 3 w' v ys) : ListedS w ys (.returned v) w' := ⟨v, rfl, h1, h2⟩
theorem ownsRow_below {w w' : World} {base : Nat} {e : TypeId} {size : Nat} {v : Value} {n : Nat} {xs : List Value} (h : w.ownsRow base e size v n xs) (hb : Below w.heap.size w w') : w'.ownsRow base e size v n xs := by
  refine h.kept (row := none) (gbelow_none hb) ?_
  cases v.ownBlock with
  | none => exact .inl rfl
  | some k => exact .inr (by simp)
theorem without_nil (w : World) (x : Sy) : Calls Try.prog 22 #[.slice none 0 0, .agg #[.int .i64 x.k, .string x.t, .int .i64 x.n]] w (ListedS w []) := by
  go_enter Try.func22, Try.ntmps22
  go_wp2_with fail
  go_loopw [5, 6] (fun o i wr => o = .slice none 0 0 ∧ i = .int .i64 0 ∧ wr = w.alloc (.cells #[.int .i64 x.k, .string x.t, .int .i64 x.n] 26)) (fun _ _ _ => 0)
  case atStart => exact ⟨rfl, rfl, rfl⟩
  case round =>
    obtain ⟨rfl, rfl, rfl⟩ := hrel
    go_wp2_with fail
    go_ret
    exact ListedS.of (by go_grown) (.inl ⟨rfl, rfl⟩)
set_option maxRecDepth 100000 in
set_option maxHeartbeats 4000000 in
theorem without_some (w : World) (b off cap : Nat) (xs : List Sy) (x : Sy) (hz : xs.length ≤ 1000000) (hb : b < w.heap.size) (hc : CellsAt w b off xs) :
    Calls Try.prog 22 #[.slice (some ⟨b, off, none⟩) xs.length cap, .agg #[.int .i64 x.k, .string x.t, .int .i64 x.n]] w (ListedS w (del cmpY x xs)) := by
  obtain ⟨W2, hW2⟩ : ∃ W2, W2 = w.alloc (.cells #[.int .i64 x.k, .string x.t, .int .i64 x.n] 26) := ⟨_, rfl⟩
  have hB : Below w.heap.size w W2 := by rw [hW2]; go_grown
  have hs2 : w.heap.size + 1 ≤ W2.heap.size := by rw [hW2]; simp
  have hbox : W2.heap[w.heap.size]? = some (.cells #[.int .i64 x.k, .string x.t, .int .i64 x.n] 26 (0, 0)) := by rw [hW2]; exact new_at rfl
  have Hbox := Lib.hid hbox
  have HC := Lib.hid hc
  have HW := Lib.hid hW2
  clear hbox hc hW2
  obtain ⟨i0, hi, hz0, hz1, hz2⟩ := info_parts infoS
  go_enter Try.func22, Try.ntmps22
  go_wp2_with fail
  rw [← HW.out]
  go_loopw [5, 6] (fun o i wr => ∃ k : Nat, k ≤ xs.length ∧ i = .int .i64 k ∧ Below w.heap.size w wr ∧ w.heap.size + 1 ≤ wr.heap.size ∧ Hid (wr.heap[w.heap.size]? = some (.cells #[.int .i64 x.k, .string x.t, .int .i64 x.n] 26 (0, 0))) ∧ Hid (wr.ownsRow (w.heap.size + 1) 26 3 o (del cmpY x (xs.take k)).length ((del cmpY x (xs.take k)).flatMap encS))) (fun _ i _ => xs.length - (intOf i).toNat)
  case atStart => exact ⟨0, Nat.zero_le _, rfl, hB, hs2, Hbox, Lib.hid (World.ownsRow_nil _ _ _ _)⟩
  case round =>
    obtain ⟨k, hk, rfl, hbw, hsw, hbx, hown⟩ := hrel
    by_cases hlt : k < xs.length
    · obtain ⟨c0, c1, c2⟩ := (CellsAt.mono HC.out hb hbw).three hlt
      obtain ⟨x0, x1, x2, -, -, -, -⟩ := box_cells hbx.out (Below.refl _ _)
      have hki : (k : Int) < (xs.length : Int) := by omega
      have hl1 := del_length (c := cmpY) x (xs.take k)
      have hl2 : (xs.take k).length ≤ k := List.length_take_le _ _
      by_cases he : xs[k] = x
      · have HN := Lib.hid (del_take_no hlt he)
        have hq := neY_no he
        generalize xs[k] = y at c0 c1 c2 hq
        clear he
        go_wp2_with fail
        go_quiet (fail)
        obtain ⟨wz, hWz⟩ : ∃ wz, wz = wr.drewN nq := ⟨_, rfl⟩
        have hbz : Below wr.heap.size wr wz := by rw [hWz]; exact bdN _ (Below.refl _ _)
        have hown := Lib.hid (ownsRow_below hown.out hbz)
        have hbx := Lib.hid ((hbz.block _ (heap_lt hbx.out)).trans hbx.out)
        have hbw := hbw.trans (hbz.mono hbw.size)
        have hsw : w.heap.size + 1 ≤ wz.heap.size := Nat.le_trans hsw hbz.size
        rw [← hWz]
        clear hWz x0 x1 x2 hq c0 c1 c2
        go_wp2_with fail
        go_roundw
        case rel => exact ⟨k + 1, by omega, by go_num, hbw, hsw, hbx, by rw [HN.out]; exact hown⟩
        case measure => simp [intOf]; omega
      · have HN := Lib.hid (del_take_yes hlt he)
        have hq := neY_yes he
        generalize xs[k] = y at c0 c1 c2 hq HN
        clear he
        generalize del cmpY x (xs.take k) = ys at hown HN hl1
        go_wp2_with fail
        go_quiet (fail)
        obtain ⟨wz, hWz⟩ : ∃ wz, wz = wr.drewN nq := ⟨_, rfl⟩
        have hbz : Below wr.heap.size wr wz := by rw [hWz]; exact bdN _ (Below.refl _ _)
        have hown : Hid (wz.ownsRow (w.heap.size + 1) 26 3 u5 ys.length (ys.flatMap encS)) := Lib.hid (ownsRow_below hown.out hbz)
        have hbx := Lib.hid ((hbz.block _ (heap_lt hbx.out)).trans hbx.out)
        have hbw := hbw.trans (hbz.mono hbw.size)
        have hsw : w.heap.size + 1 ≤ wz.heap.size := Nat.le_trans hsw hbz.size
        have e0 := (hbz.cell (World.block_lt_of_cell? wr _ c0)).trans c0
        have e1 := (hbz.cell (World.block_lt_of_cell? wr _ c1)).trans c1
        have e2 := (hbz.cell (World.block_lt_of_cell? wr _ c2)).trans c2
        rw [← hWz]
        clear hWz c0 c1 c2 x0 x1 x2 hq
        go_wp2_with (at_builtin; refine wpList_append_own _ rfl (.tmp 19) (.tmp 24) 28 rfl (w.heap.size + 1) 26 i0 (.agg #[.int .i64 0, .string ⟨#[]⟩, .int .i64 0]) 3 32 Try.underlying28 hi hz0 hz1 hz2 rfl (by decide) _ _ _ rfl (hown.out.alloc _) ⟨wz.heap.size, 0, none⟩ 1 1 (encS y) rfl rfl (cell_three_new _ _ _) (by simp [encS, Value.oneCell']) (by unfold maxLen; omega) (by omega) (by simp; omega) ?_; intro v2 wb hown2 hg2 _; have hbb := below_own (B := w.heap.size) hg2 (hown.out.alloc _) (by simp; omega) (by omega); have hlt2 := (hown.out.alloc (.cells #[.int .i64 y.k, .string y.t, .int .i64 y.n] 26)).lt; have hbx2 := Lib.hid ((hg2.block _ (by simp; omega) (fun e => by have := (hlt2 _ e.symm).1; omega)).trans ((Below.heap_alloc wz _ _ (by have := heap_lt hbx.out; omega)).trans hbx.out)); have hbw2 := (hbw.alloc hbw.size _).trans hbb; have hs3 : w.heap.size + 1 ≤ wb.heap.size := Nat.le_trans hsw (Nat.le_trans (by simp) hg2.size); clear hg2 hlt2)
        go_roundw
        case rel => exact ⟨k + 1, by omega, by go_num, hbw2, hs3, hbx2, by rw [HN.out]; exact Lib.hid (by simpa [List.flatMap_append] using hown2)⟩
        case measure => simp [intOf]; omega
    · obtain rfl : k = xs.length := by omega
      rw [List.take_length] at hown
      go_wp2_with fail
      go_ret
      exact ListedS.of hbw (slice_of_owns hown.out)
theorem without_ref (w : World) (v : Value) (xs : List Sy) (x : Sy) (h : SliceAt encS 3 w v xs) (hz : xs.length ≤ 1000000) :
    Calls Try.prog 22 #[v, .agg #[.int .i64 x.k, .string x.t, .int .i64 x.n]] w (ListedS w (del cmpY x xs)) := by
  rcases h with ⟨rfl, rfl⟩ | ⟨b, off, cap, rfl, h2, h3, h4⟩
  · exact without_nil w x
  · exact without_some w b off cap xs x hz h2 h4
theorem below_nil (w : World) (x : Sy) : Calls Try.prog 25 #[.slice none 0 0, .agg #[.int .i64 x.k, .string x.t, .int .i64 x.n]] w fun e w' => e = .returned (.int .i64 0) ∧ Below w.heap.size w w' := by
  go_enter Try.func25, Try.ntmps25
  go_wp2_with fail
  go_loopw [5, 6] (fun o i wr => o = .int .i64 0 ∧ i = .int .i64 0 ∧ wr = w.alloc (.cells #[.int .i64 x.k, .string x.t, .int .i64 x.n] 26)) (fun _ _ _ => 0)
  case atStart => exact ⟨rfl, rfl, rfl⟩
  case round =>
    obtain ⟨rfl, rfl, rfl⟩ := hrel
    go_wp2_with fail
    go_ret
    exact ⟨rfl, by go_grown⟩
set_option maxRecDepth 100000 in
set_option maxHeartbeats 4000000 in
theorem below_some (w : World) (b off cap : Nat) (xs : List Sy) (x : Sy) (hz : xs.length ≤ 1000000) (hb : b < w.heap.size) (hc : CellsAt w b off xs) :
    Calls Try.prog 25 #[.slice (some ⟨b, off, none⟩) xs.length cap, .agg #[.int .i64 x.k, .string x.t, .int .i64 x.n]] w fun e w' => e = .returned (.int .i64 (place cmpY x xs)) ∧ Below w.heap.size w w' := by
  obtain ⟨W2, hW2⟩ : ∃ W2, W2 = w.alloc (.cells #[.int .i64 x.k, .string x.t, .int .i64 x.n] 26) := ⟨_, rfl⟩
  have hB : Below w.heap.size w W2 := by rw [hW2]; go_grown
  have hbox : W2.heap[w.heap.size]? = some (.cells #[.int .i64 x.k, .string x.t, .int .i64 x.n] 26 (0, 0)) := by rw [hW2]; exact new_at rfl
  have Hbox := Lib.hid hbox
  have HC := Lib.hid hc
  have HW := Lib.hid hW2
  have HB := Lib.hid hB
  clear hbox hc hW2 hB
  go_enter Try.func25, Try.ntmps25
  go_wp2_with fail
  rw [← HW.out]
  go_loopw [5, 6] (fun o i wr => ∃ k m : Nat, k ≤ xs.length ∧ i = .int .i64 k ∧ o = .int .i64 m ∧ m ≤ k ∧ Below W2.heap.size W2 wr ∧ Hid (place cmpY x (xs.take k) = m)) (fun _ i _ => xs.length - (intOf i).toNat)
  case atStart => exact ⟨0, 0, Nat.zero_le _, rfl, rfl, Nat.le_refl _, Below.refl _ _, Lib.hid rfl⟩
  case round =>
    obtain ⟨k, m, hk, rfl, rfl, hmk, hbw, hpl⟩ := hrel
    have hww := HB.out.trans (hbw.mono HB.out.size)
    by_cases hlt : k < xs.length
    · have KEEP : ∀ w', Below wr.heap.size wr w' → w'.cell? ⟨w.heap.size, 0, none⟩ = some (.int .i64 x.k) ∧ w'.cell? ⟨w.heap.size, 1, none⟩ = some (.string x.t) ∧ w'.cell? ⟨w.heap.size, 2, none⟩ = some (.int .i64 x.n) ∧
          w'.cell? ⟨b, off + k * 3, none⟩ = some (.int .i64 xs[k].k) ∧ w'.cell? ⟨b, off + k * 3 + 1, none⟩ = some (.string xs[k].t) ∧ w'.cell? ⟨b, off + k * 3 + 2, none⟩ = some (.int .i64 xs[k].n) := by
        intro w' h
        obtain ⟨x0, x1, x2, -, -, -, -⟩ := box_cells Hbox.out (hbw.trans (h.mono hbw.size))
        obtain ⟨c0, c1, c2⟩ := (CellsAt.mono HC.out hb (hww.trans (h.mono hww.size))).three hlt
        exact ⟨x0, x1, x2, c0, c1, c2⟩
      have hki : (k : Int) < (xs.length : Int) := by omega
      have hpt := place_take (x := x) hlt
      by_cases h1 : cmpY xs[k] x < 0
      · have HN : Hid (place cmpY x (xs.take (k + 1)) = m + 1) := Lib.hid (by rw [hpt, hpl.out, if_pos h1])
        have HBf := Lib.hid (fun w => bef_yes h1 w)
        clear hpt
        generalize xs[k] = y at KEEP HBf
        have hK := Lib.hid KEEP
        clear h1 KEEP
        go_wp2_with fail
        go_region_held3 (fun w' => Below wr.heap.size wr w' ∧ w'.cell? ⟨w.heap.size, 0, none⟩ = some (.int .i64 x.k) ∧ w'.cell? ⟨w.heap.size, 1, none⟩ = some (.string x.t) ∧ w'.cell? ⟨w.heap.size, 2, none⟩ = some (.int .i64 x.n) ∧
            w'.cell? ⟨b, off + k * 3, none⟩ = some (.int .i64 y.k) ∧ w'.cell? ⟨b, off + k * 3 + 1, none⟩ = some (.string y.t) ∧ w'.cell? ⟨b, off + k * 3 + 2, none⟩ = some (.int .i64 y.n))
            (first | exact ⟨(Below.refl _ _).drew, hK.out _ (Below.refl _ _).drew⟩ | exact ⟨hBa.out, hK.out _ hBa.out⟩ | go_keep)
            (first | (go_at_call 70; refine (HBf.out _).mono ?_; rintro e w1 ⟨rfl, hb1⟩; have hBa := Lib.hid ((Below.refl wr.heap.size wr).drew.trans hb1)))
        go_wp2_with fail
        go_roundw
        case rel => exact ⟨k + 1, m + 1, by omega, by go_num, by go_num, by omega, hbw.trans (hBa.out.mono hbw.size), HN⟩
        case measure => simp [intOf]; omega
      · have HN : Hid (place cmpY x (xs.take (k + 1)) = m) := Lib.hid (by rw [hpt, hpl.out, if_neg h1]; rfl)
        have HBf := Lib.hid (fun w => bef_no h1 w)
        clear hpt
        generalize xs[k] = y at KEEP HBf
        have hK := Lib.hid KEEP
        clear h1 KEEP
        go_wp2_with fail
        go_region_held3 (fun w' => Below wr.heap.size wr w' ∧ w'.cell? ⟨w.heap.size, 0, none⟩ = some (.int .i64 x.k) ∧ w'.cell? ⟨w.heap.size, 1, none⟩ = some (.string x.t) ∧ w'.cell? ⟨w.heap.size, 2, none⟩ = some (.int .i64 x.n) ∧
            w'.cell? ⟨b, off + k * 3, none⟩ = some (.int .i64 y.k) ∧ w'.cell? ⟨b, off + k * 3 + 1, none⟩ = some (.string y.t) ∧ w'.cell? ⟨b, off + k * 3 + 2, none⟩ = some (.int .i64 y.n))
            (first | exact ⟨(Below.refl _ _).drew, hK.out _ (Below.refl _ _).drew⟩ | exact ⟨hBa.out, hK.out _ hBa.out⟩ | go_keep)
            (first | (go_at_call 70; refine (HBf.out _).mono ?_; rintro e w1 ⟨rfl, hb1⟩; have hBa := Lib.hid ((Below.refl wr.heap.size wr).drew.trans hb1)))
        go_wp2_with fail
        go_roundw
        case rel => exact ⟨k + 1, m, by omega, by go_num, rfl, by omega, hbw.trans (hBa.out.mono hbw.size), HN⟩
        case measure => simp [intOf]; omega
    · obtain rfl : k = xs.length := by omega
      rw [List.take_length] at hpl
      go_wp2_with fail
      go_ret
      exact ⟨by rw [hpl.out]; rfl, hww⟩
theorem below_ref (w : World) (v : Value) (xs : List Sy) (x : Sy) (h : SliceAt encS 3 w v xs) (hz : xs.length ≤ 1000000) :
    Calls Try.prog 25 #[v, .agg #[.int .i64 x.k, .string x.t, .int .i64 x.n]] w fun e w' => e = .returned (.int .i64 (place cmpY x xs)) ∧ Below w.heap.size w w' := by
  rcases h with ⟨rfl, rfl⟩ | ⟨b, off, cap, rfl, h2, h3, h4⟩
  · exact below_nil w x
  · exact below_some w b off cap xs x hz h2 h4
/-- Any number as one from 0 to n - 1. -/
theorem within_full (w : World) (v : Int) (n : Nat) (hn : 1 ≤ n) (hn2 : n ≤ 1000000) :
    Calls Try.prog 18 #[.int .i64 v, .int .i64 n] w fun e w' => (∃ m : Nat, m < n ∧ e = .returned (.int .i64 m)) ∧ w' = w := by
  have hd : decide ((n : Int) < 1) = false := by simp; omega
  have hz : ((n : Int) == 0) = false := by simp; omega
  have h1 : -(n : Int) < v.tmod n := by have := Int.lt_tmod_of_pos v (show (0 : Int) < n by omega); omega
  have h2 : v.tmod n < n := Int.tmod_lt_of_pos v (by omega)
  by_cases h3 : v.tmod n < 0
  · have hd2 : decide (v.tmod (n : Int) < 0) = true := by simpa using h3
    obtain ⟨m, hm⟩ : ∃ m : Nat, v.tmod (n : Int) + n = m := ⟨(v.tmod (n : Int) + n).toNat, by omega⟩
    have hm2 : m < n := by omega
    have hfin : ∀ e : Ending, e = .returned (.int .i64 (v.tmod (n : Int) + n)) → ∃ m : Nat, m < n ∧ e = .returned (.int .i64 m) := fun e h => ⟨m, hm2, by rw [h, hm]⟩
    have Hfin := Lib.hid hfin
    clear hm hfin
    go_enter Try.func18, Try.ntmps18
    go_wp2_with fail
    go_ret
    exact ⟨Hfin.out _ rfl, rfl⟩
  · have hd2 : decide (v.tmod (n : Int) < 0) = false := by simpa using h3
    obtain ⟨m, hm⟩ : ∃ m : Nat, v.tmod (n : Int) = m := ⟨(v.tmod (n : Int)).toNat, by omega⟩
    have hm2 : m < n := by omega
    have hfin : ∀ e : Ending, e = .returned (.int .i64 (v.tmod (n : Int))) → ∃ m : Nat, m < n ∧ e = .returned (.int .i64 m) := fun e h => ⟨m, hm2, by rw [h, hm]⟩
    have Hfin := Lib.hid hfin
    clear hm hfin
    go_enter Try.func18, Try.ntmps18
    go_wp2_with fail
    go_ret
    exact ⟨Hfin.out _ rfl, rfl⟩
end Go.Proofs.Ytggijlblipmfaaa
