/-
  The walk of the law LexJoins. What the listed variables give is a premise.
-/
import Derived.Test.YtocdclcemebaeaaDoorLexHelp
import Derived.Deep.RegionHeld3
namespace Go.Proofs.YtocdclcemebaeaaDoor
set_option linter.unusedVariables false
open Go.RowKit
theorem sy_iff {x y : Sy} : x = y ↔ x.k = y.k ∧ x.t.toList = y.t.toList ∧ x.n = y.n := by
  constructor
  · rintro rfl; exact ⟨rfl, rfl, rfl⟩
  · rintro ⟨h1, h2, h3⟩
    cases x; cases y
    simp only [Lib.toList_data] at h2
    simp only at h1 h3
    subst h1; subst h3
    rw [ByteArray.ext (Array.toList_inj.mp h2)]
theorem eqT_run (x y : Sy) (w : World) : (binOp .eql 30 (.agg #[.int .i64 x.k, .string x.t, .int .i64 x.n]) (.agg #[.int .i64 y.k, .string y.t, .int .i64 y.n])).run Tryd.prog w = .ok (.bool (decide (x = y))) w := by
  simp only [sy_iff]
  simp [go_sem]
  split <;> (try split) <;> (try split) <;> simp_all
theorem neT_run (x y : Sy) (w : World) : (binOp .neq 30 (.agg #[.int .i64 x.k, .string x.t, .int .i64 x.n]) (.agg #[.int .i64 y.k, .string y.t, .int .i64 y.n])).run Tryd.prog w = .ok (.bool (!decide (x = y))) w := by
  simp only [sy_iff]
  simp [go_sem]
  split <;> (try split) <;> (try split) <;> simp_all
theorem eqT_yes {x y : Sy} (h : x = y) (w : World) : (binOp .eql 30 (.agg #[.int .i64 x.k, .string x.t, .int .i64 x.n]) (.agg #[.int .i64 y.k, .string y.t, .int .i64 y.n])).run Tryd.prog w = .ok (.bool true) w := by rw [eqT_run]; simp [h]
theorem eqT_no {x y : Sy} (h : x ≠ y) (w : World) : (binOp .eql 30 (.agg #[.int .i64 x.k, .string x.t, .int .i64 x.n]) (.agg #[.int .i64 y.k, .string y.t, .int .i64 y.n])).run Tryd.prog w = .ok (.bool false) w := by rw [eqT_run]; simp [h]
theorem neT_yes {x y : Sy} (h : x ≠ y) (w : World) : (binOp .neq 30 (.agg #[.int .i64 x.k, .string x.t, .int .i64 x.n]) (.agg #[.int .i64 y.k, .string y.t, .int .i64 y.n])).run Tryd.prog w = .ok (.bool true) w := by rw [neT_run]; simp [h]
theorem neT_no {x y : Sy} (h : x = y) (w : World) : (binOp .neq 30 (.agg #[.int .i64 x.k, .string x.t, .int .i64 x.n]) (.agg #[.int .i64 y.k, .string y.t, .int .i64 y.n])).run Tryd.prog w = .ok (.bool false) w := by rw [neT_run]; simp [h]

/-- Where tokens stand. -/
theorem lex_at : ∀ (m n : Nat) (l : List UInt8), l.length ≤ m → ∀ z ∈ lexFrom n l, (0 : Int) ≤ z.n ∧ z.n ≤ ((n + l.length : Nat) : Int)
  | m, n, l, hm => by
    intro z hz
    have hgl := gap_le false l
    have hn : (tokL (n + gapL false l) (l.drop (gapL false l))).n = ((n + gapL false l : Nat) : Int) := by unfold tokL holdL; split <;> rfl
    rw [lex_step] at hz
    simp only at hz
    split at hz
    · rw [List.mem_singleton.1 hz, hn]; omega
    · rename_i hk
      rcases List.mem_cons.1 hz with rfl | hz
      · rw [hn]; omega
      · have hne : l.drop (gapL false l) ≠ [] := by
          intro h; rw [h] at hk; exact hk (.inl rfl)
        have h1 := cut_pos _ hne
        have h3 := cut_le (l.drop (gapL false l))
        rw [List.length_drop] at h3
        cases m with
        | zero => omega
        | succ m =>
          have ih := lex_at m _ _ (by rw [List.length_drop, List.length_drop]; omega) z hz
          rw [List.length_drop, List.length_drop] at ih
          omega
theorem set_third {w : World} {B : Nat} {a b c d : Value} {t : TypeId} (h : w.heap[B]? = some (.cells #[a, b, c] t (0, 0))) : (w.setCell ⟨B, 2, none⟩ d).heap[B]? = some (.cells #[a, b, d] t (0, 0)) := by
  simp [World.setCell, Array.getElem?_modify, h]
theorem cells_row {w w' : World} {g : Nat} {xs : List Sy} (h : CellsAt w g 0 xs) (hg : g < w.heap.size) (hb : Below w.heap.size w w') {k : Nat} (hk : k < xs.length) {z : Sy} (hz : xs[k] = z) :
    w'.cell? ⟨g, k * 3, none⟩ = some (.int .i64 z.k) ∧ w'.cell? ⟨g, k * 3 + 1, none⟩ = some (.string z.t) ∧ w'.cell? ⟨g, k * 3 + 2, none⟩ = some (.int .i64 z.n) := by
  have h3 := (CellsAt.mono h hg hb).three hk
  rw [hz] at h3
  simpa only [Nat.zero_add] using h3
/-- The tokens of a text behind another. -/
theorem joins_plain (a b : List UInt8) (X Y Z : List Sy) (hX : X = lexL (a ++ [10])) (hY : Y = lexL b) (hZ : Z = lexL (a ++ 10 :: b)) : X ≠ [] ∧ Y ≠ [] ∧
    ((∃ h : X.length - 1 < X.length, X[X.length - 1].k = 6 ∧ Z = X) ∨ (∃ h : X.length - 1 < X.length, X[X.length - 1].k ≠ 6 ∧ Z.length = X.length - 1 + Y.length ∧ (∀ i (h1 : i < X.length - 1) (h2 : i < Z.length), Z[i] = X[i]'(by omega)) ∧
      ∀ i (h1 : i < Y.length) (h2 : X.length - 1 + i < Z.length), Z[X.length - 1 + i] = shiftT (a.length + 1) Y[i])) := by
  have hxn : X ≠ [] := by rw [hX]; exact lex_ne _ _
  have hyn : Y ≠ [] := by rw [hY]; exact lex_ne _ _
  have hlt : X.length - 1 < X.length := by
    have := List.length_pos_iff.2 hxn
    omega
  obtain ⟨h1, h2⟩ := lex_ten b a.length 0 a (Nat.le_refl _)
  rw [← lexL_from, ← lexL_from, ← hX, ← hZ] at h1 h2
  have hbe : badEnd X ↔ X[X.length - 1].k = 6 := by
    unfold badEnd
    rw [List.getLast?_eq_getElem?, List.getElem?_eq_getElem hlt]
    exact ⟨fun ⟨t, ht, hk⟩ => by cases ht; exact hk, fun h => ⟨_, rfl, h⟩⟩
  refine ⟨hxn, hyn, ?_⟩
  by_cases hb : badEnd X
  · exact .inl ⟨hlt, hbe.1 hb, h1 hb⟩
  · have h3 := h2 hb
    rw [show 0 + a.length + 1 = 0 + (a.length + 1) by omega, lex_shift (a.length + 1) _ 0 b (Nat.le_refl _), ← lexL_from, ← hY] at h3
    refine .inr ⟨hlt, fun h => hb (hbe.2 h), by rw [h3]; simp, fun i i1 i2 => ?_, fun i i1 i2 => ?_⟩
    · simp only [h3]
      rw [List.getElem_append_left (by simpa using i1), List.getElem_dropLast]
    · simp only [h3]
      rw [List.getElem_append_right (by simp)]
      simp
set_option maxRecDepth 100000 in
set_option maxHeartbeats 8000000 in
theorem joins_walk (w : World) (a b : ByteArray) (ha : a.size ≤ maxLen) (hb : b.size ≤ maxLen) (hL : LexAt w) : Calls Tryd.prog 7 #[.string a, .string b] w fun e w' => e = .returned (.bool true) ∧ Below w.heap.size w w' := by
  unfold maxLen at ha hb
  by_cases hlong : 1000 < a.size
  · go_enter Tryd.func7, Tryd.ntmps7
    go_wp2_with (go_at_call 9; refine (lwakes_any _ hL).mono ?_; rintro e w2 ⟨rfl, hb2⟩)
    go_ret
    exact ⟨rfl, hb2⟩
  by_cases hlong2 : 1000 < b.size
  · go_enter Tryd.func7, Tryd.ntmps7
    go_wp2_with (go_at_call 9; refine (lwakes_any _ hL).mono ?_; rintro e w2 ⟨rfl, hb2⟩)
    go_ret
    exact ⟨rfl, hb2⟩
  obtain ⟨V, hV⟩ : ∃ V, V = a ++ ⟨#[10]⟩ := ⟨_, rfl⟩
  obtain ⟨U, hU⟩ : ∃ U, U = V ++ b := ⟨_, rfl⟩
  have hVz : V.size = a.size + 1 := by rw [hV, cat_size]; rfl
  have hUz : U.size = a.size + 1 + b.size := by rw [hU, cat_size, hVz]
  have ad1 := add_str a ⟨#[10]⟩ (by omega) (by decide)
  have ad2 := add_str V b (by omega) (by omega)
  rw [← hV] at ad1
  rw [← hU] at ad2
  obtain ⟨X, hX⟩ : ∃ X, X = lexL V.data.toList := ⟨_, rfl⟩
  obtain ⟨Y, hY⟩ : ∃ Y, Y = lexL b.data.toList := ⟨_, rfl⟩
  obtain ⟨Z, hZ⟩ : ∃ Z, Z = lexL U.data.toList := ⟨_, rfl⟩
  have hall1 := lall_any V (by omega) w hL
  have hall2 := fun w' (h : Below w.heap.size w w') => lall_any b (by omega) w' (hL.mono h)
  have hall3 := fun w' (h : Below w.heap.size w w') => lall_any U (by omega) w' (hL.mono h)
  rw [← hX] at hall1
  rw [← hY] at hall2
  rw [← hZ] at hall3
  have hVl : V.data.toList = a.data.toList ++ [10] := by rw [hV, cat_data]
  have hUl : U.data.toList = a.data.toList ++ 10 :: b.data.toList := by rw [hU, cat_data, hVl]; simp
  obtain ⟨hxn, hyn, hpl⟩ := joins_plain a.data.toList b.data.toList X Y Z (by rw [hX, hVl]) hY (by rw [hZ, hUl])
  rw [str_size] at hpl
  have lenb : ∀ (s : ByteArray), s.size ≤ 3000 → (lexL s.data.toList).length ≤ 3001 := fun s hs => by
    have h1 := lex_len _ 0 s.data.toList (Nat.le_refl _)
    rw [← lexL_from, str_size] at h1
    omega
  have hXl : X.length ≤ 3001 := by rw [hX]; exact lenb V (by omega)
  have hYl : Y.length ≤ 3001 := by rw [hY]; exact lenb b (by omega)
  have hZl : Z.length ≤ 3001 := by rw [hZ]; exact lenb U (by omega)
  have hYn : ∀ y ∈ Y, (0 : Int) ≤ y.n ∧ y.n ≤ 1000 := fun y hy => by
    rw [hY, lexL_from] at hy
    have h := lex_at _ 0 _ (Nat.le_refl _) y hy
    rw [str_size] at h
    omega
  have HYn := Lib.hid hYn
  clear hYn
  have hX1 : 1 ≤ X.length := List.length_pos_iff.2 hxn
  have hY1 : 1 ≤ Y.length := List.length_pos_iff.2 hyn
  have hzn : Z ≠ [] := by rw [hZ]; exact lex_ne _ _
  have b0 : ((X.length : Int) == 0) = false := by simp; omega
  have b1 : ((Y.length : Int) == 0) = false := by simp; omega
  have H1 := Lib.hid hall1
  have H2 := Lib.hid hall2
  have H3 := Lib.hid hall3
  have HP := Lib.hid hpl
  have HL := Lib.hid hL
  have NX := Lib.hid hxn
  have NY := Lib.hid hyn
  have NZ := Lib.hid hzn
  clear hall1 hall2 hall3 hpl hL hVl hUl hX hY hZ hxn hyn hzn lenb hV hU hVz hUz
  go_enter Tryd.func7, Tryd.ntmps7
  go_wp2_with fail
  refine H1.out.mono ?_
  rintro e w1 ⟨v1, rfl, hown1, -, hb1⟩
  obtain ⟨gx, cx, rfl, -, hgx, hcx⟩ := owns_at hown1 NX.out
  have HB1 := Lib.hid hb1
  have CX := Lib.hid hcx
  clear hown1 hb1 hcx
  go_wp2_with fail
  refine (H2.out _ HB1.out).mono ?_
  rintro e w2 ⟨v2, rfl, hown2, -, hb2⟩
  obtain ⟨gy, cy, rfl, -, hgy, hcy⟩ := owns_at hown2 NY.out
  have HB2 := Lib.hid (HB1.out.trans (hb2.mono HB1.out.size))
  have HX2 := Lib.hid hb2
  have CY := Lib.hid hcy
  clear hown2 hb2 hcy
  go_wp2_with fail
  refine (H3.out _ HB2.out).mono ?_
  rintro e w3 ⟨v3, rfl, hown3, -, hb3⟩
  obtain ⟨gz, cz, rfl, -, hgz, hcz⟩ := owns_at hown3 NZ.out
  have HB3 := Lib.hid (HB2.out.trans (hb3.mono HB2.out.size))
  have HX3 := Lib.hid (HX2.out.trans (hb3.mono HX2.out.size))
  have HY3 := Lib.hid hb3
  have CZ := Lib.hid hcz
  clear hown3 hb3 hcz H1 H2 H3
  obtain ⟨n, hn⟩ : ∃ n, n = X.length - 1 := ⟨_, rfl⟩
  have hnx : (X.length : Int) - 1 = (n : Int) := by omega
  rcases HP.out with ⟨hlt, hk6, hZX⟩ | ⟨hlt, hk6, hZn, hlo, hhi⟩
  · subst hZX
    have hlt2 : n < Z.length := by omega
    have hk6' : (Z[n]'hlt2).k = 6 := by subst hn; exact hk6
    obtain ⟨x, hx⟩ : ∃ x, x = Z[n]'hlt2 := ⟨_, rfl⟩
    rw [← hx] at hk6'
    have fx := fun w' (h : Below w3.heap.size w3 w') => cells_row CX.out hgx (HX3.out.trans (h.mono HX3.out.size)) hlt2 hx.symm
    have fz := fun w' (h : Below w3.heap.size w3 w') => cells_row CZ.out hgz h hlt2 hx.symm
    obtain ⟨x0, x1, x2⟩ := fx w3 (Below.refl _ _)
    obtain ⟨z0, z1, z2⟩ := fz w3 (Below.refl _ _)
    have b6 : (x.k == 6) = true := by simp [hk6']
    have hni : (n : Int) < (Z.length : Int) := by omega
    have hq := fun w' => eqT_yes (rfl : x = x) w'
    have hwk := fun w' (h : Below w3.heap.size w3 w') => lwakes_any w' (HL.out.mono (HB3.out.trans (h.mono HB3.out.size)))
    have FX := Lib.hid fx
    have FZ := Lib.hid fz
    have HW := Lib.hid hwk
    clear hwk hx fx fz hk6 hk6' hn hlt HP
    go_wp2_with fail
    have hcur : Hid (Below w3.heap.size w3 w3.drew) := Lib.hid (Below.refl _ _).drew
    go_region_held3 (fun w' => Below w3.heap.size w3 w' ∧ w'.cell? ⟨gx, n * 3, none⟩ = some (.int .i64 x.k) ∧ w'.cell? ⟨gx, n * 3 + 1, none⟩ = some (.string x.t) ∧ w'.cell? ⟨gx, n * 3 + 2, none⟩ = some (.int .i64 x.n) ∧ w'.cell? ⟨gz, n * 3, none⟩ = some (.int .i64 x.k) ∧ w'.cell? ⟨gz, n * 3 + 1, none⟩ = some (.string x.t) ∧ w'.cell? ⟨gz, n * 3 + 2, none⟩ = some (.int .i64 x.n))
      (first | (obtain ⟨x0, x1, x2⟩ := FX.out _ hcur.out; exact ⟨hcur.out, x0, x1, x2, FZ.out _ hcur.out⟩) | go_keep)
      (first | (go_at_call 9; refine (HW.out _ hcur.out).mono ?_; rintro e wx ⟨rfl, hbx⟩; replace hcur := Lib.hid (hcur.out.trans (hbx.mono hcur.out.size)); clear hbx))
    all_goals
      rename_i hHeld
      have HH := Lib.hid (HB3.out.trans (hcur.out.mono HB3.out.size))
      clear hHeld
      go_wp2_with fail
      go_ret
      exact ⟨rfl, HH.out⟩
  · have hlt2 : n < X.length := by omega
    have hk6' : ¬ (X[n]'hlt2).k = 6 := by subst hn; exact hk6
    obtain ⟨x, hx⟩ : ∃ x, x = X[n]'hlt2 := ⟨_, rfl⟩
    rw [← hx] at hk6'
    obtain ⟨x0, x1, x2⟩ := cells_row CX.out hgx HX3.out hlt2 hx.symm
    have b6 : (x.k == 6) = false := by simp [hk6']
    rw [← hn] at hZn
    have bz : ((Z.length : Int) != (n : Int) + (Y.length : Int)) = false := by simp; omega
    have HLO : Hid (∀ i (h1 : i < n) (h2 : i < Z.length) (h3 : i < X.length), Z[i] = X[i]) := Lib.hid (fun i h1 h2 _ => hlo i (by omega) h2)
    have HHI : Hid (∀ i (h1 : i < Y.length) (h2 : n + i < Z.length), Z[n + i] = shiftT (a.size + 1) Y[i]) := Lib.hid (by subst hn; exact hhi)
    have HN := Lib.hid hn
    have HZN := Lib.hid hZn
    clear hx hk6 hk6' hlt HP hlo hhi hn hZn
    go_wp2_with fail
    clear x0 x1 x2 b6 bz hnx
    go_loopw [9] (fun i wr => ∃ m : Nat, m ≤ Z.length ∧ i = .int .i64 m ∧ Hid (Below w3.heap.size w3 wr)) (fun i _ => Z.length - (intOf i).toNat)
    case atStart => exact ⟨0, Nat.zero_le _, rfl, Lib.hid (Below.refl _ _)⟩
    case round =>
      obtain ⟨m, hm, rfl, hBr⟩ := hrel
      by_cases hml : m < Z.length
      · have hmi : (m : Int) < (Z.length : Int) := by omega
        by_cases hmn : m < n
        · have hmx : m < X.length := by have := HN.out; omega
          have hmxi : (m : Int) < (X.length : Int) := by omega
          have he : Z[m] = X[m] := HLO.out m hmn hml hmx
          obtain ⟨z, hz⟩ : ∃ z, z = Z[m] := ⟨_, rfl⟩
          obtain ⟨z0, z1, z2⟩ := cells_row CZ.out hgz hBr.out hml hz.symm
          obtain ⟨y0, y1, y2⟩ := cells_row CX.out hgx (HX3.out.trans (hBr.out.mono HX3.out.size)) hmx (he ▸ hz.symm)
          have hq := fun w' => neT_no (rfl : z = z) w'
          clear he hz
          go_wp2_with fail
          go_quiet (fail)
          go_wp2_with fail
          go_roundw
          case rel => exact ⟨m + 1, by omega, by go_num, Lib.hid (bdN _ hBr.out)⟩
          case measure => simp [intOf]; omega
        · obtain ⟨j, hj⟩ : ∃ j, j = m - n := ⟨_, rfl⟩
          have hjl : j < Y.length := by have := HZN.out; omega
          have hji : (j : Int) < (Y.length : Int) := by omega
          have hsub : (m : Int) - (n : Int) = (j : Int) := by omega
          have hmj : m = n + j := by omega
          have he : Z[m] = shiftT (a.size + 1) Y[j] := by
            have h := HHI.out j hjl (by omega)
            simp only [← hmj] at h
            exact h
          obtain ⟨y, hy⟩ : ∃ y, y = Y[j] := ⟨_, rfl⟩
          rw [← hy] at he
          have fz := fun w' (h : Below wr.heap.size wr w') => cells_row CZ.out hgz (hBr.out.trans (h.mono hBr.out.size)) hml he
          obtain ⟨y0, y1, y2⟩ := cells_row CY.out hgy (HY3.out.trans (hBr.out.mono HY3.out.size)) hjl hy.symm
          obtain ⟨z, hz⟩ : ∃ z, z = shiftT (a.size + 1) y := ⟨_, rfl⟩
          rw [← hz] at fz
          have hzk : z.k = y.k ∧ z.t = y.t ∧ z.n = y.n + ((a.size : Int) + 1) := by rw [hz]; exact ⟨rfl, rfl, by show y.n + _ = _; simp⟩
          have hq := fun w' => neT_no (rfl : z = z) w'
          have FZ := Lib.hid fz
          have HZK := Lib.hid hzk
          have hmn2 : ¬ (m : Int) < (n : Int) := by omega
          obtain ⟨yb1, yb2⟩ := HYn.out y (by rw [hy]; exact List.getElem_mem hjl)
          have has : a.size ≤ 1000 := by omega
          clear he hy hmj hz hzk fz hj
          go_wp2_with fail
          obtain ⟨Wq, hWq⟩ : ∃ Wq, Wq = wr.alloc (.cells #[.int .i64 y.k, .string y.t, .int .i64 (y.n + ((a.size : Int) + 1))] 30) := ⟨_, rfl⟩
          have hbW : Below wr.heap.size wr Wq := by rw [hWq]; go_grown
          have hxq : Wq.heap[wr.heap.size]? = some (.cells #[.int .i64 y.k, .string y.t, .int .i64 (y.n + ((a.size : Int) + 1))] 30 (0, 0)) := by
            rw [hWq]; exact new_at rfl
          have t0 : Wq.cell? ⟨wr.heap.size, 0, none⟩ = some (.int .i64 z.k) := by rw [cells_of hxq, HZK.out.1]; rfl
          have t1 : Wq.cell? ⟨wr.heap.size, 1, none⟩ = some (.string z.t) := by rw [cells_of hxq, HZK.out.2.1]; rfl
          have t2 : Wq.cell? ⟨wr.heap.size, 2, none⟩ = some (.int .i64 z.n) := by rw [cells_of hxq, HZK.out.2.2]; rfl
          obtain ⟨z0, z1, z2⟩ := FZ.out _ hbW
          have HBq := Lib.hid (hBr.out.trans (hbW.mono hBr.out.size))
          rw [← hWq]
          clear hWq hbW hxq y0 y1 y2
          go_quiet (fail)
          go_wp2_with fail
          go_roundw
          case rel => exact ⟨m + 1, by omega, by go_num, Lib.hid (bdN _ HBq.out)⟩
          case measure => simp [intOf]; omega
      · obtain rfl : m = Z.length := by omega
        have hBq := HB3.out.trans (hBr.out.mono HB3.out.size)
        have hwk := lwakes_any wr (HL.out.mono hBq)
        have HQ := Lib.hid hBq
        clear hBq
        go_wp2_with (go_at_call 9; refine hwk.mono ?_; rintro e w4 ⟨rfl, hb4⟩)
        go_ret
        exact ⟨rfl, HQ.out.trans (hb4.mono HQ.out.size)⟩
end Go.Proofs.YtocdclcemebaeaaDoor
