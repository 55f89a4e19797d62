/-
  Walks over ponderref04.Has and Put at any slice, over without and below of the statements, over ponderkeep.Syms. No condition but bounds on sizes.
-/
import Derived.Test.YtggijlblipmfaaaRefPutS
namespace Go.Proofs.Ytggijlblipmfaaa
set_option linter.unusedVariables false
open Go.RowKit
theorem has_nilref (w : World) (x : Sy) : Calls Try.prog 17 #[.slice none 0 0, .agg #[.int .i64 x.k, .string x.t, .int .i64 x.n]] w fun e w' => e = .returned (.bool false) ∧ Below w.heap.size w w' := by
  go_enter Try.func17, Try.ntmps17
  go_wp2_with fail
  go_loopw [5] (fun i wr => i = .int .i64 0 ∧ wr = w.alloc (.cells #[.int .i64 x.k, .string x.t, .int .i64 x.n] 26)) (fun _ _ => 0)
  case atStart => exact ⟨rfl, rfl⟩
  case round =>
    obtain ⟨rfl, rfl⟩ := hrel
    go_wp2_with fail
    go_ret
    exact ⟨rfl, by go_grown⟩
theorem has_ref (w : World) (v : Value) (xs : List Sy) (x : Sy) (h : SliceAt encS 3 w v xs) (hz : xs.length ≤ 1000000) :
    Calls Try.prog 17 #[v, .agg #[.int .i64 x.k, .string x.t, .int .i64 x.n]] w fun e w' => e = .returned (.bool (has cmpY x xs)) ∧ Below w.heap.size w w' := by
  rcases h with ⟨rfl, rfl⟩ | ⟨b, off, cap, rfl, h2, -, h4⟩
  · exact has_nilref w x
  · exact has_some w b off cap xs x hz h2 h4
set_option maxRecDepth 100000 in
set_option maxHeartbeats 1000000 in
theorem putref_nil (w : World) (x : Sy) : Calls Try.prog 20 #[.slice none 0 0, .agg #[.int .i64 x.k, .string x.t, .int .i64 x.n]] w (ListedS w [x]) := by
  have hfin : ∀ v w2, Below w.heap.size w w2 → SliceAt encS 3 w2 v [x] → ListedS w [x] (.returned v) w2 := fun v w2 h1 h2 => ⟨v, rfl, h1, h2⟩
  have Hfin := Lib.hid hfin
  obtain ⟨W2, hW2⟩ : ∃ W2, W2 = w.alloc (.cells #[.int .i64 x.k, .string x.t, .int .i64 x.n] 26) := ⟨_, rfl⟩
  have hB : Below w.heap.size w W2 := by rw [hW2]; go_grown
  have hbox : W2.heap[w.heap.size]? = some (.cells #[.int .i64 x.k, .string x.t, .int .i64 x.n] 26 (0, 0)) := by rw [hW2]; exact new_at rfl
  have Hbox := Lib.hid hbox
  have HW := Lib.hid hW2
  have HB := Lib.hid hB
  clear hbox hW2 hB hfin
  obtain ⟨i0, hi, hz0, hz1, hz2⟩ := info_parts infoS
  go_enter Try.func20, Try.ntmps20
  go_wp2_with fail
  rw [← HW.out]
  go_loopw [5] (fun i wr => i = .int .i64 0 ∧ wr = W2) (fun _ _ => 0)
  case atStart => exact ⟨rfl, rfl⟩
  case round =>
    obtain ⟨rfl, rfl⟩ := hrel
    obtain ⟨w0, hw0⟩ : ∃ w0 : World, w0 = wr := ⟨_, rfl⟩
    rw [← hw0] at HB Hbox ⊢
    clear hw0 HW
    go_wp2_with fail
    go_quiet (fail)
    obtain ⟨wy, hWy⟩ : ∃ wy, wy = w0.drewN nq := ⟨_, rfl⟩
    rw [← hWy]
    go_wp2_with fail
    go_quiet (fail)
    obtain ⟨wz, hWz⟩ : ∃ wz, wz = wy.drewN nq := ⟨_, rfl⟩
    rw [← hWz]
    have hbz : Below w0.heap.size w0 wz := by rw [hWz, hWy]; exact bdN _ (bdN _ (Below.refl _ _))
    have hwz : Below w.heap.size w wz := HB.out.trans (hbz.mono HB.out.size)
    clear hWz hWy
    have hszz := hwz.size
    obtain ⟨x0, x1, x2, -, -, -, -⟩ := box_cells Hbox.out hbz
    go_wp2_with (first
      | (at_builtin; refine wpList_append_own_none rfl (.const (.slice none 0 0)) (.tmp 36) 28 rfl w.heap.size 26 i0 3 Try.underlying28 hi _ _ _ rfl (World.ownsRow_nil _ _ _ _) rfl ?_)
      | (at_builtin; refine wpList_append_own _ rfl (.tmp 38) (.tmp 40) 28 rfl w.heap.size 26 i0 (.agg #[.int .i64 0, .string ⟨#[]⟩, .int .i64 0]) 3 32 Try.underlying28 hi hz0 hz1 hz2 rfl (by decide) _ _ _ rfl (World.ownsRow_nil _ _ _ _) ⟨wz.heap.size, 0, none⟩ 1 1 (encS x) rfl rfl (cell_three_new _ _ _) (by simp [encS, Value.oneCell']) (by unfold maxLen; omega) (by omega) (by simp; omega) ?_; intro v2 wb hown2 hg2 _; have hbb := below_own (B := w.heap.size) hg2 (World.ownsRow_nil _ w.heap.size 26 3) (by simp; omega) (Nat.le_refl _); have hbwb := (hwz.alloc hszz _).trans hbb; clear hg2)
      | (at_builtin; refine wpList_append_own_none rfl (.tmp 42) (.tmp 45) 28 rfl w.heap.size 26 i0 3 Try.underlying28 hi _ _ _ rfl hown2 rfl ?_))
    go_ret
    exact Hfin.out _ _ hbwb (slice_own hown2 (by simp) (by simp))
theorem put_ref (w : World) (v : Value) (xs : List Sy) (x : Sy) (h : SliceAt encS 3 w v xs) (hz : xs.length ≤ 1000000) :
    Calls Try.prog 20 #[v, .agg #[.int .i64 x.k, .string x.t, .int .i64 x.n]] w (ListedS w (ins cmpY x xs)) := by
  rcases h with ⟨rfl, rfl⟩ | ⟨b, off, cap, rfl, h2, h3, h4⟩
  · exact putref_nil w x
  · exact putref_some w b off cap xs x hz h2 h3 h4
theorem syms_diff (w : World) (pa pb : Option Addr) (na nb ca cb : Nat) (h : na ≠ nb) (h1 : na ≤ 1000000) (h2 : nb ≤ 1000000) : Calls Try.prog 28 #[.slice pa na ca, .slice pb nb cb] w fun e w' => e = .returned (.bool false) ∧ Below w.heap.size w w' := by
  have hd : ((na : Int) != (nb : Int)) = true := by simp; omega
  go_enter Try.func28, Try.ntmps28
  go_wp2_with fail
  go_ret
  exact ⟨rfl, Below.refl _ _⟩
theorem take_succ_eq {α : Type} {xs ys : List α} {k : Nat} (h1 : k < xs.length) (h2 : k < ys.length) (h : xs.take k = ys.take k) (e : xs[k] = ys[k]) : xs.take (k + 1) = ys.take (k + 1) := by
  rw [List.take_succ_eq_append_getElem h1, List.take_succ_eq_append_getElem h2, h, e]
set_option maxRecDepth 100000 in
set_option maxHeartbeats 4000000 in
theorem syms_two (w : World) (a oa ca b ob cb : Nat) (xs ys : List Sy) (he : ys.length = xs.length) (hz : xs.length ≤ 1000000) (ha : a < w.heap.size) (hb : b < w.heap.size)
    (hca : CellsAt w a oa xs) (hcb : CellsAt w b ob ys) :
    Calls Try.prog 28 #[.slice (some ⟨a, oa, none⟩) xs.length ca, .slice (some ⟨b, ob, none⟩) xs.length cb] w fun e w' => e = .returned (.bool (decide (xs = ys))) ∧ Below w.heap.size w w' := by
  have Ha := Lib.hid hca
  have Hb := Lib.hid hcb
  have HE := Lib.hid he
  clear hca hcb he
  go_enter Try.func28, Try.ntmps28
  go_wp2_with fail
  go_loopw [5] (fun i wr => ∃ k : Nat, k ≤ xs.length ∧ i = .int .i64 k ∧ Below w.heap.size w wr ∧ Hid (xs.take k = ys.take k)) (fun i _ => xs.length - (intOf i).toNat)
  case atStart => exact ⟨0, Nat.zero_le _, rfl, Below.refl _ _, Lib.hid rfl⟩
  case round =>
    obtain ⟨k, hk, rfl, hbw, htk⟩ := hrel
    by_cases hlt : k < xs.length
    · have hly : k < ys.length := by have := HE.out; omega
      obtain ⟨c0, c1, c2⟩ := (CellsAt.mono Ha.out ha hbw).three hlt
      obtain ⟨d0, d1, d2⟩ := (CellsAt.mono Hb.out hb hbw).three hly
      have hki : (k : Int) < (xs.length : Int) := by omega
      by_cases hxy : xs[k] = ys[k]
      · have HN := Lib.hid (take_succ_eq hlt hly htk.out hxy)
        have hq := neY_no hxy
        generalize xs[k] = x at c0 c1 c2 hq
        generalize ys[k] = y at d0 d1 d2 hq
        clear hxy
        go_wp2_with fail
        go_quiet (fail)
        go_wp2_with fail
        go_roundw
        case rel => exact ⟨k + 1, by omega, by go_num, bdN _ hbw, HN⟩
        case measure => simp [intOf]; omega
      · have HN : Hid (decide (xs = ys) = false) := Lib.hid (by simp; intro e; subst e; exact hxy rfl)
        have hq := neY_yes hxy
        generalize xs[k] = x at c0 c1 c2 hq
        generalize ys[k] = y at d0 d1 d2 hq
        clear hxy
        go_wp2_with fail
        go_quiet (fail)
        go_wp2_with fail
        go_ret
        exact ⟨by rw [HN.out]; rfl, bdN _ hbw⟩
    · obtain rfl : k = xs.length := by omega
      have HN : Hid (decide (xs = ys) = true) := Lib.hid (by have h1 := htk.out; have h2 := HE.out; rw [List.take_length, ← h2, List.take_length] at h1; simpa using h1)
      go_wp2_with fail
      go_ret
      exact ⟨by rw [HN.out]; rfl, hbw⟩
theorem syms_any (w : World) (va vb : Value) (xs ys : List Sy) (hz : xs.length ≤ 1000000) (hz2 : ys.length ≤ 1000000) (ha : SliceAt encS 3 w va xs) (hb : SliceAt encS 3 w vb ys) :
    Calls Try.prog 28 #[va, vb] w fun e w' => e = .returned (.bool (decide (xs = ys))) ∧ Below w.heap.size w w' := by
  have hv : ∀ {v : Value} {zs : List Sy}, SliceAt encS 3 w v zs → ∃ p c, v = .slice p zs.length c := by
    intro v zs h
    rcases h with ⟨rfl, rfl⟩ | ⟨b, off, cap, rfl, -⟩
    · exact ⟨none, 0, rfl⟩
    · exact ⟨_, _, rfl⟩
  by_cases he : xs.length = ys.length
  · by_cases h0 : xs.length = 0
    · have hx := List.eq_nil_of_length_eq_zero h0
      have hy := List.eq_nil_of_length_eq_zero (he ▸ h0)
      subst hx; subst hy
      obtain ⟨p, c, rfl⟩ := hv ha
      obtain ⟨q, d, rfl⟩ := hv hb
      exact syms_empty w _ _ _ _
    · rcases ha with ⟨rfl, rfl⟩ | ⟨a, oa, ca, rfl, ha, -, hca⟩
      · simp at h0
      · rcases hb with ⟨rfl, rfl⟩ | ⟨b, ob, cb, rfl, hb, -, hcb⟩
        · simp [he] at h0
        · rw [← he]
          exact syms_two w a oa ca b ob cb xs ys he.symm hz ha hb hca hcb
  · obtain ⟨p, c, rfl⟩ := hv ha
    obtain ⟨q, d, rfl⟩ := hv hb
    refine (syms_diff w p q _ _ c d he hz hz2).mono fun e w' ⟨h1, h2⟩ => ⟨?_, h2⟩
    rw [h1]
    have : decide (xs = ys) = false := by simp; intro e; exact he (by rw [e])
    rw [this]
end Go.Proofs.Ytggijlblipmfaaa
