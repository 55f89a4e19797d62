/-
  Walk over ponderref04.Put at ponder/api.Sym. No condition but bounds on sizes.
-/
import Derived.Test.YthgidldcblchmaaRefB
namespace Go.Proofs.Ythgidldcblchmaa
set_option linter.unusedVariables false
open Go.RowKit
theorem ins_at {α : Type} {c : α → α → Int} {x : α} {xs : List α} {k : Nat} (hlo : ∀ y ∈ xs.take k, 0 < c x y) (hhi : ∀ h : k < xs.length, c x xs[k] < 0) : ins c x xs = xs.take k ++ x :: xs.drop k := by
  have h1 : ins c x xs = ins c x (xs.take k ++ xs.drop k) := by rw [List.take_append_drop]
  rw [h1, ins_skip hlo]
  by_cases h : k < xs.length
  · rw [List.drop_eq_getElem_cons h]
    simp only [ins, if_pos (hhi h)]
  · rw [List.drop_of_length_le (by omega)]; rfl
theorem ins_there {α : Type} {c : α → α → Int} {x : α} {xs : List α} {k : Nat} (hlo : ∀ y ∈ xs.take k, 0 < c x y) (h : k < xs.length) (he : c x xs[k] = 0) : ins c x xs = xs := by
  have h1 : ins c x xs = ins c x (xs.take k ++ xs.drop k) := by rw [List.take_append_drop]
  rw [h1, ins_skip hlo]
  conv => rhs; rw [← List.take_append_drop k xs]
  rw [List.drop_eq_getElem_cons h]
  simp only [ins, he]; simp
theorem take_lo {x : Sy} {xs : List Sy} {k : Nat} (h : k < xs.length) (hlo : ∀ y ∈ xs.take k, 0 < cmpY x y) (hk : cmpY xs[k] x < 0) : ∀ y ∈ xs.take (k + 1), 0 < cmpY x y := by
  intro y hy
  rw [List.take_succ_eq_append_getElem h, List.mem_append] at hy
  rcases hy with hy | hy
  · exact hlo y hy
  · simp at hy; subst hy; have := cmpY_cmp.flip xs[k] x; omega
theorem bef_yes {a b : Sy} (h : cmpY a b < 0) (w : World) : Calls Try.prog 36 #[.agg #[.int .i64 a.k, .string a.t, .int .i64 a.n], .agg #[.int .i64 b.k, .string b.t, .int .i64 b.n]] w fun e w' => e = .returned (.bool true) ∧ Below w.heap.size w w' :=
  (bef_any a b w).mono fun e w' ⟨h1, h2⟩ => ⟨by rw [h1]; simp [h], h2⟩
theorem bef_no {a b : Sy} (h : ¬ cmpY a b < 0) (w : World) : Calls Try.prog 36 #[.agg #[.int .i64 a.k, .string a.t, .int .i64 a.n], .agg #[.int .i64 b.k, .string b.t, .int .i64 b.n]] w fun e w' => e = .returned (.bool false) ∧ Below w.heap.size w w' :=
  (bef_any a b w).mono fun e w' ⟨h1, h2⟩ => ⟨by rw [h1]; simp [h], h2⟩
set_option maxRecDepth 100000 in
set_option maxHeartbeats 4000000 in
theorem putref_some (w : World) (b off cap : Nat) (xs : List Sy) (x : Sy) (hz : xs.length ≤ 1000000) (hb : b < w.heap.size) (hcap : xs.length ≤ cap ∧ cap ≤ maxLen) (hc : CellsAt w b off xs) :
    Calls Try.prog 63 #[.slice (some ⟨b, off, none⟩) xs.length cap, .agg #[.int .i64 x.k, .string x.t, .int .i64 x.n]] w (ListedS w (ins cmpY x xs)) := by
  have hfin : ∀ v w2, Below w.heap.size w w2 → SliceAt encS 3 w2 v (ins cmpY x xs) → ListedS w (ins cmpY x xs) (.returned v) w2 := fun v w2 h1 h2 => ⟨v, rfl, h1, h2⟩
  have Hfin := Lib.hid hfin
  obtain ⟨W2, hW2⟩ : ∃ W2, W2 = w.alloc (.cells #[.int .i64 x.k, .string x.t, .int .i64 x.n] 27) := ⟨_, rfl⟩
  have hB : Below w.heap.size w W2 := by rw [hW2]; go_grown
  have hbox : W2.heap[w.heap.size]? = some (.cells #[.int .i64 x.k, .string x.t, .int .i64 x.n] 27 (0, 0)) := by rw [hW2]; exact new_at rfl
  have Hbox := Lib.hid hbox
  have HC := Lib.hid hc
  have HW := Lib.hid hW2
  have HB := Lib.hid hB
  have hl1 := hcap.1
  have hl2 := hcap.2
  unfold maxLen at hl2
  clear hbox hc hW2 hB hfin hcap
  obtain ⟨i0, hi, hz0, hz1, hz2⟩ := info_parts infoS
  go_enter Try.func63, Try.ntmps63
  go_wp2_with fail
  rw [← HW.out]
  go_loopw [5] (fun i wr => ∃ k : Nat, k ≤ xs.length ∧ i = .int .i64 k ∧ Below W2.heap.size W2 wr ∧ Hid (∀ y ∈ xs.take k, 0 < cmpY x y)) (fun i _ => xs.length - (intOf i).toNat)
  case atStart => exact ⟨0, Nat.zero_le _, rfl, Below.refl _ _, Lib.hid (by simp)⟩
  case round =>
    obtain ⟨k, hk, rfl, hbw, hlo⟩ := hrel
    have hww := HB.out.trans (hbw.mono HB.out.size)
    by_cases hlt : k < xs.length
    · have KEEP : ∀ w', Below wr.heap.size wr w' → w'.cell? ⟨w.heap.size, 0, none⟩ = some (.int .i64 x.k) ∧ w'.cell? ⟨w.heap.size, 1, none⟩ = some (.string x.t) ∧ w'.cell? ⟨w.heap.size, 2, none⟩ = some (.int .i64 x.n) ∧
          w'.cell? ⟨b, off + k * 3, none⟩ = some (.int .i64 xs[k].k) ∧ w'.cell? ⟨b, off + k * 3 + 1, none⟩ = some (.string xs[k].t) ∧ w'.cell? ⟨b, off + k * 3 + 2, none⟩ = some (.int .i64 xs[k].n) := by
        intro w' h
        obtain ⟨x0, x1, x2, -, -, -, -⟩ := box_cells Hbox.out (hbw.trans (h.mono hbw.size))
        obtain ⟨c0, c1, c2⟩ := (CellsAt.mono HC.out hb (hww.trans (h.mono hww.size))).three hlt
        exact ⟨x0, x1, x2, c0, c1, c2⟩
      have hki : (k : Int) < (xs.length : Int) := by omega
      by_cases h1 : cmpY xs[k] x < 0
      · have HN := Lib.hid (take_lo hlt hlo.out h1)
        have HBf := Lib.hid (fun w => bef_yes h1 w)
        generalize xs[k] = y at KEEP HBf
        have hK := Lib.hid KEEP
        clear h1 KEEP
        go_wp2_with fail
        go_region_held3 (fun w' => Below wr.heap.size wr w' ∧ w'.cell? ⟨w.heap.size, 0, none⟩ = some (.int .i64 x.k) ∧ w'.cell? ⟨w.heap.size, 1, none⟩ = some (.string x.t) ∧ w'.cell? ⟨w.heap.size, 2, none⟩ = some (.int .i64 x.n) ∧
            w'.cell? ⟨b, off + k * 3, none⟩ = some (.int .i64 y.k) ∧ w'.cell? ⟨b, off + k * 3 + 1, none⟩ = some (.string y.t) ∧ w'.cell? ⟨b, off + k * 3 + 2, none⟩ = some (.int .i64 y.n))
            (first | exact ⟨(Below.refl _ _).drew, hK.out _ (Below.refl _ _).drew⟩ | exact ⟨hBa.out, hK.out _ hBa.out⟩ | go_keep)
            (first | (go_at_call 36; refine (HBf.out _).mono ?_; rintro e w1 ⟨rfl, hb1⟩; have hBa := Lib.hid ((Below.refl wr.heap.size wr).drew.trans hb1)))
        go_wp2_with fail
        go_roundw
        case rel => exact ⟨k + 1, by omega, by go_num, hbw.trans (hBa.out.mono hbw.size), HN⟩
        case measure => simp [intOf]; omega
      · have HBf := Lib.hid (fun w => bef_no h1 w)
        have hf := cmpY_cmp.flip xs[k] x
        by_cases h2 : xs[k] = x
        · have HR : Hid (ins cmpY x xs = xs) := Lib.hid (ins_there hlo.out hlt (by rw [h2]; exact cmpY_cmp.refl x))
          have hq := eqY_yes h2
          generalize xs[k] = y at KEEP HBf hq
          have hK := Lib.hid KEEP
          clear h1 h2 hf KEEP
          go_wp2_with fail
          go_region_held3 (fun w' => Below wr.heap.size wr w' ∧ w'.cell? ⟨w.heap.size, 0, none⟩ = some (.int .i64 x.k) ∧ w'.cell? ⟨w.heap.size, 1, none⟩ = some (.string x.t) ∧ w'.cell? ⟨w.heap.size, 2, none⟩ = some (.int .i64 x.n) ∧
              w'.cell? ⟨b, off + k * 3, none⟩ = some (.int .i64 y.k) ∧ w'.cell? ⟨b, off + k * 3 + 1, none⟩ = some (.string y.t) ∧ w'.cell? ⟨b, off + k * 3 + 2, none⟩ = some (.int .i64 y.n))
              (first | exact ⟨(Below.refl _ _).drew, hK.out _ (Below.refl _ _).drew⟩ | exact ⟨hBa.out, hK.out _ hBa.out⟩ | go_keep)
              (first | (go_at_call 36; refine (HBf.out _).mono ?_; rintro e w1 ⟨rfl, hb1⟩; have hBa := Lib.hid ((Below.refl wr.heap.size wr).drew.trans hb1)))
          obtain ⟨x0, x1, x2, c0, c1, c2⟩ := hK.out _ hBa.out
          go_wp2_with fail
          go_quiet (fail)
          go_wp2_with fail
          go_ret
          refine Hfin.out _ _ (bdN _ (hww.trans (hBa.out.mono hww.size))) ?_
          rw [HR.out]
          exact .inr ⟨b, off, cap, rfl, Nat.lt_of_lt_of_le hb (bdN _ (hww.trans (hBa.out.mono hww.size))).size, ⟨hl1, by unfold maxLen; omega⟩, CellsAt.mono HC.out hb (bdN _ (hww.trans (hBa.out.mono hww.size)))⟩
        · have HR : Hid (ins cmpY x xs = xs.take k ++ x :: xs.drop k) := Lib.hid (ins_at hlo.out (fun _ => by have : cmpY x xs[k] ≠ 0 := fun e => h2 (cmpY_zero.1 e).symm; omega))
          have hq := eqY_no h2
          generalize xs[k] = y at KEEP HBf hq
          have hK := Lib.hid KEEP
          clear h1 h2 hf KEEP
          go_wp2_with fail
          go_region_held3 (fun w' => Below wr.heap.size wr w' ∧ w'.cell? ⟨w.heap.size, 0, none⟩ = some (.int .i64 x.k) ∧ w'.cell? ⟨w.heap.size, 1, none⟩ = some (.string x.t) ∧ w'.cell? ⟨w.heap.size, 2, none⟩ = some (.int .i64 x.n) ∧
              w'.cell? ⟨b, off + k * 3, none⟩ = some (.int .i64 y.k) ∧ w'.cell? ⟨b, off + k * 3 + 1, none⟩ = some (.string y.t) ∧ w'.cell? ⟨b, off + k * 3 + 2, none⟩ = some (.int .i64 y.n))
              (first | exact ⟨(Below.refl _ _).drew, hK.out _ (Below.refl _ _).drew⟩ | exact ⟨hBa.out, hK.out _ hBa.out⟩ | go_keep)
              (first | (go_at_call 36; refine (HBf.out _).mono ?_; rintro e w1 ⟨rfl, hb1⟩; have hBa := Lib.hid ((Below.refl wr.heap.size wr).drew.trans hb1)))
          obtain ⟨x0, x1, x2, c0, c1, c2⟩ := hK.out _ hBa.out
          go_wp2_with fail
          go_quiet (fail)
          obtain ⟨wz, hWz⟩ : ∃ wz, wz = w1.drewN nq := ⟨_, rfl⟩
          rw [← hWz]
          have hwz : Below w.heap.size w wz := by rw [hWz]; exact bdN _ (hww.trans (hBa.out.mono hww.size))
          have hbz : Below W2.heap.size W2 wz := by rw [hWz]; exact bdN _ (hbw.trans (hBa.out.mono hbw.size))
          clear x0 x1 x2 c0 c1 c2 hWz hb1 hBa hK HBf hq
          have hF1 : ((xs.take k).flatMap encS).length = k * 3 := by rw [flat_length, List.length_take]; congr 1; omega
          have HF1 := Lib.hid hF1
          have hC1 := fun W (h : Below w.heap.size w W) => ((CellsAt.mono HC.out hb h).take k).flat
          have HC1 := Lib.hid hC1
          have hC2 := fun W (h : Below w.heap.size w W) => ((CellsAt.mono HC.out hb h).drop k).flat
          have HC2 := Lib.hid hC2
          have hszz := hwz.size
          have HBX := Lib.hid (fun wa (h : Below wz.heap.size wz wa) => box_cells Hbox.out (hbz.trans (h.mono hbz.size)))
          clear hF1 hC1 hC2
          go_wp2_with (first
            | (at_builtin; refine wpList_append_own _ rfl (.const (.slice none 0 0)) (.tmp 36) 44 rfl w.heap.size 27 i0 (.agg #[.int .i64 0, .string ⟨#[]⟩, .int .i64 0]) 3 32 Try.underlying44 hi hz0 hz1 hz2 rfl (by decide) _ _ _ rfl (World.ownsRow_nil _ _ _ _) ⟨b, off, none⟩ k cap ((xs.take k).flatMap encS) rfl HF1.out (HC1.out _ hwz) (flat_one _) (by unfold maxLen; omega) (by omega) hszz ?_; intro v1 wa hown1 hg1 _; have hba := below_own (B := wz.heap.size) hg1 (World.ownsRow_nil wz wz.heap.size 27 3) (Nat.le_refl _) (Nat.le_refl _); obtain ⟨x0, x1, x2, -, -, -, -⟩ := HBX.out wa hba; have hbwa := hwz.trans (hba.mono hszz); have hsza := hbwa.size; clear hg1)
            | (at_builtin; refine wpList_append_own _ rfl (.tmp 38) (.tmp 40) 44 rfl w.heap.size 27 i0 (.agg #[.int .i64 0, .string ⟨#[]⟩, .int .i64 0]) 3 32 Try.underlying44 hi hz0 hz1 hz2 rfl (by decide) _ _ _ rfl (hown1.alloc _) ⟨wa.heap.size, 0, none⟩ 1 1 (encS x) rfl rfl (cell_three_new _ _ _) (by simp [encS, Value.oneCell']) (by unfold maxLen; omega) (by omega) (by simp; omega) ?_; intro v2 wb hown2 hg2 _; have hbb := below_own (B := w.heap.size) hg2 (hown1.alloc _) (by simp; omega) (Nat.le_refl _); have hbwb := (hbwa.alloc hsza _).trans hbb; clear hg2 hown1 x0 x1 x2)
            | (at_builtin; refine wpList_append_own _ rfl (.tmp 42) (.tmp 45) 44 rfl w.heap.size 27 i0 (.agg #[.int .i64 0, .string ⟨#[]⟩, .int .i64 0]) 3 32 Try.underlying44 hi hz0 hz1 hz2 rfl (by decide) _ _ _ rfl hown2 ⟨b, off + k * 3, none⟩ (xs.length - k) (cap - k) ((xs.drop k).flatMap encS) rfl (by rw [flat_length, List.length_drop]) (HC2.out _ hbwb) (flat_one _) (by unfold maxLen; omega) (by omega) hbwb.size ?_; intro v3 wc hown3 hg3 _; have hbc := below_own (B := w.heap.size) hg3 hown2 hbwb.size (Nat.le_refl _); have hbwc := hbwb.trans hbc; clear hg3 hown2))
          go_ret
          refine Hfin.out _ _ hbwc ?_
          rw [HR.out]
          exact slice_own hown3 (by simp; omega) (by simp)
    · obtain rfl : k = xs.length := by omega
      have HR : Hid (ins cmpY x xs = xs.take xs.length ++ x :: xs.drop xs.length) := Lib.hid (ins_at hlo.out (fun h => absurd h (by omega)))
      go_wp2_with fail
      go_quiet (fail)
      obtain ⟨wy, hWy⟩ : ∃ wy, wy = wr.drewN nq := ⟨_, rfl⟩
      rw [← hWy]
      go_wp2_with fail
      go_quiet (fail)
      obtain ⟨wz, hWz⟩ : ∃ wz, wz = wy.drewN nq := ⟨_, rfl⟩
      rw [← hWz]
      have hwz : Below w.heap.size w wz := by rw [hWz, hWy]; exact bdN _ (bdN _ hww)
      have hbz : Below W2.heap.size W2 wz := by rw [hWz, hWy]; exact bdN _ (bdN _ hbw)
      clear hWz hWy
      rcases Nat.lt_or_ge xs.length cap with hcc | hcc
      · have hcc0 : ¬ cap - xs.length = 0 := by omega
        have hF1 : ((xs.take xs.length).flatMap encS).length = xs.length * 3 := by rw [flat_length, List.length_take]; congr 1; omega
        have HF1 := Lib.hid hF1
        have hC1 := fun W (h : Below w.heap.size w W) => ((CellsAt.mono HC.out hb h).take xs.length).flat
        have HC1 := Lib.hid hC1
        have hC2 := fun W (h : Below w.heap.size w W) => ((CellsAt.mono HC.out hb h).drop xs.length).flat
        have HC2 := Lib.hid hC2
        have hszz := hwz.size
        have HBX := Lib.hid (fun wa (h : Below wz.heap.size wz wa) => box_cells Hbox.out (hbz.trans (h.mono hbz.size)))
        clear hF1 hC1 hC2
        go_wp2_with (first
          | (at_builtin; refine wpList_append_own _ rfl (.const (.slice none 0 0)) (.tmp 36) 44 rfl w.heap.size 27 i0 (.agg #[.int .i64 0, .string ⟨#[]⟩, .int .i64 0]) 3 32 Try.underlying44 hi hz0 hz1 hz2 rfl (by decide) _ _ _ rfl (World.ownsRow_nil _ _ _ _) ⟨b, off, none⟩ xs.length cap ((xs.take xs.length).flatMap encS) rfl HF1.out (HC1.out _ hwz) (flat_one _) (by unfold maxLen; omega) (by omega) hszz ?_; intro v1 wa hown1 hg1 _; have hba := below_own (B := wz.heap.size) hg1 (World.ownsRow_nil wz wz.heap.size 27 3) (Nat.le_refl _) (Nat.le_refl _); obtain ⟨x0, x1, x2, -, -, -, -⟩ := HBX.out wa hba; have hbwa := hwz.trans (hba.mono hszz); have hsza := hbwa.size; clear hg1)
          | (at_builtin; refine wpList_append_own _ rfl (.tmp 38) (.tmp 40) 44 rfl w.heap.size 27 i0 (.agg #[.int .i64 0, .string ⟨#[]⟩, .int .i64 0]) 3 32 Try.underlying44 hi hz0 hz1 hz2 rfl (by decide) _ _ _ rfl (hown1.alloc _) ⟨wa.heap.size, 0, none⟩ 1 1 (encS x) rfl rfl (cell_three_new _ _ _) (by simp [encS, Value.oneCell']) (by unfold maxLen; omega) (by omega) (by simp; omega) ?_; intro v2 wb hown2 hg2 _; have hbb := below_own (B := w.heap.size) hg2 (hown1.alloc _) (by simp; omega) (Nat.le_refl _); have hbwb := (hbwa.alloc hsza _).trans hbb; clear hg2 hown1 x0 x1 x2)
          | (at_builtin; refine wpList_append_own _ rfl (.tmp 42) (.tmp 45) 44 rfl w.heap.size 27 i0 (.agg #[.int .i64 0, .string ⟨#[]⟩, .int .i64 0]) 3 32 Try.underlying44 hi hz0 hz1 hz2 rfl (by decide) _ _ _ rfl hown2 ⟨b, off + xs.length * 3, none⟩ 0 (cap - xs.length) [] rfl rfl (by simp) (by simp) (by unfold maxLen; omega) (by omega) hbwb.size ?_; intro v3 wc hown3 hg3 _; have hbc := below_own (B := w.heap.size) hg3 hown2 hbwb.size (Nat.le_refl _); have hbwc := hbwb.trans hbc; clear hg3 hown2))
        all_goals
          go_ret
          refine Hfin.out _ _ hbwc ?_
          rw [HR.out]
          exact slice_own hown3 (by simp) (by simp)
      · obtain rfl : cap = xs.length := by omega
        have hF1 : ((xs.take xs.length).flatMap encS).length = xs.length * 3 := by rw [flat_length, List.length_take]; congr 1; omega
        have HF1 := Lib.hid hF1
        have hC1 := fun W (h : Below w.heap.size w W) => ((CellsAt.mono HC.out hb h).take xs.length).flat
        have HC1 := Lib.hid hC1
        have hC2 := fun W (h : Below w.heap.size w W) => ((CellsAt.mono HC.out hb h).drop xs.length).flat
        have HC2 := Lib.hid hC2
        have hszz := hwz.size
        have HBX := Lib.hid (fun wa (h : Below wz.heap.size wz wa) => box_cells Hbox.out (hbz.trans (h.mono hbz.size)))
        clear hF1 hC1 hC2
        go_wp2_with (first
          | (at_builtin; refine wpList_append_own _ rfl (.const (.slice none 0 0)) (.tmp 36) 44 rfl w.heap.size 27 i0 (.agg #[.int .i64 0, .string ⟨#[]⟩, .int .i64 0]) 3 32 Try.underlying44 hi hz0 hz1 hz2 rfl (by decide) _ _ _ rfl (World.ownsRow_nil _ _ _ _) ⟨b, off, none⟩ xs.length xs.length ((xs.take xs.length).flatMap encS) rfl HF1.out (HC1.out _ hwz) (flat_one _) (by unfold maxLen; omega) (by omega) hszz ?_; intro v1 wa hown1 hg1 _; have hba := below_own (B := wz.heap.size) hg1 (World.ownsRow_nil wz wz.heap.size 27 3) (Nat.le_refl _) (Nat.le_refl _); obtain ⟨x0, x1, x2, -, -, -, -⟩ := HBX.out wa hba; have hbwa := hwz.trans (hba.mono hszz); have hsza := hbwa.size; clear hg1)
          | (at_builtin; refine wpList_append_own _ rfl (.tmp 38) (.tmp 40) 44 rfl w.heap.size 27 i0 (.agg #[.int .i64 0, .string ⟨#[]⟩, .int .i64 0]) 3 32 Try.underlying44 hi hz0 hz1 hz2 rfl (by decide) _ _ _ rfl (hown1.alloc _) ⟨wa.heap.size, 0, none⟩ 1 1 (encS x) rfl rfl (cell_three_new _ _ _) (by simp [encS, Value.oneCell']) (by unfold maxLen; omega) (by omega) (by simp; omega) ?_; intro v2 wb hown2 hg2 _; have hbb := below_own (B := w.heap.size) hg2 (hown1.alloc _) (by simp; omega) (Nat.le_refl _); have hbwb := (hbwa.alloc hsza _).trans hbb; clear hg2 hown1 x0 x1 x2)
          | (at_builtin; refine wpList_append_own _ rfl (.tmp 42) (.tmp 45) 44 rfl w.heap.size 27 i0 (.agg #[.int .i64 0, .string ⟨#[]⟩, .int .i64 0]) 3 32 Try.underlying44 hi hz0 hz1 hz2 rfl (by decide) _ _ _ rfl hown2 ⟨b, off, none⟩ 0 0 [] rfl rfl (by simp) (by simp) (by unfold maxLen; omega) (by omega) hbwb.size ?_; intro v3 wc hown3 hg3 _; have hbc := below_own (B := w.heap.size) hg3 hown2 hbwb.size (Nat.le_refl _); have hbwc := hbwb.trans hbc; clear hg3 hown2))
        all_goals
          go_ret
          refine Hfin.out _ _ hbwc ?_
          rw [HR.out]
          exact slice_own hown3 (by simp) (by simp)
end Go.Proofs.Ythgidldcblchmaa
