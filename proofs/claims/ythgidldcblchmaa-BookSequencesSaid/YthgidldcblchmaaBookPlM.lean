/-
  A plain map of ponderlaw02: what its calls make of it, what they leave. No condition.
-/
import Derived.Test.YthgidldcblchmaaRefPutS
import Derived.Test.YthgidldcblchmaaCountMath
import Derived.Test.YthgidldcblchmaaPairsP
import Derived.Test.YthgidldcblchmaaBookFind
namespace Go.Proofs.Ythgidldcblchmaa
set_option linter.unusedVariables false
open Go.RowKit
theorem owns_own {w : World} {base : Nat} {e : TypeId} {v : Value} {n : Nat} {cs : List Value} {ys : List Sy} (h : w.ownsRow base e 3 v n cs) (hn : n = ys.length) (hc : cs = ys.flatMap encS) : w.ownsRow base e 3 v ys.length (ys.flatMap encS) := by
  subst hn; subst hc; exact h
def ListedO (w : World) (ys : List Sy) (e : Ending) (w2 : World) : Prop := ∃ v, e = .returned v ∧ Below w.heap.size w w2 ∧ w2.ownsRow w.heap.size 27 3 v ys.length (ys.flatMap encS)
set_option maxRecDepth 100000 in
set_option maxHeartbeats 4000000 in
theorem putrefO_some (w : World) (b off cap : Nat) (xs : List Sy) (x : Sy) (hx : x ∉ xs) (hz : xs.length ≤ 1000000) (hb : b < w.heap.size) (hcap : xs.length ≤ cap ∧ cap ≤ maxLen) (hc : CellsAt w b off xs) :
    Calls Try.prog 63 #[.slice (some ⟨b, off, none⟩) xs.length cap, .agg #[.int .i64 x.k, .string x.t, .int .i64 x.n]] w (ListedO w (ins cmpY x xs)) := by
  have hfin : ∀ v w2, Below w.heap.size w w2 → w2.ownsRow w.heap.size 27 3 v (ins cmpY x xs).length ((ins cmpY x xs).flatMap encS) → ListedO w (ins cmpY x xs) (.returned v) w2 := fun v w2 h1 h2 => ⟨v, rfl, h1, h2⟩
  have Hfin := Lib.hid hfin
  obtain ⟨W2, hW2⟩ : ∃ W2, W2 = w.alloc (.cells #[.int .i64 x.k, .string x.t, .int .i64 x.n] 27) := ⟨_, rfl⟩
  have hB : Below w.heap.size w W2 := by rw [hW2]; go_grown
  have hbox : W2.heap[w.heap.size]? = some (.cells #[.int .i64 x.k, .string x.t, .int .i64 x.n] 27 (0, 0)) := by rw [hW2]; exact new_at rfl
  have Hbox := Lib.hid hbox
  have HC := Lib.hid hc
  have HW := Lib.hid hW2
  have HB := Lib.hid hB
  have hl1 := hcap.1
  have hl2 := hcap.2
  unfold maxLen at hl2
  clear hbox hc hW2 hB hfin hcap
  obtain ⟨i0, hi, hz0, hz1, hz2⟩ := info_parts infoS
  go_enter Try.func63, Try.ntmps63
  go_wp2_with fail
  rw [← HW.out]
  go_loopw [5] (fun i wr => ∃ k : Nat, k ≤ xs.length ∧ i = .int .i64 k ∧ Below W2.heap.size W2 wr ∧ Hid (∀ y ∈ xs.take k, 0 < cmpY x y)) (fun i _ => xs.length - (intOf i).toNat)
  case atStart => exact ⟨0, Nat.zero_le _, rfl, Below.refl _ _, Lib.hid (by simp)⟩
  case round =>
    obtain ⟨k, hk, rfl, hbw, hlo⟩ := hrel
    have hww := HB.out.trans (hbw.mono HB.out.size)
    by_cases hlt : k < xs.length
    · have KEEP : ∀ w', Below wr.heap.size wr w' → w'.cell? ⟨w.heap.size, 0, none⟩ = some (.int .i64 x.k) ∧ w'.cell? ⟨w.heap.size, 1, none⟩ = some (.string x.t) ∧ w'.cell? ⟨w.heap.size, 2, none⟩ = some (.int .i64 x.n) ∧
          w'.cell? ⟨b, off + k * 3, none⟩ = some (.int .i64 xs[k].k) ∧ w'.cell? ⟨b, off + k * 3 + 1, none⟩ = some (.string xs[k].t) ∧ w'.cell? ⟨b, off + k * 3 + 2, none⟩ = some (.int .i64 xs[k].n) := by
        intro w' h
        obtain ⟨x0, x1, x2, -, -, -, -⟩ := box_cells Hbox.out (hbw.trans (h.mono hbw.size))
        obtain ⟨c0, c1, c2⟩ := (CellsAt.mono HC.out hb (hww.trans (h.mono hww.size))).three hlt
        exact ⟨x0, x1, x2, c0, c1, c2⟩
      have hki : (k : Int) < (xs.length : Int) := by omega
      by_cases h1 : cmpY xs[k] x < 0
      · have HN := Lib.hid (take_lo hlt hlo.out h1)
        have HBf := Lib.hid (fun w => bef_yes h1 w)
        generalize xs[k] = y at KEEP HBf
        have hK := Lib.hid KEEP
        clear h1 KEEP
        go_wp2_with fail
        go_region_held3 (fun w' => Below wr.heap.size wr w' ∧ w'.cell? ⟨w.heap.size, 0, none⟩ = some (.int .i64 x.k) ∧ w'.cell? ⟨w.heap.size, 1, none⟩ = some (.string x.t) ∧ w'.cell? ⟨w.heap.size, 2, none⟩ = some (.int .i64 x.n) ∧
            w'.cell? ⟨b, off + k * 3, none⟩ = some (.int .i64 y.k) ∧ w'.cell? ⟨b, off + k * 3 + 1, none⟩ = some (.string y.t) ∧ w'.cell? ⟨b, off + k * 3 + 2, none⟩ = some (.int .i64 y.n))
            (first | exact ⟨(Below.refl _ _).drew, hK.out _ (Below.refl _ _).drew⟩ | exact ⟨hBa.out, hK.out _ hBa.out⟩ | go_keep)
            (first | (go_at_call 36; refine (HBf.out _).mono ?_; rintro e w1 ⟨rfl, hb1⟩; have hBa := Lib.hid ((Below.refl wr.heap.size wr).drew.trans hb1)))
        go_wp2_with fail
        go_roundw
        case rel => exact ⟨k + 1, by omega, by go_num, hbw.trans (hBa.out.mono hbw.size), HN⟩
        case measure => simp [intOf]; omega
      · have HBf := Lib.hid (fun w => bef_no h1 w)
        have hf := cmpY_cmp.flip xs[k] x
        by_cases h2 : xs[k] = x
        · exact absurd (h2 ▸ List.getElem_mem hlt) hx
        · have HR : Hid (ins cmpY x xs = xs.take k ++ x :: xs.drop k) := Lib.hid (ins_at hlo.out (fun _ => by have : cmpY x xs[k] ≠ 0 := fun e => h2 (cmpY_zero.1 e).symm; omega))
          have hq := eqY_no h2
          generalize xs[k] = y at KEEP HBf hq
          have hK := Lib.hid KEEP
          clear h1 h2 hf KEEP
          go_wp2_with fail
          go_region_held3 (fun w' => Below wr.heap.size wr w' ∧ w'.cell? ⟨w.heap.size, 0, none⟩ = some (.int .i64 x.k) ∧ w'.cell? ⟨w.heap.size, 1, none⟩ = some (.string x.t) ∧ w'.cell? ⟨w.heap.size, 2, none⟩ = some (.int .i64 x.n) ∧
              w'.cell? ⟨b, off + k * 3, none⟩ = some (.int .i64 y.k) ∧ w'.cell? ⟨b, off + k * 3 + 1, none⟩ = some (.string y.t) ∧ w'.cell? ⟨b, off + k * 3 + 2, none⟩ = some (.int .i64 y.n))
              (first | exact ⟨(Below.refl _ _).drew, hK.out _ (Below.refl _ _).drew⟩ | exact ⟨hBa.out, hK.out _ hBa.out⟩ | go_keep)
              (first | (go_at_call 36; refine (HBf.out _).mono ?_; rintro e w1 ⟨rfl, hb1⟩; have hBa := Lib.hid ((Below.refl wr.heap.size wr).drew.trans hb1)))
          obtain ⟨x0, x1, x2, c0, c1, c2⟩ := hK.out _ hBa.out
          go_wp2_with fail
          go_quiet (fail)
          obtain ⟨wz, hWz⟩ : ∃ wz, wz = w1.drewN nq := ⟨_, rfl⟩
          rw [← hWz]
          have hwz : Below w.heap.size w wz := by rw [hWz]; exact bdN _ (hww.trans (hBa.out.mono hww.size))
          have hbz : Below W2.heap.size W2 wz := by rw [hWz]; exact bdN _ (hbw.trans (hBa.out.mono hbw.size))
          clear x0 x1 x2 c0 c1 c2 hWz hb1 hBa hK HBf hq
          have hF1 : ((xs.take k).flatMap encS).length = k * 3 := by rw [flat_length, List.length_take]; congr 1; omega
          have HF1 := Lib.hid hF1
          have hC1 := fun W (h : Below w.heap.size w W) => ((CellsAt.mono HC.out hb h).take k).flat
          have HC1 := Lib.hid hC1
          have hC2 := fun W (h : Below w.heap.size w W) => ((CellsAt.mono HC.out hb h).drop k).flat
          have HC2 := Lib.hid hC2
          have hszz := hwz.size
          have HBX := Lib.hid (fun wa (h : Below wz.heap.size wz wa) => box_cells Hbox.out (hbz.trans (h.mono hbz.size)))
          clear hF1 hC1 hC2
          go_wp2_with (first
            | (at_builtin; refine wpList_append_own _ rfl (.const (.slice none 0 0)) (.tmp 36) 44 rfl w.heap.size 27 i0 (.agg #[.int .i64 0, .string ⟨#[]⟩, .int .i64 0]) 3 32 Try.underlying44 hi hz0 hz1 hz2 rfl (by decide) _ _ _ rfl (World.ownsRow_nil _ _ _ _) ⟨b, off, none⟩ k cap ((xs.take k).flatMap encS) rfl HF1.out (HC1.out _ hwz) (flat_one _) (by unfold maxLen; omega) (by omega) hszz ?_; intro v1 wa hown1 hg1 _; have hba := below_own (B := wz.heap.size) hg1 (World.ownsRow_nil wz wz.heap.size 27 3) (Nat.le_refl _) (Nat.le_refl _); obtain ⟨x0, x1, x2, -, -, -, -⟩ := HBX.out wa hba; have hbwa := hwz.trans (hba.mono hszz); have hsza := hbwa.size; clear hg1)
            | (at_builtin; refine wpList_append_own _ rfl (.tmp 38) (.tmp 40) 44 rfl w.heap.size 27 i0 (.agg #[.int .i64 0, .string ⟨#[]⟩, .int .i64 0]) 3 32 Try.underlying44 hi hz0 hz1 hz2 rfl (by decide) _ _ _ rfl (hown1.alloc _) ⟨wa.heap.size, 0, none⟩ 1 1 (encS x) rfl rfl (cell_three_new _ _ _) (by simp [encS, Value.oneCell']) (by unfold maxLen; omega) (by omega) (by simp; omega) ?_; intro v2 wb hown2 hg2 _; have hbb := below_own (B := w.heap.size) hg2 (hown1.alloc _) (by simp; omega) (Nat.le_refl _); have hbwb := (hbwa.alloc hsza _).trans hbb; clear hg2 hown1 x0 x1 x2)
            | (at_builtin; refine wpList_append_own _ rfl (.tmp 42) (.tmp 45) 44 rfl w.heap.size 27 i0 (.agg #[.int .i64 0, .string ⟨#[]⟩, .int .i64 0]) 3 32 Try.underlying44 hi hz0 hz1 hz2 rfl (by decide) _ _ _ rfl hown2 ⟨b, off + k * 3, none⟩ (xs.length - k) (cap - k) ((xs.drop k).flatMap encS) rfl (by rw [flat_length, List.length_drop]) (HC2.out _ hbwb) (flat_one _) (by unfold maxLen; omega) (by omega) hbwb.size ?_; intro v3 wc hown3 hg3 _; have hbc := below_own (B := w.heap.size) hg3 hown2 hbwb.size (Nat.le_refl _); have hbwc := hbwb.trans hbc; clear hg3 hown2))
          go_ret
          refine Hfin.out _ _ hbwc ?_
          rw [HR.out]
          exact owns_own hown3 (by simp; omega) (by simp)
    · obtain rfl : k = xs.length := by omega
      have HR : Hid (ins cmpY x xs = xs.take xs.length ++ x :: xs.drop xs.length) := Lib.hid (ins_at hlo.out (fun h => absurd h (by omega)))
      go_wp2_with fail
      go_quiet (fail)
      obtain ⟨wy, hWy⟩ : ∃ wy, wy = wr.drewN nq := ⟨_, rfl⟩
      rw [← hWy]
      go_wp2_with fail
      go_quiet (fail)
      obtain ⟨wz, hWz⟩ : ∃ wz, wz = wy.drewN nq := ⟨_, rfl⟩
      rw [← hWz]
      have hwz : Below w.heap.size w wz := by rw [hWz, hWy]; exact bdN _ (bdN _ hww)
      have hbz : Below W2.heap.size W2 wz := by rw [hWz, hWy]; exact bdN _ (bdN _ hbw)
      clear hWz hWy
      rcases Nat.lt_or_ge xs.length cap with hcc | hcc
      · have hcc0 : ¬ cap - xs.length = 0 := by omega
        have hF1 : ((xs.take xs.length).flatMap encS).length = xs.length * 3 := by rw [flat_length, List.length_take]; congr 1; omega
        have HF1 := Lib.hid hF1
        have hC1 := fun W (h : Below w.heap.size w W) => ((CellsAt.mono HC.out hb h).take xs.length).flat
        have HC1 := Lib.hid hC1
        have hC2 := fun W (h : Below w.heap.size w W) => ((CellsAt.mono HC.out hb h).drop xs.length).flat
        have HC2 := Lib.hid hC2
        have hszz := hwz.size
        have HBX := Lib.hid (fun wa (h : Below wz.heap.size wz wa) => box_cells Hbox.out (hbz.trans (h.mono hbz.size)))
        clear hF1 hC1 hC2
        go_wp2_with (first
          | (at_builtin; refine wpList_append_own _ rfl (.const (.slice none 0 0)) (.tmp 36) 44 rfl w.heap.size 27 i0 (.agg #[.int .i64 0, .string ⟨#[]⟩, .int .i64 0]) 3 32 Try.underlying44 hi hz0 hz1 hz2 rfl (by decide) _ _ _ rfl (World.ownsRow_nil _ _ _ _) ⟨b, off, none⟩ xs.length cap ((xs.take xs.length).flatMap encS) rfl HF1.out (HC1.out _ hwz) (flat_one _) (by unfold maxLen; omega) (by omega) hszz ?_; intro v1 wa hown1 hg1 _; have hba := below_own (B := wz.heap.size) hg1 (World.ownsRow_nil wz wz.heap.size 27 3) (Nat.le_refl _) (Nat.le_refl _); obtain ⟨x0, x1, x2, -, -, -, -⟩ := HBX.out wa hba; have hbwa := hwz.trans (hba.mono hszz); have hsza := hbwa.size; clear hg1)
          | (at_builtin; refine wpList_append_own _ rfl (.tmp 38) (.tmp 40) 44 rfl w.heap.size 27 i0 (.agg #[.int .i64 0, .string ⟨#[]⟩, .int .i64 0]) 3 32 Try.underlying44 hi hz0 hz1 hz2 rfl (by decide) _ _ _ rfl (hown1.alloc _) ⟨wa.heap.size, 0, none⟩ 1 1 (encS x) rfl rfl (cell_three_new _ _ _) (by simp [encS, Value.oneCell']) (by unfold maxLen; omega) (by omega) (by simp; omega) ?_; intro v2 wb hown2 hg2 _; have hbb := below_own (B := w.heap.size) hg2 (hown1.alloc _) (by simp; omega) (Nat.le_refl _); have hbwb := (hbwa.alloc hsza _).trans hbb; clear hg2 hown1 x0 x1 x2)
          | (at_builtin; refine wpList_append_own _ rfl (.tmp 42) (.tmp 45) 44 rfl w.heap.size 27 i0 (.agg #[.int .i64 0, .string ⟨#[]⟩, .int .i64 0]) 3 32 Try.underlying44 hi hz0 hz1 hz2 rfl (by decide) _ _ _ rfl hown2 ⟨b, off + xs.length * 3, none⟩ 0 (cap - xs.length) [] rfl rfl (by simp) (by simp) (by unfold maxLen; omega) (by omega) hbwb.size ?_; intro v3 wc hown3 hg3 _; have hbc := below_own (B := w.heap.size) hg3 hown2 hbwb.size (Nat.le_refl _); have hbwc := hbwb.trans hbc; clear hg3 hown2))
        all_goals
          go_ret
          refine Hfin.out _ _ hbwc ?_
          rw [HR.out]
          exact owns_own hown3 (by simp) (by simp)
      · obtain rfl : cap = xs.length := by omega
        have hF1 : ((xs.take xs.length).flatMap encS).length = xs.length * 3 := by rw [flat_length, List.length_take]; congr 1; omega
        have HF1 := Lib.hid hF1
        have hC1 := fun W (h : Below w.heap.size w W) => ((CellsAt.mono HC.out hb h).take xs.length).flat
        have HC1 := Lib.hid hC1
        have hC2 := fun W (h : Below w.heap.size w W) => ((CellsAt.mono HC.out hb h).drop xs.length).flat
        have HC2 := Lib.hid hC2
        have hszz := hwz.size
        have HBX := Lib.hid (fun wa (h : Below wz.heap.size wz wa) => box_cells Hbox.out (hbz.trans (h.mono hbz.size)))
        clear hF1 hC1 hC2
        go_wp2_with (first
          | (at_builtin; refine wpList_append_own _ rfl (.const (.slice none 0 0)) (.tmp 36) 44 rfl w.heap.size 27 i0 (.agg #[.int .i64 0, .string ⟨#[]⟩, .int .i64 0]) 3 32 Try.underlying44 hi hz0 hz1 hz2 rfl (by decide) _ _ _ rfl (World.ownsRow_nil _ _ _ _) ⟨b, off, none⟩ xs.length xs.length ((xs.take xs.length).flatMap encS) rfl HF1.out (HC1.out _ hwz) (flat_one _) (by unfold maxLen; omega) (by omega) hszz ?_; intro v1 wa hown1 hg1 _; have hba := below_own (B := wz.heap.size) hg1 (World.ownsRow_nil wz wz.heap.size 27 3) (Nat.le_refl _) (Nat.le_refl _); obtain ⟨x0, x1, x2, -, -, -, -⟩ := HBX.out wa hba; have hbwa := hwz.trans (hba.mono hszz); have hsza := hbwa.size; clear hg1)
          | (at_builtin; refine wpList_append_own _ rfl (.tmp 38) (.tmp 40) 44 rfl w.heap.size 27 i0 (.agg #[.int .i64 0, .string ⟨#[]⟩, .int .i64 0]) 3 32 Try.underlying44 hi hz0 hz1 hz2 rfl (by decide) _ _ _ rfl (hown1.alloc _) ⟨wa.heap.size, 0, none⟩ 1 1 (encS x) rfl rfl (cell_three_new _ _ _) (by simp [encS, Value.oneCell']) (by unfold maxLen; omega) (by omega) (by simp; omega) ?_; intro v2 wb hown2 hg2 _; have hbb := below_own (B := w.heap.size) hg2 (hown1.alloc _) (by simp; omega) (Nat.le_refl _); have hbwb := (hbwa.alloc hsza _).trans hbb; clear hg2 hown1 x0 x1 x2)
          | (at_builtin; refine wpList_append_own _ rfl (.tmp 42) (.tmp 45) 44 rfl w.heap.size 27 i0 (.agg #[.int .i64 0, .string ⟨#[]⟩, .int .i64 0]) 3 32 Try.underlying44 hi hz0 hz1 hz2 rfl (by decide) _ _ _ rfl hown2 ⟨b, off, none⟩ 0 0 [] rfl rfl (by simp) (by simp) (by unfold maxLen; omega) (by omega) hbwb.size ?_; intro v3 wc hown3 hg3 _; have hbc := below_own (B := w.heap.size) hg3 hown2 hbwb.size (Nat.le_refl _); have hbwc := hbwb.trans hbc; clear hg3 hown2))
        all_goals
          go_ret
          refine Hfin.out _ _ hbwc ?_
          rw [HR.out]
          exact owns_own hown3 (by simp) (by simp)
set_option maxRecDepth 100000 in
set_option maxHeartbeats 1000000 in
theorem putrefO_nil (w : World) (x : Sy) : Calls Try.prog 63 #[.slice none 0 0, .agg #[.int .i64 x.k, .string x.t, .int .i64 x.n]] w (ListedO w [x]) := by
  have hfin : ∀ v w2, Below w.heap.size w w2 → w2.ownsRow w.heap.size 27 3 v [x].length ([x].flatMap encS) → ListedO w [x] (.returned v) w2 := fun v w2 h1 h2 => ⟨v, rfl, h1, h2⟩
  have Hfin := Lib.hid hfin
  obtain ⟨W2, hW2⟩ : ∃ W2, W2 = w.alloc (.cells #[.int .i64 x.k, .string x.t, .int .i64 x.n] 27) := ⟨_, rfl⟩
  have hB : Below w.heap.size w W2 := by rw [hW2]; go_grown
  have hbox : W2.heap[w.heap.size]? = some (.cells #[.int .i64 x.k, .string x.t, .int .i64 x.n] 27 (0, 0)) := by rw [hW2]; exact new_at rfl
  have Hbox := Lib.hid hbox
  have HW := Lib.hid hW2
  have HB := Lib.hid hB
  clear hbox hW2 hB hfin
  obtain ⟨i0, hi, hz0, hz1, hz2⟩ := info_parts infoS
  go_enter Try.func63, Try.ntmps63
  go_wp2_with fail
  rw [← HW.out]
  go_loopw [5] (fun i wr => i = .int .i64 0 ∧ wr = W2) (fun _ _ => 0)
  case atStart => exact ⟨rfl, rfl⟩
  case round =>
    obtain ⟨rfl, rfl⟩ := hrel
    obtain ⟨w0, hw0⟩ : ∃ w0 : World, w0 = wr := ⟨_, rfl⟩
    rw [← hw0] at HB Hbox ⊢
    clear hw0 HW
    go_wp2_with fail
    go_quiet (fail)
    obtain ⟨wy, hWy⟩ : ∃ wy, wy = w0.drewN nq := ⟨_, rfl⟩
    rw [← hWy]
    go_wp2_with fail
    go_quiet (fail)
    obtain ⟨wz, hWz⟩ : ∃ wz, wz = wy.drewN nq := ⟨_, rfl⟩
    rw [← hWz]
    have hbz : Below w0.heap.size w0 wz := by rw [hWz, hWy]; exact bdN _ (bdN _ (Below.refl _ _))
    have hwz : Below w.heap.size w wz := HB.out.trans (hbz.mono HB.out.size)
    clear hWz hWy
    have hszz := hwz.size
    obtain ⟨x0, x1, x2, -, -, -, -⟩ := box_cells Hbox.out hbz
    go_wp2_with (first
      | (at_builtin; refine wpList_append_own_none rfl (.const (.slice none 0 0)) (.tmp 36) 44 rfl w.heap.size 27 i0 3 Try.underlying44 hi _ _ _ rfl (World.ownsRow_nil _ _ _ _) rfl ?_)
      | (at_builtin; refine wpList_append_own _ rfl (.tmp 38) (.tmp 40) 44 rfl w.heap.size 27 i0 (.agg #[.int .i64 0, .string ⟨#[]⟩, .int .i64 0]) 3 32 Try.underlying44 hi hz0 hz1 hz2 rfl (by decide) _ _ _ rfl (World.ownsRow_nil _ _ _ _) ⟨wz.heap.size, 0, none⟩ 1 1 (encS x) rfl rfl (cell_three_new _ _ _) (by simp [encS, Value.oneCell']) (by unfold maxLen; omega) (by omega) (by simp; omega) ?_; intro v2 wb hown2 hg2 _; have hbb := below_own (B := w.heap.size) hg2 (World.ownsRow_nil _ w.heap.size 27 3) (by simp; omega) (Nat.le_refl _); have hbwb := (hwz.alloc hszz _).trans hbb; clear hg2)
      | (at_builtin; refine wpList_append_own_none rfl (.tmp 42) (.tmp 45) 44 rfl w.heap.size 27 i0 3 Try.underlying44 hi _ _ _ rfl hown2 rfl ?_))
    go_ret
    exact Hfin.out _ _ hbwb (owns_own hown2 (by simp) (by simp))
theorem putO_ref (w : World) (v : Value) (xs : List Sy) (x : Sy) (hx : x ∉ xs) (h : SliceAt encS 3 w v xs) (hz : xs.length ≤ 1000000) :
    Calls Try.prog 63 #[v, .agg #[.int .i64 x.k, .string x.t, .int .i64 x.n]] w (ListedO w (ins cmpY x xs)) := by
  rcases h with ⟨rfl, rfl⟩ | ⟨b, off, cap, rfl, h2, h3, h4⟩
  · exact putrefO_nil w x
  · exact putrefO_some w b off cap xs x hx hz h2 h3 h4
open Go.RowKit
abbrev keysL (ps : List Pr) : List Sy := ps.map Pr.k
abbrev valsL (ps : List Pr) : List Value := ps.map fun p => Value.int .i64 p.v
theorem put_mid {a b : List Pr} {o : Pr} (hs : Sorted cmpP (a ++ o :: b)) {x : Sy} (hx : o.k = x) (v : Int) : putLP ⟨x, v⟩ (a ++ o :: b) = a ++ ⟨x, v⟩ :: b := by
  subst hx
  have e0 : cmpP (⟨o.k, v⟩ : Pr) o = 0 := (cmpP_key _ _).2 rfl
  have h1 := look_mid_eq cmpP_cmp hs e0
  have h2 := del_mid_eq cmpP_cmp hs e0
  unfold putLP; rw [h1]; simp only; rw [h2]
  obtain ⟨-, -, ha, hb⟩ := sorted_mid hs
  have h3 : ∀ y ∈ a, 0 < cmpP (⟨o.k, v⟩ : Pr) y := fun y hy => cmpP_cmp.lt (a := y) (b := o) (ha y hy)
  rw [ins_skip h3]
  cases b with
  | nil => rfl
  | cons z zs =>
    have h4 : cmpP (⟨o.k, v⟩ : Pr) z < 0 := hb z (by simp)
    simp [ins, h4]
theorem ins_split {α : Type} {c : α → α → Int} {x : α} : ∀ {xs : List α}, has c x xs = false → ∃ a b, xs = a ++ b ∧ ins c x xs = a ++ x :: b
  | [], _ => ⟨[], [], rfl, rfl⟩
  | z :: zs, h => by
    rw [has_cons] at h
    simp only [Bool.or_eq_false_iff, beq_eq_false_iff_ne] at h
    unfold ins
    split
    · exact ⟨[], z :: zs, rfl, rfl⟩
    · rw [if_neg h.1]
      obtain ⟨a, b, e1, e2⟩ := ins_split h.2
      exact ⟨z :: a, b, by rw [e1]; rfl, by rw [e2]; rfl⟩
theorem ins_keys (x : Sy) (v : Int) : ∀ ps : List Pr, keysL (ins cmpP ⟨x, v⟩ ps) = ins cmpY x (keysL ps)
  | [] => rfl
  | z :: zs => by
    have ih := ins_keys x v zs
    have e : cmpP (⟨x, v⟩ : Pr) z = cmpY x z.k := rfl
    show keysL (ins cmpP ⟨x, v⟩ (z :: zs)) = ins cmpY x (z.k :: keysL zs)
    unfold ins
    rw [e]
    split
    · rfl
    · split
      · rfl
      · show z.k :: keysL (ins cmpP ⟨x, v⟩ zs) = _; rw [ih]
theorem put_new {ps : List Pr} {x : Sy} (h : x ∉ keysL ps) (v : Int) : putLP ⟨x, v⟩ ps = ins cmpP ⟨x, v⟩ ps ∧ has cmpP (⟨x, v⟩ : Pr) ps = false := by
  have hh : has cmpP (⟨x, v⟩ : Pr) ps = false := by
    unfold has
    rw [List.any_eq_false]
    intro p hp
    simp only [beq_iff_eq, cmpP_key]
    intro e
    exact h (List.mem_map.2 ⟨p, hp, e.symm⟩)
  refine ⟨?_, hh⟩
  unfold putLP
  rw [has_look] at hh
  cases ho : look cmpP (⟨x, v⟩ : Pr) ps with
  | none => rfl
  | some o => rw [ho] at hh; cases hh
theorem del_key {a b : List Pr} {o : Pr} (hs : Sorted cmpP (a ++ o :: b)) {x : Sy} (hx : o.k = x) (v : Int) : del cmpP ⟨x, v⟩ (a ++ o :: b) = a ++ b := del_mid_eq cmpP_cmp hs ((cmpP_key _ _).2 hx.symm)
theorem del_not {ps : List Pr} {x : Sy} (h : x ∉ keysL ps) (v : Int) : del cmpP ⟨x, v⟩ ps = ps := del_none (put_new h v).2
theorem put_sorted {x : Pr} {ps : List Pr} (hs : Sorted cmpP ps) : Sorted cmpP (putLP x ps) := by
  unfold putLP
  cases look cmpP x ps with
  | none => exact ins_sorted cmpP_cmp hs
  | some o => exact ins_sorted cmpP_cmp (del_sorted hs)
theorem vals_length (ps : List Pr) : (valsL ps).length = ps.length := by simp
theorem keys_length (ps : List Pr) : (keysL ps).length = ps.length := by simp
/-- A plain map at block B: its two rows are its own. -/
def PlainAt (w : World) (base B : Nat) (v1 v2 : Value) (ps : List Pr) : Prop :=
  w.heap[B]? = some (.cells #[v1, v2] 47 (0, 0)) ∧ base ≤ B ∧ w.ownsRow base 27 3 v1 ps.length ((keysL ps).flatMap encS) ∧ w.ownsRow base 3 1 v2 ps.length (valsL ps)
/-- What the plain map's calls leave. -/
structure PlT (base : Nat) (w w' : World) : Prop where
  below : Below base w w'
  kn : ∀ t, t ≠ 47 → t ≠ 3 → KN t w w'
theorem PlT.refl (base : Nat) (w : World) : PlT base w w := ⟨Below.refl _ _, fun t _ _ => KN.refl t w⟩
theorem PlT.trans {base : Nat} {a b c : World} (h : PlT base a b) (k : PlT base b c) : PlT base a c := ⟨h.below.trans k.below, fun t h1 h2 => (h.kn t h1 h2).trans (k.kn t h1 h2)⟩
theorem PlT.ofBelow {base : Nat} {w w' : World} (hb : base ≤ w.heap.size) (h : Below w.heap.size w w') : PlT base w w' := ⟨h.mono hb, fun t _ _ => KN.below h⟩
theorem PlT.grown {base : Nat} {w w' : World} {r : Nat} {c : Array Value} {t : TypeId} {f : Nat × Nat} (hg : w.grownBy w' (some r)) (hb : base ≤ w.heap.size) (hr : base ≤ r) (hc : w.heap[r]? = some (.cells c t f)) (ht : t = 47 ∨ t = 3) : PlT base w w' :=
  ⟨belowg hg hb hr, fun u h1 h2 => KN.but hg hc (fun e => by subst e; rcases ht with h | h; exact h1 h; exact h2 h)⟩
theorem PlT.set {base : Nat} {w : World} {r o : Nat} {v : Value} {c : Array Value} {t : TypeId} {f : Nat × Nat} (hr : base ≤ r) (hc : w.heap[r]? = some (.cells c t f)) (ht : t = 47 ∨ t = 3) : PlT base w (w.setCell ⟨r, o, none⟩ v) :=
  PlT.grown (gset w r o v) (Nat.le_of_lt (Nat.lt_of_le_of_lt hr (heap_lt hc))) hr hc ht
theorem MapP.kn {w w' : World} {b s : Nat} {xs : List Pr} (h : MapP w b s xs) (hk : ∀ t, t ≠ 47 → t ≠ 3 → KN t w w') : MapP w' b s xs := by
  obtain ⟨h1, p, T, h2, h3, h4, h5⟩ := h
  exact ⟨hk _ (by decide) (by decide) _ _ _ h1, p, T, hk _ (by decide) (by decide) _ _ _ h2, (hk _ (by decide) (by decide)).tree h3, h4, h5⟩
theorem PlainAt.lt {w : World} {base B : Nat} {v1 v2 : Value} {ps : List Pr} (h : PlainAt w base B v1 v2 ps) : B < w.heap.size := heap_lt h.1
theorem PlainAt.mono {w w' : World} {base B : Nat} {v1 v2 : Value} {ps : List Pr} (h : PlainAt w base B v1 v2 ps) (hb : Below w.heap.size w w') : PlainAt w' base B v1 v2 ps :=
  ⟨(hb.block B (heap_lt h.1)).trans h.1, h.2.1, ownsRow_kn (KN.below hb) h.2.2.1, ownsRow_kn (KN.below hb) h.2.2.2⟩
/-- A call of the map leaves the plain one. -/
theorem PlainAt.but {w w' : World} {base B s : Nat} {v1 v2 : Value} {ps xs : List Pr} (h : PlainAt w base B v1 v2 ps) (hg : w.grownBy w' (some s)) (hS : SetP w s xs) : PlainAt w' base B v1 v2 ps := by
  obtain ⟨p, T, hc, -⟩ := hS
  have k1 : KN 47 w w' := KN.but hg hc (by decide)
  have k2 : KN 27 w w' := KN.but hg hc (by decide)
  have k3 : KN 3 w w' := KN.but hg hc (by decide)
  exact ⟨k1 _ _ _ h.1, h.2.1, ownsRow_kn k2 h.2.2.1, ownsRow_kn k3 h.2.2.2⟩
theorem PlainAt.form {w : World} {base B : Nat} {v1 v2 : Value} {ps : List Pr} (h : PlainAt w base B v1 v2 ps) : ∃ a1 c1 a2 c2, v1 = .slice a1 ps.length c1 ∧ v2 = .slice a2 ps.length c2 := by
  obtain ⟨a1, c1, e1⟩ := row_form h.2.2.1
  obtain ⟨a2, c2, e2⟩ := row_form h.2.2.2
  exact ⟨a1, c1, a2, c2, e1, e2⟩
theorem list_at {w : World} {a : Option Addr} {n c : Nat} {ks : List Sy} (h : SliceAt encS 3 w (.slice a n c) ks) {s : Nat} (hs : w.heap.size ≤ s) : ListAt w s a ks := by
  intro k hk
  rcases h with ⟨h1, h2⟩ | ⟨b, off, cap, h1, hb, -, hc⟩
  · subst h2; exact absurd hk (by simp)
  · obtain ⟨rfl, -⟩ : a = some ⟨b, off, none⟩ ∧ True := by simp at h1; exact ⟨h1.1, trivial⟩
    exact ⟨b, off, rfl, by omega, hc k hk 0 _ rfl, hc k hk 1 _ rfl, hc k hk 2 _ rfl⟩
theorem PlainAt.list {w : World} {base B : Nat} {a1 : Option Addr} {n1 c1 : Nat} {v2 : Value} {ps : List Pr} (h : PlainAt w base B (.slice a1 n1 c1) v2 ps) : ListAt w w.heap.size a1 (keysL ps) := list_at (slice_own h.2.2.1 (by simp) rfl) (Nat.le_refl _)
theorem PlainAt.box {w : World} {base B : Nat} {a1 : Option Addr} {c1 : Nat} {a2 : Option Addr} {c2 n2 : Nat} {ps : List Pr} (h : PlainAt w base B (.slice a1 ps.length c1) (.slice a2 n2 c2) ps) : PlainBox w B a1 (keysL ps).length c1 a2 n2 c2 := by rw [keys_length]; exact h.1
/-- A value's cell. -/
theorem owns_int {w : World} {base : Nat} {v : Value} {ps : List Pr} (h : w.ownsRow base 3 1 v ps.length (valsL ps)) {k : Nat} (hk : k < ps.length) : ∃ g c cur, v = .slice (some ⟨g, 0, none⟩) ps.length c ∧ base ≤ g ∧ w.heap[g]? = some (.cells cur 3 (0, 0)) ∧ w.cell? ⟨g, k, none⟩ = some (.int .i64 ps[k].v) := by
  obtain ⟨hl, h | ⟨g, cap, cur, h1, h2, h3, h4, h5, h6, h7⟩⟩ := h
  · omega
  · refine ⟨g, cap, cur, h1, h2, h3, ?_⟩
    rw [cells_of h3]
    have := congrArg (fun l => l[k]?) h7
    simp only [List.getElem?_take] at this
    rw [if_pos (by omega)] at this
    simp [hk] at this
    simpa using this
theorem owns_set {w : World} {base : Nat} {a : List Pr} {o p : Pr} {b : List Pr} {g c n : Nat} (h : w.ownsRow base 3 1 (.slice (some ⟨g, 0, none⟩) n c) n (valsL (a ++ o :: b))) : (w.setCell ⟨g, a.length, none⟩ (.int .i64 p.v)).ownsRow base 3 1 (.slice (some ⟨g, 0, none⟩) n c) n (valsL (a ++ p :: b)) := by
  obtain ⟨hl, h | ⟨g', cap, cur, h1, h2, h3, h4, h5, h6, h7⟩⟩ := h
  · exact absurd h.1 (by simp)
  · simp at h1
    obtain ⟨rfl, rfl⟩ := h1
    refine ⟨by simpa using hl, .inr ⟨g, c, cur.setIfInBounds a.length (.int .i64 p.v), rfl, h2, ?_, h4, h5, by simpa using h6, ?_⟩⟩
    · simp [World.setCell, Array.getElem?_modify, h3]
    · rw [Array.toList_setIfInBounds, List.take_set, h7]
      simp
end Go.Proofs.Ythgidldcblchmaa
