/-
  Walks over the search tree of package order at ponder/api.Sym: join, the turns. No condition but a bound on sizes.
-/
import Derived.Test.YthgidldcblchmaaProg
import Derived.Test.YthgidldcblchmaaKit
import Derived.WalkKit
import Derived.WalkLawsBesides
import Derived.Handy
import Derived.Lib.Hide
import Derived.StillTailTactics
import Derived.BigQuiet
import Derived.Deep.QuietTactic
import Derived.Deep.RegionHeld3
namespace Go.Proofs.Ythgidldcblchmaa
set_option linter.unusedVariables false
open Go.RowKit

structure Sy where
  k : Int
  t : ByteArray
  n : Int
  deriving DecidableEq
def cmpY (a b : Sy) : Int := if cmpI a.k b.k ≠ 0 then cmpI a.k b.k else if cmpS a.t b.t ≠ 0 then cmpS a.t b.t else cmpI a.n b.n
theorem cmpY_cmp : Cmp cmpY := cmp_then (α := Sy) cmpI_cmp (cmp_then (α := Sy) cmpS_cmp cmpI_cmp Sy.t Sy.n @cmpS_eq) Sy.k id @cmpI_eq
theorem cmpY_eq {a b : Sy} (h : cmpY a b = 0) : a = b := by
  unfold cmpY at h
  split at h
  · rename_i h1; exact absurd h h1
  · rename_i h1
    split at h
    · rename_i h2; exact absurd h h2
    · rename_i h2
      have e1 := cmpI_eq (Decidable.not_not.1 h1)
      have e2 := cmpS_eq (Decidable.not_not.1 h2)
      have e3 := cmpI_eq h
      cases a; cases b; simp at *; exact ⟨e1, e2, e3⟩
theorem nanI (a : Int) (w : World) : Calls Try.prog 153 #[.int .i64 a] w fun e w' => e = .returned (.bool false) ∧ w = w' := by
  go_enter Try.func153, Try.ntmps153
  go_wp2
  go_ret
  exact ⟨by simp, rfl⟩
theorem nanS (a : ByteArray) (w : World) : Calls Try.prog 154 #[.string a] w fun e w' => e = .returned (.bool false) ∧ w = w' := by
  go_enter Try.func154, Try.ntmps154
  go_wp2
  go_ret
  exact ⟨by simp, rfl⟩
theorem cmpI_any (a b : Int) (w : World) : Calls Try.prog 151 #[.int .i64 a, .int .i64 b] w fun e w' => e = .returned (.int .i64 (cmpI a b)) ∧ w = w' := by
  go_enter Try.func151, Try.ntmps151
  go_wp2_with (go_at_call 153; refine (nanI _ _).mono ?_; rintro e w' ⟨rfl, rfl⟩)
  all_goals
    go_ret
    refine ⟨ret_int ?_, rfl⟩
    unfold cmpI
  · rw [if_pos (by assumption)]
  · rw [if_neg (by omega), if_pos (by assumption)]
  · rw [if_neg (by omega), if_neg (by omega)]
theorem cmpS_any (a b : ByteArray) (w : World) : Calls Try.prog 152 #[.string a, .string b] w fun e w' => e = .returned (.int .i64 (cmpS a b)) ∧ w = w' := by
  go_enter Try.func152, Try.ntmps152
  go_wp2_with (go_at_call 154; refine (nanS _ _).mono ?_; rintro e w' ⟨rfl, rfl⟩)
  all_goals
    go_ret
    refine ⟨ret_int ?_, rfl⟩
    unfold cmpS
  · rw [if_pos (by assumption)]
  · have h1 : Op.bytesLess a.toList b.toList = false := by assumption
    have h2 : (!a.toList == b.toList) = true := by assumption
    rw [if_neg (by simp [h1]), if_neg (by simpa using h2)]
  · have h1 : Op.bytesLess a.toList b.toList = false := by assumption
    have h2 : (!a.toList == b.toList) = false := by assumption
    rw [if_neg (by simp [h1]), if_pos (by simpa using h2)]
theorem cmp_anyS (a b : Sy) (w : World) : Calls Try.prog 150 #[.agg #[.int .i64 a.k, .string a.t, .int .i64 a.n], .agg #[.int .i64 b.k, .string b.t, .int .i64 b.n]] w fun e w' => e = .returned (.int .i64 (cmpY a b)) ∧ Below w.heap.size w w' := by
  go_enter Try.func150, Try.ntmps150
  go_wp2_with (first | (go_at_call 151; refine (cmpI_any _ _ _).mono ?_; rintro e w' ⟨rfl, rfl⟩) | (go_at_call 152; refine (cmpS_any _ _ _).mono ?_; rintro e w' ⟨rfl, rfl⟩))
  all_goals
    go_ret
    refine ⟨ret_int ?_, by go_grown⟩
    unfold cmpY
  · rw [if_pos (bne_iff_ne.1 (by assumption))]
  · rw [if_neg (Decidable.not_not.2 (bne_eq_false_iff_eq.1 (by assumption))), if_pos (bne_iff_ne.1 (by assumption))]
  · rw [if_neg (Decidable.not_not.2 (bne_eq_false_iff_eq.1 (by assumption))), if_neg (Decidable.not_not.2 (bne_eq_false_iff_eq.1 (by assumption)))]

abbrev encS (v : Sy) : List Value := [.int .i64 v.k, .string v.t, .int .i64 v.n]
abbrev TreeS := IsTree encS 156
theorem len_anyS (W0 w : World) (p : Option Addr) (T : BT Sy) (h : TreeS W0 p T) (hb : Below W0.heap.size W0 w) : Calls Try.prog 83 #[.pointer p] w fun e w' => e = .returned (.int .i64 T.size) ∧ w = w' := by
  cases T with
  | leaf =>
    obtain rfl : p = none := h
    clear hb
    go_enter Try.func83, Try.ntmps83
    go_wp2
    go_ret
    exact ⟨rfl, rfl⟩
  | node l v r =>
    obtain ⟨b, pl, pr, rfl, hc, -, -⟩ := h
    have h5 := cells_of ((hb.block b (heap_lt hc)).trans hc) 5
    simp at h5
    clear hb hc
    go_enter Try.func83, Try.ntmps83
    go_wp2
    go_ret
    exact ⟨rfl, rfl⟩
theorem weight_anyS (W0 w : World) (p : Option Addr) (T : BT Sy) (h : TreeS W0 p T) (hb : Below W0.heap.size W0 w) (hs : T.size ≤ 1000000000) : Calls Try.prog 128 #[.pointer p] w fun e w' => e = .returned (.int .i64 (T.size + 1)) ∧ w = w' := by
  go_enter Try.func128, Try.ntmps128
  go_wp2_with (go_at_call 83; refine (len_anyS W0 _ _ T h hb).mono ?_; rintro e w' ⟨rfl, rfl⟩)
  go_ret
  exact ⟨rfl, rfl⟩
theorem join_anyS (W0 w : World) (pl pr : Option Addr) (v : Sy) (l r : BT Sy) (hl : TreeS W0 pl l) (hr : TreeS W0 pr r) (hb : Below W0.heap.size W0 w) (hls : l.size ≤ 1000000000) (hrs : r.size ≤ 1000000000) :
    Calls Try.prog 112 #[.pointer pl, .agg #[.int .i64 v.k, .string v.t, .int .i64 v.n], .pointer pr] w (TreeOut encS 156 w (l.toList ++ v :: r.toList)) := by
  replace hl := hl.mono hb
  replace hr := hr.mono hb
  clear hb
  go_enter Try.func112, Try.ntmps112
  go_wp2
  refine region_tail 10 (by kernel_rfl) (by kernel_rfl) (fun KK hKK => ?_)
  simp only [List.take_succ_cons, List.take_zero]
  have hl1 := (len_anyS w (w.alloc (.cells #[.int .i64 v.k, .string v.t, .int .i64 v.n] 27)).drew pl l hl (by go_grown)).mono (R' := fun e w' => e = .returned (.int .i64 l.size) ∧ w' = _) (fun _ _ h => ⟨h.1, h.2.symm⟩)
  have hr1 := (len_anyS w (w.alloc (.cells #[.int .i64 v.k, .string v.t, .int .i64 v.n] 27)).drew pr r hr (by go_grown)).mono (R' := fun e w' => e = .returned (.int .i64 r.size) ∧ w' = _) (fun _ _ h => ⟨h.1, h.2.symm⟩)
  have Hl := Lib.hid hl1
  have Hr := Lib.hid hr1
  clear hl1 hr1
  repeat (with_reducible refine wpStill_step (fun K hK => ?_); go_simp; (first | (with_reducible refine hK _ ?_) | (refine ⟨_, Hl.out, hK _ ?_⟩; clear Hl) | (refine ⟨_, Hr.out, hK _ ?_⟩)); clear hK K)
  refine wpStill_nil (hKK _ _ ?_)
  clear hKK KK
  simp only [List.drop_succ_cons, List.drop_zero]
  go_wp2
  go_ret
  refine ⟨_, .node l v r, rfl, ?_, ⟨_, _, _, rfl, ?_, hl.mono ?_, hr.mono ?_⟩, rfl⟩
  · go_grown
  · exact new_at_drew (by simp)
  · go_grown
  · go_grown
theorem node_cellsS {W0 w : World} {b : Nat} {pl pr : Option Addr} {v : Sy} {n : Nat} (hc : W0.heap[b]? = some (.cells ([Value.pointer pl, Value.pointer pr] ++ encS v ++ [Value.int .i64 n]).toArray 156 (0, 0))) (hb : Below W0.heap.size W0 w) :
    w.cell? ⟨b, 0, none⟩ = some (.pointer pl) ∧ w.cell? ⟨b, 1, none⟩ = some (.pointer pr) ∧ w.cell? ⟨b, 2, none⟩ = some (.int .i64 v.k) ∧ w.cell? ⟨b, 3, none⟩ = some (.string v.t) ∧ w.cell? ⟨b, 4, none⟩ = some (.int .i64 v.n) ∧ w.cell? ⟨b, 5, none⟩ = some (.int .i64 n) := by
  have h := (hb.block b (heap_lt hc)).trans hc
  refine ⟨?_, ?_, ?_, ?_, ?_, ?_⟩ <;> simp [cells_of h]

set_option maxHeartbeats 2000000 in
theorem turnedLeftAS (w : World) (pl pr : Option Addr) (v rv : Sy) (o x y : BT Sy) (ho : TreeS w pl o) (hr : TreeS w pr (.node x rv y)) (hls : o.size ≤ 100000000) (hrs : x.size + y.size ≤ 100000000)
    (hlt : x.size + 1 < 2 * (y.size + 1)) :
    Calls Try.prog 129 #[.pointer pl, .agg #[.int .i64 v.k, .string v.t, .int .i64 v.n], .pointer pr] w (TreeOut encS 156 w (o.toList ++ v :: (BT.node x rv y).toList)) := by
  obtain ⟨b, p0, p1, rfl, hc, h0, h1⟩ := hr
  obtain ⟨c0, c1, -⟩ := node_cellsS (w := w.alloc (.cells #[.int .i64 v.k, .string v.t, .int .i64 v.n] 27)) hc (by go_grown)
  have hb : b < w.heap.size := heap_lt hc
  have hA := fun n => ((weight_anyS w ((w.alloc (.cells #[.int .i64 v.k, .string v.t, .int .i64 v.n] 27)).drewN n) _ x h0 (bdN _ (by go_grown)) (by omega)).mono (R' := fun e w' => e = .returned (.int .i64 (x.size + 1)) ∧ w' = _) (fun _ _ h => ⟨h.1, h.2.symm⟩))
  have hB := fun n => ((weight_anyS w ((w.alloc (.cells #[.int .i64 v.k, .string v.t, .int .i64 v.n] 27)).drewN n) _ y h1 (bdN _ (by go_grown)) (by omega)).mono (R' := fun e w' => e = .returned (.int .i64 (y.size + 1)) ∧ w' = _) (fun _ _ h => ⟨h.1, h.2.symm⟩))
  have HA := Lib.hid hA
  have HB := Lib.hid hB
  clear hA hB
  go_enter Try.func129, Try.ntmps129
  go_wp2_with fail
  go_quiet ((first | (with_reducible exact Calls.quiet_of_same (HA.out _)) | (with_reducible exact Calls.quiet_of_same (HB.out _))))
  go_wp2_with fail
  obtain ⟨W2, hW2⟩ : ∃ W2, W2 = (w.alloc (.cells #[.int .i64 v.k, .string v.t, .int .i64 v.n] 27)).drewN nq := ⟨_, rfl⟩
  have hB2 : Below w.heap.size w W2 := by rw [hW2]; exact bdN _ (by go_grown)
  have hz : W2.heap.size = w.heap.size + 1 := by rw [hW2]; simp [World.drewN]
  have hx := cells_of (W := W2) (b := w.heap.size) (c := #[.int .i64 v.k, .string v.t, .int .i64 v.n]) (t := 27) (f := (0, 0)) (by rw [hW2]; exact new_at rfl)
  have KEEP : ∀ w', Below W2.heap.size W2 w' → (w'.cell? ⟨w.heap.size, 0, none⟩ = some (.int .i64 v.k) ∧ w'.cell? ⟨w.heap.size, 1, none⟩ = some (.string v.t) ∧ w'.cell? ⟨w.heap.size, 2, none⟩ = some (.int .i64 v.n) ∧ w'.cell? ⟨b, 1, none⟩ = some (.pointer p1) ∧ w'.cell? ⟨b, 2, none⟩ = some (.int .i64 rv.k) ∧ w'.cell? ⟨b, 3, none⟩ = some (.string rv.t) ∧ w'.cell? ⟨b, 4, none⟩ = some (.int .i64 rv.n)) := by
    intro w' h
    obtain ⟨d0, d1, d2, d3, d4, -⟩ := node_cellsS (w := w') hc (hB2.trans (h.mono hB2.size))
    exact ⟨(h.cell (p := ⟨w.heap.size, 0, none⟩) (by rw [hz]; simp)).trans (by simp [hx]), (h.cell (p := ⟨w.heap.size, 1, none⟩) (by rw [hz]; simp)).trans (by simp [hx]), (h.cell (p := ⟨w.heap.size, 2, none⟩) (by rw [hz]; simp)).trans (by simp [hx]), d1, d2, d3, d4⟩
  rw [← hW2]
  clear hW2 c0 c1 HA HB hx hz
  have hK := Lib.hid KEEP
  clear KEEP
  have hj : Hid (0 = 0) := rfl
  have up : ∀ w', Below W2.heap.size W2 w' → Below w.heap.size w w' := fun w' h => hB2.trans (h.mono hB2.size)
  go_region_held3 (fun w' => Below W2.heap.size W2 w' ∧ w'.cell? ⟨w.heap.size, 0, none⟩ = some (.int .i64 v.k) ∧ w'.cell? ⟨w.heap.size, 1, none⟩ = some (.string v.t) ∧ w'.cell? ⟨w.heap.size, 2, none⟩ = some (.int .i64 v.n) ∧ w'.cell? ⟨b, 1, none⟩ = some (.pointer p1) ∧ w'.cell? ⟨b, 2, none⟩ = some (.int .i64 rv.k) ∧ w'.cell? ⟨b, 3, none⟩ = some (.string rv.t) ∧ w'.cell? ⟨b, 4, none⟩ = some (.int .i64 rv.n))
    (first | exact ⟨Below.drew (Below.refl _ _), hK.out _ (Below.drew (Below.refl _ _))⟩ | exact ⟨hBb.out, hK.out _ hBb.out⟩ | exact ⟨hBa.out, hK.out _ hBa.out⟩ | go_keep)
    (first
      | (have _t := hj; go_at_call 112; (with_reducible refine (join_anyS w _ pl p0 v o x ho h0 (up _ (Below.drew (Below.refl _ _))) (by omega) (by omega)).mono ?_); rintro e w1 ⟨q1, T1, rfl, hb1, ht1, hT1⟩; have hBa := Lib.hid ((Below.drew (Below.refl W2.heap.size W2)).trans hb1); clear hj)
      | (go_at_call 112; (with_reducible refine (join_anyS w1 _ q1 p1 rv T1 y ht1 (h1.mono (up _ hBa.out)) (Below.refl _ _) (by rw [BT.size_eq, hT1]; simp [← BT.size_eq]; omega) (by omega)).mono ?_); rintro e w2 ⟨q2, T2, rfl, hb2, ht2, hT2⟩; have hBb := Lib.hid (hBa.out.trans (Below.mono hb2 hBa.out.size))))
  go_wp2
  go_ret
  exact ⟨_, T2, rfl, up _ hBb.out, ht2, by rw [hT2, hT1]; simp [BT.toList]⟩

set_option maxHeartbeats 2000000 in
theorem turnedLeftBS (w : World) (pl pr : Option Addr) (v rv mv : Sy) (o m0 m1 y : BT Sy) (ho : TreeS w pl o) (hr : TreeS w pr (.node (.node m0 mv m1) rv y)) (hls : o.size ≤ 100000000) (hrs : m0.size + m1.size + y.size ≤ 100000000)
    (hlt : 2 * (y.size + 1) ≤ m0.size + 1 + m1.size + 1) :
    Calls Try.prog 129 #[.pointer pl, .agg #[.int .i64 v.k, .string v.t, .int .i64 v.n], .pointer pr] w (TreeOut encS 156 w (o.toList ++ v :: (BT.node (.node m0 mv m1) rv y).toList)) := by
  obtain ⟨b, p0, p1, rfl, hc, h0, h1⟩ := hr
  have hin := h0
  obtain ⟨bm, r0, r1, rfl, hcm, g0, g1⟩ := hin
  obtain ⟨c0, c1, -⟩ := node_cellsS (w := w.alloc (.cells #[.int .i64 v.k, .string v.t, .int .i64 v.n] 27)) hc (by go_grown)
  have hb : b < w.heap.size := heap_lt hc
  have hbm : bm < w.heap.size := heap_lt hcm
  have hA := fun n => ((weight_anyS w ((w.alloc (.cells #[.int .i64 v.k, .string v.t, .int .i64 v.n] 27)).drewN n) _ _ h0 (bdN _ (by go_grown)) (by simp only [BT.size]; omega)).mono (R' := fun e w' => e = .returned (.int .i64 ((BT.node m0 mv m1).size + 1)) ∧ w' = _) (fun _ _ h => ⟨h.1, h.2.symm⟩))
  have hB := fun n => ((weight_anyS w ((w.alloc (.cells #[.int .i64 v.k, .string v.t, .int .i64 v.n] 27)).drewN n) _ y h1 (bdN _ (by go_grown)) (by omega)).mono (R' := fun e w' => e = .returned (.int .i64 (y.size + 1)) ∧ w' = _) (fun _ _ h => ⟨h.1, h.2.symm⟩))
  have hgt : 2 * ((y.size : Int) + 1) ≤ ((BT.node m0 mv m1).size : Int) + 1 := by simp only [BT.size]; omega
  have hsz : (BT.node m0 mv m1).size ≤ 200000000 := by simp only [BT.size]; omega
  generalize (BT.node m0 mv m1).size = sz at hA hgt hsz
  have HA := Lib.hid hA
  have HB := Lib.hid hB
  clear hA hB
  go_enter Try.func129, Try.ntmps129
  go_wp2_with fail
  go_quiet ((first | (with_reducible exact Calls.quiet_of_same (HA.out _)) | (with_reducible exact Calls.quiet_of_same (HB.out _))))
  go_wp2_with fail
  obtain ⟨W2, hW2⟩ : ∃ W2, W2 = (w.alloc (.cells #[.int .i64 v.k, .string v.t, .int .i64 v.n] 27)).drewN nq := ⟨_, rfl⟩
  have hB2 : Below w.heap.size w W2 := by rw [hW2]; exact bdN _ (by go_grown)
  have hz : W2.heap.size = w.heap.size + 1 := by rw [hW2]; simp [World.drewN]
  have hx := cells_of (W := W2) (b := w.heap.size) (c := #[.int .i64 v.k, .string v.t, .int .i64 v.n]) (t := 27) (f := (0, 0)) (by rw [hW2]; exact new_at rfl)
  have KEEP : ∀ w', Below W2.heap.size W2 w' → (w'.cell? ⟨w.heap.size, 0, none⟩ = some (.int .i64 v.k) ∧ w'.cell? ⟨w.heap.size, 1, none⟩ = some (.string v.t) ∧ w'.cell? ⟨w.heap.size, 2, none⟩ = some (.int .i64 v.n) ∧ w'.cell? ⟨b, 1, none⟩ = some (.pointer p1) ∧ w'.cell? ⟨b, 2, none⟩ = some (.int .i64 rv.k) ∧ w'.cell? ⟨b, 3, none⟩ = some (.string rv.t) ∧ w'.cell? ⟨b, 4, none⟩ = some (.int .i64 rv.n) ∧
      w'.cell? ⟨bm, 0, none⟩ = some (.pointer r0) ∧ w'.cell? ⟨bm, 1, none⟩ = some (.pointer r1) ∧ w'.cell? ⟨bm, 2, none⟩ = some (.int .i64 mv.k) ∧ w'.cell? ⟨bm, 3, none⟩ = some (.string mv.t) ∧ w'.cell? ⟨bm, 4, none⟩ = some (.int .i64 mv.n)) := by
    intro w' h
    obtain ⟨d0, d1, d2, d3, d4, -⟩ := node_cellsS (w := w') hc (hB2.trans (h.mono hB2.size))
    obtain ⟨e0, e1, e2, e3, e4, -⟩ := node_cellsS (w := w') hcm (hB2.trans (h.mono hB2.size))
    exact ⟨(h.cell (p := ⟨w.heap.size, 0, none⟩) (by rw [hz]; simp)).trans (by simp [hx]), (h.cell (p := ⟨w.heap.size, 1, none⟩) (by rw [hz]; simp)).trans (by simp [hx]), (h.cell (p := ⟨w.heap.size, 2, none⟩) (by rw [hz]; simp)).trans (by simp [hx]), d1, d2, d3, d4, e0, e1, e2, e3, e4⟩
  rw [← hW2]
  clear hW2 c0 c1 HA HB hgt hx hz
  have hK := Lib.hid KEEP
  clear KEEP
  have hj : Hid (0 = 0) := rfl
  have hj2 : Hid (0 = 0) := rfl
  have up : ∀ w', Below W2.heap.size W2 w' → Below w.heap.size w w' := fun w' h => hB2.trans (h.mono hB2.size)
  go_region_held3 (fun w' => Below W2.heap.size W2 w' ∧ w'.cell? ⟨w.heap.size, 0, none⟩ = some (.int .i64 v.k) ∧ w'.cell? ⟨w.heap.size, 1, none⟩ = some (.string v.t) ∧ w'.cell? ⟨w.heap.size, 2, none⟩ = some (.int .i64 v.n) ∧ w'.cell? ⟨b, 1, none⟩ = some (.pointer p1) ∧ w'.cell? ⟨b, 2, none⟩ = some (.int .i64 rv.k) ∧ w'.cell? ⟨b, 3, none⟩ = some (.string rv.t) ∧ w'.cell? ⟨b, 4, none⟩ = some (.int .i64 rv.n) ∧
      w'.cell? ⟨bm, 0, none⟩ = some (.pointer r0) ∧ w'.cell? ⟨bm, 1, none⟩ = some (.pointer r1) ∧ w'.cell? ⟨bm, 2, none⟩ = some (.int .i64 mv.k) ∧ w'.cell? ⟨bm, 3, none⟩ = some (.string mv.t) ∧ w'.cell? ⟨bm, 4, none⟩ = some (.int .i64 mv.n))
    (first | exact ⟨Below.drew (Below.refl _ _), hK.out _ (Below.drew (Below.refl _ _))⟩ | exact ⟨hBc.out, hK.out _ hBc.out⟩ | exact ⟨hBb.out, hK.out _ hBb.out⟩ | exact ⟨hBa.out, hK.out _ hBa.out⟩ | go_keep)
    (first
      | (have _t := hj; go_at_call 112; (with_reducible refine (join_anyS w _ pl r0 v o m0 ho g0 (up _ (Below.drew (Below.refl _ _))) (by omega) (by omega)).mono ?_); rintro e w1 ⟨q1, T1, rfl, hb1, ht1, hT1⟩; have hBa := Lib.hid ((Below.drew (Below.refl W2.heap.size W2)).trans hb1); clear hj)
      | (have _t := hj2; go_at_call 112; (with_reducible refine (join_anyS w _ r1 p1 rv m1 y g1 h1 (up _ hBa.out) (by omega) (by omega)).mono ?_); rintro e w2 ⟨q2, T2, rfl, hb2, ht2, hT2⟩; have hBb := Lib.hid (hBa.out.trans (Below.mono hb2 hBa.out.size)); clear hj2)
      | (go_at_call 112; (with_reducible refine (join_anyS w2 _ q1 q2 mv T1 T2 (ht1.mono hb2) ht2 (Below.refl _ _) (by rw [BT.size_eq, hT1]; simp [← BT.size_eq]; omega) (by rw [BT.size_eq, hT2]; simp [← BT.size_eq]; omega)).mono ?_); rintro e w3 ⟨q3, T3, rfl, hb3, ht3, hT3⟩; have hBc := Lib.hid (hBb.out.trans (Below.mono hb3 hBb.out.size))))
  go_wp2
  go_ret
  exact ⟨_, T3, rfl, up _ hBc.out, ht3, by rw [hT3, hT1, hT2]; simp [BT.toList]⟩

set_option maxHeartbeats 2000000 in
theorem turnedRightAS (w : World) (pl pr : Option Addr) (v rv : Sy) (o x y : BT Sy) (ho : TreeS w pr o) (hr : TreeS w pl (.node y rv x)) (hls : o.size ≤ 100000000) (hrs : x.size + y.size ≤ 100000000)
    (hlt : x.size + 1 < 2 * (y.size + 1)) :
    Calls Try.prog 130 #[.pointer pl, .agg #[.int .i64 v.k, .string v.t, .int .i64 v.n], .pointer pr] w (TreeOut encS 156 w ((BT.node y rv x).toList ++ v :: o.toList)) := by
  obtain ⟨b, p0, p1, rfl, hc, h0, h1⟩ := hr
  obtain ⟨c0, c1, -⟩ := node_cellsS (w := w.alloc (.cells #[.int .i64 v.k, .string v.t, .int .i64 v.n] 27)) hc (by go_grown)
  have hb : b < w.heap.size := heap_lt hc
  have hA := fun n => ((weight_anyS w ((w.alloc (.cells #[.int .i64 v.k, .string v.t, .int .i64 v.n] 27)).drewN n) _ x h1 (bdN _ (by go_grown)) (by omega)).mono (R' := fun e w' => e = .returned (.int .i64 (x.size + 1)) ∧ w' = _) (fun _ _ h => ⟨h.1, h.2.symm⟩))
  have hB := fun n => ((weight_anyS w ((w.alloc (.cells #[.int .i64 v.k, .string v.t, .int .i64 v.n] 27)).drewN n) _ y h0 (bdN _ (by go_grown)) (by omega)).mono (R' := fun e w' => e = .returned (.int .i64 (y.size + 1)) ∧ w' = _) (fun _ _ h => ⟨h.1, h.2.symm⟩))
  have HA := Lib.hid hA
  have HB := Lib.hid hB
  clear hA hB
  go_enter Try.func130, Try.ntmps130
  go_wp2_with fail
  go_quiet ((first | (with_reducible exact Calls.quiet_of_same (HA.out _)) | (with_reducible exact Calls.quiet_of_same (HB.out _))))
  go_wp2_with fail
  obtain ⟨W2, hW2⟩ : ∃ W2, W2 = (w.alloc (.cells #[.int .i64 v.k, .string v.t, .int .i64 v.n] 27)).drewN nq := ⟨_, rfl⟩
  have hB2 : Below w.heap.size w W2 := by rw [hW2]; exact bdN _ (by go_grown)
  have hz : W2.heap.size = w.heap.size + 1 := by rw [hW2]; simp [World.drewN]
  have hx := cells_of (W := W2) (b := w.heap.size) (c := #[.int .i64 v.k, .string v.t, .int .i64 v.n]) (t := 27) (f := (0, 0)) (by rw [hW2]; exact new_at rfl)
  have KEEP : ∀ w', Below W2.heap.size W2 w' → (w'.cell? ⟨w.heap.size, 0, none⟩ = some (.int .i64 v.k) ∧ w'.cell? ⟨w.heap.size, 1, none⟩ = some (.string v.t) ∧ w'.cell? ⟨w.heap.size, 2, none⟩ = some (.int .i64 v.n) ∧ w'.cell? ⟨b, 0, none⟩ = some (.pointer p0) ∧ w'.cell? ⟨b, 2, none⟩ = some (.int .i64 rv.k) ∧ w'.cell? ⟨b, 3, none⟩ = some (.string rv.t) ∧ w'.cell? ⟨b, 4, none⟩ = some (.int .i64 rv.n)) := by
    intro w' h
    obtain ⟨d0, d1, d2, d3, d4, -⟩ := node_cellsS (w := w') hc (hB2.trans (h.mono hB2.size))
    exact ⟨(h.cell (p := ⟨w.heap.size, 0, none⟩) (by rw [hz]; simp)).trans (by simp [hx]), (h.cell (p := ⟨w.heap.size, 1, none⟩) (by rw [hz]; simp)).trans (by simp [hx]), (h.cell (p := ⟨w.heap.size, 2, none⟩) (by rw [hz]; simp)).trans (by simp [hx]), d0, d2, d3, d4⟩
  rw [← hW2]
  clear hW2 c0 c1 HA HB hx hz
  have hK := Lib.hid KEEP
  clear KEEP
  have hj : Hid (0 = 0) := rfl
  have up : ∀ w', Below W2.heap.size W2 w' → Below w.heap.size w w' := fun w' h => hB2.trans (h.mono hB2.size)
  go_region_held3 (fun w' => Below W2.heap.size W2 w' ∧ w'.cell? ⟨w.heap.size, 0, none⟩ = some (.int .i64 v.k) ∧ w'.cell? ⟨w.heap.size, 1, none⟩ = some (.string v.t) ∧ w'.cell? ⟨w.heap.size, 2, none⟩ = some (.int .i64 v.n) ∧ w'.cell? ⟨b, 0, none⟩ = some (.pointer p0) ∧ w'.cell? ⟨b, 2, none⟩ = some (.int .i64 rv.k) ∧ w'.cell? ⟨b, 3, none⟩ = some (.string rv.t) ∧ w'.cell? ⟨b, 4, none⟩ = some (.int .i64 rv.n))
    (first | exact ⟨Below.drew (Below.refl _ _), hK.out _ (Below.drew (Below.refl _ _))⟩ | exact ⟨hBb.out, hK.out _ hBb.out⟩ | exact ⟨hBa.out, hK.out _ hBa.out⟩ | go_keep)
    (first
      | (have _t := hj; go_at_call 112; (with_reducible refine (join_anyS w _ p1 pr v x o h1 ho (up _ (Below.drew (Below.refl _ _))) (by omega) (by omega)).mono ?_); rintro e w1 ⟨q1, T1, rfl, hb1, ht1, hT1⟩; have hBa := Lib.hid ((Below.drew (Below.refl W2.heap.size W2)).trans hb1); clear hj)
      | (go_at_call 112; (with_reducible refine (join_anyS w1 _ p0 q1 rv y T1 (h0.mono (up _ hBa.out)) ht1 (Below.refl _ _) (by omega) (by rw [BT.size_eq, hT1]; simp [← BT.size_eq]; omega)).mono ?_); rintro e w2 ⟨q2, T2, rfl, hb2, ht2, hT2⟩; have hBb := Lib.hid (hBa.out.trans (Below.mono hb2 hBa.out.size))))
  go_wp2
  go_ret
  exact ⟨_, T2, rfl, up _ hBb.out, ht2, by rw [hT2, hT1]; simp [BT.toList]⟩

set_option maxHeartbeats 2000000 in
theorem turnedRightBS (w : World) (pl pr : Option Addr) (v rv mv : Sy) (o m0 m1 y : BT Sy) (ho : TreeS w pr o) (hr : TreeS w pl (.node y rv (.node m0 mv m1))) (hls : o.size ≤ 100000000) (hrs : m0.size + m1.size + y.size ≤ 100000000)
    (hlt : 2 * (y.size + 1) ≤ m0.size + 1 + m1.size + 1) :
    Calls Try.prog 130 #[.pointer pl, .agg #[.int .i64 v.k, .string v.t, .int .i64 v.n], .pointer pr] w (TreeOut encS 156 w ((BT.node y rv (.node m0 mv m1)).toList ++ v :: o.toList)) := by
  obtain ⟨b, p0, p1, rfl, hc, h0, h1⟩ := hr
  have hin := h1
  obtain ⟨bm, r0, r1, rfl, hcm, g0, g1⟩ := hin
  obtain ⟨c0, c1, -⟩ := node_cellsS (w := w.alloc (.cells #[.int .i64 v.k, .string v.t, .int .i64 v.n] 27)) hc (by go_grown)
  have hb : b < w.heap.size := heap_lt hc
  have hbm : bm < w.heap.size := heap_lt hcm
  have hA := fun n => ((weight_anyS w ((w.alloc (.cells #[.int .i64 v.k, .string v.t, .int .i64 v.n] 27)).drewN n) _ _ h1 (bdN _ (by go_grown)) (by simp only [BT.size]; omega)).mono (R' := fun e w' => e = .returned (.int .i64 ((BT.node m0 mv m1).size + 1)) ∧ w' = _) (fun _ _ h => ⟨h.1, h.2.symm⟩))
  have hB := fun n => ((weight_anyS w ((w.alloc (.cells #[.int .i64 v.k, .string v.t, .int .i64 v.n] 27)).drewN n) _ y h0 (bdN _ (by go_grown)) (by omega)).mono (R' := fun e w' => e = .returned (.int .i64 (y.size + 1)) ∧ w' = _) (fun _ _ h => ⟨h.1, h.2.symm⟩))
  have hgt : 2 * ((y.size : Int) + 1) ≤ ((BT.node m0 mv m1).size : Int) + 1 := by simp only [BT.size]; omega
  have hsz : (BT.node m0 mv m1).size ≤ 200000000 := by simp only [BT.size]; omega
  generalize (BT.node m0 mv m1).size = sz at hA hgt hsz
  have HA := Lib.hid hA
  have HB := Lib.hid hB
  clear hA hB
  go_enter Try.func130, Try.ntmps130
  go_wp2_with fail
  go_quiet ((first | (with_reducible exact Calls.quiet_of_same (HA.out _)) | (with_reducible exact Calls.quiet_of_same (HB.out _))))
  go_wp2_with fail
  obtain ⟨W2, hW2⟩ : ∃ W2, W2 = (w.alloc (.cells #[.int .i64 v.k, .string v.t, .int .i64 v.n] 27)).drewN nq := ⟨_, rfl⟩
  have hB2 : Below w.heap.size w W2 := by rw [hW2]; exact bdN _ (by go_grown)
  have hz : W2.heap.size = w.heap.size + 1 := by rw [hW2]; simp [World.drewN]
  have hx := cells_of (W := W2) (b := w.heap.size) (c := #[.int .i64 v.k, .string v.t, .int .i64 v.n]) (t := 27) (f := (0, 0)) (by rw [hW2]; exact new_at rfl)
  have KEEP : ∀ w', Below W2.heap.size W2 w' → (w'.cell? ⟨w.heap.size, 0, none⟩ = some (.int .i64 v.k) ∧ w'.cell? ⟨w.heap.size, 1, none⟩ = some (.string v.t) ∧ w'.cell? ⟨w.heap.size, 2, none⟩ = some (.int .i64 v.n) ∧ w'.cell? ⟨b, 0, none⟩ = some (.pointer p0) ∧ w'.cell? ⟨b, 2, none⟩ = some (.int .i64 rv.k) ∧ w'.cell? ⟨b, 3, none⟩ = some (.string rv.t) ∧ w'.cell? ⟨b, 4, none⟩ = some (.int .i64 rv.n) ∧
      w'.cell? ⟨bm, 0, none⟩ = some (.pointer r0) ∧ w'.cell? ⟨bm, 1, none⟩ = some (.pointer r1) ∧ w'.cell? ⟨bm, 2, none⟩ = some (.int .i64 mv.k) ∧ w'.cell? ⟨bm, 3, none⟩ = some (.string mv.t) ∧ w'.cell? ⟨bm, 4, none⟩ = some (.int .i64 mv.n)) := by
    intro w' h
    obtain ⟨d0, d1, d2, d3, d4, -⟩ := node_cellsS (w := w') hc (hB2.trans (h.mono hB2.size))
    obtain ⟨e0, e1, e2, e3, e4, -⟩ := node_cellsS (w := w') hcm (hB2.trans (h.mono hB2.size))
    exact ⟨(h.cell (p := ⟨w.heap.size, 0, none⟩) (by rw [hz]; simp)).trans (by simp [hx]), (h.cell (p := ⟨w.heap.size, 1, none⟩) (by rw [hz]; simp)).trans (by simp [hx]), (h.cell (p := ⟨w.heap.size, 2, none⟩) (by rw [hz]; simp)).trans (by simp [hx]), d0, d2, d3, d4, e0, e1, e2, e3, e4⟩
  rw [← hW2]
  clear hW2 c0 c1 HA HB hgt hx hz
  have hK := Lib.hid KEEP
  clear KEEP
  have hj : Hid (0 = 0) := rfl
  have hj2 : Hid (0 = 0) := rfl
  have up : ∀ w', Below W2.heap.size W2 w' → Below w.heap.size w w' := fun w' h => hB2.trans (h.mono hB2.size)
  go_region_held3 (fun w' => Below W2.heap.size W2 w' ∧ w'.cell? ⟨w.heap.size, 0, none⟩ = some (.int .i64 v.k) ∧ w'.cell? ⟨w.heap.size, 1, none⟩ = some (.string v.t) ∧ w'.cell? ⟨w.heap.size, 2, none⟩ = some (.int .i64 v.n) ∧ w'.cell? ⟨b, 0, none⟩ = some (.pointer p0) ∧ w'.cell? ⟨b, 2, none⟩ = some (.int .i64 rv.k) ∧ w'.cell? ⟨b, 3, none⟩ = some (.string rv.t) ∧ w'.cell? ⟨b, 4, none⟩ = some (.int .i64 rv.n) ∧
      w'.cell? ⟨bm, 0, none⟩ = some (.pointer r0) ∧ w'.cell? ⟨bm, 1, none⟩ = some (.pointer r1) ∧ w'.cell? ⟨bm, 2, none⟩ = some (.int .i64 mv.k) ∧ w'.cell? ⟨bm, 3, none⟩ = some (.string mv.t) ∧ w'.cell? ⟨bm, 4, none⟩ = some (.int .i64 mv.n))
    (first | exact ⟨Below.drew (Below.refl _ _), hK.out _ (Below.drew (Below.refl _ _))⟩ | exact ⟨hBc.out, hK.out _ hBc.out⟩ | exact ⟨hBb.out, hK.out _ hBb.out⟩ | exact ⟨hBa.out, hK.out _ hBa.out⟩ | go_keep)
    (first
      | (have _t := hj; go_at_call 112; (with_reducible refine (join_anyS w _ p0 r0 rv y m0 h0 g0 (up _ (Below.drew (Below.refl _ _))) (by omega) (by omega)).mono ?_); rintro e w1 ⟨q1, T1, rfl, hb1, ht1, hT1⟩; have hBa := Lib.hid ((Below.drew (Below.refl W2.heap.size W2)).trans hb1); clear hj)
      | (have _t := hj2; go_at_call 112; (with_reducible refine (join_anyS w _ r1 pr v m1 o g1 ho (up _ hBa.out) (by omega) (by omega)).mono ?_); rintro e w2 ⟨q2, T2, rfl, hb2, ht2, hT2⟩; have hBb := Lib.hid (hBa.out.trans (Below.mono hb2 hBa.out.size)); clear hj2)
      | (go_at_call 112; (with_reducible refine (join_anyS w2 _ q1 q2 mv T1 T2 (ht1.mono hb2) ht2 (Below.refl _ _) (by rw [BT.size_eq, hT1]; simp [← BT.size_eq]; omega) (by rw [BT.size_eq, hT2]; simp [← BT.size_eq]; omega)).mono ?_); rintro e w3 ⟨q3, T3, rfl, hb3, ht3, hT3⟩; have hBc := Lib.hid (hBb.out.trans (Below.mono hb3 hBb.out.size))))
  go_wp2
  go_ret
  exact ⟨_, T3, rfl, up _ hBc.out, ht3, by rw [hT3, hT1, hT2]; simp [BT.toList]⟩
end Go.Proofs.Ythgidldcblchmaa
