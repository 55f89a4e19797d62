/-
  Walks over the search tree of package order at ponder/shape.variable: join, the turns. No condition but a bound on sizes.
-/
import Derived.Test.YtccphigpobnjmaaProg
import Derived.Test.YtccphigpobnjmaaKit
import Derived.Test.YtccphigpobnjmaaShelf
import Derived.Lib.Bytealg
import Derived.WalkKit
import Derived.WalkLawsBesides
import Derived.Handy
import Derived.Lib.Hide
import Derived.StillTailTactics
import Derived.BigQuiet
import Derived.Deep.QuietTactic
import Derived.Deep.RegionHeld3
namespace Go.Proofs.Ytccphigpobnjmaa
set_option linter.unusedVariables false
open Go.RowKit

theorem cmpBL : ∀ a b : List UInt8, Lib.compareBytes a b = if Op.bytesLess a b then -1 else if a = b then 0 else 1
  | [], [] => by simp [Lib.compareBytes, Op.bytesLess]
  | [], _ :: _ => by simp [Lib.compareBytes, Op.bytesLess]
  | _ :: _, [] => by simp [Lib.compareBytes, Op.bytesLess]
  | a :: u, b :: v => by
    have ih := cmpBL u v
    unfold Lib.compareBytes Op.bytesLess
    by_cases h1 : a < b
    · simp [h1]
    · by_cases h2 : b < a
      · have h3 : ¬ a = b := fun e => by subst e; exact h1 h2
        simp [h1, h2, h3]
      · have h3 : a = b := UInt8.le_antisymm (UInt8.not_lt.1 h2) (UInt8.not_lt.1 h1)
        subst h3
        simp [h1, ih]
theorem cmpBS (a b : ByteArray) : Lib.compareBytes a.data.toList b.data.toList = cmpS a b := by
  rw [cmpBL]; unfold cmpS; rw [Lib.toList_data, Lib.toList_data]
theorem cmp_anyV (a b : ByteArray) (w : World) : Calls Try.prog 149 #[.string a, .string b] w fun e w' => e = .returned (.int .i64 (cmpS a b)) ∧ Below w.heap.size w w' := by
  go_enter Try.func149, Try.ntmps149
  go_wp2_with (go_at_call 150; refine (Try.strings_Compare _ _ _).mono ?_; rintro e w' ⟨rfl, rfl⟩)
  go_ret
  exact ⟨by rw [cmpBS]; rfl, by go_grown⟩

abbrev encV (v : ByteArray) : List Value := [.string v]
abbrev TreeV := IsTree encV 153
theorem len_anyV (W0 w : World) (p : Option Addr) (T : BT ByteArray) (h : TreeV W0 p T) (hb : Below W0.heap.size W0 w) : Calls Try.prog 124 #[.pointer p] w fun e w' => e = .returned (.int .i64 T.size) ∧ w = w' := by
  cases T with
  | leaf =>
    obtain rfl : p = none := h
    clear hb
    go_enter Try.func124, Try.ntmps124
    go_wp2
    go_ret
    exact ⟨rfl, rfl⟩
  | node l v r =>
    obtain ⟨b, pl, pr, rfl, hc, -, -⟩ := h
    have h5 := cells_of ((hb.block b (heap_lt hc)).trans hc) 3
    simp at h5
    clear hb hc
    go_enter Try.func124, Try.ntmps124
    go_wp2
    go_ret
    exact ⟨rfl, rfl⟩
theorem weight_anyV (W0 w : World) (p : Option Addr) (T : BT ByteArray) (h : TreeV W0 p T) (hb : Below W0.heap.size W0 w) (hs : T.size ≤ 1000000000) : Calls Try.prog 125 #[.pointer p] w fun e w' => e = .returned (.int .i64 (T.size + 1)) ∧ w = w' := by
  go_enter Try.func125, Try.ntmps125
  go_wp2_with (go_at_call 124; refine (len_anyV W0 _ _ T h hb).mono ?_; rintro e w' ⟨rfl, rfl⟩)
  go_ret
  exact ⟨rfl, rfl⟩
theorem join_anyV (W0 w : World) (pl pr : Option Addr) (v : ByteArray) (l r : BT ByteArray) (hl : TreeV W0 pl l) (hr : TreeV W0 pr r) (hb : Below W0.heap.size W0 w) (hls : l.size ≤ 1000000000) (hrs : r.size ≤ 1000000000) :
    Calls Try.prog 122 #[.pointer pl, .string v, .pointer pr] w (TreeOut encV 153 w (l.toList ++ v :: r.toList)) := by
  replace hl := hl.mono hb
  replace hr := hr.mono hb
  clear hb
  go_enter Try.func122, Try.ntmps122
  go_wp2_with (first | (go_at_call 124; (with_reducible refine (len_anyV w _ pl l hl (by go_grown)).mono ?_); rintro e w' ⟨rfl, rfl⟩) | (go_at_call 124; (with_reducible refine (len_anyV w _ pr r hr (by go_grown)).mono ?_); rintro e w' ⟨rfl, rfl⟩))
  go_ret
  refine ⟨_, .node l v r, rfl, ?_, ⟨_, _, _, rfl, ?_, hl.mono ?_, hr.mono ?_⟩, rfl⟩
  · go_grown
  · exact new_at rfl
  · go_grown
  · go_grown
theorem node_cellsV {W0 w : World} {b : Nat} {pl pr : Option Addr} {v : ByteArray} {n : Nat} (hc : W0.heap[b]? = some (.cells ([Value.pointer pl, Value.pointer pr] ++ encV v ++ [Value.int .i64 n]).toArray 153 (0, 0))) (hb : Below W0.heap.size W0 w) :
    w.cell? ⟨b, 0, none⟩ = some (.pointer pl) ∧ w.cell? ⟨b, 1, none⟩ = some (.pointer pr) ∧ w.cell? ⟨b, 2, none⟩ = some (.string v) ∧ w.cell? ⟨b, 3, none⟩ = some (.int .i64 n) := by
  have h := (hb.block b (heap_lt hc)).trans hc
  refine ⟨?_, ?_, ?_, ?_⟩ <;> simp [cells_of h]

set_option maxHeartbeats 2000000 in
theorem turnedLeftAV (w : World) (pl pr : Option Addr) (v rv : ByteArray) (o x y : BT ByteArray) (ho : TreeV w pl o) (hr : TreeV w pr (.node x rv y)) (hls : o.size ≤ 100000000) (hrs : x.size + y.size ≤ 100000000)
    (hlt : x.size + 1 < 2 * (y.size + 1)) :
    Calls Try.prog 126 #[.pointer pl, .string v, .pointer pr] w (TreeOut encV 153 w (o.toList ++ v :: (BT.node x rv y).toList)) := by
  obtain ⟨b, p0, p1, rfl, hc, h0, h1⟩ := hr
  obtain ⟨c0, c1, -⟩ := node_cellsV (w := w) hc (by go_grown)
  have hb : b < w.heap.size := heap_lt hc
  have hA := fun n => ((weight_anyV w ((w).drewN n) _ x h0 (bdN _ (by go_grown)) (by omega)).mono (R' := fun e w' => e = .returned (.int .i64 (x.size + 1)) ∧ w' = _) (fun _ _ h => ⟨h.1, h.2.symm⟩))
  have hB := fun n => ((weight_anyV w ((w).drewN n) _ y h1 (bdN _ (by go_grown)) (by omega)).mono (R' := fun e w' => e = .returned (.int .i64 (y.size + 1)) ∧ w' = _) (fun _ _ h => ⟨h.1, h.2.symm⟩))
  have HA := Lib.hid hA
  have HB := Lib.hid hB
  clear hA hB
  go_enter Try.func126, Try.ntmps126
  go_wp2_with fail
  go_quiet ((first | (with_reducible exact Calls.quiet_of_same (HA.out _)) | (with_reducible exact Calls.quiet_of_same (HB.out _))))
  go_wp2_with fail
  obtain ⟨W2, hW2⟩ : ∃ W2, W2 = (w).drewN nq := ⟨_, rfl⟩
  have hB2 : Below w.heap.size w W2 := by rw [hW2]; exact bdN _ (by go_grown)
  have KEEP : ∀ w', Below W2.heap.size W2 w' → (w'.cell? ⟨b, 1, none⟩ = some (.pointer p1) ∧ w'.cell? ⟨b, 2, none⟩ = some (.string rv)) := by
    intro w' h
    obtain ⟨d0, d1, d2, -⟩ := node_cellsV (w := w') hc (hB2.trans (h.mono hB2.size))
    exact ⟨d1, d2⟩
  rw [← hW2]
  clear hW2 c0 c1 HA HB
  have hK := Lib.hid KEEP
  clear KEEP
  have hj : Hid (0 = 0) := rfl
  have up : ∀ w', Below W2.heap.size W2 w' → Below w.heap.size w w' := fun w' h => hB2.trans (h.mono hB2.size)
  go_region_held3 (fun w' => Below W2.heap.size W2 w' ∧ w'.cell? ⟨b, 1, none⟩ = some (.pointer p1) ∧ w'.cell? ⟨b, 2, none⟩ = some (.string rv))
    (first | exact ⟨Below.drew (Below.refl _ _), hK.out _ (Below.drew (Below.refl _ _))⟩ | exact ⟨hBb.out, hK.out _ hBb.out⟩ | exact ⟨hBa.out, hK.out _ hBa.out⟩ | go_keep)
    (first
      | (have _t := hj; go_at_call 122; (with_reducible refine (join_anyV w _ pl p0 v o x ho h0 (up _ (Below.drew (Below.refl _ _))) (by omega) (by omega)).mono ?_); rintro e w1 ⟨q1, T1, rfl, hb1, ht1, hT1⟩; have hBa := Lib.hid ((Below.drew (Below.refl W2.heap.size W2)).trans hb1); clear hj)
      | (go_at_call 122; (with_reducible refine (join_anyV w1 _ q1 p1 rv T1 y ht1 (h1.mono (up _ hBa.out)) (Below.refl _ _) (by rw [BT.size_eq, hT1]; simp [← BT.size_eq]; omega) (by omega)).mono ?_); rintro e w2 ⟨q2, T2, rfl, hb2, ht2, hT2⟩; have hBb := Lib.hid (hBa.out.trans (Below.mono hb2 hBa.out.size))))
  go_wp2
  go_ret
  exact ⟨_, T2, rfl, up _ hBb.out, ht2, by rw [hT2, hT1]; simp [BT.toList]⟩

set_option maxHeartbeats 2000000 in
theorem turnedLeftBV (w : World) (pl pr : Option Addr) (v rv mv : ByteArray) (o m0 m1 y : BT ByteArray) (ho : TreeV w pl o) (hr : TreeV w pr (.node (.node m0 mv m1) rv y)) (hls : o.size ≤ 100000000) (hrs : m0.size + m1.size + y.size ≤ 100000000)
    (hlt : 2 * (y.size + 1) ≤ m0.size + 1 + m1.size + 1) :
    Calls Try.prog 126 #[.pointer pl, .string v, .pointer pr] w (TreeOut encV 153 w (o.toList ++ v :: (BT.node (.node m0 mv m1) rv y).toList)) := by
  obtain ⟨b, p0, p1, rfl, hc, h0, h1⟩ := hr
  have hin := h0
  obtain ⟨bm, r0, r1, rfl, hcm, g0, g1⟩ := hin
  obtain ⟨c0, c1, -⟩ := node_cellsV (w := w) hc (by go_grown)
  have hb : b < w.heap.size := heap_lt hc
  have hbm : bm < w.heap.size := heap_lt hcm
  have hA := fun n => ((weight_anyV w ((w).drewN n) _ _ h0 (bdN _ (by go_grown)) (by simp only [BT.size]; omega)).mono (R' := fun e w' => e = .returned (.int .i64 ((BT.node m0 mv m1).size + 1)) ∧ w' = _) (fun _ _ h => ⟨h.1, h.2.symm⟩))
  have hB := fun n => ((weight_anyV w ((w).drewN n) _ y h1 (bdN _ (by go_grown)) (by omega)).mono (R' := fun e w' => e = .returned (.int .i64 (y.size + 1)) ∧ w' = _) (fun _ _ h => ⟨h.1, h.2.symm⟩))
  have hgt : 2 * ((y.size : Int) + 1) ≤ ((BT.node m0 mv m1).size : Int) + 1 := by simp only [BT.size]; omega
  have hsz : (BT.node m0 mv m1).size ≤ 200000000 := by simp only [BT.size]; omega
  generalize (BT.node m0 mv m1).size = sz at hA hgt hsz
  have HA := Lib.hid hA
  have HB := Lib.hid hB
  clear hA hB
  go_enter Try.func126, Try.ntmps126
  go_wp2_with fail
  go_quiet ((first | (with_reducible exact Calls.quiet_of_same (HA.out _)) | (with_reducible exact Calls.quiet_of_same (HB.out _))))
  go_wp2_with fail
  obtain ⟨W2, hW2⟩ : ∃ W2, W2 = (w).drewN nq := ⟨_, rfl⟩
  have hB2 : Below w.heap.size w W2 := by rw [hW2]; exact bdN _ (by go_grown)
  have KEEP : ∀ w', Below W2.heap.size W2 w' → (w'.cell? ⟨b, 1, none⟩ = some (.pointer p1) ∧ w'.cell? ⟨b, 2, none⟩ = some (.string rv) ∧
      w'.cell? ⟨bm, 0, none⟩ = some (.pointer r0) ∧ w'.cell? ⟨bm, 1, none⟩ = some (.pointer r1) ∧ w'.cell? ⟨bm, 2, none⟩ = some (.string mv)) := by
    intro w' h
    obtain ⟨d0, d1, d2, -⟩ := node_cellsV (w := w') hc (hB2.trans (h.mono hB2.size))
    obtain ⟨e0, e1, e2, -⟩ := node_cellsV (w := w') hcm (hB2.trans (h.mono hB2.size))
    exact ⟨d1, d2, e0, e1, e2⟩
  rw [← hW2]
  clear hW2 c0 c1 HA HB hgt
  have hK := Lib.hid KEEP
  clear KEEP
  have hj : Hid (0 = 0) := rfl
  have hj2 : Hid (0 = 0) := rfl
  have up : ∀ w', Below W2.heap.size W2 w' → Below w.heap.size w w' := fun w' h => hB2.trans (h.mono hB2.size)
  go_region_held3 (fun w' => Below W2.heap.size W2 w' ∧ w'.cell? ⟨b, 1, none⟩ = some (.pointer p1) ∧ w'.cell? ⟨b, 2, none⟩ = some (.string rv) ∧
      w'.cell? ⟨bm, 0, none⟩ = some (.pointer r0) ∧ w'.cell? ⟨bm, 1, none⟩ = some (.pointer r1) ∧ w'.cell? ⟨bm, 2, none⟩ = some (.string mv))
    (first | exact ⟨Below.drew (Below.refl _ _), hK.out _ (Below.drew (Below.refl _ _))⟩ | exact ⟨hBc.out, hK.out _ hBc.out⟩ | exact ⟨hBb.out, hK.out _ hBb.out⟩ | exact ⟨hBa.out, hK.out _ hBa.out⟩ | go_keep)
    (first
      | (have _t := hj; go_at_call 122; (with_reducible refine (join_anyV w _ pl r0 v o m0 ho g0 (up _ (Below.drew (Below.refl _ _))) (by omega) (by omega)).mono ?_); rintro e w1 ⟨q1, T1, rfl, hb1, ht1, hT1⟩; have hBa := Lib.hid ((Below.drew (Below.refl W2.heap.size W2)).trans hb1); clear hj)
      | (have _t := hj2; go_at_call 122; (with_reducible refine (join_anyV w _ r1 p1 rv m1 y g1 h1 (up _ hBa.out) (by omega) (by omega)).mono ?_); rintro e w2 ⟨q2, T2, rfl, hb2, ht2, hT2⟩; have hBb := Lib.hid (hBa.out.trans (Below.mono hb2 hBa.out.size)); clear hj2)
      | (go_at_call 122; (with_reducible refine (join_anyV w2 _ q1 q2 mv T1 T2 (ht1.mono hb2) ht2 (Below.refl _ _) (by rw [BT.size_eq, hT1]; simp [← BT.size_eq]; omega) (by rw [BT.size_eq, hT2]; simp [← BT.size_eq]; omega)).mono ?_); rintro e w3 ⟨q3, T3, rfl, hb3, ht3, hT3⟩; have hBc := Lib.hid (hBb.out.trans (Below.mono hb3 hBb.out.size))))
  go_wp2
  go_ret
  exact ⟨_, T3, rfl, up _ hBc.out, ht3, by rw [hT3, hT1, hT2]; simp [BT.toList]⟩

set_option maxHeartbeats 2000000 in
theorem turnedRightAV (w : World) (pl pr : Option Addr) (v rv : ByteArray) (o x y : BT ByteArray) (ho : TreeV w pr o) (hr : TreeV w pl (.node y rv x)) (hls : o.size ≤ 100000000) (hrs : x.size + y.size ≤ 100000000)
    (hlt : x.size + 1 < 2 * (y.size + 1)) :
    Calls Try.prog 127 #[.pointer pl, .string v, .pointer pr] w (TreeOut encV 153 w ((BT.node y rv x).toList ++ v :: o.toList)) := by
  obtain ⟨b, p0, p1, rfl, hc, h0, h1⟩ := hr
  obtain ⟨c0, c1, -⟩ := node_cellsV (w := w) hc (by go_grown)
  have hb : b < w.heap.size := heap_lt hc
  have hA := fun n => ((weight_anyV w ((w).drewN n) _ x h1 (bdN _ (by go_grown)) (by omega)).mono (R' := fun e w' => e = .returned (.int .i64 (x.size + 1)) ∧ w' = _) (fun _ _ h => ⟨h.1, h.2.symm⟩))
  have hB := fun n => ((weight_anyV w ((w).drewN n) _ y h0 (bdN _ (by go_grown)) (by omega)).mono (R' := fun e w' => e = .returned (.int .i64 (y.size + 1)) ∧ w' = _) (fun _ _ h => ⟨h.1, h.2.symm⟩))
  have HA := Lib.hid hA
  have HB := Lib.hid hB
  clear hA hB
  go_enter Try.func127, Try.ntmps127
  go_wp2_with fail
  go_quiet ((first | (with_reducible exact Calls.quiet_of_same (HA.out _)) | (with_reducible exact Calls.quiet_of_same (HB.out _))))
  go_wp2_with fail
  obtain ⟨W2, hW2⟩ : ∃ W2, W2 = (w).drewN nq := ⟨_, rfl⟩
  have hB2 : Below w.heap.size w W2 := by rw [hW2]; exact bdN _ (by go_grown)
  have KEEP : ∀ w', Below W2.heap.size W2 w' → (w'.cell? ⟨b, 0, none⟩ = some (.pointer p0) ∧ w'.cell? ⟨b, 2, none⟩ = some (.string rv)) := by
    intro w' h
    obtain ⟨d0, d1, d2, -⟩ := node_cellsV (w := w') hc (hB2.trans (h.mono hB2.size))
    exact ⟨d0, d2⟩
  rw [← hW2]
  clear hW2 c0 c1 HA HB
  have hK := Lib.hid KEEP
  clear KEEP
  have hj : Hid (0 = 0) := rfl
  have up : ∀ w', Below W2.heap.size W2 w' → Below w.heap.size w w' := fun w' h => hB2.trans (h.mono hB2.size)
  go_region_held3 (fun w' => Below W2.heap.size W2 w' ∧ w'.cell? ⟨b, 0, none⟩ = some (.pointer p0) ∧ w'.cell? ⟨b, 2, none⟩ = some (.string rv))
    (first | exact ⟨Below.drew (Below.refl _ _), hK.out _ (Below.drew (Below.refl _ _))⟩ | exact ⟨hBb.out, hK.out _ hBb.out⟩ | exact ⟨hBa.out, hK.out _ hBa.out⟩ | go_keep)
    (first
      | (have _t := hj; go_at_call 122; (with_reducible refine (join_anyV w _ p1 pr v x o h1 ho (up _ (Below.drew (Below.refl _ _))) (by omega) (by omega)).mono ?_); rintro e w1 ⟨q1, T1, rfl, hb1, ht1, hT1⟩; have hBa := Lib.hid ((Below.drew (Below.refl W2.heap.size W2)).trans hb1); clear hj)
      | (go_at_call 122; (with_reducible refine (join_anyV w1 _ p0 q1 rv y T1 (h0.mono (up _ hBa.out)) ht1 (Below.refl _ _) (by omega) (by rw [BT.size_eq, hT1]; simp [← BT.size_eq]; omega)).mono ?_); rintro e w2 ⟨q2, T2, rfl, hb2, ht2, hT2⟩; have hBb := Lib.hid (hBa.out.trans (Below.mono hb2 hBa.out.size))))
  go_wp2
  go_ret
  exact ⟨_, T2, rfl, up _ hBb.out, ht2, by rw [hT2, hT1]; simp [BT.toList]⟩

set_option maxHeartbeats 2000000 in
theorem turnedRightBV (w : World) (pl pr : Option Addr) (v rv mv : ByteArray) (o m0 m1 y : BT ByteArray) (ho : TreeV w pr o) (hr : TreeV w pl (.node y rv (.node m0 mv m1))) (hls : o.size ≤ 100000000) (hrs : m0.size + m1.size + y.size ≤ 100000000)
    (hlt : 2 * (y.size + 1) ≤ m0.size + 1 + m1.size + 1) :
    Calls Try.prog 127 #[.pointer pl, .string v, .pointer pr] w (TreeOut encV 153 w ((BT.node y rv (.node m0 mv m1)).toList ++ v :: o.toList)) := by
  obtain ⟨b, p0, p1, rfl, hc, h0, h1⟩ := hr
  have hin := h1
  obtain ⟨bm, r0, r1, rfl, hcm, g0, g1⟩ := hin
  obtain ⟨c0, c1, -⟩ := node_cellsV (w := w) hc (by go_grown)
  have hb : b < w.heap.size := heap_lt hc
  have hbm : bm < w.heap.size := heap_lt hcm
  have hA := fun n => ((weight_anyV w ((w).drewN n) _ _ h1 (bdN _ (by go_grown)) (by simp only [BT.size]; omega)).mono (R' := fun e w' => e = .returned (.int .i64 ((BT.node m0 mv m1).size + 1)) ∧ w' = _) (fun _ _ h => ⟨h.1, h.2.symm⟩))
  have hB := fun n => ((weight_anyV w ((w).drewN n) _ y h0 (bdN _ (by go_grown)) (by omega)).mono (R' := fun e w' => e = .returned (.int .i64 (y.size + 1)) ∧ w' = _) (fun _ _ h => ⟨h.1, h.2.symm⟩))
  have hgt : 2 * ((y.size : Int) + 1) ≤ ((BT.node m0 mv m1).size : Int) + 1 := by simp only [BT.size]; omega
  have hsz : (BT.node m0 mv m1).size ≤ 200000000 := by simp only [BT.size]; omega
  generalize (BT.node m0 mv m1).size = sz at hA hgt hsz
  have HA := Lib.hid hA
  have HB := Lib.hid hB
  clear hA hB
  go_enter Try.func127, Try.ntmps127
  go_wp2_with fail
  go_quiet ((first | (with_reducible exact Calls.quiet_of_same (HA.out _)) | (with_reducible exact Calls.quiet_of_same (HB.out _))))
  go_wp2_with fail
  obtain ⟨W2, hW2⟩ : ∃ W2, W2 = (w).drewN nq := ⟨_, rfl⟩
  have hB2 : Below w.heap.size w W2 := by rw [hW2]; exact bdN _ (by go_grown)
  have KEEP : ∀ w', Below W2.heap.size W2 w' → (w'.cell? ⟨b, 0, none⟩ = some (.pointer p0) ∧ w'.cell? ⟨b, 2, none⟩ = some (.string rv) ∧
      w'.cell? ⟨bm, 0, none⟩ = some (.pointer r0) ∧ w'.cell? ⟨bm, 1, none⟩ = some (.pointer r1) ∧ w'.cell? ⟨bm, 2, none⟩ = some (.string mv)) := by
    intro w' h
    obtain ⟨d0, d1, d2, -⟩ := node_cellsV (w := w') hc (hB2.trans (h.mono hB2.size))
    obtain ⟨e0, e1, e2, -⟩ := node_cellsV (w := w') hcm (hB2.trans (h.mono hB2.size))
    exact ⟨d0, d2, e0, e1, e2⟩
  rw [← hW2]
  clear hW2 c0 c1 HA HB hgt
  have hK := Lib.hid KEEP
  clear KEEP
  have hj : Hid (0 = 0) := rfl
  have hj2 : Hid (0 = 0) := rfl
  have up : ∀ w', Below W2.heap.size W2 w' → Below w.heap.size w w' := fun w' h => hB2.trans (h.mono hB2.size)
  go_region_held3 (fun w' => Below W2.heap.size W2 w' ∧ w'.cell? ⟨b, 0, none⟩ = some (.pointer p0) ∧ w'.cell? ⟨b, 2, none⟩ = some (.string rv) ∧
      w'.cell? ⟨bm, 0, none⟩ = some (.pointer r0) ∧ w'.cell? ⟨bm, 1, none⟩ = some (.pointer r1) ∧ w'.cell? ⟨bm, 2, none⟩ = some (.string mv))
    (first | exact ⟨Below.drew (Below.refl _ _), hK.out _ (Below.drew (Below.refl _ _))⟩ | exact ⟨hBc.out, hK.out _ hBc.out⟩ | exact ⟨hBb.out, hK.out _ hBb.out⟩ | exact ⟨hBa.out, hK.out _ hBa.out⟩ | go_keep)
    (first
      | (have _t := hj; go_at_call 122; (with_reducible refine (join_anyV w _ p0 r0 rv y m0 h0 g0 (up _ (Below.drew (Below.refl _ _))) (by omega) (by omega)).mono ?_); rintro e w1 ⟨q1, T1, rfl, hb1, ht1, hT1⟩; have hBa := Lib.hid ((Below.drew (Below.refl W2.heap.size W2)).trans hb1); clear hj)
      | (have _t := hj2; go_at_call 122; (with_reducible refine (join_anyV w _ r1 pr v m1 o g1 ho (up _ hBa.out) (by omega) (by omega)).mono ?_); rintro e w2 ⟨q2, T2, rfl, hb2, ht2, hT2⟩; have hBb := Lib.hid (hBa.out.trans (Below.mono hb2 hBa.out.size)); clear hj2)
      | (go_at_call 122; (with_reducible refine (join_anyV w2 _ q1 q2 mv T1 T2 (ht1.mono hb2) ht2 (Below.refl _ _) (by rw [BT.size_eq, hT1]; simp [← BT.size_eq]; omega) (by rw [BT.size_eq, hT2]; simp [← BT.size_eq]; omega)).mono ?_); rintro e w3 ⟨q3, T3, rfl, hb3, ht3, hT3⟩; have hBc := Lib.hid (hBb.out.trans (Below.mono hb3 hBb.out.size))))
  go_wp2
  go_ret
  exact ⟨_, T3, rfl, up _ hBc.out, ht3, by rw [hT3, hT1, hT2]; simp [BT.toList]⟩
end Go.Proofs.Ytccphigpobnjmaa
