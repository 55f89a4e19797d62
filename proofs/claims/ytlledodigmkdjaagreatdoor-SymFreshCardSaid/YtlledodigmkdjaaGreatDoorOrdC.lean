/-
  Walks over the search tree of package order at ponder/book.pair[ponder/sym.capital, int]: join, the turns. No condition but a bound on sizes.
-/
import Derived.Test.YtlledodigmkdjaaGreatDoorProg
import Derived.Test.YtlledodigmkdjaaGreatDoorKit
import Derived.WalkKit
import Derived.WalkLawsBesides
import Derived.Handy
import Derived.Lib.Hide
import Derived.StillTailTactics
import Derived.BigQuiet
import Derived.Deep.QuietTactic
import Derived.Deep.RegionHeld3
namespace Go.Proofs.YtlledodigmkdjaaGreatDoor
set_option linter.unusedVariables false
open Go.RowKit

theorem nanK (a : Int) (w : World) : Calls Tryz.prog 139 #[.int .u8 a] w fun e w' => e = .returned (.bool false) ∧ w = w' := by
  go_enter Tryz.func139, Tryz.ntmps139
  go_wp2
  go_ret
  exact ⟨by simp, rfl⟩
theorem cmpK_any (a b : Int) (w : World) : Calls Tryz.prog 138 #[.int .u8 a, .int .u8 b] w fun e w' => e = .returned (.int .i64 (cmpI a b)) ∧ w = w' := by
  go_enter Tryz.func138, Tryz.ntmps138
  go_wp2_with (go_at_call 139; refine (nanK _ _).mono ?_; rintro e w' ⟨rfl, rfl⟩)
  all_goals
    go_ret
    refine ⟨ret_int ?_, rfl⟩
    unfold cmpI
  · rw [if_pos (by assumption)]
  · rw [if_neg (by omega), if_pos (by assumption)]
  · rw [if_neg (by omega), if_neg (by omega)]
theorem cmp_anyK (a b : Int) (w : World) : Calls Tryz.prog 137 #[.int .u8 a, .int .u8 b] w fun e w' => e = .returned (.int .i64 (cmpI a b)) ∧ Below w.heap.size w w' := by
  go_enter Tryz.func137, Tryz.ntmps137
  go_wp2_with (go_at_call 138; refine (cmpK_any _ _ _).mono ?_; rintro e w' ⟨rfl, rfl⟩)
  go_ret
  exact ⟨rfl, by go_grown⟩

structure Pc where
  k : Int
  v : Int
def cmpC (a b : Pc) : Int := cmpI a.k b.k
theorem cmpC_cmp : Cmp cmpC := ⟨fun a b => cmpI_cmp.val _ _, fun a => cmpI_cmp.refl _, fun a b => cmpI_cmp.flip _ _, fun a b d => cmpI_cmp.trans _ _ _⟩
set_option maxHeartbeats 1000000 in
theorem cmp_anyC (a b : Pc) (w : World) : Calls Tryz.prog 145 #[.agg #[.int .u8 a.k, .int .i64 a.v], .agg #[.int .u8 b.k, .int .i64 b.v]] w fun e w' => e = .returned (.int .i64 (cmpC a b)) ∧ Below w.heap.size w w' := by
  have hB : Below w.heap.size w ((w.alloc (.cells #[.int .u8 a.k, .int .i64 a.v] 91)).alloc (.cells #[.int .u8 b.k, .int .i64 b.v] 91)) := by go_grown
  go_enter Tryz.func145, Tryz.ntmps145
  go_wp2_with (go_at_call 137; refine (cmp_anyK a.k b.k _).mono ?_; rintro e w1 ⟨rfl, hb1⟩)
  go_ret
  exact ⟨rfl, hB.trans (hb1.mono hB.size)⟩

abbrev encC (v : Pc) : List Value := [.int .u8 v.k, .int .i64 v.v]
abbrev TreeC := IsTree encC 134
theorem len_anyC (W0 w : World) (p : Option Addr) (T : BT Pc) (h : TreeC W0 p T) (hb : Below W0.heap.size W0 w) : Calls Tryz.prog 109 #[.pointer p] w fun e w' => e = .returned (.int .i64 T.size) ∧ w = w' := by
  cases T with
  | leaf =>
    obtain rfl : p = none := h
    clear hb
    go_enter Tryz.func109, Tryz.ntmps109
    go_wp2
    go_ret
    exact ⟨rfl, rfl⟩
  | node l v r =>
    obtain ⟨b, pl, pr, rfl, hc, -, -⟩ := h
    have h5 := cells_of ((hb.block b (heap_lt hc)).trans hc) 4
    simp at h5
    clear hb hc
    go_enter Tryz.func109, Tryz.ntmps109
    go_wp2
    go_ret
    exact ⟨rfl, rfl⟩
theorem weight_anyC (W0 w : World) (p : Option Addr) (T : BT Pc) (h : TreeC W0 p T) (hb : Below W0.heap.size W0 w) (hs : T.size ≤ 1000000000) : Calls Tryz.prog 110 #[.pointer p] w fun e w' => e = .returned (.int .i64 (T.size + 1)) ∧ w = w' := by
  go_enter Tryz.func110, Tryz.ntmps110
  go_wp2_with (go_at_call 109; refine (len_anyC W0 _ _ T h hb).mono ?_; rintro e w' ⟨rfl, rfl⟩)
  go_ret
  exact ⟨rfl, rfl⟩
theorem join_anyC (W0 w : World) (pl pr : Option Addr) (v : Pc) (l r : BT Pc) (hl : TreeC W0 pl l) (hr : TreeC W0 pr r) (hb : Below W0.heap.size W0 w) (hls : l.size ≤ 1000000000) (hrs : r.size ≤ 1000000000) :
    Calls Tryz.prog 102 #[.pointer pl, .agg #[.int .u8 v.k, .int .i64 v.v], .pointer pr] w (TreeOut encC 134 w (l.toList ++ v :: r.toList)) := by
  replace hl := hl.mono hb
  replace hr := hr.mono hb
  clear hb
  go_enter Tryz.func102, Tryz.ntmps102
  go_wp2
  refine region_tail 10 (by kernel_rfl) (by kernel_rfl) (fun KK hKK => ?_)
  simp only [List.take_succ_cons, List.take_zero]
  have hl1 := (len_anyC w (w.alloc (.cells #[.int .u8 v.k, .int .i64 v.v] 91)).drew pl l hl (by go_grown)).mono (R' := fun e w' => e = .returned (.int .i64 l.size) ∧ w' = _) (fun _ _ h => ⟨h.1, h.2.symm⟩)
  have hr1 := (len_anyC w (w.alloc (.cells #[.int .u8 v.k, .int .i64 v.v] 91)).drew pr r hr (by go_grown)).mono (R' := fun e w' => e = .returned (.int .i64 r.size) ∧ w' = _) (fun _ _ h => ⟨h.1, h.2.symm⟩)
  have Hl := Lib.hid hl1
  have Hr := Lib.hid hr1
  clear hl1 hr1
  repeat (with_reducible refine wpStill_step (fun K hK => ?_); go_simp; (first | (with_reducible refine hK _ ?_) | (refine ⟨_, Hl.out, hK _ ?_⟩; clear Hl) | (refine ⟨_, Hr.out, hK _ ?_⟩)); clear hK K)
  refine wpStill_nil (hKK _ _ ?_)
  clear hKK KK
  simp only [List.drop_succ_cons, List.drop_zero]
  go_wp2
  go_ret
  refine ⟨_, .node l v r, rfl, ?_, ⟨_, _, _, rfl, ?_, hl.mono ?_, hr.mono ?_⟩, rfl⟩
  · go_grown
  · exact new_at_drew (by simp)
  · go_grown
  · go_grown
theorem node_cellsC {W0 w : World} {b : Nat} {pl pr : Option Addr} {v : Pc} {n : Nat} (hc : W0.heap[b]? = some (.cells ([Value.pointer pl, Value.pointer pr] ++ encC v ++ [Value.int .i64 n]).toArray 134 (0, 0))) (hb : Below W0.heap.size W0 w) :
    w.cell? ⟨b, 0, none⟩ = some (.pointer pl) ∧ w.cell? ⟨b, 1, none⟩ = some (.pointer pr) ∧ w.cell? ⟨b, 2, none⟩ = some (.int .u8 v.k) ∧ w.cell? ⟨b, 3, none⟩ = some (.int .i64 v.v) ∧ w.cell? ⟨b, 4, none⟩ = some (.int .i64 n) := by
  have h := (hb.block b (heap_lt hc)).trans hc
  refine ⟨?_, ?_, ?_, ?_, ?_⟩ <;> simp [cells_of h]

set_option maxHeartbeats 2000000 in
theorem turnedLeftAC (w : World) (pl pr : Option Addr) (v rv : Pc) (o x y : BT Pc) (ho : TreeC w pl o) (hr : TreeC w pr (.node x rv y)) (hls : o.size ≤ 100000000) (hrs : x.size + y.size ≤ 100000000)
    (hlt : x.size + 1 < 2 * (y.size + 1)) :
    Calls Tryz.prog 111 #[.pointer pl, .agg #[.int .u8 v.k, .int .i64 v.v], .pointer pr] w (TreeOut encC 134 w (o.toList ++ v :: (BT.node x rv y).toList)) := by
  obtain ⟨b, p0, p1, rfl, hc, h0, h1⟩ := hr
  obtain ⟨c0, c1, -⟩ := node_cellsC (w := w.alloc (.cells #[.int .u8 v.k, .int .i64 v.v] 91)) hc (by go_grown)
  have hb : b < w.heap.size := heap_lt hc
  have hA := fun n => ((weight_anyC w ((w.alloc (.cells #[.int .u8 v.k, .int .i64 v.v] 91)).drewN n) _ x h0 (bdN _ (by go_grown)) (by omega)).mono (R' := fun e w' => e = .returned (.int .i64 (x.size + 1)) ∧ w' = _) (fun _ _ h => ⟨h.1, h.2.symm⟩))
  have hB := fun n => ((weight_anyC w ((w.alloc (.cells #[.int .u8 v.k, .int .i64 v.v] 91)).drewN n) _ y h1 (bdN _ (by go_grown)) (by omega)).mono (R' := fun e w' => e = .returned (.int .i64 (y.size + 1)) ∧ w' = _) (fun _ _ h => ⟨h.1, h.2.symm⟩))
  have HA := Lib.hid hA
  have HB := Lib.hid hB
  clear hA hB
  go_enter Tryz.func111, Tryz.ntmps111
  go_wp2_with fail
  go_quiet ((first | (with_reducible exact Calls.quiet_of_same (HA.out _)) | (with_reducible exact Calls.quiet_of_same (HB.out _))))
  go_wp2_with fail
  obtain ⟨W2, hW2⟩ : ∃ W2, W2 = (w.alloc (.cells #[.int .u8 v.k, .int .i64 v.v] 91)).drewN nq := ⟨_, rfl⟩
  have hB2 : Below w.heap.size w W2 := by rw [hW2]; exact bdN _ (by go_grown)
  have hz : W2.heap.size = w.heap.size + 1 := by rw [hW2]; simp [World.drewN]
  have hx := cells_of (W := W2) (b := w.heap.size) (c := #[.int .u8 v.k, .int .i64 v.v]) (t := 91) (f := (0, 0)) (by rw [hW2]; exact new_at rfl)
  have KEEP : ∀ w', Below W2.heap.size W2 w' → (w'.cell? ⟨w.heap.size, 0, none⟩ = some (.int .u8 v.k) ∧ w'.cell? ⟨w.heap.size, 1, none⟩ = some (.int .i64 v.v) ∧ w'.cell? ⟨b, 1, none⟩ = some (.pointer p1) ∧ w'.cell? ⟨b, 2, none⟩ = some (.int .u8 rv.k) ∧ w'.cell? ⟨b, 3, none⟩ = some (.int .i64 rv.v)) := by
    intro w' h
    obtain ⟨d0, d1, d2, d3, -⟩ := node_cellsC (w := w') hc (hB2.trans (h.mono hB2.size))
    exact ⟨(h.cell (p := ⟨w.heap.size, 0, none⟩) (by rw [hz]; simp)).trans (by simp [hx]), (h.cell (p := ⟨w.heap.size, 1, none⟩) (by rw [hz]; simp)).trans (by simp [hx]), d1, d2, d3⟩
  rw [← hW2]
  clear hW2 c0 c1 HA HB hx hz
  have hK := Lib.hid KEEP
  clear KEEP
  have hj : Hid (0 = 0) := rfl
  have up : ∀ w', Below W2.heap.size W2 w' → Below w.heap.size w w' := fun w' h => hB2.trans (h.mono hB2.size)
  go_region_held3 (fun w' => Below W2.heap.size W2 w' ∧ w'.cell? ⟨w.heap.size, 0, none⟩ = some (.int .u8 v.k) ∧ w'.cell? ⟨w.heap.size, 1, none⟩ = some (.int .i64 v.v) ∧ w'.cell? ⟨b, 1, none⟩ = some (.pointer p1) ∧ w'.cell? ⟨b, 2, none⟩ = some (.int .u8 rv.k) ∧ w'.cell? ⟨b, 3, none⟩ = some (.int .i64 rv.v))
    (first | exact ⟨Below.drew (Below.refl _ _), hK.out _ (Below.drew (Below.refl _ _))⟩ | exact ⟨hBb.out, hK.out _ hBb.out⟩ | exact ⟨hBa.out, hK.out _ hBa.out⟩ | go_keep)
    (first
      | (have _t := hj; go_at_call 102; (with_reducible refine (join_anyC w _ pl p0 v o x ho h0 (up _ (Below.drew (Below.refl _ _))) (by omega) (by omega)).mono ?_); rintro e w1 ⟨q1, T1, rfl, hb1, ht1, hT1⟩; have hBa := Lib.hid ((Below.drew (Below.refl W2.heap.size W2)).trans hb1); clear hj)
      | (go_at_call 102; (with_reducible refine (join_anyC w1 _ q1 p1 rv T1 y ht1 (h1.mono (up _ hBa.out)) (Below.refl _ _) (by rw [BT.size_eq, hT1]; simp [← BT.size_eq]; omega) (by omega)).mono ?_); rintro e w2 ⟨q2, T2, rfl, hb2, ht2, hT2⟩; have hBb := Lib.hid (hBa.out.trans (Below.mono hb2 hBa.out.size))))
  go_wp2
  go_ret
  exact ⟨_, T2, rfl, up _ hBb.out, ht2, by rw [hT2, hT1]; simp [BT.toList]⟩

set_option maxHeartbeats 2000000 in
theorem turnedLeftBC (w : World) (pl pr : Option Addr) (v rv mv : Pc) (o m0 m1 y : BT Pc) (ho : TreeC w pl o) (hr : TreeC w pr (.node (.node m0 mv m1) rv y)) (hls : o.size ≤ 100000000) (hrs : m0.size + m1.size + y.size ≤ 100000000)
    (hlt : 2 * (y.size + 1) ≤ m0.size + 1 + m1.size + 1) :
    Calls Tryz.prog 111 #[.pointer pl, .agg #[.int .u8 v.k, .int .i64 v.v], .pointer pr] w (TreeOut encC 134 w (o.toList ++ v :: (BT.node (.node m0 mv m1) rv y).toList)) := by
  obtain ⟨b, p0, p1, rfl, hc, h0, h1⟩ := hr
  have hin := h0
  obtain ⟨bm, r0, r1, rfl, hcm, g0, g1⟩ := hin
  obtain ⟨c0, c1, -⟩ := node_cellsC (w := w.alloc (.cells #[.int .u8 v.k, .int .i64 v.v] 91)) hc (by go_grown)
  have hb : b < w.heap.size := heap_lt hc
  have hbm : bm < w.heap.size := heap_lt hcm
  have hA := fun n => ((weight_anyC w ((w.alloc (.cells #[.int .u8 v.k, .int .i64 v.v] 91)).drewN n) _ _ h0 (bdN _ (by go_grown)) (by simp only [BT.size]; omega)).mono (R' := fun e w' => e = .returned (.int .i64 ((BT.node m0 mv m1).size + 1)) ∧ w' = _) (fun _ _ h => ⟨h.1, h.2.symm⟩))
  have hB := fun n => ((weight_anyC w ((w.alloc (.cells #[.int .u8 v.k, .int .i64 v.v] 91)).drewN n) _ y h1 (bdN _ (by go_grown)) (by omega)).mono (R' := fun e w' => e = .returned (.int .i64 (y.size + 1)) ∧ w' = _) (fun _ _ h => ⟨h.1, h.2.symm⟩))
  have hgt : 2 * ((y.size : Int) + 1) ≤ ((BT.node m0 mv m1).size : Int) + 1 := by simp only [BT.size]; omega
  have hsz : (BT.node m0 mv m1).size ≤ 200000000 := by simp only [BT.size]; omega
  generalize (BT.node m0 mv m1).size = sz at hA hgt hsz
  have HA := Lib.hid hA
  have HB := Lib.hid hB
  clear hA hB
  go_enter Tryz.func111, Tryz.ntmps111
  go_wp2_with fail
  go_quiet ((first | (with_reducible exact Calls.quiet_of_same (HA.out _)) | (with_reducible exact Calls.quiet_of_same (HB.out _))))
  go_wp2_with fail
  obtain ⟨W2, hW2⟩ : ∃ W2, W2 = (w.alloc (.cells #[.int .u8 v.k, .int .i64 v.v] 91)).drewN nq := ⟨_, rfl⟩
  have hB2 : Below w.heap.size w W2 := by rw [hW2]; exact bdN _ (by go_grown)
  have hz : W2.heap.size = w.heap.size + 1 := by rw [hW2]; simp [World.drewN]
  have hx := cells_of (W := W2) (b := w.heap.size) (c := #[.int .u8 v.k, .int .i64 v.v]) (t := 91) (f := (0, 0)) (by rw [hW2]; exact new_at rfl)
  have KEEP : ∀ w', Below W2.heap.size W2 w' → (w'.cell? ⟨w.heap.size, 0, none⟩ = some (.int .u8 v.k) ∧ w'.cell? ⟨w.heap.size, 1, none⟩ = some (.int .i64 v.v) ∧ w'.cell? ⟨b, 1, none⟩ = some (.pointer p1) ∧ w'.cell? ⟨b, 2, none⟩ = some (.int .u8 rv.k) ∧ w'.cell? ⟨b, 3, none⟩ = some (.int .i64 rv.v) ∧
      w'.cell? ⟨bm, 0, none⟩ = some (.pointer r0) ∧ w'.cell? ⟨bm, 1, none⟩ = some (.pointer r1) ∧ w'.cell? ⟨bm, 2, none⟩ = some (.int .u8 mv.k) ∧ w'.cell? ⟨bm, 3, none⟩ = some (.int .i64 mv.v)) := by
    intro w' h
    obtain ⟨d0, d1, d2, d3, -⟩ := node_cellsC (w := w') hc (hB2.trans (h.mono hB2.size))
    obtain ⟨e0, e1, e2, e3, -⟩ := node_cellsC (w := w') hcm (hB2.trans (h.mono hB2.size))
    exact ⟨(h.cell (p := ⟨w.heap.size, 0, none⟩) (by rw [hz]; simp)).trans (by simp [hx]), (h.cell (p := ⟨w.heap.size, 1, none⟩) (by rw [hz]; simp)).trans (by simp [hx]), d1, d2, d3, e0, e1, e2, e3⟩
  rw [← hW2]
  clear hW2 c0 c1 HA HB hgt hx hz
  have hK := Lib.hid KEEP
  clear KEEP
  have hj : Hid (0 = 0) := rfl
  have hj2 : Hid (0 = 0) := rfl
  have up : ∀ w', Below W2.heap.size W2 w' → Below w.heap.size w w' := fun w' h => hB2.trans (h.mono hB2.size)
  go_region_held3 (fun w' => Below W2.heap.size W2 w' ∧ w'.cell? ⟨w.heap.size, 0, none⟩ = some (.int .u8 v.k) ∧ w'.cell? ⟨w.heap.size, 1, none⟩ = some (.int .i64 v.v) ∧ w'.cell? ⟨b, 1, none⟩ = some (.pointer p1) ∧ w'.cell? ⟨b, 2, none⟩ = some (.int .u8 rv.k) ∧ w'.cell? ⟨b, 3, none⟩ = some (.int .i64 rv.v) ∧
      w'.cell? ⟨bm, 0, none⟩ = some (.pointer r0) ∧ w'.cell? ⟨bm, 1, none⟩ = some (.pointer r1) ∧ w'.cell? ⟨bm, 2, none⟩ = some (.int .u8 mv.k) ∧ w'.cell? ⟨bm, 3, none⟩ = some (.int .i64 mv.v))
    (first | exact ⟨Below.drew (Below.refl _ _), hK.out _ (Below.drew (Below.refl _ _))⟩ | exact ⟨hBc.out, hK.out _ hBc.out⟩ | exact ⟨hBb.out, hK.out _ hBb.out⟩ | exact ⟨hBa.out, hK.out _ hBa.out⟩ | go_keep)
    (first
      | (have _t := hj; go_at_call 102; (with_reducible refine (join_anyC w _ pl r0 v o m0 ho g0 (up _ (Below.drew (Below.refl _ _))) (by omega) (by omega)).mono ?_); rintro e w1 ⟨q1, T1, rfl, hb1, ht1, hT1⟩; have hBa := Lib.hid ((Below.drew (Below.refl W2.heap.size W2)).trans hb1); clear hj)
      | (have _t := hj2; go_at_call 102; (with_reducible refine (join_anyC w _ r1 p1 rv m1 y g1 h1 (up _ hBa.out) (by omega) (by omega)).mono ?_); rintro e w2 ⟨q2, T2, rfl, hb2, ht2, hT2⟩; have hBb := Lib.hid (hBa.out.trans (Below.mono hb2 hBa.out.size)); clear hj2)
      | (go_at_call 102; (with_reducible refine (join_anyC w2 _ q1 q2 mv T1 T2 (ht1.mono hb2) ht2 (Below.refl _ _) (by rw [BT.size_eq, hT1]; simp [← BT.size_eq]; omega) (by rw [BT.size_eq, hT2]; simp [← BT.size_eq]; omega)).mono ?_); rintro e w3 ⟨q3, T3, rfl, hb3, ht3, hT3⟩; have hBc := Lib.hid (hBb.out.trans (Below.mono hb3 hBb.out.size))))
  go_wp2
  go_ret
  exact ⟨_, T3, rfl, up _ hBc.out, ht3, by rw [hT3, hT1, hT2]; simp [BT.toList]⟩

set_option maxHeartbeats 2000000 in
theorem turnedRightAC (w : World) (pl pr : Option Addr) (v rv : Pc) (o x y : BT Pc) (ho : TreeC w pr o) (hr : TreeC w pl (.node y rv x)) (hls : o.size ≤ 100000000) (hrs : x.size + y.size ≤ 100000000)
    (hlt : x.size + 1 < 2 * (y.size + 1)) :
    Calls Tryz.prog 112 #[.pointer pl, .agg #[.int .u8 v.k, .int .i64 v.v], .pointer pr] w (TreeOut encC 134 w ((BT.node y rv x).toList ++ v :: o.toList)) := by
  obtain ⟨b, p0, p1, rfl, hc, h0, h1⟩ := hr
  obtain ⟨c0, c1, -⟩ := node_cellsC (w := w.alloc (.cells #[.int .u8 v.k, .int .i64 v.v] 91)) hc (by go_grown)
  have hb : b < w.heap.size := heap_lt hc
  have hA := fun n => ((weight_anyC w ((w.alloc (.cells #[.int .u8 v.k, .int .i64 v.v] 91)).drewN n) _ x h1 (bdN _ (by go_grown)) (by omega)).mono (R' := fun e w' => e = .returned (.int .i64 (x.size + 1)) ∧ w' = _) (fun _ _ h => ⟨h.1, h.2.symm⟩))
  have hB := fun n => ((weight_anyC w ((w.alloc (.cells #[.int .u8 v.k, .int .i64 v.v] 91)).drewN n) _ y h0 (bdN _ (by go_grown)) (by omega)).mono (R' := fun e w' => e = .returned (.int .i64 (y.size + 1)) ∧ w' = _) (fun _ _ h => ⟨h.1, h.2.symm⟩))
  have HA := Lib.hid hA
  have HB := Lib.hid hB
  clear hA hB
  go_enter Tryz.func112, Tryz.ntmps112
  go_wp2_with fail
  go_quiet ((first | (with_reducible exact Calls.quiet_of_same (HA.out _)) | (with_reducible exact Calls.quiet_of_same (HB.out _))))
  go_wp2_with fail
  obtain ⟨W2, hW2⟩ : ∃ W2, W2 = (w.alloc (.cells #[.int .u8 v.k, .int .i64 v.v] 91)).drewN nq := ⟨_, rfl⟩
  have hB2 : Below w.heap.size w W2 := by rw [hW2]; exact bdN _ (by go_grown)
  have hz : W2.heap.size = w.heap.size + 1 := by rw [hW2]; simp [World.drewN]
  have hx := cells_of (W := W2) (b := w.heap.size) (c := #[.int .u8 v.k, .int .i64 v.v]) (t := 91) (f := (0, 0)) (by rw [hW2]; exact new_at rfl)
  have KEEP : ∀ w', Below W2.heap.size W2 w' → (w'.cell? ⟨w.heap.size, 0, none⟩ = some (.int .u8 v.k) ∧ w'.cell? ⟨w.heap.size, 1, none⟩ = some (.int .i64 v.v) ∧ w'.cell? ⟨b, 0, none⟩ = some (.pointer p0) ∧ w'.cell? ⟨b, 2, none⟩ = some (.int .u8 rv.k) ∧ w'.cell? ⟨b, 3, none⟩ = some (.int .i64 rv.v)) := by
    intro w' h
    obtain ⟨d0, d1, d2, d3, -⟩ := node_cellsC (w := w') hc (hB2.trans (h.mono hB2.size))
    exact ⟨(h.cell (p := ⟨w.heap.size, 0, none⟩) (by rw [hz]; simp)).trans (by simp [hx]), (h.cell (p := ⟨w.heap.size, 1, none⟩) (by rw [hz]; simp)).trans (by simp [hx]), d0, d2, d3⟩
  rw [← hW2]
  clear hW2 c0 c1 HA HB hx hz
  have hK := Lib.hid KEEP
  clear KEEP
  have hj : Hid (0 = 0) := rfl
  have up : ∀ w', Below W2.heap.size W2 w' → Below w.heap.size w w' := fun w' h => hB2.trans (h.mono hB2.size)
  go_region_held3 (fun w' => Below W2.heap.size W2 w' ∧ w'.cell? ⟨w.heap.size, 0, none⟩ = some (.int .u8 v.k) ∧ w'.cell? ⟨w.heap.size, 1, none⟩ = some (.int .i64 v.v) ∧ w'.cell? ⟨b, 0, none⟩ = some (.pointer p0) ∧ w'.cell? ⟨b, 2, none⟩ = some (.int .u8 rv.k) ∧ w'.cell? ⟨b, 3, none⟩ = some (.int .i64 rv.v))
    (first | exact ⟨Below.drew (Below.refl _ _), hK.out _ (Below.drew (Below.refl _ _))⟩ | exact ⟨hBb.out, hK.out _ hBb.out⟩ | exact ⟨hBa.out, hK.out _ hBa.out⟩ | go_keep)
    (first
      | (have _t := hj; go_at_call 102; (with_reducible refine (join_anyC w _ p1 pr v x o h1 ho (up _ (Below.drew (Below.refl _ _))) (by omega) (by omega)).mono ?_); rintro e w1 ⟨q1, T1, rfl, hb1, ht1, hT1⟩; have hBa := Lib.hid ((Below.drew (Below.refl W2.heap.size W2)).trans hb1); clear hj)
      | (go_at_call 102; (with_reducible refine (join_anyC w1 _ p0 q1 rv y T1 (h0.mono (up _ hBa.out)) ht1 (Below.refl _ _) (by omega) (by rw [BT.size_eq, hT1]; simp [← BT.size_eq]; omega)).mono ?_); rintro e w2 ⟨q2, T2, rfl, hb2, ht2, hT2⟩; have hBb := Lib.hid (hBa.out.trans (Below.mono hb2 hBa.out.size))))
  go_wp2
  go_ret
  exact ⟨_, T2, rfl, up _ hBb.out, ht2, by rw [hT2, hT1]; simp [BT.toList]⟩

set_option maxHeartbeats 2000000 in
theorem turnedRightBC (w : World) (pl pr : Option Addr) (v rv mv : Pc) (o m0 m1 y : BT Pc) (ho : TreeC w pr o) (hr : TreeC w pl (.node y rv (.node m0 mv m1))) (hls : o.size ≤ 100000000) (hrs : m0.size + m1.size + y.size ≤ 100000000)
    (hlt : 2 * (y.size + 1) ≤ m0.size + 1 + m1.size + 1) :
    Calls Tryz.prog 112 #[.pointer pl, .agg #[.int .u8 v.k, .int .i64 v.v], .pointer pr] w (TreeOut encC 134 w ((BT.node y rv (.node m0 mv m1)).toList ++ v :: o.toList)) := by
  obtain ⟨b, p0, p1, rfl, hc, h0, h1⟩ := hr
  have hin := h1
  obtain ⟨bm, r0, r1, rfl, hcm, g0, g1⟩ := hin
  obtain ⟨c0, c1, -⟩ := node_cellsC (w := w.alloc (.cells #[.int .u8 v.k, .int .i64 v.v] 91)) hc (by go_grown)
  have hb : b < w.heap.size := heap_lt hc
  have hbm : bm < w.heap.size := heap_lt hcm
  have hA := fun n => ((weight_anyC w ((w.alloc (.cells #[.int .u8 v.k, .int .i64 v.v] 91)).drewN n) _ _ h1 (bdN _ (by go_grown)) (by simp only [BT.size]; omega)).mono (R' := fun e w' => e = .returned (.int .i64 ((BT.node m0 mv m1).size + 1)) ∧ w' = _) (fun _ _ h => ⟨h.1, h.2.symm⟩))
  have hB := fun n => ((weight_anyC w ((w.alloc (.cells #[.int .u8 v.k, .int .i64 v.v] 91)).drewN n) _ y h0 (bdN _ (by go_grown)) (by omega)).mono (R' := fun e w' => e = .returned (.int .i64 (y.size + 1)) ∧ w' = _) (fun _ _ h => ⟨h.1, h.2.symm⟩))
  have hgt : 2 * ((y.size : Int) + 1) ≤ ((BT.node m0 mv m1).size : Int) + 1 := by simp only [BT.size]; omega
  have hsz : (BT.node m0 mv m1).size ≤ 200000000 := by simp only [BT.size]; omega
  generalize (BT.node m0 mv m1).size = sz at hA hgt hsz
  have HA := Lib.hid hA
  have HB := Lib.hid hB
  clear hA hB
  go_enter Tryz.func112, Tryz.ntmps112
  go_wp2_with fail
  go_quiet ((first | (with_reducible exact Calls.quiet_of_same (HA.out _)) | (with_reducible exact Calls.quiet_of_same (HB.out _))))
  go_wp2_with fail
  obtain ⟨W2, hW2⟩ : ∃ W2, W2 = (w.alloc (.cells #[.int .u8 v.k, .int .i64 v.v] 91)).drewN nq := ⟨_, rfl⟩
  have hB2 : Below w.heap.size w W2 := by rw [hW2]; exact bdN _ (by go_grown)
  have hz : W2.heap.size = w.heap.size + 1 := by rw [hW2]; simp [World.drewN]
  have hx := cells_of (W := W2) (b := w.heap.size) (c := #[.int .u8 v.k, .int .i64 v.v]) (t := 91) (f := (0, 0)) (by rw [hW2]; exact new_at rfl)
  have KEEP : ∀ w', Below W2.heap.size W2 w' → (w'.cell? ⟨w.heap.size, 0, none⟩ = some (.int .u8 v.k) ∧ w'.cell? ⟨w.heap.size, 1, none⟩ = some (.int .i64 v.v) ∧ w'.cell? ⟨b, 0, none⟩ = some (.pointer p0) ∧ w'.cell? ⟨b, 2, none⟩ = some (.int .u8 rv.k) ∧ w'.cell? ⟨b, 3, none⟩ = some (.int .i64 rv.v) ∧
      w'.cell? ⟨bm, 0, none⟩ = some (.pointer r0) ∧ w'.cell? ⟨bm, 1, none⟩ = some (.pointer r1) ∧ w'.cell? ⟨bm, 2, none⟩ = some (.int .u8 mv.k) ∧ w'.cell? ⟨bm, 3, none⟩ = some (.int .i64 mv.v)) := by
    intro w' h
    obtain ⟨d0, d1, d2, d3, -⟩ := node_cellsC (w := w') hc (hB2.trans (h.mono hB2.size))
    obtain ⟨e0, e1, e2, e3, -⟩ := node_cellsC (w := w') hcm (hB2.trans (h.mono hB2.size))
    exact ⟨(h.cell (p := ⟨w.heap.size, 0, none⟩) (by rw [hz]; simp)).trans (by simp [hx]), (h.cell (p := ⟨w.heap.size, 1, none⟩) (by rw [hz]; simp)).trans (by simp [hx]), d0, d2, d3, e0, e1, e2, e3⟩
  rw [← hW2]
  clear hW2 c0 c1 HA HB hgt hx hz
  have hK := Lib.hid KEEP
  clear KEEP
  have hj : Hid (0 = 0) := rfl
  have hj2 : Hid (0 = 0) := rfl
  have up : ∀ w', Below W2.heap.size W2 w' → Below w.heap.size w w' := fun w' h => hB2.trans (h.mono hB2.size)
  go_region_held3 (fun w' => Below W2.heap.size W2 w' ∧ w'.cell? ⟨w.heap.size, 0, none⟩ = some (.int .u8 v.k) ∧ w'.cell? ⟨w.heap.size, 1, none⟩ = some (.int .i64 v.v) ∧ w'.cell? ⟨b, 0, none⟩ = some (.pointer p0) ∧ w'.cell? ⟨b, 2, none⟩ = some (.int .u8 rv.k) ∧ w'.cell? ⟨b, 3, none⟩ = some (.int .i64 rv.v) ∧
      w'.cell? ⟨bm, 0, none⟩ = some (.pointer r0) ∧ w'.cell? ⟨bm, 1, none⟩ = some (.pointer r1) ∧ w'.cell? ⟨bm, 2, none⟩ = some (.int .u8 mv.k) ∧ w'.cell? ⟨bm, 3, none⟩ = some (.int .i64 mv.v))
    (first | exact ⟨Below.drew (Below.refl _ _), hK.out _ (Below.drew (Below.refl _ _))⟩ | exact ⟨hBc.out, hK.out _ hBc.out⟩ | exact ⟨hBb.out, hK.out _ hBb.out⟩ | exact ⟨hBa.out, hK.out _ hBa.out⟩ | go_keep)
    (first
      | (have _t := hj; go_at_call 102; (with_reducible refine (join_anyC w _ p0 r0 rv y m0 h0 g0 (up _ (Below.drew (Below.refl _ _))) (by omega) (by omega)).mono ?_); rintro e w1 ⟨q1, T1, rfl, hb1, ht1, hT1⟩; have hBa := Lib.hid ((Below.drew (Below.refl W2.heap.size W2)).trans hb1); clear hj)
      | (have _t := hj2; go_at_call 102; (with_reducible refine (join_anyC w _ r1 pr v m1 o g1 ho (up _ hBa.out) (by omega) (by omega)).mono ?_); rintro e w2 ⟨q2, T2, rfl, hb2, ht2, hT2⟩; have hBb := Lib.hid (hBa.out.trans (Below.mono hb2 hBa.out.size)); clear hj2)
      | (go_at_call 102; (with_reducible refine (join_anyC w2 _ q1 q2 mv T1 T2 (ht1.mono hb2) ht2 (Below.refl _ _) (by rw [BT.size_eq, hT1]; simp [← BT.size_eq]; omega) (by rw [BT.size_eq, hT2]; simp [← BT.size_eq]; omega)).mono ?_); rintro e w3 ⟨q3, T3, rfl, hb3, ht3, hT3⟩; have hBc := Lib.hid (hBb.out.trans (Below.mono hb3 hBb.out.size))))
  go_wp2
  go_ret
  exact ⟨_, T3, rfl, up _ hBc.out, ht3, by rw [hT3, hT1, hT2]; simp [BT.toList]⟩
end Go.Proofs.YtlledodigmkdjaaGreatDoor
