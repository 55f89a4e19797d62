/-
  Walks over the search tree of package order at ponder/book.pair[ponder/api.Sym, int]: join, the turns. No condition but a bound on sizes.
-/
import Derived.Test.YthgidldcblchmaaProg
import Derived.Test.YthgidldcblchmaaKit
import Derived.Test.YthgidldcblchmaaOrdS
import Derived.WalkKit
import Derived.WalkLawsBesides
import Derived.Handy
import Derived.Lib.Hide
import Derived.StillTailTactics
import Derived.BigQuiet
import Derived.Deep.QuietTactic
import Derived.Deep.RegionHeld3
namespace Go.Proofs.Ythgidldcblchmaa
set_option linter.unusedVariables false
open Go.RowKit

structure Pr where
  k : Sy
  v : Int
def cmpP (a b : Pr) : Int := cmpY a.k b.k
theorem cmpP_cmp : Cmp cmpP := ⟨fun a b => cmpY_cmp.val _ _, fun a => cmpY_cmp.refl _, fun a b => cmpY_cmp.flip _ _, fun a b d => cmpY_cmp.trans _ _ _⟩
set_option maxHeartbeats 1000000 in
theorem cmp_anyP (a b : Pr) (w : World) : Calls Try.prog 171 #[.agg #[.int .i64 a.k.k, .string a.k.t, .int .i64 a.k.n, .int .i64 a.v], .agg #[.int .i64 b.k.k, .string b.k.t, .int .i64 b.k.n, .int .i64 b.v]] w fun e w' => e = .returned (.int .i64 (cmpP a b)) ∧ Below w.heap.size w w' := by
  have hB : Below w.heap.size w ((w.alloc (.cells #[.int .i64 a.k.k, .string a.k.t, .int .i64 a.k.n, .int .i64 a.v] 100)).alloc (.cells #[.int .i64 b.k.k, .string b.k.t, .int .i64 b.k.n, .int .i64 b.v] 100)) := by go_grown
  go_enter Try.func171, Try.ntmps171
  go_wp2_with (go_at_call 150; refine (cmp_anyS a.k b.k _).mono ?_; rintro e w1 ⟨rfl, hb1⟩)
  go_ret
  exact ⟨rfl, hB.trans (hb1.mono hB.size)⟩

abbrev encP (v : Pr) : List Value := [.int .i64 v.k.k, .string v.k.t, .int .i64 v.k.n, .int .i64 v.v]
abbrev TreeP := IsTree encP 162
theorem len_anyP (W0 w : World) (p : Option Addr) (T : BT Pr) (h : TreeP W0 p T) (hb : Below W0.heap.size W0 w) : Calls Try.prog 90 #[.pointer p] w fun e w' => e = .returned (.int .i64 T.size) ∧ w = w' := by
  cases T with
  | leaf =>
    obtain rfl : p = none := h
    clear hb
    go_enter Try.func90, Try.ntmps90
    go_wp2
    go_ret
    exact ⟨rfl, rfl⟩
  | node l v r =>
    obtain ⟨b, pl, pr, rfl, hc, -, -⟩ := h
    have h5 := cells_of ((hb.block b (heap_lt hc)).trans hc) 6
    simp at h5
    clear hb hc
    go_enter Try.func90, Try.ntmps90
    go_wp2
    go_ret
    exact ⟨rfl, rfl⟩
theorem weight_anyP (W0 w : World) (p : Option Addr) (T : BT Pr) (h : TreeP W0 p T) (hb : Below W0.heap.size W0 w) (hs : T.size ≤ 1000000000) : Calls Try.prog 118 #[.pointer p] w fun e w' => e = .returned (.int .i64 (T.size + 1)) ∧ w = w' := by
  go_enter Try.func118, Try.ntmps118
  go_wp2_with (go_at_call 90; refine (len_anyP W0 _ _ T h hb).mono ?_; rintro e w' ⟨rfl, rfl⟩)
  go_ret
  exact ⟨rfl, rfl⟩
theorem join_anyP (W0 w : World) (pl pr : Option Addr) (v : Pr) (l r : BT Pr) (hl : TreeP W0 pl l) (hr : TreeP W0 pr r) (hb : Below W0.heap.size W0 w) (hls : l.size ≤ 1000000000) (hrs : r.size ≤ 1000000000) :
    Calls Try.prog 104 #[.pointer pl, .agg #[.int .i64 v.k.k, .string v.k.t, .int .i64 v.k.n, .int .i64 v.v], .pointer pr] w (TreeOut encP 162 w (l.toList ++ v :: r.toList)) := by
  replace hl := hl.mono hb
  replace hr := hr.mono hb
  clear hb
  go_enter Try.func104, Try.ntmps104
  go_wp2
  refine region_tail 10 (by kernel_rfl) (by kernel_rfl) (fun KK hKK => ?_)
  simp only [List.take_succ_cons, List.take_zero]
  have hl1 := (len_anyP w (w.alloc (.cells #[.int .i64 v.k.k, .string v.k.t, .int .i64 v.k.n, .int .i64 v.v] 100)).drew pl l hl (by go_grown)).mono (R' := fun e w' => e = .returned (.int .i64 l.size) ∧ w' = _) (fun _ _ h => ⟨h.1, h.2.symm⟩)
  have hr1 := (len_anyP w (w.alloc (.cells #[.int .i64 v.k.k, .string v.k.t, .int .i64 v.k.n, .int .i64 v.v] 100)).drew pr r hr (by go_grown)).mono (R' := fun e w' => e = .returned (.int .i64 r.size) ∧ w' = _) (fun _ _ h => ⟨h.1, h.2.symm⟩)
  have Hl := Lib.hid hl1
  have Hr := Lib.hid hr1
  clear hl1 hr1
  repeat (with_reducible refine wpStill_step (fun K hK => ?_); go_simp; (first | (with_reducible refine hK _ ?_) | (refine ⟨_, Hl.out, hK _ ?_⟩; clear Hl) | (refine ⟨_, Hr.out, hK _ ?_⟩)); clear hK K)
  refine wpStill_nil (hKK _ _ ?_)
  clear hKK KK
  simp only [List.drop_succ_cons, List.drop_zero]
  go_wp2
  go_ret
  refine ⟨_, .node l v r, rfl, ?_, ⟨_, _, _, rfl, ?_, hl.mono ?_, hr.mono ?_⟩, rfl⟩
  · go_grown
  · exact new_at_drew (by simp)
  · go_grown
  · go_grown
theorem node_cellsP {W0 w : World} {b : Nat} {pl pr : Option Addr} {v : Pr} {n : Nat} (hc : W0.heap[b]? = some (.cells ([Value.pointer pl, Value.pointer pr] ++ encP v ++ [Value.int .i64 n]).toArray 162 (0, 0))) (hb : Below W0.heap.size W0 w) :
    w.cell? ⟨b, 0, none⟩ = some (.pointer pl) ∧ w.cell? ⟨b, 1, none⟩ = some (.pointer pr) ∧ w.cell? ⟨b, 2, none⟩ = some (.int .i64 v.k.k) ∧ w.cell? ⟨b, 3, none⟩ = some (.string v.k.t) ∧ w.cell? ⟨b, 4, none⟩ = some (.int .i64 v.k.n) ∧ w.cell? ⟨b, 5, none⟩ = some (.int .i64 v.v) ∧ w.cell? ⟨b, 6, none⟩ = some (.int .i64 n) := by
  have h := (hb.block b (heap_lt hc)).trans hc
  refine ⟨?_, ?_, ?_, ?_, ?_, ?_, ?_⟩ <;> simp [cells_of h]

set_option maxHeartbeats 2000000 in
theorem turnedLeftAP (w : World) (pl pr : Option Addr) (v rv : Pr) (o x y : BT Pr) (ho : TreeP w pl o) (hr : TreeP w pr (.node x rv y)) (hls : o.size ≤ 100000000) (hrs : x.size + y.size ≤ 100000000)
    (hlt : x.size + 1 < 2 * (y.size + 1)) :
    Calls Try.prog 119 #[.pointer pl, .agg #[.int .i64 v.k.k, .string v.k.t, .int .i64 v.k.n, .int .i64 v.v], .pointer pr] w (TreeOut encP 162 w (o.toList ++ v :: (BT.node x rv y).toList)) := by
  obtain ⟨b, p0, p1, rfl, hc, h0, h1⟩ := hr
  obtain ⟨c0, c1, -⟩ := node_cellsP (w := w.alloc (.cells #[.int .i64 v.k.k, .string v.k.t, .int .i64 v.k.n, .int .i64 v.v] 100)) hc (by go_grown)
  have hb : b < w.heap.size := heap_lt hc
  have hA := fun n => ((weight_anyP w ((w.alloc (.cells #[.int .i64 v.k.k, .string v.k.t, .int .i64 v.k.n, .int .i64 v.v] 100)).drewN n) _ x h0 (bdN _ (by go_grown)) (by omega)).mono (R' := fun e w' => e = .returned (.int .i64 (x.size + 1)) ∧ w' = _) (fun _ _ h => ⟨h.1, h.2.symm⟩))
  have hB := fun n => ((weight_anyP w ((w.alloc (.cells #[.int .i64 v.k.k, .string v.k.t, .int .i64 v.k.n, .int .i64 v.v] 100)).drewN n) _ y h1 (bdN _ (by go_grown)) (by omega)).mono (R' := fun e w' => e = .returned (.int .i64 (y.size + 1)) ∧ w' = _) (fun _ _ h => ⟨h.1, h.2.symm⟩))
  have HA := Lib.hid hA
  have HB := Lib.hid hB
  clear hA hB
  go_enter Try.func119, Try.ntmps119
  go_wp2_with fail
  go_quiet ((first | (with_reducible exact Calls.quiet_of_same (HA.out _)) | (with_reducible exact Calls.quiet_of_same (HB.out _))))
  go_wp2_with fail
  obtain ⟨W2, hW2⟩ : ∃ W2, W2 = (w.alloc (.cells #[.int .i64 v.k.k, .string v.k.t, .int .i64 v.k.n, .int .i64 v.v] 100)).drewN nq := ⟨_, rfl⟩
  have hB2 : Below w.heap.size w W2 := by rw [hW2]; exact bdN _ (by go_grown)
  have hz : W2.heap.size = w.heap.size + 1 := by rw [hW2]; simp [World.drewN]
  have hx := cells_of (W := W2) (b := w.heap.size) (c := #[.int .i64 v.k.k, .string v.k.t, .int .i64 v.k.n, .int .i64 v.v]) (t := 100) (f := (0, 0)) (by rw [hW2]; exact new_at rfl)
  have KEEP : ∀ w', Below W2.heap.size W2 w' → (w'.cell? ⟨w.heap.size, 0, none⟩ = some (.int .i64 v.k.k) ∧ w'.cell? ⟨w.heap.size, 1, none⟩ = some (.string v.k.t) ∧ w'.cell? ⟨w.heap.size, 2, none⟩ = some (.int .i64 v.k.n) ∧ w'.cell? ⟨w.heap.size, 3, none⟩ = some (.int .i64 v.v) ∧ w'.cell? ⟨b, 1, none⟩ = some (.pointer p1) ∧ w'.cell? ⟨b, 2, none⟩ = some (.int .i64 rv.k.k) ∧ w'.cell? ⟨b, 3, none⟩ = some (.string rv.k.t) ∧ w'.cell? ⟨b, 4, none⟩ = some (.int .i64 rv.k.n) ∧ w'.cell? ⟨b, 5, none⟩ = some (.int .i64 rv.v)) := by
    intro w' h
    obtain ⟨d0, d1, d2, d3, d4, d5, -⟩ := node_cellsP (w := w') hc (hB2.trans (h.mono hB2.size))
    exact ⟨(h.cell (p := ⟨w.heap.size, 0, none⟩) (by rw [hz]; simp)).trans (by simp [hx]), (h.cell (p := ⟨w.heap.size, 1, none⟩) (by rw [hz]; simp)).trans (by simp [hx]), (h.cell (p := ⟨w.heap.size, 2, none⟩) (by rw [hz]; simp)).trans (by simp [hx]), (h.cell (p := ⟨w.heap.size, 3, none⟩) (by rw [hz]; simp)).trans (by simp [hx]), d1, d2, d3, d4, d5⟩
  rw [← hW2]
  clear hW2 c0 c1 HA HB hx hz
  have hK := Lib.hid KEEP
  clear KEEP
  have hj : Hid (0 = 0) := rfl
  have up : ∀ w', Below W2.heap.size W2 w' → Below w.heap.size w w' := fun w' h => hB2.trans (h.mono hB2.size)
  go_region_held3 (fun w' => Below W2.heap.size W2 w' ∧ w'.cell? ⟨w.heap.size, 0, none⟩ = some (.int .i64 v.k.k) ∧ w'.cell? ⟨w.heap.size, 1, none⟩ = some (.string v.k.t) ∧ w'.cell? ⟨w.heap.size, 2, none⟩ = some (.int .i64 v.k.n) ∧ w'.cell? ⟨w.heap.size, 3, none⟩ = some (.int .i64 v.v) ∧ w'.cell? ⟨b, 1, none⟩ = some (.pointer p1) ∧ w'.cell? ⟨b, 2, none⟩ = some (.int .i64 rv.k.k) ∧ w'.cell? ⟨b, 3, none⟩ = some (.string rv.k.t) ∧ w'.cell? ⟨b, 4, none⟩ = some (.int .i64 rv.k.n) ∧ w'.cell? ⟨b, 5, none⟩ = some (.int .i64 rv.v))
    (first | exact ⟨Below.drew (Below.refl _ _), hK.out _ (Below.drew (Below.refl _ _))⟩ | exact ⟨hBb.out, hK.out _ hBb.out⟩ | exact ⟨hBa.out, hK.out _ hBa.out⟩ | go_keep)
    (first
      | (have _t := hj; go_at_call 104; (with_reducible refine (join_anyP w _ pl p0 v o x ho h0 (up _ (Below.drew (Below.refl _ _))) (by omega) (by omega)).mono ?_); rintro e w1 ⟨q1, T1, rfl, hb1, ht1, hT1⟩; have hBa := Lib.hid ((Below.drew (Below.refl W2.heap.size W2)).trans hb1); clear hj)
      | (go_at_call 104; (with_reducible refine (join_anyP w1 _ q1 p1 rv T1 y ht1 (h1.mono (up _ hBa.out)) (Below.refl _ _) (by rw [BT.size_eq, hT1]; simp [← BT.size_eq]; omega) (by omega)).mono ?_); rintro e w2 ⟨q2, T2, rfl, hb2, ht2, hT2⟩; have hBb := Lib.hid (hBa.out.trans (Below.mono hb2 hBa.out.size))))
  go_wp2
  go_ret
  exact ⟨_, T2, rfl, up _ hBb.out, ht2, by rw [hT2, hT1]; simp [BT.toList]⟩

set_option maxHeartbeats 2000000 in
theorem turnedLeftBP (w : World) (pl pr : Option Addr) (v rv mv : Pr) (o m0 m1 y : BT Pr) (ho : TreeP w pl o) (hr : TreeP w pr (.node (.node m0 mv m1) rv y)) (hls : o.size ≤ 100000000) (hrs : m0.size + m1.size + y.size ≤ 100000000)
    (hlt : 2 * (y.size + 1) ≤ m0.size + 1 + m1.size + 1) :
    Calls Try.prog 119 #[.pointer pl, .agg #[.int .i64 v.k.k, .string v.k.t, .int .i64 v.k.n, .int .i64 v.v], .pointer pr] w (TreeOut encP 162 w (o.toList ++ v :: (BT.node (.node m0 mv m1) rv y).toList)) := by
  obtain ⟨b, p0, p1, rfl, hc, h0, h1⟩ := hr
  have hin := h0
  obtain ⟨bm, r0, r1, rfl, hcm, g0, g1⟩ := hin
  obtain ⟨c0, c1, -⟩ := node_cellsP (w := w.alloc (.cells #[.int .i64 v.k.k, .string v.k.t, .int .i64 v.k.n, .int .i64 v.v] 100)) hc (by go_grown)
  have hb : b < w.heap.size := heap_lt hc
  have hbm : bm < w.heap.size := heap_lt hcm
  have hA := fun n => ((weight_anyP w ((w.alloc (.cells #[.int .i64 v.k.k, .string v.k.t, .int .i64 v.k.n, .int .i64 v.v] 100)).drewN n) _ _ h0 (bdN _ (by go_grown)) (by simp only [BT.size]; omega)).mono (R' := fun e w' => e = .returned (.int .i64 ((BT.node m0 mv m1).size + 1)) ∧ w' = _) (fun _ _ h => ⟨h.1, h.2.symm⟩))
  have hB := fun n => ((weight_anyP w ((w.alloc (.cells #[.int .i64 v.k.k, .string v.k.t, .int .i64 v.k.n, .int .i64 v.v] 100)).drewN n) _ y h1 (bdN _ (by go_grown)) (by omega)).mono (R' := fun e w' => e = .returned (.int .i64 (y.size + 1)) ∧ w' = _) (fun _ _ h => ⟨h.1, h.2.symm⟩))
  have hgt : 2 * ((y.size : Int) + 1) ≤ ((BT.node m0 mv m1).size : Int) + 1 := by simp only [BT.size]; omega
  have hsz : (BT.node m0 mv m1).size ≤ 200000000 := by simp only [BT.size]; omega
  generalize (BT.node m0 mv m1).size = sz at hA hgt hsz
  have HA := Lib.hid hA
  have HB := Lib.hid hB
  clear hA hB
  go_enter Try.func119, Try.ntmps119
  go_wp2_with fail
  go_quiet ((first | (with_reducible exact Calls.quiet_of_same (HA.out _)) | (with_reducible exact Calls.quiet_of_same (HB.out _))))
  go_wp2_with fail
  obtain ⟨W2, hW2⟩ : ∃ W2, W2 = (w.alloc (.cells #[.int .i64 v.k.k, .string v.k.t, .int .i64 v.k.n, .int .i64 v.v] 100)).drewN nq := ⟨_, rfl⟩
  have hB2 : Below w.heap.size w W2 := by rw [hW2]; exact bdN _ (by go_grown)
  have hz : W2.heap.size = w.heap.size + 1 := by rw [hW2]; simp [World.drewN]
  have hx := cells_of (W := W2) (b := w.heap.size) (c := #[.int .i64 v.k.k, .string v.k.t, .int .i64 v.k.n, .int .i64 v.v]) (t := 100) (f := (0, 0)) (by rw [hW2]; exact new_at rfl)
  have KEEP : ∀ w', Below W2.heap.size W2 w' → (w'.cell? ⟨w.heap.size, 0, none⟩ = some (.int .i64 v.k.k) ∧ w'.cell? ⟨w.heap.size, 1, none⟩ = some (.string v.k.t) ∧ w'.cell? ⟨w.heap.size, 2, none⟩ = some (.int .i64 v.k.n) ∧ w'.cell? ⟨w.heap.size, 3, none⟩ = some (.int .i64 v.v) ∧ w'.cell? ⟨b, 1, none⟩ = some (.pointer p1) ∧ w'.cell? ⟨b, 2, none⟩ = some (.int .i64 rv.k.k) ∧ w'.cell? ⟨b, 3, none⟩ = some (.string rv.k.t) ∧ w'.cell? ⟨b, 4, none⟩ = some (.int .i64 rv.k.n) ∧ w'.cell? ⟨b, 5, none⟩ = some (.int .i64 rv.v) ∧
      w'.cell? ⟨bm, 0, none⟩ = some (.pointer r0) ∧ w'.cell? ⟨bm, 1, none⟩ = some (.pointer r1) ∧ w'.cell? ⟨bm, 2, none⟩ = some (.int .i64 mv.k.k) ∧ w'.cell? ⟨bm, 3, none⟩ = some (.string mv.k.t) ∧ w'.cell? ⟨bm, 4, none⟩ = some (.int .i64 mv.k.n) ∧ w'.cell? ⟨bm, 5, none⟩ = some (.int .i64 mv.v)) := by
    intro w' h
    obtain ⟨d0, d1, d2, d3, d4, d5, -⟩ := node_cellsP (w := w') hc (hB2.trans (h.mono hB2.size))
    obtain ⟨e0, e1, e2, e3, e4, e5, -⟩ := node_cellsP (w := w') hcm (hB2.trans (h.mono hB2.size))
    exact ⟨(h.cell (p := ⟨w.heap.size, 0, none⟩) (by rw [hz]; simp)).trans (by simp [hx]), (h.cell (p := ⟨w.heap.size, 1, none⟩) (by rw [hz]; simp)).trans (by simp [hx]), (h.cell (p := ⟨w.heap.size, 2, none⟩) (by rw [hz]; simp)).trans (by simp [hx]), (h.cell (p := ⟨w.heap.size, 3, none⟩) (by rw [hz]; simp)).trans (by simp [hx]), d1, d2, d3, d4, d5, e0, e1, e2, e3, e4, e5⟩
  rw [← hW2]
  clear hW2 c0 c1 HA HB hgt hx hz
  have hK := Lib.hid KEEP
  clear KEEP
  have hj : Hid (0 = 0) := rfl
  have hj2 : Hid (0 = 0) := rfl
  have up : ∀ w', Below W2.heap.size W2 w' → Below w.heap.size w w' := fun w' h => hB2.trans (h.mono hB2.size)
  go_region_held3 (fun w' => Below W2.heap.size W2 w' ∧ w'.cell? ⟨w.heap.size, 0, none⟩ = some (.int .i64 v.k.k) ∧ w'.cell? ⟨w.heap.size, 1, none⟩ = some (.string v.k.t) ∧ w'.cell? ⟨w.heap.size, 2, none⟩ = some (.int .i64 v.k.n) ∧ w'.cell? ⟨w.heap.size, 3, none⟩ = some (.int .i64 v.v) ∧ w'.cell? ⟨b, 1, none⟩ = some (.pointer p1) ∧ w'.cell? ⟨b, 2, none⟩ = some (.int .i64 rv.k.k) ∧ w'.cell? ⟨b, 3, none⟩ = some (.string rv.k.t) ∧ w'.cell? ⟨b, 4, none⟩ = some (.int .i64 rv.k.n) ∧ w'.cell? ⟨b, 5, none⟩ = some (.int .i64 rv.v) ∧
      w'.cell? ⟨bm, 0, none⟩ = some (.pointer r0) ∧ w'.cell? ⟨bm, 1, none⟩ = some (.pointer r1) ∧ w'.cell? ⟨bm, 2, none⟩ = some (.int .i64 mv.k.k) ∧ w'.cell? ⟨bm, 3, none⟩ = some (.string mv.k.t) ∧ w'.cell? ⟨bm, 4, none⟩ = some (.int .i64 mv.k.n) ∧ w'.cell? ⟨bm, 5, none⟩ = some (.int .i64 mv.v))
    (first | exact ⟨Below.drew (Below.refl _ _), hK.out _ (Below.drew (Below.refl _ _))⟩ | exact ⟨hBc.out, hK.out _ hBc.out⟩ | exact ⟨hBb.out, hK.out _ hBb.out⟩ | exact ⟨hBa.out, hK.out _ hBa.out⟩ | go_keep)
    (first
      | (have _t := hj; go_at_call 104; (with_reducible refine (join_anyP w _ pl r0 v o m0 ho g0 (up _ (Below.drew (Below.refl _ _))) (by omega) (by omega)).mono ?_); rintro e w1 ⟨q1, T1, rfl, hb1, ht1, hT1⟩; have hBa := Lib.hid ((Below.drew (Below.refl W2.heap.size W2)).trans hb1); clear hj)
      | (have _t := hj2; go_at_call 104; (with_reducible refine (join_anyP w _ r1 p1 rv m1 y g1 h1 (up _ hBa.out) (by omega) (by omega)).mono ?_); rintro e w2 ⟨q2, T2, rfl, hb2, ht2, hT2⟩; have hBb := Lib.hid (hBa.out.trans (Below.mono hb2 hBa.out.size)); clear hj2)
      | (go_at_call 104; (with_reducible refine (join_anyP w2 _ q1 q2 mv T1 T2 (ht1.mono hb2) ht2 (Below.refl _ _) (by rw [BT.size_eq, hT1]; simp [← BT.size_eq]; omega) (by rw [BT.size_eq, hT2]; simp [← BT.size_eq]; omega)).mono ?_); rintro e w3 ⟨q3, T3, rfl, hb3, ht3, hT3⟩; have hBc := Lib.hid (hBb.out.trans (Below.mono hb3 hBb.out.size))))
  go_wp2
  go_ret
  exact ⟨_, T3, rfl, up _ hBc.out, ht3, by rw [hT3, hT1, hT2]; simp [BT.toList]⟩

set_option maxHeartbeats 2000000 in
theorem turnedRightAP (w : World) (pl pr : Option Addr) (v rv : Pr) (o x y : BT Pr) (ho : TreeP w pr o) (hr : TreeP w pl (.node y rv x)) (hls : o.size ≤ 100000000) (hrs : x.size + y.size ≤ 100000000)
    (hlt : x.size + 1 < 2 * (y.size + 1)) :
    Calls Try.prog 120 #[.pointer pl, .agg #[.int .i64 v.k.k, .string v.k.t, .int .i64 v.k.n, .int .i64 v.v], .pointer pr] w (TreeOut encP 162 w ((BT.node y rv x).toList ++ v :: o.toList)) := by
  obtain ⟨b, p0, p1, rfl, hc, h0, h1⟩ := hr
  obtain ⟨c0, c1, -⟩ := node_cellsP (w := w.alloc (.cells #[.int .i64 v.k.k, .string v.k.t, .int .i64 v.k.n, .int .i64 v.v] 100)) hc (by go_grown)
  have hb : b < w.heap.size := heap_lt hc
  have hA := fun n => ((weight_anyP w ((w.alloc (.cells #[.int .i64 v.k.k, .string v.k.t, .int .i64 v.k.n, .int .i64 v.v] 100)).drewN n) _ x h1 (bdN _ (by go_grown)) (by omega)).mono (R' := fun e w' => e = .returned (.int .i64 (x.size + 1)) ∧ w' = _) (fun _ _ h => ⟨h.1, h.2.symm⟩))
  have hB := fun n => ((weight_anyP w ((w.alloc (.cells #[.int .i64 v.k.k, .string v.k.t, .int .i64 v.k.n, .int .i64 v.v] 100)).drewN n) _ y h0 (bdN _ (by go_grown)) (by omega)).mono (R' := fun e w' => e = .returned (.int .i64 (y.size + 1)) ∧ w' = _) (fun _ _ h => ⟨h.1, h.2.symm⟩))
  have HA := Lib.hid hA
  have HB := Lib.hid hB
  clear hA hB
  go_enter Try.func120, Try.ntmps120
  go_wp2_with fail
  go_quiet ((first | (with_reducible exact Calls.quiet_of_same (HA.out _)) | (with_reducible exact Calls.quiet_of_same (HB.out _))))
  go_wp2_with fail
  obtain ⟨W2, hW2⟩ : ∃ W2, W2 = (w.alloc (.cells #[.int .i64 v.k.k, .string v.k.t, .int .i64 v.k.n, .int .i64 v.v] 100)).drewN nq := ⟨_, rfl⟩
  have hB2 : Below w.heap.size w W2 := by rw [hW2]; exact bdN _ (by go_grown)
  have hz : W2.heap.size = w.heap.size + 1 := by rw [hW2]; simp [World.drewN]
  have hx := cells_of (W := W2) (b := w.heap.size) (c := #[.int .i64 v.k.k, .string v.k.t, .int .i64 v.k.n, .int .i64 v.v]) (t := 100) (f := (0, 0)) (by rw [hW2]; exact new_at rfl)
  have KEEP : ∀ w', Below W2.heap.size W2 w' → (w'.cell? ⟨w.heap.size, 0, none⟩ = some (.int .i64 v.k.k) ∧ w'.cell? ⟨w.heap.size, 1, none⟩ = some (.string v.k.t) ∧ w'.cell? ⟨w.heap.size, 2, none⟩ = some (.int .i64 v.k.n) ∧ w'.cell? ⟨w.heap.size, 3, none⟩ = some (.int .i64 v.v) ∧ w'.cell? ⟨b, 0, none⟩ = some (.pointer p0) ∧ w'.cell? ⟨b, 2, none⟩ = some (.int .i64 rv.k.k) ∧ w'.cell? ⟨b, 3, none⟩ = some (.string rv.k.t) ∧ w'.cell? ⟨b, 4, none⟩ = some (.int .i64 rv.k.n) ∧ w'.cell? ⟨b, 5, none⟩ = some (.int .i64 rv.v)) := by
    intro w' h
    obtain ⟨d0, d1, d2, d3, d4, d5, -⟩ := node_cellsP (w := w') hc (hB2.trans (h.mono hB2.size))
    exact ⟨(h.cell (p := ⟨w.heap.size, 0, none⟩) (by rw [hz]; simp)).trans (by simp [hx]), (h.cell (p := ⟨w.heap.size, 1, none⟩) (by rw [hz]; simp)).trans (by simp [hx]), (h.cell (p := ⟨w.heap.size, 2, none⟩) (by rw [hz]; simp)).trans (by simp [hx]), (h.cell (p := ⟨w.heap.size, 3, none⟩) (by rw [hz]; simp)).trans (by simp [hx]), d0, d2, d3, d4, d5⟩
  rw [← hW2]
  clear hW2 c0 c1 HA HB hx hz
  have hK := Lib.hid KEEP
  clear KEEP
  have hj : Hid (0 = 0) := rfl
  have up : ∀ w', Below W2.heap.size W2 w' → Below w.heap.size w w' := fun w' h => hB2.trans (h.mono hB2.size)
  go_region_held3 (fun w' => Below W2.heap.size W2 w' ∧ w'.cell? ⟨w.heap.size, 0, none⟩ = some (.int .i64 v.k.k) ∧ w'.cell? ⟨w.heap.size, 1, none⟩ = some (.string v.k.t) ∧ w'.cell? ⟨w.heap.size, 2, none⟩ = some (.int .i64 v.k.n) ∧ w'.cell? ⟨w.heap.size, 3, none⟩ = some (.int .i64 v.v) ∧ w'.cell? ⟨b, 0, none⟩ = some (.pointer p0) ∧ w'.cell? ⟨b, 2, none⟩ = some (.int .i64 rv.k.k) ∧ w'.cell? ⟨b, 3, none⟩ = some (.string rv.k.t) ∧ w'.cell? ⟨b, 4, none⟩ = some (.int .i64 rv.k.n) ∧ w'.cell? ⟨b, 5, none⟩ = some (.int .i64 rv.v))
    (first | exact ⟨Below.drew (Below.refl _ _), hK.out _ (Below.drew (Below.refl _ _))⟩ | exact ⟨hBb.out, hK.out _ hBb.out⟩ | exact ⟨hBa.out, hK.out _ hBa.out⟩ | go_keep)
    (first
      | (have _t := hj; go_at_call 104; (with_reducible refine (join_anyP w _ p1 pr v x o h1 ho (up _ (Below.drew (Below.refl _ _))) (by omega) (by omega)).mono ?_); rintro e w1 ⟨q1, T1, rfl, hb1, ht1, hT1⟩; have hBa := Lib.hid ((Below.drew (Below.refl W2.heap.size W2)).trans hb1); clear hj)
      | (go_at_call 104; (with_reducible refine (join_anyP w1 _ p0 q1 rv y T1 (h0.mono (up _ hBa.out)) ht1 (Below.refl _ _) (by omega) (by rw [BT.size_eq, hT1]; simp [← BT.size_eq]; omega)).mono ?_); rintro e w2 ⟨q2, T2, rfl, hb2, ht2, hT2⟩; have hBb := Lib.hid (hBa.out.trans (Below.mono hb2 hBa.out.size))))
  go_wp2
  go_ret
  exact ⟨_, T2, rfl, up _ hBb.out, ht2, by rw [hT2, hT1]; simp [BT.toList]⟩

set_option maxHeartbeats 2000000 in
theorem turnedRightBP (w : World) (pl pr : Option Addr) (v rv mv : Pr) (o m0 m1 y : BT Pr) (ho : TreeP w pr o) (hr : TreeP w pl (.node y rv (.node m0 mv m1))) (hls : o.size ≤ 100000000) (hrs : m0.size + m1.size + y.size ≤ 100000000)
    (hlt : 2 * (y.size + 1) ≤ m0.size + 1 + m1.size + 1) :
    Calls Try.prog 120 #[.pointer pl, .agg #[.int .i64 v.k.k, .string v.k.t, .int .i64 v.k.n, .int .i64 v.v], .pointer pr] w (TreeOut encP 162 w ((BT.node y rv (.node m0 mv m1)).toList ++ v :: o.toList)) := by
  obtain ⟨b, p0, p1, rfl, hc, h0, h1⟩ := hr
  have hin := h1
  obtain ⟨bm, r0, r1, rfl, hcm, g0, g1⟩ := hin
  obtain ⟨c0, c1, -⟩ := node_cellsP (w := w.alloc (.cells #[.int .i64 v.k.k, .string v.k.t, .int .i64 v.k.n, .int .i64 v.v] 100)) hc (by go_grown)
  have hb : b < w.heap.size := heap_lt hc
  have hbm : bm < w.heap.size := heap_lt hcm
  have hA := fun n => ((weight_anyP w ((w.alloc (.cells #[.int .i64 v.k.k, .string v.k.t, .int .i64 v.k.n, .int .i64 v.v] 100)).drewN n) _ _ h1 (bdN _ (by go_grown)) (by simp only [BT.size]; omega)).mono (R' := fun e w' => e = .returned (.int .i64 ((BT.node m0 mv m1).size + 1)) ∧ w' = _) (fun _ _ h => ⟨h.1, h.2.symm⟩))
  have hB := fun n => ((weight_anyP w ((w.alloc (.cells #[.int .i64 v.k.k, .string v.k.t, .int .i64 v.k.n, .int .i64 v.v] 100)).drewN n) _ y h0 (bdN _ (by go_grown)) (by omega)).mono (R' := fun e w' => e = .returned (.int .i64 (y.size + 1)) ∧ w' = _) (fun _ _ h => ⟨h.1, h.2.symm⟩))
  have hgt : 2 * ((y.size : Int) + 1) ≤ ((BT.node m0 mv m1).size : Int) + 1 := by simp only [BT.size]; omega
  have hsz : (BT.node m0 mv m1).size ≤ 200000000 := by simp only [BT.size]; omega
  generalize (BT.node m0 mv m1).size = sz at hA hgt hsz
  have HA := Lib.hid hA
  have HB := Lib.hid hB
  clear hA hB
  go_enter Try.func120, Try.ntmps120
  go_wp2_with fail
  go_quiet ((first | (with_reducible exact Calls.quiet_of_same (HA.out _)) | (with_reducible exact Calls.quiet_of_same (HB.out _))))
  go_wp2_with fail
  obtain ⟨W2, hW2⟩ : ∃ W2, W2 = (w.alloc (.cells #[.int .i64 v.k.k, .string v.k.t, .int .i64 v.k.n, .int .i64 v.v] 100)).drewN nq := ⟨_, rfl⟩
  have hB2 : Below w.heap.size w W2 := by rw [hW2]; exact bdN _ (by go_grown)
  have hz : W2.heap.size = w.heap.size + 1 := by rw [hW2]; simp [World.drewN]
  have hx := cells_of (W := W2) (b := w.heap.size) (c := #[.int .i64 v.k.k, .string v.k.t, .int .i64 v.k.n, .int .i64 v.v]) (t := 100) (f := (0, 0)) (by rw [hW2]; exact new_at rfl)
  have KEEP : ∀ w', Below W2.heap.size W2 w' → (w'.cell? ⟨w.heap.size, 0, none⟩ = some (.int .i64 v.k.k) ∧ w'.cell? ⟨w.heap.size, 1, none⟩ = some (.string v.k.t) ∧ w'.cell? ⟨w.heap.size, 2, none⟩ = some (.int .i64 v.k.n) ∧ w'.cell? ⟨w.heap.size, 3, none⟩ = some (.int .i64 v.v) ∧ w'.cell? ⟨b, 0, none⟩ = some (.pointer p0) ∧ w'.cell? ⟨b, 2, none⟩ = some (.int .i64 rv.k.k) ∧ w'.cell? ⟨b, 3, none⟩ = some (.string rv.k.t) ∧ w'.cell? ⟨b, 4, none⟩ = some (.int .i64 rv.k.n) ∧ w'.cell? ⟨b, 5, none⟩ = some (.int .i64 rv.v) ∧
      w'.cell? ⟨bm, 0, none⟩ = some (.pointer r0) ∧ w'.cell? ⟨bm, 1, none⟩ = some (.pointer r1) ∧ w'.cell? ⟨bm, 2, none⟩ = some (.int .i64 mv.k.k) ∧ w'.cell? ⟨bm, 3, none⟩ = some (.string mv.k.t) ∧ w'.cell? ⟨bm, 4, none⟩ = some (.int .i64 mv.k.n) ∧ w'.cell? ⟨bm, 5, none⟩ = some (.int .i64 mv.v)) := by
    intro w' h
    obtain ⟨d0, d1, d2, d3, d4, d5, -⟩ := node_cellsP (w := w') hc (hB2.trans (h.mono hB2.size))
    obtain ⟨e0, e1, e2, e3, e4, e5, -⟩ := node_cellsP (w := w') hcm (hB2.trans (h.mono hB2.size))
    exact ⟨(h.cell (p := ⟨w.heap.size, 0, none⟩) (by rw [hz]; simp)).trans (by simp [hx]), (h.cell (p := ⟨w.heap.size, 1, none⟩) (by rw [hz]; simp)).trans (by simp [hx]), (h.cell (p := ⟨w.heap.size, 2, none⟩) (by rw [hz]; simp)).trans (by simp [hx]), (h.cell (p := ⟨w.heap.size, 3, none⟩) (by rw [hz]; simp)).trans (by simp [hx]), d0, d2, d3, d4, d5, e0, e1, e2, e3, e4, e5⟩
  rw [← hW2]
  clear hW2 c0 c1 HA HB hgt hx hz
  have hK := Lib.hid KEEP
  clear KEEP
  have hj : Hid (0 = 0) := rfl
  have hj2 : Hid (0 = 0) := rfl
  have up : ∀ w', Below W2.heap.size W2 w' → Below w.heap.size w w' := fun w' h => hB2.trans (h.mono hB2.size)
  go_region_held3 (fun w' => Below W2.heap.size W2 w' ∧ w'.cell? ⟨w.heap.size, 0, none⟩ = some (.int .i64 v.k.k) ∧ w'.cell? ⟨w.heap.size, 1, none⟩ = some (.string v.k.t) ∧ w'.cell? ⟨w.heap.size, 2, none⟩ = some (.int .i64 v.k.n) ∧ w'.cell? ⟨w.heap.size, 3, none⟩ = some (.int .i64 v.v) ∧ w'.cell? ⟨b, 0, none⟩ = some (.pointer p0) ∧ w'.cell? ⟨b, 2, none⟩ = some (.int .i64 rv.k.k) ∧ w'.cell? ⟨b, 3, none⟩ = some (.string rv.k.t) ∧ w'.cell? ⟨b, 4, none⟩ = some (.int .i64 rv.k.n) ∧ w'.cell? ⟨b, 5, none⟩ = some (.int .i64 rv.v) ∧
      w'.cell? ⟨bm, 0, none⟩ = some (.pointer r0) ∧ w'.cell? ⟨bm, 1, none⟩ = some (.pointer r1) ∧ w'.cell? ⟨bm, 2, none⟩ = some (.int .i64 mv.k.k) ∧ w'.cell? ⟨bm, 3, none⟩ = some (.string mv.k.t) ∧ w'.cell? ⟨bm, 4, none⟩ = some (.int .i64 mv.k.n) ∧ w'.cell? ⟨bm, 5, none⟩ = some (.int .i64 mv.v))
    (first | exact ⟨Below.drew (Below.refl _ _), hK.out _ (Below.drew (Below.refl _ _))⟩ | exact ⟨hBc.out, hK.out _ hBc.out⟩ | exact ⟨hBb.out, hK.out _ hBb.out⟩ | exact ⟨hBa.out, hK.out _ hBa.out⟩ | go_keep)
    (first
      | (have _t := hj; go_at_call 104; (with_reducible refine (join_anyP w _ p0 r0 rv y m0 h0 g0 (up _ (Below.drew (Below.refl _ _))) (by omega) (by omega)).mono ?_); rintro e w1 ⟨q1, T1, rfl, hb1, ht1, hT1⟩; have hBa := Lib.hid ((Below.drew (Below.refl W2.heap.size W2)).trans hb1); clear hj)
      | (have _t := hj2; go_at_call 104; (with_reducible refine (join_anyP w _ r1 pr v m1 o g1 ho (up _ hBa.out) (by omega) (by omega)).mono ?_); rintro e w2 ⟨q2, T2, rfl, hb2, ht2, hT2⟩; have hBb := Lib.hid (hBa.out.trans (Below.mono hb2 hBa.out.size)); clear hj2)
      | (go_at_call 104; (with_reducible refine (join_anyP w2 _ q1 q2 mv T1 T2 (ht1.mono hb2) ht2 (Below.refl _ _) (by rw [BT.size_eq, hT1]; simp [← BT.size_eq]; omega) (by rw [BT.size_eq, hT2]; simp [← BT.size_eq]; omega)).mono ?_); rintro e w3 ⟨q3, T3, rfl, hb3, ht3, hT3⟩; have hBc := Lib.hid (hBb.out.trans (Below.mono hb3 hBb.out.size))))
  go_wp2
  go_ret
  exact ⟨_, T3, rfl, up _ hBc.out, ht3, by rw [hT3, hT1, hT2]; simp [BT.toList]⟩
end Go.Proofs.Ythgidldcblchmaa
