/-
  Walks over package order at ponder/api.Sym: with. No condition but a bound on sizes.
-/
import Derived.Test.YthgidldcblchmaaProg
import Derived.Test.YthgidldcblchmaaKit
import Derived.Test.YthgidldcblchmaaBalS
import Derived.WalkKit
import Derived.WalkLawsBesides
import Derived.Handy
import Derived.Lib.Hide
import Derived.StillTailTactics
import Derived.BigQuiet
import Derived.Deep.QuietTactic
import Derived.Deep.RegionHeld3
namespace Go.Proofs.Ythgidldcblchmaa
set_option linter.unusedVariables false
open Go.RowKit

def WithOutS (w : World) (x : Sy) (xs : List Sy) (e : Ending) (w' : World) : Prop :=
  ∃ p' T', e = .returned (.tuple #[.pointer p', .bool (!has cmpY x xs)]) ∧ Below w.heap.size w w' ∧ TreeS w' p' T' ∧ T'.toList = ins cmpY x xs
set_option maxHeartbeats 2000000 in
theorem with_leafS (w : World) (x : Sy) : Calls Try.prog 101 #[.pointer none, .agg #[.int .i64 x.k, .string x.t, .int .i64 x.n]] w (WithOutS w x []) := by
  have hB : Below w.heap.size w (w.alloc (.cells #[.int .i64 x.k, .string x.t, .int .i64 x.n] 27)) := by go_grown
  have ht := join_anyS (w.alloc (.cells #[.int .i64 x.k, .string x.t, .int .i64 x.n] 27)) (w.alloc (.cells #[.int .i64 x.k, .string x.t, .int .i64 x.n] 27)) none none x .leaf .leaf rfl rfl (Below.refl _ _) (by simp [BT.size]) (by simp [BT.size])
  have Ht := Lib.hid ht
  clear ht
  go_enter Try.func101, Try.ntmps101
  go_wp2_with (go_at_call 112; (with_reducible refine Ht.out.mono ?_); intro e w1 ho; obtain ⟨q, Tq, rfl, hb1, h2, h3⟩ := ho)
  go_ret2
  exact ⟨q, Tq, rfl, hB.trans (hb1.mono hB.size), h2, h3⟩

set_option maxHeartbeats 4000000 in
theorem with_anyS (x : Sy) (T : BT Sy) : ∀ (W0 w : World) (p : Option Addr), TreeS W0 p T → Below W0.heap.size W0 w → Sorted cmpY T.toList → T.size ≤ 1000000 →
    Calls Try.prog 101 #[.pointer p, .agg #[.int .i64 x.k, .string x.t, .int .i64 x.n]] w (WithOutS w x T.toList) := by
  induction T with
  | leaf =>
    intro W0 w p h _ _ _
    obtain rfl : p = none := h
    exact with_leafS w x
  | node l v r ihl ihr =>
    intro W0 w p h hb0 hs hz
    replace h := h.mono hb0
    clear hb0 W0
    have hself := h
    obtain ⟨b, pl, pr, rfl, hc, hl, hr⟩ := h
    simp only [BT.toList] at hs
    obtain ⟨hsl, hsr, -, -⟩ := sorted_mid hs
    simp only [BT.size] at hz
    have hB : Below w.heap.size w (w.alloc (.cells #[.int .i64 x.k, .string x.t, .int .i64 x.n] 27)) := by go_grown
    have hcmp := fun w' => cmp_anyS x v w'
    have hIl := fun w' h => ihl w w' pl hl h hsl (by omega)
    have hIr := fun w' h => ihr w w' pr hr h hsr (by omega)
    have hbal := fun (W0 w' : World) (q q' : Option Addr) (l' r' : BT Sy) h1 h2 h3 h4 h5 => balanced_anyS W0 w' q q' v l' r' h1 h2 h3 h4 h5
    have KEEP : ∀ w', Below (w.alloc (.cells #[.int .i64 x.k, .string x.t, .int .i64 x.n] 27)).heap.size (w.alloc (.cells #[.int .i64 x.k, .string x.t, .int .i64 x.n] 27)) w' → (w'.cell? ⟨w.heap.size, 0, none⟩ = some (.int .i64 x.k) ∧ w'.cell? ⟨w.heap.size, 1, none⟩ = some (.string x.t) ∧ w'.cell? ⟨w.heap.size, 2, none⟩ = some (.int .i64 x.n) ∧  w'.cell? ⟨b, 0, none⟩ = some (.pointer pl) ∧ w'.cell? ⟨b, 1, none⟩ = some (.pointer pr) ∧ w'.cell? ⟨b, 2, none⟩ = some (.int .i64 v.k) ∧ w'.cell? ⟨b, 3, none⟩ = some (.string v.t) ∧ w'.cell? ⟨b, 4, none⟩ = some (.int .i64 v.n)) := by
      intro w' h
      have hx := cells_of (W := w.alloc (.cells #[.int .i64 x.k, .string x.t, .int .i64 x.n] 27)) (b := w.heap.size) (c := #[.int .i64 x.k, .string x.t, .int .i64 x.n]) (t := 27) (f := (0, 0)) (new_at rfl)
      obtain ⟨d0, d1, d2, d3, d4, -⟩ := node_cellsS (w := w') hc (hB.trans (h.mono hB.size))
      exact ⟨(h.cell (p := ⟨w.heap.size, 0, none⟩) (by simp)).trans (by rw [hx]; rfl), (h.cell (p := ⟨w.heap.size, 1, none⟩) (by simp)).trans (by rw [hx]; rfl), (h.cell (p := ⟨w.heap.size, 2, none⟩) (by simp)).trans (by rw [hx]; rfl),  d0, d1, d2, d3, d4⟩
    have up : ∀ w', Below (w.alloc (.cells #[.int .i64 x.k, .string x.t, .int .i64 x.n] 27)).heap.size (w.alloc (.cells #[.int .i64 x.k, .string x.t, .int .i64 x.n] 27)) w' → Below w.heap.size w w' := fun w' h => hB.trans (h.mono hB.size)
    have hK := Lib.hid KEEP
    have K0 := KEEP _ (Below.refl _ _)
    obtain ⟨x0, x1, x2,  k0, k1, k2, k3, k4⟩ := K0
    have Hcmp := Lib.hid hcmp
    have HIl := Lib.hid hIl
    have HIr := Lib.hid hIr
    have Hbal := Lib.hid hbal
    have Hup := Lib.hid up
    clear KEEP hcmp hIl hIr hbal ihl ihr up
    have hcell : b < w.heap.size := heap_lt hc
    have hsize : (ins cmpY x l.toList).length ≤ l.size + 1 := by rw [BT.size_eq]; exact ins_length _ _
    have hsizer : (ins cmpY x r.toList).length ≤ r.size + 1 := by rw [BT.size_eq]; exact ins_length _ _
    clear hc
    by_cases h1 : cmpY x v < 0
    · have eh := has_mid_lt cmpY_cmp hs h1
      have ei := ins_mid_lt (b := r.toList) h1 (a := l.toList)
      cases hh : has cmpY x l.toList with
      | true =>
        have hfin : WithOutS w x (BT.node l v r).toList = fun e w' => ∃ p' T', e = .returned (.tuple #[.pointer p', .bool false]) ∧ Below w.heap.size w w' ∧ TreeS w' p' T' ∧ T'.toList = (BT.node l v r).toList := by
          unfold WithOutS; simp only [BT.toList, eh, hh, ei, ins_has cmpY_cmp hsl hh, Bool.not_true]
        have Hfin := Lib.hid hfin
        replace HIl := Lib.hid (fun w' h => by have := HIl.out w' h; unfold WithOutS at this; simpa only [hh, Bool.not_true] using this : ∀ w', Below w.heap.size w w' → Calls Try.prog 101 #[.pointer pl, .agg #[.int .i64 x.k, .string x.t, .int .i64 x.n]] w' fun e w'' => ∃ p' T', e = .returned (.tuple #[.pointer p', .bool false]) ∧ Below w'.heap.size w' w'' ∧ TreeS w'' p' T' ∧ T'.toList = ins cmpY x l.toList)
        clear hfin hs eh ei hh hsize hsizer hsl hsr
        have hn1 : ¬ 0 < cmpY x v := by omega
        go_enter Try.func101, Try.ntmps101
        go_wp2_with fail
        refine region_tail 6 (by kernel_rfl) (by kernel_rfl) (fun KK hKK => ?_)
        simp only [List.take_succ_cons, List.take_zero]
        repeat (with_reducible refine wpStill_step (fun K hK => ?_); go_simp; (with_reducible refine hK _ ?_); clear hK K)
        refine wpStill_nil (hKK _ _ ?_)
        clear hKK KK
        simp only [List.drop_succ_cons, List.drop_zero]
        go_wp2_with (go_at_call 150; (with_reducible refine (Hcmp.out _).mono ?_); rintro e w1 ⟨rfl, hb1'⟩; have hb1 := ((Below.refl (w.alloc (.cells #[.int .i64 x.k, .string x.t, .int .i64 x.n] 27)).heap.size (w.alloc (.cells #[.int .i64 x.k, .string x.t, .int .i64 x.n] 27))).drew).trans (hb1'.mono (by simp)); clear hb1'; obtain ⟨n0, n1, n2,  m0, m1, m2, m3, m4⟩ := hK.out _ hb1)
        go_wp2_with fail
        go_region_held3 (fun w' => Below w1.heap.size w1 w' ∧ w'.cell? ⟨w.heap.size, 0, none⟩ = some (.int .i64 x.k) ∧ w'.cell? ⟨w.heap.size, 1, none⟩ = some (.string x.t) ∧ w'.cell? ⟨w.heap.size, 2, none⟩ = some (.int .i64 x.n) ∧ w'.cell? ⟨b, 0, none⟩ = some (.pointer pl) ∧ w'.cell? ⟨b, 1, none⟩ = some (.pointer pr) ∧ w'.cell? ⟨b, 2, none⟩ = some (.int .i64 v.k) ∧ w'.cell? ⟨b, 3, none⟩ = some (.string v.t) ∧ w'.cell? ⟨b, 4, none⟩ = some (.int .i64 v.n))
          (first | exact ⟨(Below.refl _ _).drew, hK.out _ hb1.drew⟩ | exact ⟨hBa.out, hK.out _ (hb1.trans (hBa.out.mono hb1.size))⟩ | go_keep)
          (first | (go_at_call 101; (with_reducible refine (HIl.out _ (Hup.out _ hb1.drew)).mono ?_); rintro e w2 ⟨q, Tq, rfl, hb2', h2, h3⟩; have hBa := Lib.hid ((Below.refl w1.heap.size w1).drew.trans hb2'); clear hb2'))
        go_wp2_with fail
        go_ret2
        rw [Hfin.out]
        exact ⟨_, _, rfl, (Hup.out _ hb1).trans (hBa.out.mono (Hup.out _ hb1).size), hself.mono ((Hup.out _ hb1).trans (hBa.out.mono (Hup.out _ hb1).size)), rfl⟩
      | false =>
        have hfin : WithOutS w x (BT.node l v r).toList = fun e w' => ∃ p' T', e = .returned (.tuple #[.pointer p', .bool true]) ∧ Below w.heap.size w w' ∧ TreeS w' p' T' ∧ T'.toList = ins cmpY x l.toList ++ v :: r.toList := by
          unfold WithOutS; simp only [BT.toList, eh, hh, ei, Bool.not_false]
        have Hfin := Lib.hid hfin
        replace HIl := Lib.hid (fun w' h => by have := HIl.out w' h; unfold WithOutS at this; simpa only [hh, Bool.not_false] using this : ∀ w', Below w.heap.size w w' → Calls Try.prog 101 #[.pointer pl, .agg #[.int .i64 x.k, .string x.t, .int .i64 x.n]] w' fun e w'' => ∃ p' T', e = .returned (.tuple #[.pointer p', .bool true]) ∧ Below w'.heap.size w' w'' ∧ TreeS w'' p' T' ∧ T'.toList = ins cmpY x l.toList)
        clear hfin hs eh ei hh hsl hsr
        go_enter Try.func101, Try.ntmps101
        go_wp2_with fail
        refine region_tail 6 (by kernel_rfl) (by kernel_rfl) (fun KK hKK => ?_)
        simp only [List.take_succ_cons, List.take_zero]
        repeat (with_reducible refine wpStill_step (fun K hK => ?_); go_simp; (with_reducible refine hK _ ?_); clear hK K)
        refine wpStill_nil (hKK _ _ ?_)
        clear hKK KK
        simp only [List.drop_succ_cons, List.drop_zero]
        go_wp2_with (go_at_call 150; (with_reducible refine (Hcmp.out _).mono ?_); rintro e w1 ⟨rfl, hb1'⟩; have hb1 := ((Below.refl (w.alloc (.cells #[.int .i64 x.k, .string x.t, .int .i64 x.n] 27)).heap.size (w.alloc (.cells #[.int .i64 x.k, .string x.t, .int .i64 x.n] 27))).drew).trans (hb1'.mono (by simp)); clear hb1'; obtain ⟨n0, n1, n2,  m0, m1, m2, m3, m4⟩ := hK.out _ hb1)
        go_wp2_with fail
        go_region_held3 (fun w' => Below w1.heap.size w1 w' ∧ w'.cell? ⟨w.heap.size, 0, none⟩ = some (.int .i64 x.k) ∧ w'.cell? ⟨w.heap.size, 1, none⟩ = some (.string x.t) ∧ w'.cell? ⟨w.heap.size, 2, none⟩ = some (.int .i64 x.n) ∧ w'.cell? ⟨b, 0, none⟩ = some (.pointer pl) ∧ w'.cell? ⟨b, 1, none⟩ = some (.pointer pr) ∧ w'.cell? ⟨b, 2, none⟩ = some (.int .i64 v.k) ∧ w'.cell? ⟨b, 3, none⟩ = some (.string v.t) ∧ w'.cell? ⟨b, 4, none⟩ = some (.int .i64 v.n))
          (first | exact ⟨(Below.refl _ _).drew, hK.out _ hb1.drew⟩ | exact ⟨hBa.out, hK.out _ (hb1.trans (hBa.out.mono hb1.size))⟩ | go_keep)
          (first | (go_at_call 101; (with_reducible refine (HIl.out _ (Hup.out _ hb1.drew)).mono ?_); rintro e w2 ⟨q, Tq, rfl, hb2', h2, h3⟩; have hBa := Lib.hid ((Below.refl w1.heap.size w1).drew.trans hb2'); clear hb2'))
        go_wp2_with fail
        have hb2 := hb1.trans (hBa.out.mono hb1.size)
        obtain ⟨z0, z1, z2,  y0, y1, y2, y3, y4⟩ := hK.out _ hb2
        refine region_tail 9 (by kernel_rfl) (by kernel_rfl) (fun KK hKK => ?_)
        simp only [List.take_succ_cons, List.take_zero]
        repeat (with_reducible refine wpStill_step (fun K hK => ?_); go_simp; (with_reducible refine hK _ ?_); clear hK K)
        refine wpStill_nil (hKK _ _ ?_)
        clear hKK KK
        simp only [List.drop_succ_cons, List.drop_zero]
        go_wp2_with (go_at_call 113; (with_reducible refine (Hbal.out w2 w2.drew q pr Tq r h2 (hr.mono (Hup.out _ hb2)) (Below.refl _ _).drew (by rw [BT.size_eq, h3]; omega) (by omega)).mono ?_); rintro e w3 ⟨q3, T3, rfl, hb3, h6, h7⟩)
        go_ret2
        rw [Hfin.out]
        exact ⟨_, _, rfl, (Hup.out _ hb2).drew.trans (hb3.mono (Hup.out _ hb2).size), h6, by rw [h7, h3]⟩
    · by_cases h1g : 0 < cmpY x v
      · have eh := has_mid_gt cmpY_cmp hs h1g
        have ei := ins_mid_gt cmpY_cmp hs h1g
        cases hh : has cmpY x r.toList with
        | true =>
          have hfin : WithOutS w x (BT.node l v r).toList = fun e w' => ∃ p' T', e = .returned (.tuple #[.pointer p', .bool false]) ∧ Below w.heap.size w w' ∧ TreeS w' p' T' ∧ T'.toList = (BT.node l v r).toList := by
            unfold WithOutS; simp only [BT.toList, eh, hh, ei, ins_has cmpY_cmp hsr hh, Bool.not_true]
          have Hfin := Lib.hid hfin
          replace HIr := Lib.hid (fun w' h => by have := HIr.out w' h; unfold WithOutS at this; simpa only [hh, Bool.not_true] using this : ∀ w', Below w.heap.size w w' → Calls Try.prog 101 #[.pointer pr, .agg #[.int .i64 x.k, .string x.t, .int .i64 x.n]] w' fun e w'' => ∃ p' T', e = .returned (.tuple #[.pointer p', .bool false]) ∧ Below w'.heap.size w' w'' ∧ TreeS w'' p' T' ∧ T'.toList = ins cmpY x r.toList)
          clear hfin hs eh ei hh hsize hsizer hsl hsr
          go_enter Try.func101, Try.ntmps101
          go_wp2_with fail
          refine region_tail 6 (by kernel_rfl) (by kernel_rfl) (fun KK hKK => ?_)
          simp only [List.take_succ_cons, List.take_zero]
          repeat (with_reducible refine wpStill_step (fun K hK => ?_); go_simp; (with_reducible refine hK _ ?_); clear hK K)
          refine wpStill_nil (hKK _ _ ?_)
          clear hKK KK
          simp only [List.drop_succ_cons, List.drop_zero]
          go_wp2_with (go_at_call 150; (with_reducible refine (Hcmp.out _).mono ?_); rintro e w1 ⟨rfl, hb1'⟩; have hb1 := ((Below.refl (w.alloc (.cells #[.int .i64 x.k, .string x.t, .int .i64 x.n] 27)).heap.size (w.alloc (.cells #[.int .i64 x.k, .string x.t, .int .i64 x.n] 27))).drew).trans (hb1'.mono (by simp)); clear hb1'; obtain ⟨n0, n1, n2,  m0, m1, m2, m3, m4⟩ := hK.out _ hb1)
          go_wp2_with fail
          go_region_held3 (fun w' => Below w1.heap.size w1 w' ∧ w'.cell? ⟨w.heap.size, 0, none⟩ = some (.int .i64 x.k) ∧ w'.cell? ⟨w.heap.size, 1, none⟩ = some (.string x.t) ∧ w'.cell? ⟨w.heap.size, 2, none⟩ = some (.int .i64 x.n) ∧ w'.cell? ⟨b, 0, none⟩ = some (.pointer pl) ∧ w'.cell? ⟨b, 1, none⟩ = some (.pointer pr) ∧ w'.cell? ⟨b, 2, none⟩ = some (.int .i64 v.k) ∧ w'.cell? ⟨b, 3, none⟩ = some (.string v.t) ∧ w'.cell? ⟨b, 4, none⟩ = some (.int .i64 v.n))
            (first | exact ⟨(Below.refl _ _).drew, hK.out _ hb1.drew⟩ | exact ⟨hBa.out, hK.out _ (hb1.trans (hBa.out.mono hb1.size))⟩ | go_keep)
            (first | (go_at_call 101; (with_reducible refine (HIr.out _ (Hup.out _ hb1.drew)).mono ?_); rintro e w2 ⟨q, Tq, rfl, hb2', h2, h3⟩; have hBa := Lib.hid ((Below.refl w1.heap.size w1).drew.trans hb2'); clear hb2'))
          go_wp2_with fail
          go_ret2
          rw [Hfin.out]
          exact ⟨_, _, rfl, (Hup.out _ hb1).trans (hBa.out.mono (Hup.out _ hb1).size), hself.mono ((Hup.out _ hb1).trans (hBa.out.mono (Hup.out _ hb1).size)), rfl⟩
        | false =>
          have hfin : WithOutS w x (BT.node l v r).toList = fun e w' => ∃ p' T', e = .returned (.tuple #[.pointer p', .bool true]) ∧ Below w.heap.size w w' ∧ TreeS w' p' T' ∧ T'.toList = l.toList ++ v :: ins cmpY x r.toList := by
            unfold WithOutS; simp only [BT.toList, eh, hh, ei, Bool.not_false]
          have Hfin := Lib.hid hfin
          replace HIr := Lib.hid (fun w' h => by have := HIr.out w' h; unfold WithOutS at this; simpa only [hh, Bool.not_false] using this : ∀ w', Below w.heap.size w w' → Calls Try.prog 101 #[.pointer pr, .agg #[.int .i64 x.k, .string x.t, .int .i64 x.n]] w' fun e w'' => ∃ p' T', e = .returned (.tuple #[.pointer p', .bool true]) ∧ Below w'.heap.size w' w'' ∧ TreeS w'' p' T' ∧ T'.toList = ins cmpY x r.toList)
          clear hfin hs eh ei hh hsl hsr
          go_enter Try.func101, Try.ntmps101
          go_wp2_with fail
          refine region_tail 6 (by kernel_rfl) (by kernel_rfl) (fun KK hKK => ?_)
          simp only [List.take_succ_cons, List.take_zero]
          repeat (with_reducible refine wpStill_step (fun K hK => ?_); go_simp; (with_reducible refine hK _ ?_); clear hK K)
          refine wpStill_nil (hKK _ _ ?_)
          clear hKK KK
          simp only [List.drop_succ_cons, List.drop_zero]
          go_wp2_with (go_at_call 150; (with_reducible refine (Hcmp.out _).mono ?_); rintro e w1 ⟨rfl, hb1'⟩; have hb1 := ((Below.refl (w.alloc (.cells #[.int .i64 x.k, .string x.t, .int .i64 x.n] 27)).heap.size (w.alloc (.cells #[.int .i64 x.k, .string x.t, .int .i64 x.n] 27))).drew).trans (hb1'.mono (by simp)); clear hb1'; obtain ⟨n0, n1, n2,  m0, m1, m2, m3, m4⟩ := hK.out _ hb1)
          go_wp2_with fail
          go_region_held3 (fun w' => Below w1.heap.size w1 w' ∧ w'.cell? ⟨w.heap.size, 0, none⟩ = some (.int .i64 x.k) ∧ w'.cell? ⟨w.heap.size, 1, none⟩ = some (.string x.t) ∧ w'.cell? ⟨w.heap.size, 2, none⟩ = some (.int .i64 x.n) ∧ w'.cell? ⟨b, 0, none⟩ = some (.pointer pl) ∧ w'.cell? ⟨b, 1, none⟩ = some (.pointer pr) ∧ w'.cell? ⟨b, 2, none⟩ = some (.int .i64 v.k) ∧ w'.cell? ⟨b, 3, none⟩ = some (.string v.t) ∧ w'.cell? ⟨b, 4, none⟩ = some (.int .i64 v.n))
            (first | exact ⟨(Below.refl _ _).drew, hK.out _ hb1.drew⟩ | exact ⟨hBa.out, hK.out _ (hb1.trans (hBa.out.mono hb1.size))⟩ | go_keep)
            (first | (go_at_call 101; (with_reducible refine (HIr.out _ (Hup.out _ hb1.drew)).mono ?_); rintro e w2 ⟨q, Tq, rfl, hb2', h2, h3⟩; have hBa := Lib.hid ((Below.refl w1.heap.size w1).drew.trans hb2'); clear hb2'))
          go_wp2_with fail
          have hb2 := hb1.trans (hBa.out.mono hb1.size)
          obtain ⟨z0, z1, z2,  y0, y1, y2, y3, y4⟩ := hK.out _ hb2
          refine region_tail 9 (by kernel_rfl) (by kernel_rfl) (fun KK hKK => ?_)
          simp only [List.take_succ_cons, List.take_zero]
          repeat (with_reducible refine wpStill_step (fun K hK => ?_); go_simp; (with_reducible refine hK _ ?_); clear hK K)
          refine wpStill_nil (hKK _ _ ?_)
          clear hKK KK
          simp only [List.drop_succ_cons, List.drop_zero]
          go_wp2_with (go_at_call 113; (with_reducible refine (Hbal.out w2 w2.drew pl q l Tq (hl.mono (Hup.out _ hb2)) h2 (Below.refl _ _).drew (by omega) (by rw [BT.size_eq, h3]; omega)).mono ?_); rintro e w3 ⟨q3, T3, rfl, hb3, h6, h7⟩)
          go_ret2
          rw [Hfin.out]
          exact ⟨_, _, rfl, (Hup.out _ hb2).drew.trans (hb3.mono (Hup.out _ hb2).size), h6, by rw [h7, h3]⟩
      · have h0 : cmpY x v = 0 := by omega
        have hhas := has_mid_eq (c := cmpY) (a := l.toList) (b := r.toList) h0
        have hfin : WithOutS w x (BT.node l v r).toList = fun e w' => ∃ p' T', e = .returned (.tuple #[.pointer p', .bool false]) ∧ Below w.heap.size w w' ∧ TreeS w' p' T' ∧ T'.toList = (BT.node l v r).toList := by
          unfold WithOutS; simp only [BT.toList, hhas, ins_has cmpY_cmp hs hhas, Bool.not_true]
        have Hfin := Lib.hid hfin
        clear hfin hs hhas hsize hsizer hsl hsr h0
        go_enter Try.func101, Try.ntmps101
        go_wp2_with fail
        refine region_tail 6 (by kernel_rfl) (by kernel_rfl) (fun KK hKK => ?_)
        simp only [List.take_succ_cons, List.take_zero]
        repeat (with_reducible refine wpStill_step (fun K hK => ?_); go_simp; (with_reducible refine hK _ ?_); clear hK K)
        refine wpStill_nil (hKK _ _ ?_)
        clear hKK KK
        simp only [List.drop_succ_cons, List.drop_zero]
        go_wp2_with (go_at_call 150; (with_reducible refine (Hcmp.out _).mono ?_); rintro e w1 ⟨rfl, hb1'⟩; have hb1 := ((Below.refl (w.alloc (.cells #[.int .i64 x.k, .string x.t, .int .i64 x.n] 27)).heap.size (w.alloc (.cells #[.int .i64 x.k, .string x.t, .int .i64 x.n] 27))).drew).trans (hb1'.mono (by simp)); clear hb1'; obtain ⟨n0, n1, n2,  m0, m1, m2, m3, m4⟩ := hK.out _ hb1)
        go_ret2
        rw [Hfin.out]
        exact ⟨_, _, rfl, Hup.out _ hb1, hself.mono (Hup.out _ hb1), rfl⟩
end Go.Proofs.Ythgidldcblchmaa
