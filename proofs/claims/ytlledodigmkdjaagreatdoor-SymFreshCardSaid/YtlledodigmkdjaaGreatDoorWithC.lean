/-
  Walks over package order at ponder/book.pair[ponder/sym.capital, int]: with. No condition but a bound on sizes.
-/
import Derived.Test.YtlledodigmkdjaaGreatDoorProg
import Derived.Test.YtlledodigmkdjaaGreatDoorKit
import Derived.Test.YtlledodigmkdjaaGreatDoorBalC
import Derived.WalkKit
import Derived.WalkLawsBesides
import Derived.Handy
import Derived.Lib.Hide
import Derived.StillTailTactics
import Derived.BigQuiet
import Derived.Deep.QuietTactic
import Derived.Deep.RegionHeld3
namespace Go.Proofs.YtlledodigmkdjaaGreatDoor
set_option linter.unusedVariables false
open Go.RowKit

def WithOutC (w : World) (x : Pc) (xs : List Pc) (e : Ending) (w' : World) : Prop :=
  ∃ p' T', e = .returned (.tuple #[.pointer p', .bool (!has cmpC x xs)]) ∧ Below w.heap.size w w' ∧ TreeC w' p' T' ∧ T'.toList = ins cmpC x xs
set_option maxHeartbeats 2000000 in
theorem with_leafC (w : World) (x : Pc) : Calls Tryz.prog 90 #[.pointer none, .agg #[.int .u8 x.k, .int .i64 x.v]] w (WithOutC w x []) := by
  have hB : Below w.heap.size w (w.alloc (.cells #[.int .u8 x.k, .int .i64 x.v] 91)) := by go_grown
  have ht := join_anyC (w.alloc (.cells #[.int .u8 x.k, .int .i64 x.v] 91)) (w.alloc (.cells #[.int .u8 x.k, .int .i64 x.v] 91)) none none x .leaf .leaf rfl rfl (Below.refl _ _) (by simp [BT.size]) (by simp [BT.size])
  have Ht := Lib.hid ht
  clear ht
  go_enter Tryz.func90, Tryz.ntmps90
  go_wp2_with (go_at_call 102; (with_reducible refine Ht.out.mono ?_); intro e w1 ho; obtain ⟨q, Tq, rfl, hb1, h2, h3⟩ := ho)
  go_ret2
  exact ⟨q, Tq, rfl, hB.trans (hb1.mono hB.size), h2, h3⟩

set_option maxHeartbeats 4000000 in
theorem with_anyC (x : Pc) (T : BT Pc) : ∀ (W0 w : World) (p : Option Addr), TreeC W0 p T → Below W0.heap.size W0 w → Sorted cmpC T.toList → T.size ≤ 1000000 →
    Calls Tryz.prog 90 #[.pointer p, .agg #[.int .u8 x.k, .int .i64 x.v]] w (WithOutC w x T.toList) := by
  induction T with
  | leaf =>
    intro W0 w p h _ _ _
    obtain rfl : p = none := h
    exact with_leafC w x
  | node l v r ihl ihr =>
    intro W0 w p h hb0 hs hz
    replace h := h.mono hb0
    clear hb0 W0
    have hself := h
    obtain ⟨b, pl, pr, rfl, hc, hl, hr⟩ := h
    simp only [BT.toList] at hs
    obtain ⟨hsl, hsr, -, -⟩ := sorted_mid hs
    simp only [BT.size] at hz
    have hB : Below w.heap.size w (w.alloc (.cells #[.int .u8 x.k, .int .i64 x.v] 91)) := by go_grown
    have hcmp := fun w' => cmp_anyC x v w'
    have hIl := fun w' h => ihl w w' pl hl h hsl (by omega)
    have hIr := fun w' h => ihr w w' pr hr h hsr (by omega)
    have hbal := fun (W0 w' : World) (q q' : Option Addr) (l' r' : BT Pc) h1 h2 h3 h4 h5 => balanced_anyC W0 w' q q' v l' r' h1 h2 h3 h4 h5
    have KEEP : ∀ w', Below (w.alloc (.cells #[.int .u8 x.k, .int .i64 x.v] 91)).heap.size (w.alloc (.cells #[.int .u8 x.k, .int .i64 x.v] 91)) w' → (w'.cell? ⟨w.heap.size, 0, none⟩ = some (.int .u8 x.k) ∧ w'.cell? ⟨w.heap.size, 1, none⟩ = some (.int .i64 x.v) ∧  w'.cell? ⟨b, 0, none⟩ = some (.pointer pl) ∧ w'.cell? ⟨b, 1, none⟩ = some (.pointer pr) ∧ w'.cell? ⟨b, 2, none⟩ = some (.int .u8 v.k) ∧ w'.cell? ⟨b, 3, none⟩ = some (.int .i64 v.v)) := by
      intro w' h
      have hx := cells_of (W := w.alloc (.cells #[.int .u8 x.k, .int .i64 x.v] 91)) (b := w.heap.size) (c := #[.int .u8 x.k, .int .i64 x.v]) (t := 91) (f := (0, 0)) (new_at rfl)
      obtain ⟨d0, d1, d2, d3, -⟩ := node_cellsC (w := w') hc (hB.trans (h.mono hB.size))
      exact ⟨(h.cell (p := ⟨w.heap.size, 0, none⟩) (by simp)).trans (by rw [hx]; rfl), (h.cell (p := ⟨w.heap.size, 1, none⟩) (by simp)).trans (by rw [hx]; rfl),  d0, d1, d2, d3⟩
    have up : ∀ w', Below (w.alloc (.cells #[.int .u8 x.k, .int .i64 x.v] 91)).heap.size (w.alloc (.cells #[.int .u8 x.k, .int .i64 x.v] 91)) w' → Below w.heap.size w w' := fun w' h => hB.trans (h.mono hB.size)
    have hK := Lib.hid KEEP
    have K0 := KEEP _ (Below.refl _ _)
    obtain ⟨x0, x1,  k0, k1, k2, k3⟩ := K0
    have Hcmp := Lib.hid hcmp
    have HIl := Lib.hid hIl
    have HIr := Lib.hid hIr
    have Hbal := Lib.hid hbal
    have Hup := Lib.hid up
    clear KEEP hcmp hIl hIr hbal ihl ihr up
    have hcell : b < w.heap.size := heap_lt hc
    have hsize : (ins cmpC x l.toList).length ≤ l.size + 1 := by rw [BT.size_eq]; exact ins_length _ _
    have hsizer : (ins cmpC x r.toList).length ≤ r.size + 1 := by rw [BT.size_eq]; exact ins_length _ _
    clear hc
    by_cases h1 : cmpC x v < 0
    · have eh := has_mid_lt cmpC_cmp hs h1
      have ei := ins_mid_lt (b := r.toList) h1 (a := l.toList)
      cases hh : has cmpC x l.toList with
      | true =>
        have hfin : WithOutC w x (BT.node l v r).toList = fun e w' => ∃ p' T', e = .returned (.tuple #[.pointer p', .bool false]) ∧ Below w.heap.size w w' ∧ TreeC w' p' T' ∧ T'.toList = (BT.node l v r).toList := by
          unfold WithOutC; simp only [BT.toList, eh, hh, ei, ins_has cmpC_cmp hsl hh, Bool.not_true]
        have Hfin := Lib.hid hfin
        replace HIl := Lib.hid (fun w' h => by have := HIl.out w' h; unfold WithOutC at this; simpa only [hh, Bool.not_true] using this : ∀ w', Below w.heap.size w w' → Calls Tryz.prog 90 #[.pointer pl, .agg #[.int .u8 x.k, .int .i64 x.v]] w' fun e w'' => ∃ p' T', e = .returned (.tuple #[.pointer p', .bool false]) ∧ Below w'.heap.size w' w'' ∧ TreeC w'' p' T' ∧ T'.toList = ins cmpC x l.toList)
        clear hfin hs eh ei hh hsize hsizer hsl hsr
        have hn1 : ¬ 0 < cmpC x v := by omega
        go_enter Tryz.func90, Tryz.ntmps90
        go_wp2_with fail
        refine region_tail 6 (by kernel_rfl) (by kernel_rfl) (fun KK hKK => ?_)
        simp only [List.take_succ_cons, List.take_zero]
        repeat (with_reducible refine wpStill_step (fun K hK => ?_); go_simp; (with_reducible refine hK _ ?_); clear hK K)
        refine wpStill_nil (hKK _ _ ?_)
        clear hKK KK
        simp only [List.drop_succ_cons, List.drop_zero]
        go_wp2_with (go_at_call 145; (with_reducible refine (Hcmp.out _).mono ?_); rintro e w1 ⟨rfl, hb1'⟩; have hb1 := ((Below.refl (w.alloc (.cells #[.int .u8 x.k, .int .i64 x.v] 91)).heap.size (w.alloc (.cells #[.int .u8 x.k, .int .i64 x.v] 91))).drew).trans (hb1'.mono (by simp)); clear hb1'; obtain ⟨n0, n1,  m0, m1, m2, m3⟩ := hK.out _ hb1)
        go_wp2_with fail
        go_region_held3 (fun w' => Below w1.heap.size w1 w' ∧ w'.cell? ⟨w.heap.size, 0, none⟩ = some (.int .u8 x.k) ∧ w'.cell? ⟨w.heap.size, 1, none⟩ = some (.int .i64 x.v) ∧ w'.cell? ⟨b, 0, none⟩ = some (.pointer pl) ∧ w'.cell? ⟨b, 1, none⟩ = some (.pointer pr) ∧ w'.cell? ⟨b, 2, none⟩ = some (.int .u8 v.k) ∧ w'.cell? ⟨b, 3, none⟩ = some (.int .i64 v.v))
          (first | exact ⟨(Below.refl _ _).drew, hK.out _ hb1.drew⟩ | exact ⟨hBa.out, hK.out _ (hb1.trans (hBa.out.mono hb1.size))⟩ | go_keep)
          (first | (go_at_call 90; (with_reducible refine (HIl.out _ (Hup.out _ hb1.drew)).mono ?_); rintro e w2 ⟨q, Tq, rfl, hb2', h2, h3⟩; have hBa := Lib.hid ((Below.refl w1.heap.size w1).drew.trans hb2'); clear hb2'))
        go_wp2_with fail
        go_ret2
        rw [Hfin.out]
        exact ⟨_, _, rfl, (Hup.out _ hb1).trans (hBa.out.mono (Hup.out _ hb1).size), hself.mono ((Hup.out _ hb1).trans (hBa.out.mono (Hup.out _ hb1).size)), rfl⟩
      | false =>
        have hfin : WithOutC w x (BT.node l v r).toList = fun e w' => ∃ p' T', e = .returned (.tuple #[.pointer p', .bool true]) ∧ Below w.heap.size w w' ∧ TreeC w' p' T' ∧ T'.toList = ins cmpC x l.toList ++ v :: r.toList := by
          unfold WithOutC; simp only [BT.toList, eh, hh, ei, Bool.not_false]
        have Hfin := Lib.hid hfin
        replace HIl := Lib.hid (fun w' h => by have := HIl.out w' h; unfold WithOutC at this; simpa only [hh, Bool.not_false] using this : ∀ w', Below w.heap.size w w' → Calls Tryz.prog 90 #[.pointer pl, .agg #[.int .u8 x.k, .int .i64 x.v]] w' fun e w'' => ∃ p' T', e = .returned (.tuple #[.pointer p', .bool true]) ∧ Below w'.heap.size w' w'' ∧ TreeC w'' p' T' ∧ T'.toList = ins cmpC x l.toList)
        clear hfin hs eh ei hh hsl hsr
        go_enter Tryz.func90, Tryz.ntmps90
        go_wp2_with fail
        refine region_tail 6 (by kernel_rfl) (by kernel_rfl) (fun KK hKK => ?_)
        simp only [List.take_succ_cons, List.take_zero]
        repeat (with_reducible refine wpStill_step (fun K hK => ?_); go_simp; (with_reducible refine hK _ ?_); clear hK K)
        refine wpStill_nil (hKK _ _ ?_)
        clear hKK KK
        simp only [List.drop_succ_cons, List.drop_zero]
        go_wp2_with (go_at_call 145; (with_reducible refine (Hcmp.out _).mono ?_); rintro e w1 ⟨rfl, hb1'⟩; have hb1 := ((Below.refl (w.alloc (.cells #[.int .u8 x.k, .int .i64 x.v] 91)).heap.size (w.alloc (.cells #[.int .u8 x.k, .int .i64 x.v] 91))).drew).trans (hb1'.mono (by simp)); clear hb1'; obtain ⟨n0, n1,  m0, m1, m2, m3⟩ := hK.out _ hb1)
        go_wp2_with fail
        go_region_held3 (fun w' => Below w1.heap.size w1 w' ∧ w'.cell? ⟨w.heap.size, 0, none⟩ = some (.int .u8 x.k) ∧ w'.cell? ⟨w.heap.size, 1, none⟩ = some (.int .i64 x.v) ∧ w'.cell? ⟨b, 0, none⟩ = some (.pointer pl) ∧ w'.cell? ⟨b, 1, none⟩ = some (.pointer pr) ∧ w'.cell? ⟨b, 2, none⟩ = some (.int .u8 v.k) ∧ w'.cell? ⟨b, 3, none⟩ = some (.int .i64 v.v))
          (first | exact ⟨(Below.refl _ _).drew, hK.out _ hb1.drew⟩ | exact ⟨hBa.out, hK.out _ (hb1.trans (hBa.out.mono hb1.size))⟩ | go_keep)
          (first | (go_at_call 90; (with_reducible refine (HIl.out _ (Hup.out _ hb1.drew)).mono ?_); rintro e w2 ⟨q, Tq, rfl, hb2', h2, h3⟩; have hBa := Lib.hid ((Below.refl w1.heap.size w1).drew.trans hb2'); clear hb2'))
        go_wp2_with fail
        have hb2 := hb1.trans (hBa.out.mono hb1.size)
        obtain ⟨z0, z1,  y0, y1, y2, y3⟩ := hK.out _ hb2
        refine region_tail 9 (by kernel_rfl) (by kernel_rfl) (fun KK hKK => ?_)
        simp only [List.take_succ_cons, List.take_zero]
        repeat (with_reducible refine wpStill_step (fun K hK => ?_); go_simp; (with_reducible refine hK _ ?_); clear hK K)
        refine wpStill_nil (hKK _ _ ?_)
        clear hKK KK
        simp only [List.drop_succ_cons, List.drop_zero]
        go_wp2_with (go_at_call 103; (with_reducible refine (Hbal.out w2 w2.drew q pr Tq r h2 (hr.mono (Hup.out _ hb2)) (Below.refl _ _).drew (by rw [BT.size_eq, h3]; omega) (by omega)).mono ?_); rintro e w3 ⟨q3, T3, rfl, hb3, h6, h7⟩)
        go_ret2
        rw [Hfin.out]
        exact ⟨_, _, rfl, (Hup.out _ hb2).drew.trans (hb3.mono (Hup.out _ hb2).size), h6, by rw [h7, h3]⟩
    · by_cases h1g : 0 < cmpC x v
      · have eh := has_mid_gt cmpC_cmp hs h1g
        have ei := ins_mid_gt cmpC_cmp hs h1g
        cases hh : has cmpC x r.toList with
        | true =>
          have hfin : WithOutC w x (BT.node l v r).toList = fun e w' => ∃ p' T', e = .returned (.tuple #[.pointer p', .bool false]) ∧ Below w.heap.size w w' ∧ TreeC w' p' T' ∧ T'.toList = (BT.node l v r).toList := by
            unfold WithOutC; simp only [BT.toList, eh, hh, ei, ins_has cmpC_cmp hsr hh, Bool.not_true]
          have Hfin := Lib.hid hfin
          replace HIr := Lib.hid (fun w' h => by have := HIr.out w' h; unfold WithOutC at this; simpa only [hh, Bool.not_true] using this : ∀ w', Below w.heap.size w w' → Calls Tryz.prog 90 #[.pointer pr, .agg #[.int .u8 x.k, .int .i64 x.v]] w' fun e w'' => ∃ p' T', e = .returned (.tuple #[.pointer p', .bool false]) ∧ Below w'.heap.size w' w'' ∧ TreeC w'' p' T' ∧ T'.toList = ins cmpC x r.toList)
          clear hfin hs eh ei hh hsize hsizer hsl hsr
          go_enter Tryz.func90, Tryz.ntmps90
          go_wp2_with fail
          refine region_tail 6 (by kernel_rfl) (by kernel_rfl) (fun KK hKK => ?_)
          simp only [List.take_succ_cons, List.take_zero]
          repeat (with_reducible refine wpStill_step (fun K hK => ?_); go_simp; (with_reducible refine hK _ ?_); clear hK K)
          refine wpStill_nil (hKK _ _ ?_)
          clear hKK KK
          simp only [List.drop_succ_cons, List.drop_zero]
          go_wp2_with (go_at_call 145; (with_reducible refine (Hcmp.out _).mono ?_); rintro e w1 ⟨rfl, hb1'⟩; have hb1 := ((Below.refl (w.alloc (.cells #[.int .u8 x.k, .int .i64 x.v] 91)).heap.size (w.alloc (.cells #[.int .u8 x.k, .int .i64 x.v] 91))).drew).trans (hb1'.mono (by simp)); clear hb1'; obtain ⟨n0, n1,  m0, m1, m2, m3⟩ := hK.out _ hb1)
          go_wp2_with fail
          go_region_held3 (fun w' => Below w1.heap.size w1 w' ∧ w'.cell? ⟨w.heap.size, 0, none⟩ = some (.int .u8 x.k) ∧ w'.cell? ⟨w.heap.size, 1, none⟩ = some (.int .i64 x.v) ∧ w'.cell? ⟨b, 0, none⟩ = some (.pointer pl) ∧ w'.cell? ⟨b, 1, none⟩ = some (.pointer pr) ∧ w'.cell? ⟨b, 2, none⟩ = some (.int .u8 v.k) ∧ w'.cell? ⟨b, 3, none⟩ = some (.int .i64 v.v))
            (first | exact ⟨(Below.refl _ _).drew, hK.out _ hb1.drew⟩ | exact ⟨hBa.out, hK.out _ (hb1.trans (hBa.out.mono hb1.size))⟩ | go_keep)
            (first | (go_at_call 90; (with_reducible refine (HIr.out _ (Hup.out _ hb1.drew)).mono ?_); rintro e w2 ⟨q, Tq, rfl, hb2', h2, h3⟩; have hBa := Lib.hid ((Below.refl w1.heap.size w1).drew.trans hb2'); clear hb2'))
          go_wp2_with fail
          go_ret2
          rw [Hfin.out]
          exact ⟨_, _, rfl, (Hup.out _ hb1).trans (hBa.out.mono (Hup.out _ hb1).size), hself.mono ((Hup.out _ hb1).trans (hBa.out.mono (Hup.out _ hb1).size)), rfl⟩
        | false =>
          have hfin : WithOutC w x (BT.node l v r).toList = fun e w' => ∃ p' T', e = .returned (.tuple #[.pointer p', .bool true]) ∧ Below w.heap.size w w' ∧ TreeC w' p' T' ∧ T'.toList = l.toList ++ v :: ins cmpC x r.toList := by
            unfold WithOutC; simp only [BT.toList, eh, hh, ei, Bool.not_false]
          have Hfin := Lib.hid hfin
          replace HIr := Lib.hid (fun w' h => by have := HIr.out w' h; unfold WithOutC at this; simpa only [hh, Bool.not_false] using this : ∀ w', Below w.heap.size w w' → Calls Tryz.prog 90 #[.pointer pr, .agg #[.int .u8 x.k, .int .i64 x.v]] w' fun e w'' => ∃ p' T', e = .returned (.tuple #[.pointer p', .bool true]) ∧ Below w'.heap.size w' w'' ∧ TreeC w'' p' T' ∧ T'.toList = ins cmpC x r.toList)
          clear hfin hs eh ei hh hsl hsr
          go_enter Tryz.func90, Tryz.ntmps90
          go_wp2_with fail
          refine region_tail 6 (by kernel_rfl) (by kernel_rfl) (fun KK hKK => ?_)
          simp only [List.take_succ_cons, List.take_zero]
          repeat (with_reducible refine wpStill_step (fun K hK => ?_); go_simp; (with_reducible refine hK _ ?_); clear hK K)
          refine wpStill_nil (hKK _ _ ?_)
          clear hKK KK
          simp only [List.drop_succ_cons, List.drop_zero]
          go_wp2_with (go_at_call 145; (with_reducible refine (Hcmp.out _).mono ?_); rintro e w1 ⟨rfl, hb1'⟩; have hb1 := ((Below.refl (w.alloc (.cells #[.int .u8 x.k, .int .i64 x.v] 91)).heap.size (w.alloc (.cells #[.int .u8 x.k, .int .i64 x.v] 91))).drew).trans (hb1'.mono (by simp)); clear hb1'; obtain ⟨n0, n1,  m0, m1, m2, m3⟩ := hK.out _ hb1)
          go_wp2_with fail
          go_region_held3 (fun w' => Below w1.heap.size w1 w' ∧ w'.cell? ⟨w.heap.size, 0, none⟩ = some (.int .u8 x.k) ∧ w'.cell? ⟨w.heap.size, 1, none⟩ = some (.int .i64 x.v) ∧ w'.cell? ⟨b, 0, none⟩ = some (.pointer pl) ∧ w'.cell? ⟨b, 1, none⟩ = some (.pointer pr) ∧ w'.cell? ⟨b, 2, none⟩ = some (.int .u8 v.k) ∧ w'.cell? ⟨b, 3, none⟩ = some (.int .i64 v.v))
            (first | exact ⟨(Below.refl _ _).drew, hK.out _ hb1.drew⟩ | exact ⟨hBa.out, hK.out _ (hb1.trans (hBa.out.mono hb1.size))⟩ | go_keep)
            (first | (go_at_call 90; (with_reducible refine (HIr.out _ (Hup.out _ hb1.drew)).mono ?_); rintro e w2 ⟨q, Tq, rfl, hb2', h2, h3⟩; have hBa := Lib.hid ((Below.refl w1.heap.size w1).drew.trans hb2'); clear hb2'))
          go_wp2_with fail
          have hb2 := hb1.trans (hBa.out.mono hb1.size)
          obtain ⟨z0, z1,  y0, y1, y2, y3⟩ := hK.out _ hb2
          refine region_tail 9 (by kernel_rfl) (by kernel_rfl) (fun KK hKK => ?_)
          simp only [List.take_succ_cons, List.take_zero]
          repeat (with_reducible refine wpStill_step (fun K hK => ?_); go_simp; (with_reducible refine hK _ ?_); clear hK K)
          refine wpStill_nil (hKK _ _ ?_)
          clear hKK KK
          simp only [List.drop_succ_cons, List.drop_zero]
          go_wp2_with (go_at_call 103; (with_reducible refine (Hbal.out w2 w2.drew pl q l Tq (hl.mono (Hup.out _ hb2)) h2 (Below.refl _ _).drew (by omega) (by rw [BT.size_eq, h3]; omega)).mono ?_); rintro e w3 ⟨q3, T3, rfl, hb3, h6, h7⟩)
          go_ret2
          rw [Hfin.out]
          exact ⟨_, _, rfl, (Hup.out _ hb2).drew.trans (hb3.mono (Hup.out _ hb2).size), h6, by rw [h7, h3]⟩
      · have h0 : cmpC x v = 0 := by omega
        have hhas := has_mid_eq (c := cmpC) (a := l.toList) (b := r.toList) h0
        have hfin : WithOutC w x (BT.node l v r).toList = fun e w' => ∃ p' T', e = .returned (.tuple #[.pointer p', .bool false]) ∧ Below w.heap.size w w' ∧ TreeC w' p' T' ∧ T'.toList = (BT.node l v r).toList := by
          unfold WithOutC; simp only [BT.toList, hhas, ins_has cmpC_cmp hs hhas, Bool.not_true]
        have Hfin := Lib.hid hfin
        clear hfin hs hhas hsize hsizer hsl hsr h0
        go_enter Tryz.func90, Tryz.ntmps90
        go_wp2_with fail
        refine region_tail 6 (by kernel_rfl) (by kernel_rfl) (fun KK hKK => ?_)
        simp only [List.take_succ_cons, List.take_zero]
        repeat (with_reducible refine wpStill_step (fun K hK => ?_); go_simp; (with_reducible refine hK _ ?_); clear hK K)
        refine wpStill_nil (hKK _ _ ?_)
        clear hKK KK
        simp only [List.drop_succ_cons, List.drop_zero]
        go_wp2_with (go_at_call 145; (with_reducible refine (Hcmp.out _).mono ?_); rintro e w1 ⟨rfl, hb1'⟩; have hb1 := ((Below.refl (w.alloc (.cells #[.int .u8 x.k, .int .i64 x.v] 91)).heap.size (w.alloc (.cells #[.int .u8 x.k, .int .i64 x.v] 91))).drew).trans (hb1'.mono (by simp)); clear hb1'; obtain ⟨n0, n1,  m0, m1, m2, m3⟩ := hK.out _ hb1)
        go_ret2
        rw [Hfin.out]
        exact ⟨_, _, rfl, Hup.out _ hb1, hself.mono (Hup.out _ hb1), rfl⟩
end Go.Proofs.YtlledodigmkdjaaGreatDoor
