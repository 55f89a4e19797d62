/-
  Walks over package order at ponder/api.Sym: without, Drop. No condition but bounds on sizes.
-/
import Derived.Test.YthgidldcblchmaaGluedP
import Derived.Test.YthgidldcblchmaaKit5
import Derived.Test.YthgidldcblchmaaSetP
namespace Go.Proofs.Ythgidldcblchmaa
set_option linter.unusedVariables false
open Go.RowKit
def DelOutP (w : World) (x : Pr) (xs : List Pr) (e : Ending) (w' : World) : Prop :=
  ∃ p' T', e = .returned (.tuple #[.pointer p', .bool (has cmpP x xs)]) ∧ Below w.heap.size w w' ∧ TreeP w' p' T' ∧ T'.toList = del cmpP x xs
set_option maxHeartbeats 2000000 in
theorem without_leafP (w : World) (x : Pr) : Calls Try.prog 88 #[.pointer none, .agg #[.int .i64 x.k.k, .string x.k.t, .int .i64 x.k.n, .int .i64 x.v]] w (DelOutP w x []) := by
  have hfin : ∀ w', Below w.heap.size w w' → DelOutP w x [] (.returned (.tuple #[.pointer none, .bool false])) w' := fun w' h => ⟨none, .leaf, rfl, h, rfl, rfl⟩
  have Hfin := Lib.hid hfin
  clear hfin
  go_enter Try.func88, Try.ntmps88
  go_wp2_with fail
  go_ret2
  exact Hfin.out _ (by go_grown)

set_option maxHeartbeats 4000000 in
theorem without_anyP (x : Pr) (T : BT Pr) : ∀ (W0 w : World) (p : Option Addr), TreeP W0 p T → Below W0.heap.size W0 w → Sorted cmpP T.toList → T.size ≤ 1000000 →
    Calls Try.prog 88 #[.pointer p, .agg #[.int .i64 x.k.k, .string x.k.t, .int .i64 x.k.n, .int .i64 x.v]] w (DelOutP w x T.toList) := by
  induction T with
  | leaf =>
    intro W0 w p h _ _ _
    obtain rfl : p = none := h
    exact without_leafP w x
  | node l v r ihl ihr =>
    intro W0 w p h hb0 hs hz
    replace h := h.mono hb0
    clear hb0 W0
    have hself := h
    obtain ⟨b, pl, pr, rfl, hc, hl, hr⟩ := h
    simp only [BT.toList] at hs
    obtain ⟨hsl, hsr, -, -⟩ := sorted_mid hs
    simp only [BT.size] at hz
    have hB : Below w.heap.size w (w.alloc (.cells #[.int .i64 x.k.k, .string x.k.t, .int .i64 x.k.n, .int .i64 x.v] 100)) := by go_grown
    have hcmp := fun w' => cmp_anyP x v w'
    have hIl := fun w' h => ihl w w' pl hl h hsl (by omega)
    have hIr := fun w' h => ihr w w' pr hr h hsr (by omega)
    have hbal := fun (W0 w' : World) (q q' : Option Addr) (l' r' : BT Pr) h1 h2 h3 h4 h5 => balanced_anyP W0 w' q q' v l' r' h1 h2 h3 h4 h5
    have KEEP : ∀ w', Below (w.alloc (.cells #[.int .i64 x.k.k, .string x.k.t, .int .i64 x.k.n, .int .i64 x.v] 100)).heap.size (w.alloc (.cells #[.int .i64 x.k.k, .string x.k.t, .int .i64 x.k.n, .int .i64 x.v] 100)) w' → (w'.cell? ⟨w.heap.size, 0, none⟩ = some (.int .i64 x.k.k) ∧ w'.cell? ⟨w.heap.size, 1, none⟩ = some (.string x.k.t) ∧ w'.cell? ⟨w.heap.size, 2, none⟩ = some (.int .i64 x.k.n) ∧ w'.cell? ⟨w.heap.size, 3, none⟩ = some (.int .i64 x.v) ∧  w'.cell? ⟨b, 0, none⟩ = some (.pointer pl) ∧ w'.cell? ⟨b, 1, none⟩ = some (.pointer pr) ∧ w'.cell? ⟨b, 2, none⟩ = some (.int .i64 v.k.k) ∧ w'.cell? ⟨b, 3, none⟩ = some (.string v.k.t) ∧ w'.cell? ⟨b, 4, none⟩ = some (.int .i64 v.k.n) ∧ w'.cell? ⟨b, 5, none⟩ = some (.int .i64 v.v)) := by
      intro w' h
      have hx := cells_of (W := w.alloc (.cells #[.int .i64 x.k.k, .string x.k.t, .int .i64 x.k.n, .int .i64 x.v] 100)) (b := w.heap.size) (c := #[.int .i64 x.k.k, .string x.k.t, .int .i64 x.k.n, .int .i64 x.v]) (t := 100) (f := (0, 0)) (new_at rfl)
      obtain ⟨d0, d1, d2, d3, d4, d5, -⟩ := node_cellsP (w := w') hc (hB.trans (h.mono hB.size))
      exact ⟨(h.cell (p := ⟨w.heap.size, 0, none⟩) (by simp)).trans (by rw [hx]; rfl), (h.cell (p := ⟨w.heap.size, 1, none⟩) (by simp)).trans (by rw [hx]; rfl), (h.cell (p := ⟨w.heap.size, 2, none⟩) (by simp)).trans (by rw [hx]; rfl), (h.cell (p := ⟨w.heap.size, 3, none⟩) (by simp)).trans (by rw [hx]; rfl),  d0, d1, d2, d3, d4, d5⟩
    have up : ∀ w', Below (w.alloc (.cells #[.int .i64 x.k.k, .string x.k.t, .int .i64 x.k.n, .int .i64 x.v] 100)).heap.size (w.alloc (.cells #[.int .i64 x.k.k, .string x.k.t, .int .i64 x.k.n, .int .i64 x.v] 100)) w' → Below w.heap.size w w' := fun w' h => hB.trans (h.mono hB.size)
    have hK := Lib.hid KEEP
    have K0 := KEEP _ (Below.refl _ _)
    obtain ⟨x0, x1, x2, x3, k0, k1, k2, k3, k4, k5⟩ := K0
    have Hcmp := Lib.hid hcmp
    have HIl := Lib.hid hIl
    have HIr := Lib.hid hIr
    have Hbal := Lib.hid hbal
    have Hup := Lib.hid up
    clear KEEP hcmp hIl hIr hbal ihl ihr up
    have hcell : b < w.heap.size := heap_lt hc
    have hsize : (del cmpP x l.toList).length ≤ l.size := by rw [BT.size_eq]; exact del_length _ _
    have hsizer : (del cmpP x r.toList).length ≤ r.size := by rw [BT.size_eq]; exact del_length _ _
    clear hc
    by_cases h1 : cmpP x v < 0
    · have eh := has_mid_lt cmpP_cmp hs h1
      have ei := del_mid_lt cmpP_cmp hs h1
      have h0b : (cmpP x v == 0) = false := by simp; omega
      cases hh : has cmpP x l.toList with
      | false =>
        have hfin : DelOutP w x (BT.node l v r).toList = fun e w' => ∃ p' T', e = .returned (.tuple #[.pointer p', .bool false]) ∧ Below w.heap.size w w' ∧ TreeP w' p' T' ∧ T'.toList = (BT.node l v r).toList := by
          unfold DelOutP; simp only [BT.toList, eh, hh, ei, del_none hh]
        have Hfin := Lib.hid hfin
        replace HIl := Lib.hid (fun w' h => by have := HIl.out w' h; unfold DelOutP at this; simpa only [hh] using this : ∀ w', Below w.heap.size w w' → Calls Try.prog 88 #[.pointer pl, .agg #[.int .i64 x.k.k, .string x.k.t, .int .i64 x.k.n, .int .i64 x.v]] w' fun e w'' => ∃ p' T', e = .returned (.tuple #[.pointer p', .bool false]) ∧ Below w'.heap.size w' w'' ∧ TreeP w'' p' T' ∧ T'.toList = del cmpP x l.toList)
        clear hfin hs eh ei hh hsize hsizer hsl hsr
        have hn1 : ¬ 0 < cmpP x v := by omega
        go_enter Try.func88, Try.ntmps88
        go_wp2_with fail
        refine region_tail 6 (by kernel_rfl) (by kernel_rfl) (fun KK hKK => ?_)
        simp only [List.take_succ_cons, List.take_zero]
        repeat (with_reducible refine wpStill_step (fun K hK => ?_); go_simp; (with_reducible refine hK _ ?_); clear hK K)
        refine wpStill_nil (hKK _ _ ?_)
        clear hKK KK
        simp only [List.drop_succ_cons, List.drop_zero]
        go_wp2_with (go_at_call 171; (with_reducible refine (Hcmp.out _).mono ?_); rintro e w1 ⟨rfl, hb1'⟩; have hb1 := ((Below.refl (w.alloc (.cells #[.int .i64 x.k.k, .string x.k.t, .int .i64 x.k.n, .int .i64 x.v] 100)).heap.size (w.alloc (.cells #[.int .i64 x.k.k, .string x.k.t, .int .i64 x.k.n, .int .i64 x.v] 100))).drew).trans (hb1'.mono (by simp)); clear hb1'; obtain ⟨n0, n1, n2, n3, m0, m1, m2, m3, m4, m5⟩ := hK.out _ hb1)
        go_wp2_with fail
        go_region_held3 (fun w' => Below w1.heap.size w1 w' ∧ w'.cell? ⟨w.heap.size, 0, none⟩ = some (.int .i64 x.k.k) ∧ w'.cell? ⟨w.heap.size, 1, none⟩ = some (.string x.k.t) ∧ w'.cell? ⟨w.heap.size, 2, none⟩ = some (.int .i64 x.k.n) ∧ w'.cell? ⟨w.heap.size, 3, none⟩ = some (.int .i64 x.v) ∧ w'.cell? ⟨b, 0, none⟩ = some (.pointer pl) ∧ w'.cell? ⟨b, 1, none⟩ = some (.pointer pr) ∧ w'.cell? ⟨b, 2, none⟩ = some (.int .i64 v.k.k) ∧ w'.cell? ⟨b, 3, none⟩ = some (.string v.k.t) ∧ w'.cell? ⟨b, 4, none⟩ = some (.int .i64 v.k.n) ∧ w'.cell? ⟨b, 5, none⟩ = some (.int .i64 v.v))
          (first | exact ⟨(Below.refl _ _).drew, hK.out _ hb1.drew⟩ | exact ⟨hBa.out, hK.out _ (hb1.trans (hBa.out.mono hb1.size))⟩ | go_keep)
          (first | (go_at_call 88; (with_reducible refine (HIl.out _ (Hup.out _ hb1.drew)).mono ?_); rintro e w2 ⟨q, Tq, rfl, hb2', h2, h3⟩; have hBa := Lib.hid ((Below.refl w1.heap.size w1).drew.trans hb2'); clear hb2'))
        go_wp2_with fail
        go_ret2
        rw [Hfin.out]
        exact ⟨_, _, rfl, (Hup.out _ hb1).trans (hBa.out.mono (Hup.out _ hb1).size), hself.mono ((Hup.out _ hb1).trans (hBa.out.mono (Hup.out _ hb1).size)), rfl⟩
      | true =>
        have hfin : DelOutP w x (BT.node l v r).toList = fun e w' => ∃ p' T', e = .returned (.tuple #[.pointer p', .bool true]) ∧ Below w.heap.size w w' ∧ TreeP w' p' T' ∧ T'.toList = del cmpP x l.toList ++ v :: r.toList := by
          unfold DelOutP; simp only [BT.toList, eh, hh, ei]
        have Hfin := Lib.hid hfin
        replace HIl := Lib.hid (fun w' h => by have := HIl.out w' h; unfold DelOutP at this; simpa only [hh] using this : ∀ w', Below w.heap.size w w' → Calls Try.prog 88 #[.pointer pl, .agg #[.int .i64 x.k.k, .string x.k.t, .int .i64 x.k.n, .int .i64 x.v]] w' fun e w'' => ∃ p' T', e = .returned (.tuple #[.pointer p', .bool true]) ∧ Below w'.heap.size w' w'' ∧ TreeP w'' p' T' ∧ T'.toList = del cmpP x l.toList)
        clear hfin hs eh ei hh hsl hsr
        go_enter Try.func88, Try.ntmps88
        go_wp2_with fail
        refine region_tail 6 (by kernel_rfl) (by kernel_rfl) (fun KK hKK => ?_)
        simp only [List.take_succ_cons, List.take_zero]
        repeat (with_reducible refine wpStill_step (fun K hK => ?_); go_simp; (with_reducible refine hK _ ?_); clear hK K)
        refine wpStill_nil (hKK _ _ ?_)
        clear hKK KK
        simp only [List.drop_succ_cons, List.drop_zero]
        go_wp2_with (go_at_call 171; (with_reducible refine (Hcmp.out _).mono ?_); rintro e w1 ⟨rfl, hb1'⟩; have hb1 := ((Below.refl (w.alloc (.cells #[.int .i64 x.k.k, .string x.k.t, .int .i64 x.k.n, .int .i64 x.v] 100)).heap.size (w.alloc (.cells #[.int .i64 x.k.k, .string x.k.t, .int .i64 x.k.n, .int .i64 x.v] 100))).drew).trans (hb1'.mono (by simp)); clear hb1'; obtain ⟨n0, n1, n2, n3, m0, m1, m2, m3, m4, m5⟩ := hK.out _ hb1)
        go_wp2_with fail
        go_region_held3 (fun w' => Below w1.heap.size w1 w' ∧ w'.cell? ⟨w.heap.size, 0, none⟩ = some (.int .i64 x.k.k) ∧ w'.cell? ⟨w.heap.size, 1, none⟩ = some (.string x.k.t) ∧ w'.cell? ⟨w.heap.size, 2, none⟩ = some (.int .i64 x.k.n) ∧ w'.cell? ⟨w.heap.size, 3, none⟩ = some (.int .i64 x.v) ∧ w'.cell? ⟨b, 0, none⟩ = some (.pointer pl) ∧ w'.cell? ⟨b, 1, none⟩ = some (.pointer pr) ∧ w'.cell? ⟨b, 2, none⟩ = some (.int .i64 v.k.k) ∧ w'.cell? ⟨b, 3, none⟩ = some (.string v.k.t) ∧ w'.cell? ⟨b, 4, none⟩ = some (.int .i64 v.k.n) ∧ w'.cell? ⟨b, 5, none⟩ = some (.int .i64 v.v))
          (first | exact ⟨(Below.refl _ _).drew, hK.out _ hb1.drew⟩ | exact ⟨hBa.out, hK.out _ (hb1.trans (hBa.out.mono hb1.size))⟩ | go_keep)
          (first | (go_at_call 88; (with_reducible refine (HIl.out _ (Hup.out _ hb1.drew)).mono ?_); rintro e w2 ⟨q, Tq, rfl, hb2', h2, h3⟩; have hBa := Lib.hid ((Below.refl w1.heap.size w1).drew.trans hb2'); clear hb2'))
        go_wp2_with fail
        have hb2 := hb1.trans (hBa.out.mono hb1.size)
        obtain ⟨z0, z1, z2, z3, y0, y1, y2, y3, y4, y5⟩ := hK.out _ hb2
        refine region_tail 9 (by kernel_rfl) (by kernel_rfl) (fun KK hKK => ?_)
        simp only [List.take_succ_cons, List.take_zero]
        repeat (with_reducible refine wpStill_step (fun K hK => ?_); go_simp; (with_reducible refine hK _ ?_); clear hK K)
        refine wpStill_nil (hKK _ _ ?_)
        clear hKK KK
        simp only [List.drop_succ_cons, List.drop_zero]
        go_wp2_with (go_at_call 105; (with_reducible refine (Hbal.out w2 w2.drew q pr Tq r h2 (hr.mono (Hup.out _ hb2)) (Below.refl _ _).drew (by rw [BT.size_eq, h3]; omega) (by omega)).mono ?_); rintro e w3 ⟨q3, T3, rfl, hb3, h6, h7⟩)
        go_ret2
        rw [Hfin.out]
        exact ⟨_, _, rfl, (Hup.out _ hb2).drew.trans (hb3.mono (Hup.out _ hb2).size), h6, by rw [h7, h3]⟩
    · by_cases h1g : 0 < cmpP x v
      · have eh := has_mid_gt cmpP_cmp hs h1g
        have ei := del_mid_gt cmpP_cmp hs h1g
        have h0b : (cmpP x v == 0) = false := by simp; omega
        cases hh : has cmpP x r.toList with
        | false =>
          have hfin : DelOutP w x (BT.node l v r).toList = fun e w' => ∃ p' T', e = .returned (.tuple #[.pointer p', .bool false]) ∧ Below w.heap.size w w' ∧ TreeP w' p' T' ∧ T'.toList = (BT.node l v r).toList := by
            unfold DelOutP; simp only [BT.toList, eh, hh, ei, del_none hh]
          have Hfin := Lib.hid hfin
          replace HIr := Lib.hid (fun w' h => by have := HIr.out w' h; unfold DelOutP at this; simpa only [hh] using this : ∀ w', Below w.heap.size w w' → Calls Try.prog 88 #[.pointer pr, .agg #[.int .i64 x.k.k, .string x.k.t, .int .i64 x.k.n, .int .i64 x.v]] w' fun e w'' => ∃ p' T', e = .returned (.tuple #[.pointer p', .bool false]) ∧ Below w'.heap.size w' w'' ∧ TreeP w'' p' T' ∧ T'.toList = del cmpP x r.toList)
          clear hfin hs eh ei hh hsize hsizer hsl hsr
          go_enter Try.func88, Try.ntmps88
          go_wp2_with fail
          refine region_tail 6 (by kernel_rfl) (by kernel_rfl) (fun KK hKK => ?_)
          simp only [List.take_succ_cons, List.take_zero]
          repeat (with_reducible refine wpStill_step (fun K hK => ?_); go_simp; (with_reducible refine hK _ ?_); clear hK K)
          refine wpStill_nil (hKK _ _ ?_)
          clear hKK KK
          simp only [List.drop_succ_cons, List.drop_zero]
          go_wp2_with (go_at_call 171; (with_reducible refine (Hcmp.out _).mono ?_); rintro e w1 ⟨rfl, hb1'⟩; have hb1 := ((Below.refl (w.alloc (.cells #[.int .i64 x.k.k, .string x.k.t, .int .i64 x.k.n, .int .i64 x.v] 100)).heap.size (w.alloc (.cells #[.int .i64 x.k.k, .string x.k.t, .int .i64 x.k.n, .int .i64 x.v] 100))).drew).trans (hb1'.mono (by simp)); clear hb1'; obtain ⟨n0, n1, n2, n3, m0, m1, m2, m3, m4, m5⟩ := hK.out _ hb1)
          go_wp2_with fail
          go_region_held3 (fun w' => Below w1.heap.size w1 w' ∧ w'.cell? ⟨w.heap.size, 0, none⟩ = some (.int .i64 x.k.k) ∧ w'.cell? ⟨w.heap.size, 1, none⟩ = some (.string x.k.t) ∧ w'.cell? ⟨w.heap.size, 2, none⟩ = some (.int .i64 x.k.n) ∧ w'.cell? ⟨w.heap.size, 3, none⟩ = some (.int .i64 x.v) ∧ w'.cell? ⟨b, 0, none⟩ = some (.pointer pl) ∧ w'.cell? ⟨b, 1, none⟩ = some (.pointer pr) ∧ w'.cell? ⟨b, 2, none⟩ = some (.int .i64 v.k.k) ∧ w'.cell? ⟨b, 3, none⟩ = some (.string v.k.t) ∧ w'.cell? ⟨b, 4, none⟩ = some (.int .i64 v.k.n) ∧ w'.cell? ⟨b, 5, none⟩ = some (.int .i64 v.v))
            (first | exact ⟨(Below.refl _ _).drew, hK.out _ hb1.drew⟩ | exact ⟨hBa.out, hK.out _ (hb1.trans (hBa.out.mono hb1.size))⟩ | go_keep)
            (first | (go_at_call 88; (with_reducible refine (HIr.out _ (Hup.out _ hb1.drew)).mono ?_); rintro e w2 ⟨q, Tq, rfl, hb2', h2, h3⟩; have hBa := Lib.hid ((Below.refl w1.heap.size w1).drew.trans hb2'); clear hb2'))
          go_wp2_with fail
          go_ret2
          rw [Hfin.out]
          exact ⟨_, _, rfl, (Hup.out _ hb1).trans (hBa.out.mono (Hup.out _ hb1).size), hself.mono ((Hup.out _ hb1).trans (hBa.out.mono (Hup.out _ hb1).size)), rfl⟩
        | true =>
          have hfin : DelOutP w x (BT.node l v r).toList = fun e w' => ∃ p' T', e = .returned (.tuple #[.pointer p', .bool true]) ∧ Below w.heap.size w w' ∧ TreeP w' p' T' ∧ T'.toList = l.toList ++ v :: del cmpP x r.toList := by
            unfold DelOutP; simp only [BT.toList, eh, hh, ei]
          have Hfin := Lib.hid hfin
          replace HIr := Lib.hid (fun w' h => by have := HIr.out w' h; unfold DelOutP at this; simpa only [hh] using this : ∀ w', Below w.heap.size w w' → Calls Try.prog 88 #[.pointer pr, .agg #[.int .i64 x.k.k, .string x.k.t, .int .i64 x.k.n, .int .i64 x.v]] w' fun e w'' => ∃ p' T', e = .returned (.tuple #[.pointer p', .bool true]) ∧ Below w'.heap.size w' w'' ∧ TreeP w'' p' T' ∧ T'.toList = del cmpP x r.toList)
          clear hfin hs eh ei hh hsl hsr
          go_enter Try.func88, Try.ntmps88
          go_wp2_with fail
          refine region_tail 6 (by kernel_rfl) (by kernel_rfl) (fun KK hKK => ?_)
          simp only [List.take_succ_cons, List.take_zero]
          repeat (with_reducible refine wpStill_step (fun K hK => ?_); go_simp; (with_reducible refine hK _ ?_); clear hK K)
          refine wpStill_nil (hKK _ _ ?_)
          clear hKK KK
          simp only [List.drop_succ_cons, List.drop_zero]
          go_wp2_with (go_at_call 171; (with_reducible refine (Hcmp.out _).mono ?_); rintro e w1 ⟨rfl, hb1'⟩; have hb1 := ((Below.refl (w.alloc (.cells #[.int .i64 x.k.k, .string x.k.t, .int .i64 x.k.n, .int .i64 x.v] 100)).heap.size (w.alloc (.cells #[.int .i64 x.k.k, .string x.k.t, .int .i64 x.k.n, .int .i64 x.v] 100))).drew).trans (hb1'.mono (by simp)); clear hb1'; obtain ⟨n0, n1, n2, n3, m0, m1, m2, m3, m4, m5⟩ := hK.out _ hb1)
          go_wp2_with fail
          go_region_held3 (fun w' => Below w1.heap.size w1 w' ∧ w'.cell? ⟨w.heap.size, 0, none⟩ = some (.int .i64 x.k.k) ∧ w'.cell? ⟨w.heap.size, 1, none⟩ = some (.string x.k.t) ∧ w'.cell? ⟨w.heap.size, 2, none⟩ = some (.int .i64 x.k.n) ∧ w'.cell? ⟨w.heap.size, 3, none⟩ = some (.int .i64 x.v) ∧ w'.cell? ⟨b, 0, none⟩ = some (.pointer pl) ∧ w'.cell? ⟨b, 1, none⟩ = some (.pointer pr) ∧ w'.cell? ⟨b, 2, none⟩ = some (.int .i64 v.k.k) ∧ w'.cell? ⟨b, 3, none⟩ = some (.string v.k.t) ∧ w'.cell? ⟨b, 4, none⟩ = some (.int .i64 v.k.n) ∧ w'.cell? ⟨b, 5, none⟩ = some (.int .i64 v.v))
            (first | exact ⟨(Below.refl _ _).drew, hK.out _ hb1.drew⟩ | exact ⟨hBa.out, hK.out _ (hb1.trans (hBa.out.mono hb1.size))⟩ | go_keep)
            (first | (go_at_call 88; (with_reducible refine (HIr.out _ (Hup.out _ hb1.drew)).mono ?_); rintro e w2 ⟨q, Tq, rfl, hb2', h2, h3⟩; have hBa := Lib.hid ((Below.refl w1.heap.size w1).drew.trans hb2'); clear hb2'))
          go_wp2_with fail
          have hb2 := hb1.trans (hBa.out.mono hb1.size)
          obtain ⟨z0, z1, z2, z3, y0, y1, y2, y3, y4, y5⟩ := hK.out _ hb2
          refine region_tail 9 (by kernel_rfl) (by kernel_rfl) (fun KK hKK => ?_)
          simp only [List.take_succ_cons, List.take_zero]
          repeat (with_reducible refine wpStill_step (fun K hK => ?_); go_simp; (with_reducible refine hK _ ?_); clear hK K)
          refine wpStill_nil (hKK _ _ ?_)
          clear hKK KK
          simp only [List.drop_succ_cons, List.drop_zero]
          go_wp2_with (go_at_call 105; (with_reducible refine (Hbal.out w2 w2.drew pl q l Tq (hl.mono (Hup.out _ hb2)) h2 (Below.refl _ _).drew (by omega) (by rw [BT.size_eq, h3]; omega)).mono ?_); rintro e w3 ⟨q3, T3, rfl, hb3, h6, h7⟩)
          go_ret2
          rw [Hfin.out]
          exact ⟨_, _, rfl, (Hup.out _ hb2).drew.trans (hb3.mono (Hup.out _ hb2).size), h6, by rw [h7, h3]⟩
      · have h0 : cmpP x v = 0 := by omega
        have hhas := has_mid_eq (c := cmpP) (a := l.toList) (b := r.toList) h0
        have hfin : DelOutP w x (BT.node l v r).toList = fun e w' => ∃ p' T', e = .returned (.tuple #[.pointer p', .bool true]) ∧ Below w.heap.size w w' ∧ TreeP w' p' T' ∧ T'.toList = l.toList ++ r.toList := by
          unfold DelOutP; simp only [BT.toList, hhas, del_mid_eq cmpP_cmp hs h0]
        have Hfin := Lib.hid hfin
        have h0b : (cmpP x v == 0) = true := by simp [h0]
        have hgl := fun w' h => glued_any w w' pl pr l r hl hr h (by omega) (by omega)
        have Hgl := Lib.hid hgl
        clear hgl
        clear hfin hs hhas hsize hsizer hsl hsr h0
        go_enter Try.func88, Try.ntmps88
        go_wp2_with fail
        refine region_tail 6 (by kernel_rfl) (by kernel_rfl) (fun KK hKK => ?_)
        simp only [List.take_succ_cons, List.take_zero]
        repeat (with_reducible refine wpStill_step (fun K hK => ?_); go_simp; (with_reducible refine hK _ ?_); clear hK K)
        refine wpStill_nil (hKK _ _ ?_)
        clear hKK KK
        simp only [List.drop_succ_cons, List.drop_zero]
        go_wp2_with (go_at_call 171; (with_reducible refine (Hcmp.out _).mono ?_); rintro e w1 ⟨rfl, hb1'⟩; have hb1 := ((Below.refl (w.alloc (.cells #[.int .i64 x.k.k, .string x.k.t, .int .i64 x.k.n, .int .i64 x.v] 100)).heap.size (w.alloc (.cells #[.int .i64 x.k.k, .string x.k.t, .int .i64 x.k.n, .int .i64 x.v] 100))).drew).trans (hb1'.mono (by simp)); clear hb1'; obtain ⟨n0, n1, n2, n3, m0, m1, m2, m3, m4, m5⟩ := hK.out _ hb1)
        go_wp2_with fail
        refine region_tail 8 (by kernel_rfl) (by kernel_rfl) (fun KK hKK => ?_)
        simp only [List.take_succ_cons, List.take_zero]
        repeat (with_reducible refine wpStill_step (fun K hK => ?_); go_simp; (with_reducible refine hK _ ?_); clear hK K)
        refine wpStill_nil (hKK _ _ ?_)
        clear hKK KK
        simp only [List.drop_succ_cons, List.drop_zero]
        go_wp2_with (go_at_call 106; refine (Hgl.out _ (Hup.out _ hb1).drew).mono ?_; rintro e w3 ⟨q3, T3, rfl, hb3, h6, h7⟩)
        go_ret2
        rw [Hfin.out]
        exact ⟨_, _, rfl, (Hup.out _ hb1).drew.trans (hb3.mono (Hup.out _ hb1).size), h6, h7⟩
def DropOutP (w : World) (b : Nat) (x : Pr) (xs : List Pr) (e : Ending) (w' : World) : Prop := e = .returned (.bool (has cmpP x xs)) ∧ w.grownBy w' (some b) ∧ SetP w' b (del cmpP x xs)
theorem drop_anyP (w : World) (b : Nat) (x : Pr) (xs : List Pr) (h : SetP w b xs) (hz : xs.length ≤ 1000000) : Calls Try.prog 62 #[.pointer (some ⟨b, 0, none⟩), .agg #[.int .i64 x.k.k, .string x.k.t, .int .i64 x.k.n, .int .i64 x.v]] w (DropOutP w b x xs) := by
  obtain ⟨p, T, hr, ht, rfl, hs⟩ := h
  have hB : Below w.heap.size w (w.alloc (.cells #[.int .i64 x.k.k, .string x.k.t, .int .i64 x.k.n, .int .i64 x.v] 100)) := by go_grown
  have hlt := heap_lt hr
  have hw := fun w' h => without_anyP x T w w' p ht h hs (by rw [BT.size_eq]; exact hz)
  have KEEP : ∀ w', Below (w.alloc (.cells #[.int .i64 x.k.k, .string x.k.t, .int .i64 x.k.n, .int .i64 x.v] 100)).heap.size (w.alloc (.cells #[.int .i64 x.k.k, .string x.k.t, .int .i64 x.k.n, .int .i64 x.v] 100)) w' → (w'.cell? ⟨w.heap.size, 0, none⟩ = some (.int .i64 x.k.k) ∧ w'.cell? ⟨w.heap.size, 1, none⟩ = some (.string x.k.t) ∧ w'.cell? ⟨w.heap.size, 2, none⟩ = some (.int .i64 x.k.n) ∧ w'.cell? ⟨w.heap.size, 3, none⟩ = some (.int .i64 x.v) ∧  w'.cell? ⟨b, 0, none⟩ = some (.pointer p)) := by
    intro w' h
    have hx := cells_of (W := w.alloc (.cells #[.int .i64 x.k.k, .string x.k.t, .int .i64 x.k.n, .int .i64 x.v] 100)) (b := w.heap.size) (c := #[.int .i64 x.k.k, .string x.k.t, .int .i64 x.k.n, .int .i64 x.v]) (t := 100) (f := (0, 0)) (new_at rfl)
    exact ⟨(h.cell (p := ⟨w.heap.size, 0, none⟩) (by simp)).trans (by rw [hx]; rfl), (h.cell (p := ⟨w.heap.size, 1, none⟩) (by simp)).trans (by rw [hx]; rfl), (h.cell (p := ⟨w.heap.size, 2, none⟩) (by simp)).trans (by rw [hx]; rfl), (h.cell (p := ⟨w.heap.size, 3, none⟩) (by simp)).trans (by rw [hx]; rfl),  by rw [cells_of (((hB.trans (h.mono hB.size)).block b hlt).trans hr)]; rfl⟩
  have hfin : ∀ (e : Ending) (w2 : World) (q : Option Addr) (Tq : BT Pr), e = .returned (.bool (has cmpP x T.toList)) → Below w.heap.size w w2 → TreeP w2 q Tq → Tq.toList = del cmpP x T.toList →
      DropOutP w b x T.toList e (w2.setCell ⟨b, 0, none⟩ (.pointer q)) := by
    intro e w2 q Tq he hb2 h2 h3
    have hr2 := (hb2.block b hlt).trans hr
    refine ⟨he, gtrans (gbelow hb2) (gset _ _ _ _), ⟨q, Tq, set_heap hr2, h2.but (gset _ _ _ _) hr2 (by decide), h3, del_sorted hs⟩⟩
  have hfz : ∀ w2, Below w.heap.size w w2 → w2.frozen? ⟨b, 0, none⟩ = false := fun w2 h => frozen_of ((h.block b hlt).trans hr)
  have hK := Lib.hid KEEP
  have K0 := KEEP _ (Below.refl _ _)
  obtain ⟨x0, x1, x2, x3, k0⟩ := K0
  have Hw := Lib.hid hw
  have Hfin := Lib.hid hfin
  have Hfz := Lib.hid hfz
  have Hup := Lib.hid (fun w' h => hB.trans (Below.mono h hB.size) : ∀ w', Below (w.alloc (.cells #[.int .i64 x.k.k, .string x.k.t, .int .i64 x.k.n, .int .i64 x.v] 100)).heap.size (w.alloc (.cells #[.int .i64 x.k.k, .string x.k.t, .int .i64 x.k.n, .int .i64 x.v] 100)) w' → Below w.heap.size w w')
  clear KEEP hw hfin hfz hs
  go_enter Try.func62, Try.ntmps62
  go_wp2_with fail
  go_region_held3 (fun w' => Below (w.alloc (.cells #[.int .i64 x.k.k, .string x.k.t, .int .i64 x.k.n, .int .i64 x.v] 100)).heap.size (w.alloc (.cells #[.int .i64 x.k.k, .string x.k.t, .int .i64 x.k.n, .int .i64 x.v] 100)) w' ∧ w'.cell? ⟨w.heap.size, 0, none⟩ = some (.int .i64 x.k.k) ∧ w'.cell? ⟨w.heap.size, 1, none⟩ = some (.string x.k.t) ∧ w'.cell? ⟨w.heap.size, 2, none⟩ = some (.int .i64 x.k.n) ∧ w'.cell? ⟨w.heap.size, 3, none⟩ = some (.int .i64 x.v) ∧  w'.cell? ⟨b, 0, none⟩ = some (.pointer p))
    (first | exact ⟨(Below.refl _ _).drew, hK.out _ (Below.refl _ _).drew⟩ | exact ⟨hBa.out, hK.out _ hBa.out⟩ | go_keep)
    (first | (go_at_call 88; (with_reducible refine (Hw.out _ (Hup.out _ (Below.refl _ _).drew)).mono ?_); unfold DelOutP; rintro e w2 ⟨q, Tq, rfl, hb2, h2, h3⟩; have hBa : Hid (Below (w.alloc (.cells #[.int .i64 x.k.k, .string x.k.t, .int .i64 x.k.n, .int .i64 x.v] 100)).heap.size (w.alloc (.cells #[.int .i64 x.k.k, .string x.k.t, .int .i64 x.k.n, .int .i64 x.v] 100)) w2) := Lib.hid ((Below.refl (w.alloc (.cells #[.int .i64 x.k.k, .string x.k.t, .int .i64 x.k.n, .int .i64 x.v] 100)).heap.size (w.alloc (.cells #[.int .i64 x.k.k, .string x.k.t, .int .i64 x.k.n, .int .i64 x.v] 100))).drew.trans hb2); clear hb2))
  have hB2 := Hup.out _ hBa.out
  have hf := Hfz.out _ hB2
  have hc2 := hK.out _ hBa.out
  obtain ⟨n0, n1, n2, n3, hc2⟩ := hc2
  go_wp2_with fail
  go_ret
  exact Hfin.out _ _ q Tq rfl hB2 h2 h3
end Go.Proofs.Ythgidldcblchmaa
