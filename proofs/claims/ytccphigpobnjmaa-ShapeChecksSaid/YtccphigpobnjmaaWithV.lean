/-
  Walks over package order at ponder/shape.variable: with. No condition but a bound on sizes.
-/
import Derived.Test.YtccphigpobnjmaaProg
import Derived.Test.YtccphigpobnjmaaKit
import Derived.Test.YtccphigpobnjmaaBalV
import Derived.WalkKit
import Derived.WalkLawsBesides
import Derived.Handy
import Derived.Lib.Hide
import Derived.StillTailTactics
import Derived.BigQuiet
import Derived.Deep.QuietTactic
import Derived.Deep.RegionHeld3
namespace Go.Proofs.Ytccphigpobnjmaa
set_option linter.unusedVariables false
open Go.RowKit

def WithOutV (w : World) (x : ByteArray) (xs : List ByteArray) (e : Ending) (w' : World) : Prop :=
  ∃ p' T', e = .returned (.tuple #[.pointer p', .bool (!has cmpS x xs)]) ∧ Below w.heap.size w w' ∧ TreeV w' p' T' ∧ T'.toList = ins cmpS x xs
set_option maxHeartbeats 2000000 in
theorem with_leafV (w : World) (x : ByteArray) : Calls Try.prog 116 #[.pointer none, .string x] w (WithOutV w x []) := by
  have hB : Below w.heap.size w (w) := by go_grown
  have ht := join_anyV (w) (w) none none x .leaf .leaf rfl rfl (Below.refl _ _) (by simp [BT.size]) (by simp [BT.size])
  have Ht := Lib.hid ht
  clear ht
  go_enter Try.func116, Try.ntmps116
  go_wp2_with (go_at_call 122; (with_reducible refine Ht.out.mono ?_); intro e w1 ho; obtain ⟨q, Tq, rfl, hb1, h2, h3⟩ := ho)
  go_ret2
  exact ⟨q, Tq, rfl, hB.trans (hb1.mono hB.size), h2, h3⟩

set_option maxHeartbeats 4000000 in
theorem with_anyV (x : ByteArray) (T : BT ByteArray) : ∀ (W0 w : World) (p : Option Addr), TreeV W0 p T → Below W0.heap.size W0 w → Sorted cmpS T.toList → T.size ≤ 1000000 →
    Calls Try.prog 116 #[.pointer p, .string x] w (WithOutV w x T.toList) := by
  induction T with
  | leaf =>
    intro W0 w p h _ _ _
    obtain rfl : p = none := h
    exact with_leafV w x
  | node l v r ihl ihr =>
    intro W0 w p h hb0 hs hz
    replace h := h.mono hb0
    clear hb0 W0
    have hself := h
    obtain ⟨b, pl, pr, rfl, hc, hl, hr⟩ := h
    simp only [BT.toList] at hs
    obtain ⟨hsl, hsr, -, -⟩ := sorted_mid hs
    simp only [BT.size] at hz
    have hB : Below w.heap.size w (w) := by go_grown
    have hcmp := fun w' => cmp_anyV x v w'
    have hIl := fun w' h => ihl w w' pl hl h hsl (by omega)
    have hIr := fun w' h => ihr w w' pr hr h hsr (by omega)
    have hbal := fun (W0 w' : World) (q q' : Option Addr) (l' r' : BT ByteArray) h1 h2 h3 h4 h5 => balanced_anyV W0 w' q q' v l' r' h1 h2 h3 h4 h5
    have KEEP : ∀ w', Below (w).heap.size (w) w' → ( w'.cell? ⟨b, 0, none⟩ = some (.pointer pl) ∧ w'.cell? ⟨b, 1, none⟩ = some (.pointer pr) ∧ w'.cell? ⟨b, 2, none⟩ = some (.string v)) := by
      intro w' h
      obtain ⟨d0, d1, d2, -⟩ := node_cellsV (w := w') hc (hB.trans (h.mono hB.size))
      exact ⟨ d0, d1, d2⟩
    have up : ∀ w', Below (w).heap.size (w) w' → Below w.heap.size w w' := fun w' h => hB.trans (h.mono hB.size)
    have hK := Lib.hid KEEP
    have K0 := KEEP _ (Below.refl _ _)
    obtain ⟨ k0, k1, k2⟩ := K0
    have Hcmp := Lib.hid hcmp
    have HIl := Lib.hid hIl
    have HIr := Lib.hid hIr
    have Hbal := Lib.hid hbal
    have Hup := Lib.hid up
    clear KEEP hcmp hIl hIr hbal ihl ihr up
    have hcell : b < w.heap.size := heap_lt hc
    have hsize : (ins cmpS x l.toList).length ≤ l.size + 1 := by rw [BT.size_eq]; exact ins_length _ _
    have hsizer : (ins cmpS x r.toList).length ≤ r.size + 1 := by rw [BT.size_eq]; exact ins_length _ _
    clear hc
    by_cases h1 : cmpS x v < 0
    · have eh := has_mid_lt cmpS_cmp hs h1
      have ei := ins_mid_lt (b := r.toList) h1 (a := l.toList)
      cases hh : has cmpS x l.toList with
      | true =>
        have hfin : WithOutV w x (BT.node l v r).toList = fun e w' => ∃ p' T', e = .returned (.tuple #[.pointer p', .bool false]) ∧ Below w.heap.size w w' ∧ TreeV w' p' T' ∧ T'.toList = (BT.node l v r).toList := by
          unfold WithOutV; simp only [BT.toList, eh, hh, ei, ins_has cmpS_cmp hsl hh, Bool.not_true]
        have Hfin := Lib.hid hfin
        replace HIl := Lib.hid (fun w' h => by have := HIl.out w' h; unfold WithOutV at this; simpa only [hh, Bool.not_true] using this : ∀ w', Below w.heap.size w w' → Calls Try.prog 116 #[.pointer pl, .string x] w' fun e w'' => ∃ p' T', e = .returned (.tuple #[.pointer p', .bool false]) ∧ Below w'.heap.size w' w'' ∧ TreeV w'' p' T' ∧ T'.toList = ins cmpS x l.toList)
        clear hfin hs eh ei hh hsize hsizer hsl hsr
        have hn1 : ¬ 0 < cmpS x v := by omega
        go_enter Try.func116, Try.ntmps116
        go_wp2_with (go_at_call 149; (with_reducible refine (Hcmp.out _).mono ?_); rintro e w1 ⟨rfl, hb1'⟩; have hb1 := (Below.refl w.heap.size w).trans (hb1'.mono (by simp)); clear hb1'; obtain ⟨ m0, m1, m2⟩ := hK.out _ hb1)
        go_wp2_with (go_at_call 116; (with_reducible refine (HIl.out _ (Hup.out _ hb1)).mono ?_); rintro e w2 ⟨q, Tq, rfl, hb2', h2, h3⟩; have hBa := Lib.hid hb2'; clear hb2'; have hb2 := hb1.trans (hBa.out.mono hb1.size); obtain ⟨ y0, y1, y2⟩ := hK.out _ hb2)
        go_wp2_with fail
        go_ret2
        rw [Hfin.out]
        exact ⟨_, _, rfl, (Hup.out _ hb1).trans (hBa.out.mono (Hup.out _ hb1).size), hself.mono ((Hup.out _ hb1).trans (hBa.out.mono (Hup.out _ hb1).size)), rfl⟩
      | false =>
        have hfin : WithOutV w x (BT.node l v r).toList = fun e w' => ∃ p' T', e = .returned (.tuple #[.pointer p', .bool true]) ∧ Below w.heap.size w w' ∧ TreeV w' p' T' ∧ T'.toList = ins cmpS x l.toList ++ v :: r.toList := by
          unfold WithOutV; simp only [BT.toList, eh, hh, ei, Bool.not_false]
        have Hfin := Lib.hid hfin
        replace HIl := Lib.hid (fun w' h => by have := HIl.out w' h; unfold WithOutV at this; simpa only [hh, Bool.not_false] using this : ∀ w', Below w.heap.size w w' → Calls Try.prog 116 #[.pointer pl, .string x] w' fun e w'' => ∃ p' T', e = .returned (.tuple #[.pointer p', .bool true]) ∧ Below w'.heap.size w' w'' ∧ TreeV w'' p' T' ∧ T'.toList = ins cmpS x l.toList)
        clear hfin hs eh ei hh hsl hsr
        go_enter Try.func116, Try.ntmps116
        go_wp2_with (go_at_call 149; (with_reducible refine (Hcmp.out _).mono ?_); rintro e w1 ⟨rfl, hb1'⟩; have hb1 := (Below.refl w.heap.size w).trans (hb1'.mono (by simp)); clear hb1'; obtain ⟨ m0, m1, m2⟩ := hK.out _ hb1)
        go_wp2_with (go_at_call 116; (with_reducible refine (HIl.out _ (Hup.out _ hb1)).mono ?_); rintro e w2 ⟨q, Tq, rfl, hb2', h2, h3⟩; have hBa := Lib.hid hb2'; clear hb2'; have hb2 := hb1.trans (hBa.out.mono hb1.size); obtain ⟨ y0, y1, y2⟩ := hK.out _ hb2)
        go_wp2_with fail
        have hb2 := hb1.trans (hBa.out.mono hb1.size)
        obtain ⟨ y0, y1, y2⟩ := hK.out _ hb2
        refine region_tail 9 (by kernel_rfl) (by kernel_rfl) (fun KK hKK => ?_)
        simp only [List.take_succ_cons, List.take_zero]
        repeat (with_reducible refine wpStill_step (fun K hK => ?_); go_simp; (with_reducible refine hK _ ?_); clear hK K)
        refine wpStill_nil (hKK _ _ ?_)
        clear hKK KK
        simp only [List.drop_succ_cons, List.drop_zero]
        go_wp2_with (go_at_call 123; (with_reducible refine (Hbal.out w2 w2.drew q pr Tq r h2 (hr.mono (Hup.out _ hb2)) (Below.refl _ _).drew (by rw [BT.size_eq, h3]; omega) (by omega)).mono ?_); rintro e w3 ⟨q3, T3, rfl, hb3, h6, h7⟩)
        go_ret2
        rw [Hfin.out]
        exact ⟨_, _, rfl, (Hup.out _ hb2).drew.trans (hb3.mono (Hup.out _ hb2).size), h6, by rw [h7, h3]⟩
    · by_cases h1g : 0 < cmpS x v
      · have eh := has_mid_gt cmpS_cmp hs h1g
        have ei := ins_mid_gt cmpS_cmp hs h1g
        cases hh : has cmpS x r.toList with
        | true =>
          have hfin : WithOutV w x (BT.node l v r).toList = fun e w' => ∃ p' T', e = .returned (.tuple #[.pointer p', .bool false]) ∧ Below w.heap.size w w' ∧ TreeV w' p' T' ∧ T'.toList = (BT.node l v r).toList := by
            unfold WithOutV; simp only [BT.toList, eh, hh, ei, ins_has cmpS_cmp hsr hh, Bool.not_true]
          have Hfin := Lib.hid hfin
          replace HIr := Lib.hid (fun w' h => by have := HIr.out w' h; unfold WithOutV at this; simpa only [hh, Bool.not_true] using this : ∀ w', Below w.heap.size w w' → Calls Try.prog 116 #[.pointer pr, .string x] w' fun e w'' => ∃ p' T', e = .returned (.tuple #[.pointer p', .bool false]) ∧ Below w'.heap.size w' w'' ∧ TreeV w'' p' T' ∧ T'.toList = ins cmpS x r.toList)
          clear hfin hs eh ei hh hsize hsizer hsl hsr
          go_enter Try.func116, Try.ntmps116
          go_wp2_with (go_at_call 149; (with_reducible refine (Hcmp.out _).mono ?_); rintro e w1 ⟨rfl, hb1'⟩; have hb1 := (Below.refl w.heap.size w).trans (hb1'.mono (by simp)); clear hb1'; obtain ⟨ m0, m1, m2⟩ := hK.out _ hb1)
          go_wp2_with (go_at_call 116; (with_reducible refine (HIr.out _ (Hup.out _ hb1)).mono ?_); rintro e w2 ⟨q, Tq, rfl, hb2', h2, h3⟩; have hBa := Lib.hid hb2'; clear hb2'; have hb2 := hb1.trans (hBa.out.mono hb1.size); obtain ⟨ y0, y1, y2⟩ := hK.out _ hb2)
          go_wp2_with fail
          go_ret2
          rw [Hfin.out]
          exact ⟨_, _, rfl, (Hup.out _ hb1).trans (hBa.out.mono (Hup.out _ hb1).size), hself.mono ((Hup.out _ hb1).trans (hBa.out.mono (Hup.out _ hb1).size)), rfl⟩
        | false =>
          have hfin : WithOutV w x (BT.node l v r).toList = fun e w' => ∃ p' T', e = .returned (.tuple #[.pointer p', .bool true]) ∧ Below w.heap.size w w' ∧ TreeV w' p' T' ∧ T'.toList = l.toList ++ v :: ins cmpS x r.toList := by
            unfold WithOutV; simp only [BT.toList, eh, hh, ei, Bool.not_false]
          have Hfin := Lib.hid hfin
          replace HIr := Lib.hid (fun w' h => by have := HIr.out w' h; unfold WithOutV at this; simpa only [hh, Bool.not_false] using this : ∀ w', Below w.heap.size w w' → Calls Try.prog 116 #[.pointer pr, .string x] w' fun e w'' => ∃ p' T', e = .returned (.tuple #[.pointer p', .bool true]) ∧ Below w'.heap.size w' w'' ∧ TreeV w'' p' T' ∧ T'.toList = ins cmpS x r.toList)
          clear hfin hs eh ei hh hsl hsr
          go_enter Try.func116, Try.ntmps116
          go_wp2_with (go_at_call 149; (with_reducible refine (Hcmp.out _).mono ?_); rintro e w1 ⟨rfl, hb1'⟩; have hb1 := (Below.refl w.heap.size w).trans (hb1'.mono (by simp)); clear hb1'; obtain ⟨ m0, m1, m2⟩ := hK.out _ hb1)
          go_wp2_with (go_at_call 116; (with_reducible refine (HIr.out _ (Hup.out _ hb1)).mono ?_); rintro e w2 ⟨q, Tq, rfl, hb2', h2, h3⟩; have hBa := Lib.hid hb2'; clear hb2'; have hb2 := hb1.trans (hBa.out.mono hb1.size); obtain ⟨ y0, y1, y2⟩ := hK.out _ hb2)
          go_wp2_with fail
          have hb2 := hb1.trans (hBa.out.mono hb1.size)
          obtain ⟨ y0, y1, y2⟩ := hK.out _ hb2
          refine region_tail 9 (by kernel_rfl) (by kernel_rfl) (fun KK hKK => ?_)
          simp only [List.take_succ_cons, List.take_zero]
          repeat (with_reducible refine wpStill_step (fun K hK => ?_); go_simp; (with_reducible refine hK _ ?_); clear hK K)
          refine wpStill_nil (hKK _ _ ?_)
          clear hKK KK
          simp only [List.drop_succ_cons, List.drop_zero]
          go_wp2_with (go_at_call 123; (with_reducible refine (Hbal.out w2 w2.drew pl q l Tq (hl.mono (Hup.out _ hb2)) h2 (Below.refl _ _).drew (by omega) (by rw [BT.size_eq, h3]; omega)).mono ?_); rintro e w3 ⟨q3, T3, rfl, hb3, h6, h7⟩)
          go_ret2
          rw [Hfin.out]
          exact ⟨_, _, rfl, (Hup.out _ hb2).drew.trans (hb3.mono (Hup.out _ hb2).size), h6, by rw [h7, h3]⟩
      · have h0 : cmpS x v = 0 := by omega
        have hhas := has_mid_eq (c := cmpS) (a := l.toList) (b := r.toList) h0
        have hfin : WithOutV w x (BT.node l v r).toList = fun e w' => ∃ p' T', e = .returned (.tuple #[.pointer p', .bool false]) ∧ Below w.heap.size w w' ∧ TreeV w' p' T' ∧ T'.toList = (BT.node l v r).toList := by
          unfold WithOutV; simp only [BT.toList, hhas, ins_has cmpS_cmp hs hhas, Bool.not_true]
        have Hfin := Lib.hid hfin
        clear hfin hs hhas hsize hsizer hsl hsr h0
        go_enter Try.func116, Try.ntmps116
        go_wp2_with (go_at_call 149; (with_reducible refine (Hcmp.out _).mono ?_); rintro e w1 ⟨rfl, hb1'⟩; have hb1 := (Below.refl w.heap.size w).trans (hb1'.mono (by simp)); clear hb1'; obtain ⟨ m0, m1, m2⟩ := hK.out _ hb1)
        go_ret2
        rw [Hfin.out]
        exact ⟨_, _, rfl, Hup.out _ hb1, hself.mono (Hup.out _ hb1), rfl⟩
end Go.Proofs.Ytccphigpobnjmaa
