/-
  Walks over package sym: add. No condition.
-/
import Derived.Test.YtlledodigmkdjaaGreatDoorSymTab
import Derived.Deep.RegionHeld3
import Derived.Deep.QuietTactic
import Derived.BigQuiet
namespace Go.Proofs.YtlledodigmkdjaaGreatDoor
set_option linter.unusedVariables false
open Go.RowKit
/-- What a table's own changes touch. -/
abbrev TabTouch (sb ms : Nat) (k : Nat) : Prop := k = sb ∨ k = ms
def AddOut (w : World) (b sb mb ms : Nat) (room : Int) (s : Sy) (xs : List Sy) (w' : World) : Prop := Touch (TabTouch sb ms) w w' ∧ ∃ ys', TabAt w' b sb mb ms room (ins cmpY s xs) ys'
/-- Behind the set's Put: the map is as it was. -/
structure Mid (w : World) (b sb mb ms : Nat) (room : Int) (xs : List Sy) (ys : List Pc) : Prop where
  cells : TabCells w b sb mb room
  known : SetS w sb xs
  map : MapC w mb ms ys
theorem Mid.mono {w w' : World} {b sb mb ms : Nat} {room : Int} {xs : List Sy} {ys : List Pc} (h : Mid w b sb mb ms room xs ys) (hb : Below w.heap.size w w') : Mid w' b sb mb ms room xs ys :=
  ⟨h.cells.mono hb, IsSet.mono h.known hb, h.map.mono hb⟩
theorem set_type {α : Type} {enc : α → List Value} {nt st : Nat} {c : α → α → Int} {w : World} {b : Nat} {xs : List α} (h : IsSet enc nt st c w b xs) {cs : Array Value} {t : TypeId} {f : Nat × Nat} (h2 : w.heap[b]? = some (.cells cs t f)) : t = st := by
  obtain ⟨p, T, h1, -⟩ := h
  rw [h1] at h2
  simp at h2
  exact h2.2.1.symm
/-- Put to the known ones leaves the map and the table. -/
theorem Mid.put {w w' : World} {b sb mb ms : Nat} {room : Int} {xs xs' : List Sy} {ys : List Pc} (h : Mid w b sb mb ms room xs ys) (hg : w.grownBy w' (some sb)) (hs : SetS w' sb xs') : Mid w' b sb mb ms room xs' ys := by
  have hsb : ∃ p, w.heap[sb]? = some (.cells #[.pointer p] 87 (0, 0)) := by obtain ⟨p, T, h1, -⟩ := h.known; exact ⟨p, h1⟩
  obtain ⟨p, hsb⟩ := hsb
  have n1 : b ≠ sb := by
    rintro rfl
    have := h.cells
    unfold TabCells at this
    rw [hsb] at this; simp at this
  have n2 : mb ≠ sb := by
    rintro rfl
    have := h.map.1
    rw [hsb] at this; simp at this
  have n3 : ms ≠ sb := by
    rintro rfl
    have := set_type h.map.2 hsb
    exact absurd this (by decide)
  refine ⟨(hg.block b (heap_lt h.cells) (by simpa using n1)).trans h.cells, hs, (hg.block mb (heap_lt h.map.1) (by simpa using n2)).trans h.map.1, ?_⟩
  exact IsSet.but h.map.2 hg hsb (by decide) n3
/-- Put to the map leaves the known ones and the table. -/
theorem Mid.putM {w w' : World} {b sb mb ms : Nat} {room : Int} {xs : List Sy} {ys ys' : List Pc} (h : Mid w b sb mb ms room xs ys) (hg : w.grownBy w' (some ms)) (hm : MapC w' mb ms ys') : Mid w' b sb mb ms room xs ys' := by
  have hms : ∃ p, w.heap[ms]? = some (.cells #[.pointer p] 110 (0, 0)) := by obtain ⟨p, T, h1, -⟩ := h.map.2; exact ⟨p, h1⟩
  obtain ⟨p, hms⟩ := hms
  have n1 : b ≠ ms := by
    rintro rfl
    have := h.cells
    unfold TabCells at this
    rw [hms] at this; simp at this
  have n3 : sb ≠ ms := by
    rintro rfl
    have := set_type h.known hms
    exact absurd this (by decide)
  exact ⟨(hg.block b (heap_lt h.cells) (by simpa using n1)).trans h.cells, IsSet.but h.known hg hms (by decide) n3, hm⟩
theorem isL_k {c : UInt8} {s : Sy} (h : ¬ s.k = 1) : isL c s = false := by unfold isL; simp [h]
/-- The map's part of a table behind add: nothing to do. -/
theorem agree_stay {s : Sy} {xs : List Sy} {ys : List Pc} (ha : ∀ c : UInt8, lookv c.toNat ys = great c xs) (hn : has cmpY s xs = false) (h : ∀ c, isL c s = true → s.n ≤ great c xs) : ∀ c : UInt8, lookv c.toNat ys = great c (ins cmpY s xs) := fun c => by
  rw [great_ins c s xs hn, ha]
  unfold stepG
  split
  · have := h c (by assumption); omega
  · rfl
theorem agree_put {s : Sy} {xs : List Sy} {ys : List Pc} {d : UInt8} (ha : ∀ c : UInt8, lookv c.toNat ys = great c xs) (hn : has cmpY s xs = false) (hd : isL d s = true) (h : great d xs ≤ s.n) : ∀ c : UInt8, lookv c.toNat (putLC ⟨d.toNat, s.n⟩ ys) = great c (ins cmpY s xs) := fun c => by
  rw [great_ins c s xs hn, lookv_put, ha]
  by_cases hcd : c = d
  · subst hcd
    rw [if_pos rfl]
    unfold stepG
    rw [if_pos hd]
    show s.n = max (great c xs) s.n
    omega
  · have h1 : ¬ ((c.toNat : Int) = (d.toNat : Int)) := fun e => hcd (UInt8.toNat_inj.1 (by omega))
    have h2 : isL c s = false := by
      unfold isL at *
      simp only [Bool.and_eq_true, decide_eq_true_eq] at hd
      simp [hd.2, Ne.symm hcd]
    rw [if_neg h1]
    unfold stepG
    rw [h2]; rfl
set_option maxHeartbeats 2000000 in
theorem add_tab (w : World) (b sb mb ms : Nat) (room : Int) (s : Sy) (xs : List Sy) (ys : List Pc) (h : TabAt w b sb mb ms room xs ys) (hs : validY s = true) (hz : s.t.size ≤ 1000000) (hn : has cmpY s xs = false) (hl : xs.length < 4096) :
    Calls Tryz.prog 48 #[.pointer (some ⟨b, 0, none⟩), .agg #[.int .i64 s.k, .string s.t, .int .i64 s.n]] w fun e w' => e = .returned (.tuple #[]) ∧ AddOut w b sb mb ms room s xs w' := by
  have hmid : Mid w b sb mb ms room xs ys := ⟨h.cells, h.known, h.map⟩
  have hagree := h.agree
  have hsmall := h.small
  have HTop := Lib.hid h.top
  have hall := h.all
  have hgb := fun c => great_bound c xs hall
  have hsb := IsSet.lt h.known
  have hbl := heap_lt h.cells
  obtain ⟨W1, hW1⟩ : ∃ W1, W1 = w.alloc (.cells #[.int .i64 s.k, .string s.t, .int .i64 s.n] 23) := ⟨_, rfl⟩
  have hB : Below w.heap.size w W1 := by rw [hW1]; go_grown
  have hx : W1.heap[w.heap.size]? = some (.cells #[.int .i64 s.k, .string s.t, .int .i64 s.n] 23 (0, 0)) := by rw [hW1]; exact new_at rfl
  have hk : ∀ w', W1.grownBy w' (some sb) → (w'.cell? ⟨w.heap.size, 0, none⟩ = some (.int .i64 s.k) ∧ w'.cell? ⟨w.heap.size, 1, none⟩ = some (.string s.t) ∧ w'.cell? ⟨w.heap.size, 2, none⟩ = some (.int .i64 s.n)) ∧ w'.frozen? ⟨w.heap.size, 1, none⟩ = false ∧ Hid (w'.heap[w.heap.size]? = some (.cells #[.int .i64 s.k, .string s.t, .int .i64 s.n] 23 (0, 0))) := by
    intro w' h
    have h2 := (h.block _ (heap_lt hx) (by simp; omega)).trans hx
    exact ⟨⟨by rw [cells_of h2]; rfl, by rw [cells_of h2]; rfl, by rw [cells_of h2]; rfl⟩, frozen_of h2, h2⟩
  have hcl := fun w' => clone_any s.t w' hz
  have hput := fun w' (hq : Below w.heap.size w w') => (put_anyS w' sb s xs (hmid.mono hq).known (by omega)).mono (R' := fun e w2 => e = .returned (.bool true) ∧ w'.grownBy w2 (some sb) ∧ Mid w2 b sb mb ms room (ins cmpY s xs) ys) (by
    rintro e w2 ⟨he, h1, h2⟩
    rw [hn] at he
    exact ⟨he, h1, (hmid.mono hq).put h1 h2⟩)
  have hc : ∀ w', Below w.heap.size w w' → w'.cell? ⟨b, 0, none⟩ = some (.pointer (some ⟨sb, 0, none⟩)) := fun w' hq => by rw [cells_of (hmid.mono hq).cells]; rfl
  have hlen := ins_length_new hn
  have hallI := all_ins hs hall
  have HK := Lib.hid hk
  have HB := Lib.hid hB
  have HW := Lib.hid hW1
  have Hcl := Lib.hid hcl
  have Hput := Lib.hid hput
  have Hc := Lib.hid hc
  have HAg := Lib.hid hagree
  have HSm := Lib.hid (show ys.length + 1 ≤ (ins cmpY s xs).length by rw [hlen]; omega)
  have HAl := Lib.hid hallI
  have HLe := Lib.hid (show (ins cmpY s xs).length ≤ 4096 by rw [hlen]; omega)
  have Hgb := Lib.hid hgb
  have HN := Lib.hid hn
  have HV := Lib.hid hs
  obtain ⟨⟨d0, d1, d2⟩, f1, -⟩ := hk W1 ⟨rfl, rfl, rfl, Nat.le_refl _, fun _ _ _ => rfl⟩
  rw [hW1] at d0 d1 d2 f1
  clear hk hB hx hcl hput hc hagree hsmall hall hgb hallI hlen hn hs hW1 h hmid
  by_cases k1 : s.k = 1
  · have b1 : (s.k == 1) = true := by simp [k1]
    have hvv := HV.out
    unfold validY validL at hvv
    rw [if_pos k1] at hvv
    simp only [Bool.and_eq_true] at hvv
    have h1s : s.t.size = 1 := Decidable.byContradiction fun h => by rw [caps_not _ h] at hvv; simp at hvv
    have hp : 0 < s.t.size := by omega
    have hd : isL (s.t[0]) s = true := by
      unfold isL
      have hl1 : s.t.data.toList = [s.t[0]] := by
        rw [bytes_cons s.t hp]
        have : (s.t.data.toList.drop 1) = [] := List.eq_nil_of_length_eq_zero (by simp; omega)
        rw [this]
      simp [k1, hl1]
    have hcap : capB s.t[0] = true := by
      have := hvv.1
      rw [caps_one s.t h1s hp] at this; exact this
    have Hd := Lib.hid hd
    have Hk1 := Lib.hid k1
    have hgd := Hgb.out (s.t[0])
    have hnext := fun (w' : World) (hq : Mid w' b sb mb ms room (ins cmpY s xs) ys) => next_raw w' b sb mb ms room ys (s.t[0]) hq.cells hq.map (by rw [HAg.out]; exact hgd.1) (by rw [HAg.out]; exact hgd.2)
    rw [hcap] at hnext
    have hgreat := HAg.out (s.t[0])
    obtain ⟨m, hm⟩ : ∃ m, m = lookv ((s.t[0]).toNat : Int) ys := ⟨_, rfl⟩
    rw [← hm] at hnext hgreat
    have hm0 : 0 ≤ m := by rw [hgreat]; exact hgd.1
    have hm1 : m ≤ 1048576 := by rw [hgreat]; exact hgd.2
    have HM := Lib.hid hgreat
    have Hnext := Lib.hid hnext
    clear hnext hd k1 hvv h1s hgd hgreat hm
    by_cases hge : m + 1 ≤ s.n
    · have hdec : decide (m + 1 ≤ s.n) = true := by simp [hge]
      have hputM := fun (w' : World) (hq : Mid w' b sb mb ms room (ins cmpY s xs) ys) => (put_mapC w' mb ms ⟨(s.t[0]).toNat, s.n⟩ ys hq.map (by have := HSm.out; have := HLe.out; omega)).mono (R' := fun e w2 => (∃ q, e = .returned (.bool q)) ∧ w'.grownBy w2 (some ms) ∧ Mid w2 b sb mb ms room (ins cmpY s xs) (putLC ⟨(s.t[0]).toNat, s.n⟩ ys)) (by
        rintro e w2 ⟨he, h1, h2⟩
        exact ⟨he, h1, hq.putM h1 h2⟩)
      have HputM := Lib.hid hputM
      have HAg2 := Lib.hid (agree_put HAg.out HN.out Hd.out (by have := HM.out; omega))
      clear hputM
      go_enter Tryz.func48, Tryz.ntmps48
      go_wp2_with (go_at_call 63; rw [← HW.out]; refine (Hcl.out _).mono ?_; rintro e w2 ⟨rfl, hb2⟩; obtain ⟨⟨e0, e1, e2⟩, g1, HX2⟩ := HK.out _ (gbelow hb2); have HB2 : Hid (Below w.heap.size w w2) := Lib.hid (HB.out.trans (hb2.mono HB.out.size)); have HG2 : Hid (W1.grownBy w2 (some sb)) := Lib.hid (gbelow hb2); clear hb2)
      rw [set_same3 HX2.out]
      have c0 := Hc.out _ HB2.out
      refine region_tail 5 (by kernel_rfl) (by kernel_rfl) (fun KK hKK => ?_)
      simp only [List.take_succ_cons, List.take_zero]
      repeat (with_reducible refine wpStill_step (fun K hK => ?_); go_simp; (with_reducible refine hK _ ?_); clear hK K)
      refine wpStill_nil (hKK _ _ ?_)
      clear hKK KK
      simp only [List.drop_succ_cons, List.drop_zero]
      go_wp2_with (go_at_call 58; (with_reducible refine (Hput.out _ HB2.out.drew).mono ?_); rintro e w4 ⟨rfl, hg4, hm4⟩)
      have HG4 : Hid (W1.grownBy w4 (some sb)) := Lib.hid (gtrans HG2.out (gtrans (gbelow (Below.refl _ _).drew) hg4))
      have HM4 := Lib.hid hm4
      have HZ4 : Hid (w.heap.size ≤ w4.heap.size) := Lib.hid (Nat.le_trans HB2.out.size hg4.size)
      clear hg4 hm4 e0 e1 e2 g1 d0 d1 d2 f1 c0
      obtain ⟨⟨x0, x1, x2⟩, -, -⟩ := HK.out _ HG4.out
      go_wp2_with fail
      have h0 : Hid (Below w4.heap.size w4 w4.drew) := Lib.hid (Below.refl _ _).drew
      go_region_held3 (fun w' => Below w4.heap.size w4 w' ∧ w'.cell? ⟨w.heap.size, 0, none⟩ = some (.int .i64 s.k) ∧ w'.cell? ⟨w.heap.size, 1, none⟩ = some (.string s.t) ∧ w'.cell? ⟨w.heap.size, 2, none⟩ = some (.int .i64 s.n))
        (first | exact ⟨h0.out, (HK.out _ (gtrans HG4.out (gbelow h0.out))).1⟩ | exact ⟨hB5.out, (HK.out _ (gtrans HG4.out (gbelow hB5.out))).1⟩ | go_keep)
        (first | (go_at_call 25; refine (Hnext.out _ (HM4.out.mono h0.out)).mono ?_; rintro e w5 ⟨rfl, h5⟩; have hB5 : Hid (Below w4.heap.size w4 w5) := Lib.hid (h0.out.trans (h5.mono h0.out.size)); clear h5))
      go_wp2_with fail
      have hw5 := HM4.out.mono hB5.out
      have c1 : w5.cell? ⟨b, 1, none⟩ = some (.pointer (some ⟨mb, 0, none⟩)) := by rw [cells_of hw5.cells]; rfl
      obtain ⟨⟨y0, y1, y2⟩, -, -⟩ := HK.out _ (gtrans HG4.out (gbelow hB5.out))
      have HM5 := Lib.hid hw5
      have HM5d := Lib.hid (hw5.mono (Below.refl _ _).drew)
      clear hw5 x0 x1 x2
      refine region_tail 9 (by kernel_rfl) (by kernel_rfl) (fun KK hKK => ?_)
      simp only [List.take_succ_cons, List.take_zero]
      repeat (with_reducible refine wpStill_step (fun K hK => ?_); go_simp; (with_reducible refine hK _ ?_); clear hK K)
      refine wpStill_nil (hKK _ _ ?_)
      clear hKK KK
      simp only [List.drop_succ_cons, List.drop_zero]
      go_wp2_with (go_at_call 64; (with_reducible refine (HputM.out _ HM5d.out).mono ?_); rintro e w6 ⟨⟨q6, rfl⟩, hg6, hm6⟩)
      go_end0
      refine ⟨rfl, ?_, _, ⟨hm6.cells, hm6.known, hm6.map, HAg2.out, Nat.le_trans (putLC_length _ _) HSm.out, HAl.out, HLe.out, HTop.out⟩⟩
      exact ((Touch.ofBelow HB.out).trans ((Touch.grown HG4.out).mono (fun k _ hk => .inl (Option.some.inj hk)))).trans (((Touch.ofBelow hB5.out).trans (Touch.ofBelow (Below.refl _ _).drew)).trans ((Touch.grown hg6).mono (fun k _ hk => .inr (Option.some.inj hk))))
    · have hdec : decide (m + 1 ≤ s.n) = false := by simp; omega
      go_enter Tryz.func48, Tryz.ntmps48
      go_wp2_with (go_at_call 63; rw [← HW.out]; refine (Hcl.out _).mono ?_; rintro e w2 ⟨rfl, hb2⟩; obtain ⟨⟨e0, e1, e2⟩, g1, HX2⟩ := HK.out _ (gbelow hb2); have HB2 : Hid (Below w.heap.size w w2) := Lib.hid (HB.out.trans (hb2.mono HB.out.size)); have HG2 : Hid (W1.grownBy w2 (some sb)) := Lib.hid (gbelow hb2); clear hb2)
      rw [set_same3 HX2.out]
      have c0 := Hc.out _ HB2.out
      refine region_tail 5 (by kernel_rfl) (by kernel_rfl) (fun KK hKK => ?_)
      simp only [List.take_succ_cons, List.take_zero]
      repeat (with_reducible refine wpStill_step (fun K hK => ?_); go_simp; (with_reducible refine hK _ ?_); clear hK K)
      refine wpStill_nil (hKK _ _ ?_)
      clear hKK KK
      simp only [List.drop_succ_cons, List.drop_zero]
      go_wp2_with (go_at_call 58; (with_reducible refine (Hput.out _ HB2.out.drew).mono ?_); rintro e w4 ⟨rfl, hg4, hm4⟩)
      have HG4 : Hid (W1.grownBy w4 (some sb)) := Lib.hid (gtrans HG2.out (gtrans (gbelow (Below.refl _ _).drew) hg4))
      have HM4 := Lib.hid hm4
      have HZ4 : Hid (w.heap.size ≤ w4.heap.size) := Lib.hid (Nat.le_trans HB2.out.size hg4.size)
      clear hg4 hm4 e0 e1 e2 g1 d0 d1 d2 f1 c0
      obtain ⟨⟨x0, x1, x2⟩, -, -⟩ := HK.out _ HG4.out
      go_wp2_with fail
      have h0 : Hid (Below w4.heap.size w4 w4.drew) := Lib.hid (Below.refl _ _).drew
      go_region_held3 (fun w' => Below w4.heap.size w4 w' ∧ w'.cell? ⟨w.heap.size, 0, none⟩ = some (.int .i64 s.k) ∧ w'.cell? ⟨w.heap.size, 1, none⟩ = some (.string s.t) ∧ w'.cell? ⟨w.heap.size, 2, none⟩ = some (.int .i64 s.n))
        (first | exact ⟨h0.out, (HK.out _ (gtrans HG4.out (gbelow h0.out))).1⟩ | exact ⟨hB5.out, (HK.out _ (gtrans HG4.out (gbelow hB5.out))).1⟩ | go_keep)
        (first | (go_at_call 25; refine (Hnext.out _ (HM4.out.mono h0.out)).mono ?_; rintro e w5 ⟨rfl, h5⟩; have hB5 : Hid (Below w4.heap.size w4 w5) := Lib.hid (h0.out.trans (h5.mono h0.out.size)); clear h5))
      go_wp2_with fail
      have hw5 := HM4.out.mono hB5.out
      go_end0
      refine ⟨rfl, ?_, ys, ⟨hw5.cells, hw5.known, hw5.map, agree_stay HAg.out HN.out (fun c hc => ?_), Nat.le_of_succ_le HSm.out, HAl.out, HLe.out, HTop.out⟩⟩
      · exact ((Touch.ofBelow HB.out).trans ((Touch.grown HG4.out).mono (fun k _ hk => .inl (Option.some.inj hk)))).trans (Touch.ofBelow hB5.out)
      · have h1 := Hd.out
        unfold isL at hc h1
        simp only [Bool.and_eq_true, decide_eq_true_eq] at hc h1
        have h2 := hc.2.symm.trans h1.2
        simp only [List.cons.injEq, and_true] at h2
        rw [h2, ← HM.out]; omega
  · have b1 : (s.k == 1) = false := by simp [k1]
    have Hk1 := Lib.hid k1
    clear k1
    go_enter Tryz.func48, Tryz.ntmps48
    go_wp2_with (go_at_call 63; rw [← HW.out]; refine (Hcl.out _).mono ?_; rintro e w2 ⟨rfl, hb2⟩; obtain ⟨⟨e0, e1, e2⟩, g1, HX2⟩ := HK.out _ (gbelow hb2); have HB2 : Hid (Below w.heap.size w w2) := Lib.hid (HB.out.trans (hb2.mono HB.out.size)); have HG2 : Hid (W1.grownBy w2 (some sb)) := Lib.hid (gbelow hb2); clear hb2)
    rw [set_same3 HX2.out]
    have c0 := Hc.out _ HB2.out
    refine region_tail 5 (by kernel_rfl) (by kernel_rfl) (fun KK hKK => ?_)
    simp only [List.take_succ_cons, List.take_zero]
    repeat (with_reducible refine wpStill_step (fun K hK => ?_); go_simp; (with_reducible refine hK _ ?_); clear hK K)
    refine wpStill_nil (hKK _ _ ?_)
    clear hKK KK
    simp only [List.drop_succ_cons, List.drop_zero]
    go_wp2_with (go_at_call 58; (with_reducible refine (Hput.out _ HB2.out.drew).mono ?_); rintro e w4 ⟨rfl, hg4, hm4⟩)
    have HG4 : Hid (W1.grownBy w4 (some sb)) := Lib.hid (gtrans HG2.out (gtrans (gbelow (Below.refl _ _).drew) hg4))
    have HM4 := Lib.hid hm4
    have HZ4 : Hid (w.heap.size ≤ w4.heap.size) := Lib.hid (Nat.le_trans HB2.out.size hg4.size)
    clear hg4 hm4 e0 e1 e2 g1 d0 d1 d2 f1 c0
    obtain ⟨⟨x0, x1, x2⟩, -, -⟩ := HK.out _ HG4.out
    go_wp2_with fail
    go_quiet (fail)
    go_wp2_with fail
    have hw5 := HM4.out.mono (bdN _ (Below.refl _ _) : Below w4.heap.size w4 (w4.drewN nq))
    go_end0
    refine ⟨rfl, ?_, ys, ⟨hw5.cells, hw5.known, hw5.map, agree_stay HAg.out HN.out (fun c hc => ?_), Nat.le_of_succ_le HSm.out, HAl.out, HLe.out, HTop.out⟩⟩
    · exact (((Touch.ofBelow HB.out).trans ((Touch.grown HG4.out).mono (fun k _ hk => .inl (Option.some.inj hk))))).trans (Touch.ofBelow (bdN _ (Below.refl _ _)))
    · rw [isL_k Hk1.out] at hc; cases hc
end Go.Proofs.YtlledodigmkdjaaGreatDoor
