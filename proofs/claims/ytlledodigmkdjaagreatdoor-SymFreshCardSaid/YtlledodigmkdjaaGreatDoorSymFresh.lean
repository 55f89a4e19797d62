/-
  Walks over package sym: New, Fresh. No condition.
-/
import Derived.Test.YtlledodigmkdjaaGreatDoorSymAdd
namespace Go.Proofs.YtlledodigmkdjaaGreatDoor
set_option linter.unusedVariables false
open Go.RowKit
def NewTOut (w : World) (room : Int) (e : Ending) (w' : World) : Prop :=
  ∃ b sb mb ms, e = .returned (.tuple #[.pointer (some ⟨b, 0, none⟩), .int .i64 0]) ∧ Below w.heap.size w w' ∧ (w.heap.size ≤ sb ∧ sb < ms ∧ ms < mb ∧ mb < b) ∧ TabAt w' b sb mb ms room [] []
theorem new_tab (w : World) (room : Int) (h0 : 1 ≤ room) (h1 : room ≤ 4096) : Calls Tryz.prog 17 #[.int .i64 room] w (NewTOut w room) := by
  have hfin : ∀ (w1 w2 : World) (sb mb ms : Nat), Below w.heap.size w w1 → w.heap.size ≤ sb → SetS w1 sb [] → Below w1.heap.size w1 w2 → w1.heap.size ≤ ms → ms < mb → MapC w2 mb ms [] →
      NewTOut w room (.returned (.tuple #[.pointer (some ⟨w2.heap.size, 0, none⟩), .int .i64 0])) (w2.alloc (.cells #[.pointer (some ⟨sb, 0, none⟩), .pointer (some ⟨mb, 0, none⟩), .int .i64 room] 73)) := by
    intro w1 w2 sb mb ms hb1 hs1 hset hb2 hm1 hm2 hmap
    have hb3 : Below w2.heap.size w2 (w2.alloc (.cells #[.pointer (some ⟨sb, 0, none⟩), .pointer (some ⟨mb, 0, none⟩), .int .i64 room] 73)) := (Below.refl _ _).alloc (Nat.le_refl _) _
    have l1 := IsSet.lt hset
    have l2 := heap_lt hmap.1
    refine ⟨w2.heap.size, sb, mb, ms, rfl, (hb1.trans (hb2.mono hb1.size)).trans (hb3.mono (Nat.le_trans hb1.size hb2.size)), ⟨hs1, by omega, hm2, l2⟩, ⟨new_at rfl, IsSet.mono (IsSet.mono hset hb2) hb3, hmap.mono hb3, fun c => rfl, Nat.le_refl _, fun x hx => absurd hx (List.not_mem_nil), Nat.zero_le _, h1⟩⟩
  have Hfin := Lib.hid hfin
  clear hfin
  go_enter Tryz.func17, Tryz.ntmps17
  go_wp2_with (first | (go_at_call 43; refine (new_nilS w).mono ?_; unfold NewOutS; rintro e w1 ⟨sb, rfl, hs1, hb1, hset⟩) | (go_at_call 44; refine (new_mapC w1).mono ?_; unfold NewMOutC; rintro e w2 ⟨mb, ms, rfl, hm1, hm2, hb2, hmap⟩))
  go_ret2
  exact Hfin.out w1 w2 sb mb ms hb1 hs1 hset hb2 hm1 hm2 hmap
theorem new_bad (w : World) (room : Int) (h : ¬ (1 ≤ room ∧ room ≤ 4096)) : Calls Tryz.prog 17 #[.int .i64 room] w fun e w' => e = .returned (.tuple #[.pointer none, .int .i64 1]) ∧ w = w' := by
  by_cases h1 : room < 1
  · go_enter Tryz.func17, Tryz.ntmps17
    go_wp2_with fail
    go_ret2
    exact ⟨rfl, rfl⟩
  · have h2 : 4096 < room := by omega
    clear h
    go_enter Tryz.func17, Tryz.ntmps17
    go_wp2_with fail
    go_ret2
    exact ⟨rfl, rfl⟩
/-- The identifier that Fresh makes. -/
theorem enc_cap (c : UInt8) (h : capB c = true) : Utf8.encode (wrap32 c.toNat) = ⟨#[c]⟩ := by
  unfold capB at h
  simp only [decide_eq_true_eq] at h
  have e : wrap32 c.toNat = c.toNat := by unfold wrap32; omega
  have hv : Utf8.valid (c.toNat : Int) = true := by simp [Utf8.valid]; omega
  rw [e]
  unfold Utf8.encode
  simp only [hv, if_true]
  rw [if_pos (by omega)]
  simp
def freshY (c : UInt8) (xs : List Sy) : Sy := ⟨1, ⟨#[c]⟩, great c xs + 1⟩
def fresherr (c : UInt8) (room : Int) (xs : List Sy) : Int := if capB c = false then 1 else if room ≤ xs.length ∨ 1048576 < great c xs + 1 then 20 else 0
theorem fresh_new (c : UInt8) (xs : List Sy) : has cmpY (freshY c xs) xs = false := by
  unfold has
  rw [List.any_eq_false]
  intro y hy
  simp only [beq_iff_eq]
  intro h
  have e := cmpY_eq h
  have hl : isL c y = true := by rw [← e]; simp [isL, freshY]
  have := (great_ge c xs 0).2 y hy hl
  rw [← e] at this
  change great c xs + 1 ≤ great c xs at this
  omega
theorem fresh_valid (c : UInt8) (xs : List Sy) (hc : capB c = true) (h0 : 0 ≤ great c xs) (h1 : great c xs + 1 ≤ 1048576) : validY (freshY c xs) = true := by
  have h2 : decide (1 ≤ great c xs + 1 ∧ great c xs + 1 ≤ 1048576) = true := by simp; omega
  unfold validY validL freshY
  simp only [if_true, capsL, hc, h2, Bool.and_self]
def FreshOut (w : World) (b sb mb ms : Nat) (room : Int) (c : UInt8) (xs : List Sy) (w' : World) : Prop := AddOut w b sb mb ms room (freshY c xs) xs w'
set_option maxHeartbeats 2000000 in
theorem fresh_bad (w : World) (b sb mb ms : Nat) (room : Int) (xs : List Sy) (ys : List Pc) (c : UInt8) (h : TabAt w b sb mb ms room xs ys) (he : fresherr c room xs ≠ 0) :
    Calls Tryz.prog 21 #[.pointer (some ⟨b, 0, none⟩), .int .u8 c.toNat] w fun e w' => e = .returned (.tuple #[.agg #[.int .i64 0, .string ⟨#[]⟩, .int .i64 0], .int .i64 (fresherr c room xs)]) ∧ Below w.heap.size w w' := by
  obtain ⟨W1, hW1⟩ : ∃ W1, W1 = w.alloc (.cells #[.int .i64 0, .string ⟨#[]⟩, .int .i64 0] 23) := ⟨_, rfl⟩
  have hB : Below w.heap.size w W1 := by rw [hW1]; go_grown
  have hx : W1.heap[w.heap.size]? = some (.cells #[.int .i64 0, .string ⟨#[]⟩, .int .i64 0] 23 (0, 0)) := by rw [hW1]; exact new_at rfl
  have hk : ∀ w', Below W1.heap.size W1 w' → (w'.cell? ⟨w.heap.size, 0, none⟩ = some (.int .i64 0) ∧ w'.cell? ⟨w.heap.size, 1, none⟩ = some (.string ⟨#[]⟩) ∧ w'.cell? ⟨w.heap.size, 2, none⟩ = some (.int .i64 0)
      ∧ w'.frozen? ⟨w.heap.size, 0, none⟩ = false ∧ w'.frozen? ⟨w.heap.size, 1, none⟩ = false ∧ w'.frozen? ⟨w.heap.size, 2, none⟩ = false) ∧ Hid (w'.heap[w.heap.size]? = some (.cells #[.int .i64 0, .string ⟨#[]⟩, .int .i64 0] 23 (0, 0))) := by
    intro w' h
    have h2 := (h.block _ (heap_lt hx)).trans hx
    exact ⟨⟨by rw [cells_of h2]; rfl, by rw [cells_of h2]; rfl, by rw [cells_of h2]; rfl, frozen_of h2, frozen_of h2, frozen_of h2⟩, h2⟩
  have hnext := fun w' (hq : Below w.heap.size w w') => next_tab w' b sb mb ms room xs ys c (h.mono hq)
  have hlen := fun w' (hq : Below w.heap.size w w') => len_tab w' b sb mb ms room xs ys (h.mono hq)
  have hroom : ∀ w', Below w.heap.size w w' → w'.cell? ⟨b, 2, none⟩ = some (.int .i64 room) := fun w' hq => by rw [cells_of (h.cells.mono hq)]; rfl
  have hgb := great_bound c xs h.all
  have hK := Lib.hid hk
  have HB := Lib.hid hB
  have HW := Lib.hid hW1
  have Hnext := Lib.hid hnext
  have Hlen := Lib.hid hlen
  have Hroom := Lib.hid hroom
  clear hk hB hnext hlen hroom h
  obtain ⟨⟨e0, e1, e2, g0, g1, g2⟩, H1⟩ := hK.out W1 (Below.refl _ _)
  rw [hW1] at e0 e1 e2 g0 g1 g2
  clear hx
  cases hcap : capB c with
  | false =>
    have HE : Hid (fresherr c room xs = 1) := Lib.hid (by unfold fresherr; rw [if_pos hcap])
    clear he
    go_enter Tryz.func21, Tryz.ntmps21
    go_wp2_with (go_at_call 33; refine (cap_any _ _).mono ?_; rintro e w' ⟨rfl, rfl⟩; rw [hcap])
    refine bodyPost_ret (by simp [results, Tryz.results21, go_sem]; rfl) rfl ?_
    rw [HE.out]
    exact ⟨rfl, by go_grown⟩
  | true =>
    have he2 : room ≤ xs.length ∨ 1048576 < great c xs + 1 := Decidable.byContradiction fun hh => he (by unfold fresherr; rw [if_neg (by simp [hcap]), if_neg hh])
    have HE : Hid (fresherr c room xs = 20) := Lib.hid (by unfold fresherr; rw [if_neg (by simp [hcap]), if_pos he2])
    have Hnext2 := Hnext
    rw [hcap] at Hnext2
    simp only [if_true] at Hnext2
    clear he Hnext
    generalize great c xs = m at *
    by_cases hf : room ≤ xs.length
    · have hd : decide (room ≤ (xs.length : Int)) = true := by simp [hf]
      clear hW1 e0 e1 e2 g0 g1 g2 H1
      go_enter Tryz.func21, Tryz.ntmps21
      go_wp2_with (first | (go_at_call 33; refine (cap_any _ _).mono ?_; rintro e w' ⟨rfl, rfl⟩; rw [hcap]) | (go_at_call 25; rw [← HW.out]; refine (Hnext2.out _ HB.out).mono ?_; rintro e w2 ⟨rfl, hb2⟩; obtain ⟨⟨c0, c1, c2, f0, f1, f2⟩, H2⟩ := hK.out _ hb2; have HB2 := Lib.hid hb2; have hr := Hroom.out _ (HB.out.trans (hb2.mono HB.out.size)); have Hl := Lib.hid (fun w' (hq : Below w2.heap.size w2 w') => Hlen.out w' ((HB.out.trans (hb2.mono HB.out.size)).trans (hq.mono (Nat.le_trans HB.out.size hb2.size)))); clear hb2))
      go_quiet ((go_at_call 27; exact Calls.quiet_of_same ((Hl.out _ (bdN _ (Below.refl _ _))).mono fun _ _ h => ⟨h.1, h.2.symm⟩)))
      go_wp2_with fail
      obtain ⟨s0, s1, s2⟩ := set3 (a := .int .i64 0) (b := .string ⟨#[]⟩) (c := .int .i64 0) (show (w2.drewN nq).heap[w.heap.size]? = _ from H2.out)
      refine bodyPost_ret (by simp [results, Tryz.results21, go_sem, s0, s1, s2]; rfl) rfl ?_
      rw [HE.out]
      exact ⟨rfl, (((bdN nq (HB.out.trans (HB2.out.mono HB.out.size))).setCell (Nat.le_refl _) _).setCell (Nat.le_refl _) _).setCell (Nat.le_refl _) _⟩
    · have hd : decide (room ≤ (xs.length : Int)) = false := by simp; omega
      have hd2 : decide (1048576 < m + 1) = true := by simp; omega
      clear hW1 e0 e1 e2 g0 g1 g2 H1 he2
      go_enter Tryz.func21, Tryz.ntmps21
      go_wp2_with (first | (go_at_call 33; refine (cap_any _ _).mono ?_; rintro e w' ⟨rfl, rfl⟩; rw [hcap]) | (go_at_call 25; rw [← HW.out]; refine (Hnext2.out _ HB.out).mono ?_; rintro e w2 ⟨rfl, hb2⟩; obtain ⟨⟨c0, c1, c2, f0, f1, f2⟩, H2⟩ := hK.out _ hb2; have HB2 := Lib.hid hb2; have hr := Hroom.out _ (HB.out.trans (hb2.mono HB.out.size)); have Hl := Lib.hid (fun w' (hq : Below w2.heap.size w2 w') => Hlen.out w' ((HB.out.trans (hb2.mono HB.out.size)).trans (hq.mono (Nat.le_trans HB.out.size hb2.size)))); clear hb2))
      go_quiet ((go_at_call 27; exact Calls.quiet_of_same ((Hl.out _ (bdN _ (Below.refl _ _))).mono fun _ _ h => ⟨h.1, h.2.symm⟩)))
      go_wp2_with fail
      obtain ⟨s0, s1, s2⟩ := set3 (a := .int .i64 0) (b := .string ⟨#[]⟩) (c := .int .i64 0) (show (w2.drewN nq).heap[w.heap.size]? = _ from H2.out)
      refine bodyPost_ret (by simp [results, Tryz.results21, go_sem, s0, s1, s2]; rfl) rfl ?_
      rw [HE.out]
      exact ⟨rfl, (((bdN nq (HB.out.trans (HB2.out.mono HB.out.size))).setCell (Nat.le_refl _) _).setCell (Nat.le_refl _) _).setCell (Nat.le_refl _) _⟩
set_option maxHeartbeats 2000000 in
theorem fresh_good (w : World) (b sb mb ms : Nat) (room : Int) (xs : List Sy) (ys : List Pc) (c : UInt8) (h : TabAt w b sb mb ms room xs ys) (he : fresherr c room xs = 0) :
    Calls Tryz.prog 21 #[.pointer (some ⟨b, 0, none⟩), .int .u8 c.toNat] w fun e w' => e = .returned (.tuple #[.agg #[.int .i64 (freshY c xs).k, .string (freshY c xs).t, .int .i64 (freshY c xs).n], .int .i64 0]) ∧ FreshOut w b sb mb ms room c xs w' := by
  have hcap : capB c = true := by
    cases hc : capB c with
    | true => rfl
    | false => unfold fresherr at he; rw [if_pos hc] at he; omega
  have hle : ¬ (room ≤ xs.length ∨ 1048576 < great c xs + 1) := fun hh => by
    unfold fresherr at he; rw [if_neg (by simp [hcap]), if_pos hh] at he; omega
  have hgb := great_bound c xs h.all
  have hvalid := fresh_valid c xs hcap hgb.1 (by omega)
  have hnew := fresh_new c xs
  have hl4 : xs.length < 4096 := by have := h.top; omega
  have hsb := IsSet.lt h.known
  have hms := IsSet.lt h.map.2
  obtain ⟨W1, hW1⟩ : ∃ W1, W1 = w.alloc (.cells #[.int .i64 0, .string ⟨#[]⟩, .int .i64 0] 23) := ⟨_, rfl⟩
  have hB : Below w.heap.size w W1 := by rw [hW1]; go_grown
  have hx : W1.heap[w.heap.size]? = some (.cells #[.int .i64 0, .string ⟨#[]⟩, .int .i64 0] 23 (0, 0)) := by rw [hW1]; exact new_at rfl
  have hnext := next_tab W1 b sb mb ms room xs ys c (h.mono hB)
  rw [hcap] at hnext
  simp only [if_true] at hnext
  have hlen := fun w' (hq : Below w.heap.size w w') => len_tab w' b sb mb ms room xs ys (h.mono hq)
  have hadd := fun w' (hq : Below w.heap.size w w') => add_tab w' b sb mb ms room (freshY c xs) xs ys (h.mono hq) hvalid (show (1 : Nat) ≤ 1000000 by omega) hnew hl4
  have hroom : ∀ w', Below w.heap.size w w' → w'.cell? ⟨b, 2, none⟩ = some (.int .i64 room) := fun w' hq => by rw [cells_of (h.cells.mono hq)]; rfl
  have HB := Lib.hid hB
  have HW := Lib.hid hW1
  have HX := Lib.hid hx
  have Hnext := Lib.hid hnext
  have Hlen := Lib.hid hlen
  have Hroom := Lib.hid hroom
  clear hB hx hnext hlen hroom h he hvalid hnew hW1
  have hd : decide (room ≤ (xs.length : Int)) = false := by simp; omega
  have hd2 : decide (1048576 < great c xs + 1) = false := by simp; omega
  clear hle
  obtain ⟨m, hm⟩ : ∃ m, m = great c xs := ⟨_, rfl⟩
  rw [← hm] at Hnext hd2 hgb
  have henc := enc_cap c hcap
  have hadd2 : ∀ w', Below w.heap.size w w' → Calls Tryz.prog 48 #[.pointer (some ⟨b, 0, none⟩), .agg #[.int .i64 1, .string ⟨#[c]⟩, .int .i64 (m + 1)]] w' fun e w2 => e = .returned (.tuple #[]) ∧ AddOut w' b sb mb ms room (freshY c xs) xs w2 := fun w' hq => by rw [hm]; exact hadd w' hq
  have Hadd := Lib.hid hadd2
  clear hadd hadd2
  have HEnc := Lib.hid henc
  clear henc
  have HM := Lib.hid hm
  clear hm
  go_enter Tryz.func21, Tryz.ntmps21
  go_wp2_with (first | (go_at_call 33; refine (cap_any _ _).mono ?_; rintro e w' ⟨rfl, rfl⟩; rw [hcap]) | (go_at_call 25; rw [← HW.out]; refine Hnext.out.mono ?_; rintro e w2 ⟨rfl, hb2⟩; have HB2 : Hid (Below w.heap.size w w2) := Lib.hid (HB.out.trans (hb2.mono HB.out.size)); have HX2 : Hid (w2.heap[w.heap.size]? = some (.cells #[.int .i64 0, .string ⟨#[]⟩, .int .i64 0] 23 (0, 0))) := Lib.hid ((hb2.block _ (heap_lt HX.out)).trans HX.out); have hr := Hroom.out _ HB2.out; have Hl := Lib.hid (fun w' (hq : Below w2.heap.size w2 w') => Hlen.out w' (HB2.out.trans (hq.mono HB2.out.size))); clear hb2))
  go_quiet ((go_at_call 27; exact Calls.quiet_of_same ((Hl.out _ (bdN _ (Below.refl _ _))).mono fun _ _ h => ⟨h.1, h.2.symm⟩)))
  have HB3 : Hid (Below w.heap.size w (w2.drewN nq)) := Lib.hid (bdN _ HB2.out)
  have HX3 : Hid ((w2.drewN nq).heap[w.heap.size]? = some (.cells #[.int .i64 0, .string ⟨#[]⟩, .int .i64 0] 23 (0, 0))) := Lib.hid HX2.out
  generalize w2.drewN nq = w3 at HB3 HX3 ⊢
  have HB4 : Hid (Below w.heap.size w (w3.alloc (.cells #[.int .i64 1, .string ⟨#[c]⟩, .int .i64 (m + 1)] 23))) := Lib.hid (HB3.out.alloc HB3.out.size _)
  have hsz3 : w.heap.size < w3.heap.size := heap_lt HX3.out
  go_wp2_with (go_at_call 48; rw [HEnc.out]; refine (Hadd.out _ HB4.out).mono ?_; rintro e w5 ⟨rfl, hao⟩; have HAo := Lib.hid hao; have HX5 : Hid (w5.heap[w.heap.size]? = some (.cells #[.int .i64 0, .string ⟨#[]⟩, .int .i64 0] 23 (0, 0))) := Lib.hid ((hao.1.block w.heap.size (by simp; omega) (by unfold TabTouch; omega)).trans ((Below.heap_alloc _ _ _ (by simpa using hsz3)).trans HX3.out)); have HY5 : Hid (w5.heap[w3.heap.size]? = some (.cells #[.int .i64 1, .string ⟨#[c]⟩, .int .i64 (m + 1)] 23 (0, 0))) := Lib.hid ((hao.1.block w3.heap.size (by simp) (by unfold TabTouch; omega)).trans (new_at rfl)); have y0 := cells_of HY5.out 0; have y1 := cells_of HY5.out 1; have y2 := cells_of HY5.out 2; have x0 := cells_of HX5.out 0; have x1 := cells_of HX5.out 1; have x2 := cells_of HX5.out 2; simp at y0 y1 y2 x0 x1 x2; have f0 : w5.frozen? ⟨w.heap.size, 0, none⟩ = false := frozen_of HX5.out; have f1 : w5.frozen? ⟨w.heap.size, 1, none⟩ = false := frozen_of HX5.out; have f2 : w5.frozen? ⟨w.heap.size, 2, none⟩ = false := frozen_of HX5.out; clear hao)
  obtain ⟨s0, s1, s2⟩ := set3 (a := .int .i64 1) (b := .string ⟨#[c]⟩) (c := .int .i64 (m + 1)) HX5.out
  refine bodyPost_ret (by simp [results, Tryz.results21, go_sem, s0, s1, s2]; rfl) rfl ?_
  refine ⟨by rw [HM.out]; rfl, ?_, ?_⟩
  · exact ((((Touch.ofBelow HB4.out).trans HAo.out.1).setNew (Nat.le_refl _) _ _).setNew (Nat.le_refl _) _ _).setNew (Nat.le_refl _) _ _
  · obtain ⟨ys', h5⟩ := HAo.out.2
    refine ⟨ys', h5.touch (A := fun k => k = w.heap.size) ((Touch.set _ _ _ _).trans ((Touch.set _ _ _ _).trans (Touch.set _ _ _ _))) ?_ ?_ ?_ ?_ ?_⟩
    · rintro rfl; have := h5.cells; unfold TabCells at this; rw [HX5.out] at this; simp at this
    · omega
    · rintro rfl; have := h5.map.1; rw [HX5.out] at this; simp at this
    · omega
    · rintro k rfl cs t f hc
      rw [HX5.out] at hc
      simp only [Option.some.injEq, Obj.cells.injEq] at hc
      obtain ⟨-, rfl, -⟩ := hc
      exact ⟨by decide, by decide⟩
end Go.Proofs.YtlledodigmkdjaaGreatDoor
