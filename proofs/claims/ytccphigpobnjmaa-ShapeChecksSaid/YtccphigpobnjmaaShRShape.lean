/-
  The document's own answer on a production's form. No condition but bounds on how many conditions and actions there are.
-/
import Derived.Test.YtccphigpobnjmaaShHeavy
import Derived.Test.YtccphigpobnjmaaShRConds
import Derived.Test.YtccphigpobnjmaaShRAct
namespace Go.Proofs.Ytccphigpobnjmaa
set_option linter.unusedVariables false
open Go.RowKit
theorem size_zero {l : List Co} : sizeL l < 1 ↔ l.length = 0 := by
  have := len_size l
  constructor
  · omega
  · intro h
    obtain rfl : l = [] := List.eq_nil_of_length_eq_zero h
    simp [sizeL]
set_option maxRecDepth 100000 in
set_option maxHeartbeats 8000000 in
theorem rshape_any (p : Pr) (w : World) (hz : sizeL p.conds ≤ 1000) (hza : p.acts.length ≤ 1000) (hp : PrAt w p) : Calls Try.prog 14 #[.agg #[.string p.name, .slice p.ca p.conds.length p.cc, .slice p.aa p.acts.length p.ac]] w fun e w' => e = .returned (.tuple #[.int .i64 (shapeE p).1, .int .i64 (shapeE p).2]) ∧ Below w.heap.size w w' := by
  obtain ⟨W2, hW2⟩ : ∃ W2, W2 = w.alloc (.cells #[.string p.name, .slice p.ca p.conds.length p.cc, .slice p.aa p.acts.length p.ac] 25) := ⟨_, rfl⟩
  have hB : Below w.heap.size w W2 := by rw [hW2]; go_grown
  have hgp : W2.heap[w.heap.size]? = some (.cells #[.string p.name, .slice p.ca p.conds.length p.cc, .slice p.aa p.acts.length p.ac] 25 (0, 0)) := by rw [hW2]; exact new_at rfl
  have hx := cells_of hgp
  have c0 : W2.cell? ⟨w.heap.size, 0, none⟩ = some (.string p.name) := by rw [hx]; rfl
  have c1 : W2.cell? ⟨w.heap.size, 1, none⟩ = some (.slice p.ca p.conds.length p.cc) := by rw [hx]; rfl
  have c2 : W2.cell? ⟨w.heap.size, 2, none⟩ = some (.slice p.aa p.acts.length p.ac) := by rw [hx]; rfl
  have hlater : ∀ w', Below W2.heap.size W2 w' → w'.cell? ⟨w.heap.size, 2, none⟩ = some (.slice p.aa p.acts.length p.ac) := fun w' h => by
    rw [cells_of ((h.block _ (heap_lt hgp)).trans hgp)]; rfl
  have HL := Lib.hid hlater
  have hacts := hp.acts.mono hB
  have H1 := Lib.hid (fun w' => rword_all p.name w')
  have H2 := Lib.hid (refsize_any p.conds (by omega) p.ca p.cc W2 (hp.conds.mono hB))
  have h3 := reffirst_any p.conds 0 0 p.ca p.cc W2 (by omega) (by omega) (by omega) (hp.conds.mono hB)
  have hi59 : (Try.prog.info? 59).map (·.size) = some 19 := by kernel_rfl
  have H59 := Lib.hid hi59
  have HW := Lib.hid hW2
  have HB := Lib.hid hB
  have HA := Lib.hid hacts
  rw [hW2] at c0 c1 c2 h3
  rw [show (W2 = _) from hW2] at H2
  clear hW2 hx hp hgp hlater hacts hB hi59
  cases q1 : wordB p.name.data.toList with
  | false =>
    have HQ := Lib.hid (show shapeE p = (-1, 2) by have hw : wholeE p = 2 := by { unfold wholeE; rw [if_pos q1] }; unfold shapeE; rw [hw, if_pos (by decide)])
    go_enter Try.func14, Try.ntmps14
    go_wp2_with (go_at_call 42; refine (H1.out _).mono ?_; rintro e w1 ⟨rfl, rfl⟩; rw [q1])
    go_ret2
    exact ⟨by rw [HQ.out]; rfl, by rw [← HW.out]; exact HB.out⟩
  | true =>
    have HS1 := Lib.hid (show wholeE p = (if p.conds.length = 0 then 7 else if 16 < sizeL p.conds then 7 else if p.acts.length = 0 then 7 else if 16 < p.acts.length then 7 else 0) by unfold wholeE; rw [q1, if_neg (by decide)])
    have h77 : wholeE p = 7 → shapeE p = (-1, 7) := fun hw => by unfold shapeE; rw [hw, if_pos (by decide)]
    have H77 := Lib.hid h77
    clear h77
    by_cases n2 : sizeL p.conds < 1
    · have HQ := Lib.hid (show shapeE p = (-1, 7) from H77.out (by rw [HS1.out, if_pos (size_zero.1 n2)]))
      have d2 : decide ((sizeL p.conds : Int) < 1) = true := decide_eq_true (by omega)
      clear n2 H77 HS1
      go_enter Try.func14, Try.ntmps14
      go_wp2_with (first | (go_at_call 42; refine (H1.out _).mono ?_; rintro e w1 ⟨rfl, rfl⟩; rw [q1]) | (go_at_call 43; refine (H2.out).mono ?_; rintro e w2 ⟨rfl, rfl⟩))
      go_ret2
      exact ⟨by rw [HQ.out]; rfl, by rw [← HW.out]; exact HB.out⟩
    have d2 : decide ((sizeL p.conds : Int) < 1) = false := decide_eq_false (by omega)
    have HS2 := Lib.hid (show wholeE p = _ by rw [HS1.out, if_neg (fun h => n2 (size_zero.2 h))])
    clear n2 HS1
    by_cases n3 : 16 < sizeL p.conds
    · have HQ := Lib.hid (show shapeE p = (-1, 7) from H77.out (by rw [HS2.out, if_pos n3]))
      have d3 : decide ((16 : Int) < (sizeL p.conds : Int)) = true := decide_eq_true (by omega)
      clear n3 H77 HS2
      go_enter Try.func14, Try.ntmps14
      go_wp2_with (first | (go_at_call 42; refine (H1.out _).mono ?_; rintro e w1 ⟨rfl, rfl⟩; rw [q1]) | (go_at_call 43; refine (H2.out).mono ?_; rintro e w2 ⟨rfl, rfl⟩))
      go_ret2
      exact ⟨by rw [HQ.out]; rfl, by rw [← HW.out]; exact HB.out⟩
    have d3 : decide ((16 : Int) < (sizeL p.conds : Int)) = false := decide_eq_false (by omega)
    have HS3 := Lib.hid (show wholeE p = _ by rw [HS2.out, if_neg n3])
    clear n3 HS2
    by_cases n4 : p.acts.length = 0
    · have HQ := Lib.hid (show shapeE p = (-1, 7) from H77.out (by rw [HS3.out, if_pos n4]))
      have d4 : decide ((p.acts.length : Int) < 1) = true := decide_eq_true (by omega)
      clear n4 H77 HS3
      go_enter Try.func14, Try.ntmps14
      go_wp2_with (first | (go_at_call 42; refine (H1.out _).mono ?_; rintro e w1 ⟨rfl, rfl⟩; rw [q1]) | (go_at_call 43; refine (H2.out).mono ?_; rintro e w2 ⟨rfl, rfl⟩))
      go_ret2
      exact ⟨by rw [HQ.out]; rfl, by rw [← HW.out]; exact HB.out⟩
    have d4 : decide ((p.acts.length : Int) < 1) = false := decide_eq_false (by omega)
    have HS4 := Lib.hid (show wholeE p = _ by rw [HS3.out, if_neg n4])
    clear n4 HS3
    by_cases n5 : 16 < p.acts.length
    · have HQ := Lib.hid (show shapeE p = (-1, 7) from H77.out (by rw [HS4.out, if_pos n5]))
      have d5 : decide ((16 : Int) < (p.acts.length : Int)) = true := decide_eq_true (by omega)
      clear n5 H77 HS4
      go_enter Try.func14, Try.ntmps14
      go_wp2_with (first | (go_at_call 42; refine (H1.out _).mono ?_; rintro e w1 ⟨rfl, rfl⟩; rw [q1]) | (go_at_call 43; refine (H2.out).mono ?_; rintro e w2 ⟨rfl, rfl⟩))
      go_ret2
      exact ⟨by rw [HQ.out]; rfl, by rw [← HW.out]; exact HB.out⟩
    have d5 : decide ((16 : Int) < (p.acts.length : Int)) = false := decide_eq_false (by omega)
    have hw0 : wholeE p = 0 := by rw [HS4.out, if_neg n5]
    have HS5 := Lib.hid (show shapeE p = (if (firstE p.conds 0 0).2 ≠ 0 then firstE p.conds 0 0 else if p.acts.all actB = true then (-1, 0) else ((sizeL p.conds : Int) + ((p.acts.takeWhile actB).length : Int), 9)) by unfold shapeE; rw [hw0, if_neg (by decide)])
    clear n5 HS4 hw0 H77
    cases q6 : (firstE p.conds 0 0).2 != 0 with
    | true =>
      have HQ := Lib.hid (show shapeE p = firstE p.conds 0 0 by rw [HS5.out, if_pos (bne_iff_ne.1 q6)])
      clear HS5
      generalize firstE p.conds 0 0 = r at HQ q6 h3
      have H3 := Lib.hid h3
      clear h3
      go_enter Try.func14, Try.ntmps14
      go_wp2_with (first | (go_at_call 42; refine (H1.out _).mono ?_; rintro e w1 ⟨rfl, rfl⟩; rw [q1]) | (go_at_call 43; refine (H2.out).mono ?_; rintro e w2 ⟨rfl, rfl⟩) | (go_at_call 44; refine (H3.out).mono ?_; rintro e w3 ⟨rfl, h3⟩; rw [← HW.out] at h3; have HB3 := Lib.hid h3; have c2 := HL.out w3 h3; clear h3))
      go_ret2
      exact ⟨by rw [HQ.out]; rfl, HB.out.trans (HB3.out.mono HB.out.size)⟩
    | false =>
      have hq6 : (firstE p.conds 0 0).2 = 0 := bne_eq_false_iff_eq.1 q6
      have HS6 := Lib.hid (show shapeE p = _ by rw [HS5.out, hq6, if_neg (by simp)])
      rw [hq6] at h3
      clear HS5 q6 hq6
      generalize (firstE p.conds 0 0).1 = r at h3
      have H3 := Lib.hid h3
      have hbz : sizeL p.conds ≤ 1000 := hz
      clear h3
      go_enter Try.func14, Try.ntmps14
      go_wp2_with (first | (go_at_call 42; refine (H1.out _).mono ?_; rintro e w1 ⟨rfl, rfl⟩; rw [q1]) | (go_at_call 43; refine (H2.out).mono ?_; rintro e w2 ⟨rfl, rfl⟩) | (go_at_call 44; refine (H3.out).mono ?_; rintro e w3 ⟨rfl, h3⟩; rw [← HW.out] at h3; have HB3 := Lib.hid h3; have c2 := HL.out w3 h3; clear h3))
      go_loopw [2, 3, 7] (fun rr re i wr => ∃ k : Nat, k ≤ p.acts.length ∧ i = .int .i64 k ∧ rr = .int .i64 0 ∧ re = .int .i64 0 ∧ Below w3.heap.size w3 wr ∧ (p.acts.take k).all actB = true) (fun _ _ i _ => p.acts.length - (intOf i).toNat)
      case atStart => exact ⟨0, Nat.zero_le _, rfl, rfl, rfl, Below.refl _ _, by simp⟩
      case round =>
        obtain ⟨k, hk, rfl, rfl, rfl, hbr, hall⟩ := hrel
        have hb23 : Below W2.heap.size W2 wr := HB3.out.trans (hbr.mono HB3.out.size)
        have cr2 := HL.out wr hb23
        by_cases hlt : k < p.acts.length
        · obtain ⟨b, off, hab, hcell⟩ := HA.out.at hlt
          have hsucc := all_take_succ actB p.acts hlt
          have hcut := fun h => all_cut (p := actB) hlt h
          have htw := fun h => takeWhile_cut (p := actB) hlt hall h
          have hc := hcell wr hb23
          obtain ⟨x, hx⟩ : ∃ x, x = p.acts[k] := ⟨_, rfl⟩
          rw [← hx] at hc hsucc hcut htw
          rw [hall, Bool.true_and] at hsucc
          have hcl : ∀ (j : Nat) (v : Value), [.string x.id, .string x.at_.v, .int .i64 x.at_.s.k, .string x.at_.s.t, .int .i64 x.at_.s.n, .int .i64 x.v.op, .string x.v.l.v, .int .i64 x.v.l.s.k, .string x.v.l.s.t, .int .i64 x.v.l.s.n, .string x.v.r.v, .int .i64 x.v.r.s.k, .string x.v.r.s.t, .int .i64 x.v.r.s.n, .int .i64 x.pref, .string x.oth.v, .int .i64 x.oth.s.k, .string x.oth.s.t, .int .i64 x.oth.s.n][j]? = some v → wr.cell? ((⟨b, off + k * 19, none⟩ : Addr).add j) = some v := fun j v hv => by rw [Addr.add_lit]; exact hc j v hv
          have HCL := Lib.hid hcl
          have HAC := Lib.hid (ract_any x wr)
          have HS := Lib.hid hsucc
          have HCUT := Lib.hid hcut
          have HTW := Lib.hid htw
          have HBR := Lib.hid hbr
          have hwr := hbr.size
          rw [hab] at cr2
          clear hcl hsucc hcut htw hcell hc hx hall hbr hb23 hab
          cases hq : actB x with
          | true =>
            have HS2 := Lib.hid (HS.out.trans hq)
            go_wp2_with (first | (refine wpList_load rfl (.tmp 53) 59 rfl (A := ⟨b, off + k * 19, none⟩) rfl Try.underlying59 rfl (cs := [.string x.id, .string x.at_.v, .int .i64 x.at_.s.k, .string x.at_.s.t, .int .i64 x.at_.s.n, .int .i64 x.v.op, .string x.v.l.v, .int .i64 x.v.l.s.k, .string x.v.l.s.t, .int .i64 x.v.l.s.n, .string x.v.r.v, .int .i64 x.v.r.s.k, .string x.v.r.s.t, .int .i64 x.v.r.s.n, .int .i64 x.pref, .string x.oth.v, .int .i64 x.oth.s.k, .string x.oth.s.t, .int .i64 x.oth.s.n]) H59.out HCL.out ?_) | (go_at_call 45; refine (HAC.out).mono ?_; rintro e w4 ⟨rfl, h4⟩; rw [hq]))
            go_roundw
            case rel => exact ⟨k + 1, by omega, by go_num, rfl, rfl, HBR.out.trans (h4.mono hwr), HS2.out⟩
            case measure => simp [intOf]; omega
          | false =>
            have HQ := Lib.hid (show shapeE p = ((sizeL p.conds : Int) + (k : Int), 9) by rw [HS6.out, HCUT.out hq, if_neg (by decide), HTW.out hq])
            go_wp2_with (first | (refine wpList_load rfl (.tmp 53) 59 rfl (A := ⟨b, off + k * 19, none⟩) rfl Try.underlying59 rfl (cs := [.string x.id, .string x.at_.v, .int .i64 x.at_.s.k, .string x.at_.s.t, .int .i64 x.at_.s.n, .int .i64 x.v.op, .string x.v.l.v, .int .i64 x.v.l.s.k, .string x.v.l.s.t, .int .i64 x.v.l.s.n, .string x.v.r.v, .int .i64 x.v.r.s.k, .string x.v.r.s.t, .int .i64 x.v.r.s.n, .int .i64 x.pref, .string x.oth.v, .int .i64 x.oth.s.k, .string x.oth.s.t, .int .i64 x.oth.s.n]) H59.out HCL.out ?_) | (go_at_call 45; refine (HAC.out).mono ?_; rintro e w4 ⟨rfl, h4⟩; rw [hq]))
            go_ret2
            exact ⟨by rw [HQ.out]; rfl, HB.out.trans ((HB3.out.trans ((HBR.out.trans (h4.mono hwr)).mono HB3.out.size)).mono HB.out.size)⟩
        · obtain rfl : k = p.acts.length := by omega
          rw [List.take_length] at hall
          have HQ := Lib.hid (show shapeE p = (-1, 0) by rw [HS6.out, if_pos hall])
          clear hall
          go_wp2_with fail
          go_ret2
          exact ⟨by rw [HQ.out]; rfl, HB.out.trans (hb23.mono HB.out.size)⟩
end Go.Proofs.Ytccphigpobnjmaa
