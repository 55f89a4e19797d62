/-
  Package shape: termFits, actFits. No condition.
-/
import Derived.Test.YtccphigpobnjmaaShAct
namespace Go.Proofs.Ytccphigpobnjmaa
set_option linter.unusedVariables false
open Go.RowKit
set_option maxHeartbeats 2000000 in
theorem termF_any (t : Tm) (w : World) : Calls Try.prog 69 #[.agg #[.int .i64 t.op, .string t.l.v, .int .i64 t.l.s.k, .string t.l.s.t, .int .i64 t.l.s.n, .string t.r.v, .int .i64 t.r.s.k, .string t.r.s.t, .int .i64 t.r.s.n]] w fun e w' => e = .returned (.bool (termB t)) ∧ Below w.heap.size w w' := by
  obtain ⟨W2, hW2⟩ : ∃ W2, W2 = w.alloc (.cells #[.int .i64 t.op, .string t.l.v, .int .i64 t.l.s.k, .string t.l.s.t, .int .i64 t.l.s.n, .string t.r.v, .int .i64 t.r.s.k, .string t.r.s.t, .int .i64 t.r.s.n] 57) := ⟨_, rfl⟩
  have hB : Below w.heap.size w W2 := by rw [hW2]; go_grown
  have hc : ∀ w', Below W2.heap.size W2 w' → w'.cell? ⟨w.heap.size, 5, none⟩ = some (.string t.r.v) ∧ w'.cell? ⟨w.heap.size, 6, none⟩ = some (.int .i64 t.r.s.k) ∧ w'.cell? ⟨w.heap.size, 7, none⟩ = some (.string t.r.s.t) ∧ w'.cell? ⟨w.heap.size, 8, none⟩ = some (.int .i64 t.r.s.n) := by
    intro w' h
    have hx := cells_of (W := W2) (b := w.heap.size) (c := #[.int .i64 t.op, .string t.l.v, .int .i64 t.l.s.k, .string t.l.s.t, .int .i64 t.l.s.n, .string t.r.v, .int .i64 t.r.s.k, .string t.r.s.t, .int .i64 t.r.s.n]) (t := 57) (f := (0, 0)) (by rw [hW2]; exact new_at rfl)
    have hlt : w.heap.size < W2.heap.size := by rw [hW2]; simp
    refine ⟨?_, ?_, ?_, ?_⟩
    · exact (h.cell (p := ⟨w.heap.size, 5, none⟩) hlt).trans (by rw [hx]; rfl)
    · exact (h.cell (p := ⟨w.heap.size, 6, none⟩) hlt).trans (by rw [hx]; rfl)
    · exact (h.cell (p := ⟨w.heap.size, 7, none⟩) hlt).trans (by rw [hx]; rfl)
    · exact (h.cell (p := ⟨w.heap.size, 8, none⟩) hlt).trans (by rw [hx]; rfl)
  have HC := Lib.hid hc
  have HW := Lib.hid hW2
  clear hc hW2
  by_cases p0 : t.op = 0
  · have q0 : (t.op == 0) = true := by simp [p0]
    have hr : termB t = (atomB t.l && decide (t.r = zeroA)) := by unfold termB; rw [if_pos p0]
    have HR := Lib.hid hr
    have hv := fun w' => atomF_any t.l w'
    have HV := Lib.hid hv
    clear hr hv p0
    cases ha : atomB t.l with
    | false =>
      have HQ := Lib.hid (show termB t = false by rw [HR.out, ha]; rfl)
      go_enter Try.func69, Try.ntmps69
      go_wp2_with (go_at_call 68; rw [← HW.out]; refine (HV.out _).mono ?_; rintro e w' ⟨rfl, hb⟩; rw [ha])
      go_ret
      exact ⟨by rw [HQ.out]; rfl, hB.trans (hb.mono hB.size)⟩
    | true =>
      have HQ := Lib.hid (show termB t = decide (t.r = zeroA) by rw [HR.out, ha]; rfl)
      have hq : ∀ w, (binOp .eql 55 (.agg #[.string t.r.v, .int .i64 t.r.s.k, .string t.r.s.t, .int .i64 t.r.s.n]) (.agg #[.string ⟨#[]⟩, .int .i64 0, .string ⟨#[]⟩, .int .i64 0])).run Try.prog w = .ok (.bool (decide (t.r = zeroA))) w := eqA_run t.r zeroA
      generalize decide (t.r = zeroA) = q at HQ hq
      go_enter Try.func69, Try.ntmps69
      go_wp2_with (go_at_call 68; rw [← HW.out]; refine (HV.out _).mono ?_; rintro e w' ⟨rfl, hb⟩; rw [ha]; obtain ⟨c5, c6, c7, c8⟩ := HC.out _ hb)
      go_ret
      exact ⟨by rw [HQ.out]; rfl, hB.trans (hb.mono hB.size)⟩
  · have q0 : (t.op == 0) = false := by simp [p0]
    have hl := fun w' => sumF_any t.l w'
    have hr := fun w' => sumF_any t.r w'
    have HL := Lib.hid hl
    have HRR := Lib.hid hr
    clear hl hr
    by_cases p1 : t.op = 1
    · have q1 : (t.op == 1) = true := by simp [p1]
      have hr : termB t = (sumB t.l && sumB t.r) := by unfold termB; rw [if_neg p0, if_pos (by omega)]
      have HR := Lib.hid hr
      clear hr p0 p1
      cases ha : sumB t.l with
      | false =>
        have HQ := Lib.hid (show termB t = false by rw [HR.out, ha]; rfl)
        go_enter Try.func69, Try.ntmps69
        go_wp2_with (go_at_call 92; rw [← HW.out]; refine (HL.out _).mono ?_; rintro e w' ⟨rfl, hb⟩; rw [ha])
        go_ret
        exact ⟨by rw [HQ.out]; rfl, hB.trans (hb.mono hB.size)⟩
      | true =>
        have HQ := Lib.hid (show termB t = sumB t.r by rw [HR.out, ha]; rfl)
        have tok : Hid (0 = 0) := rfl
        go_enter Try.func69, Try.ntmps69
        go_wp2_with (first | (have _t := tok; go_at_call 92; rw [← HW.out]; refine (HL.out _).mono ?_; rintro e w1 ⟨rfl, hb⟩; rw [ha]; obtain ⟨c5, c6, c7, c8⟩ := HC.out _ hb; clear tok _t) | (go_at_call 92; refine (HRR.out _).mono ?_; rintro e w2 ⟨rfl, hb2⟩))
        go_ret
        exact ⟨by rw [HQ.out]; rfl, (hB.trans (hb.mono hB.size)).trans (hb2.mono (hB.trans (hb.mono hB.size)).size)⟩
    · have q1 : (t.op == 1) = false := by simp [p1]
      by_cases p2 : t.op = 2
      · have q2 : (t.op == 2) = true := by simp [p2]
        have hr : termB t = (sumB t.l && sumB t.r) := by unfold termB; rw [if_neg p0, if_pos (by omega)]
        have HR := Lib.hid hr
        clear hr p0 p1 p2
        cases ha : sumB t.l with
        | false =>
          have HQ := Lib.hid (show termB t = false by rw [HR.out, ha]; rfl)
          go_enter Try.func69, Try.ntmps69
          go_wp2_with (go_at_call 92; rw [← HW.out]; refine (HL.out _).mono ?_; rintro e w' ⟨rfl, hb⟩; rw [ha])
          go_ret
          exact ⟨by rw [HQ.out]; rfl, hB.trans (hb.mono hB.size)⟩
        | true =>
          have HQ := Lib.hid (show termB t = sumB t.r by rw [HR.out, ha]; rfl)
          have tok : Hid (0 = 0) := rfl
          go_enter Try.func69, Try.ntmps69
          go_wp2_with (first | (have _t := tok; go_at_call 92; rw [← HW.out]; refine (HL.out _).mono ?_; rintro e w1 ⟨rfl, hb⟩; rw [ha]; obtain ⟨c5, c6, c7, c8⟩ := HC.out _ hb; clear tok _t) | (go_at_call 92; refine (HRR.out _).mono ?_; rintro e w2 ⟨rfl, hb2⟩))
          go_ret
          exact ⟨by rw [HQ.out]; rfl, (hB.trans (hb.mono hB.size)).trans (hb2.mono (hB.trans (hb.mono hB.size)).size)⟩
      · have q2 : (t.op == 2) = false := by simp [p2]
        by_cases p3 : t.op = 3
        · have q3 : (t.op == 3) = true := by simp [p3]
          have hr : termB t = (sumB t.l && sumB t.r) := by unfold termB; rw [if_neg p0, if_pos (by omega)]
          have HR := Lib.hid hr
          clear hr p0 p1 p2 p3
          cases ha : sumB t.l with
          | false =>
            have HQ := Lib.hid (show termB t = false by rw [HR.out, ha]; rfl)
            go_enter Try.func69, Try.ntmps69
            go_wp2_with (go_at_call 92; rw [← HW.out]; refine (HL.out _).mono ?_; rintro e w' ⟨rfl, hb⟩; rw [ha])
            go_ret
            exact ⟨by rw [HQ.out]; rfl, hB.trans (hb.mono hB.size)⟩
          | true =>
            have HQ := Lib.hid (show termB t = sumB t.r by rw [HR.out, ha]; rfl)
            have tok : Hid (0 = 0) := rfl
            go_enter Try.func69, Try.ntmps69
            go_wp2_with (first | (have _t := tok; go_at_call 92; rw [← HW.out]; refine (HL.out _).mono ?_; rintro e w1 ⟨rfl, hb⟩; rw [ha]; obtain ⟨c5, c6, c7, c8⟩ := HC.out _ hb; clear tok _t) | (go_at_call 92; refine (HRR.out _).mono ?_; rintro e w2 ⟨rfl, hb2⟩))
            go_ret
            exact ⟨by rw [HQ.out]; rfl, (hB.trans (hb.mono hB.size)).trans (hb2.mono (hB.trans (hb.mono hB.size)).size)⟩
        · have q3 : (t.op == 3) = false := by simp [p3]
          have HQ := Lib.hid (show termB t = false by unfold termB; rw [if_neg p0, if_neg (by omega)])
          clear p0 p1 p2 p3
          go_enter Try.func69, Try.ntmps69
          go_wp2_with fail
          go_ret
          exact ⟨by rw [HQ.out]; rfl, by rw [← HW.out]; exact hB⟩
end Go.Proofs.Ytccphigpobnjmaa
