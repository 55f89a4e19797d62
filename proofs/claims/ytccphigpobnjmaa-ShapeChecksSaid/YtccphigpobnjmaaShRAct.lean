/-
  The document's own answer on an action. No condition.
-/
import Derived.Test.YtccphigpobnjmaaShAct2
import Derived.Test.YtccphigpobnjmaaShRef
namespace Go.Proofs.Ytccphigpobnjmaa
set_option linter.unusedVariables false
open Go.RowKit
theorem neA_run (x y : At) (w : World) : (binOp .neq 55 (.agg #[.string x.v, .int .i64 x.s.k, .string x.s.t, .int .i64 x.s.n]) (.agg #[.string y.v, .int .i64 y.s.k, .string y.s.t, .int .i64 y.s.n])).run Try.prog w = .ok (.bool (!decide (x = y))) w := by
  simp only [at_iff]
  simp [go_sem]
  repeat' split
  all_goals simp_all
set_option maxHeartbeats 8000000 in
theorem ract_any (x : Ac) (w : World) : Calls Try.prog 45 #[.agg #[.string x.id, .string x.at_.v, .int .i64 x.at_.s.k, .string x.at_.s.t, .int .i64 x.at_.s.n, .int .i64 x.v.op, .string x.v.l.v, .int .i64 x.v.l.s.k, .string x.v.l.s.t, .int .i64 x.v.l.s.n, .string x.v.r.v, .int .i64 x.v.r.s.k, .string x.v.r.s.t, .int .i64 x.v.r.s.n, .int .i64 x.pref, .string x.oth.v, .int .i64 x.oth.s.k, .string x.oth.s.t, .int .i64 x.oth.s.n]] w fun e w' => e = .returned (.bool (actB x)) ∧ Below w.heap.size w w' := by
  obtain ⟨W2, hW2⟩ : ∃ W2, W2 = w.alloc (.cells #[.string x.id, .string x.at_.v, .int .i64 x.at_.s.k, .string x.at_.s.t, .int .i64 x.at_.s.n, .int .i64 x.v.op, .string x.v.l.v, .int .i64 x.v.l.s.k, .string x.v.l.s.t, .int .i64 x.v.l.s.n, .string x.v.r.v, .int .i64 x.v.r.s.k, .string x.v.r.s.t, .int .i64 x.v.r.s.n, .int .i64 x.pref, .string x.oth.v, .int .i64 x.oth.s.k, .string x.oth.s.t, .int .i64 x.oth.s.n] 59) := ⟨_, rfl⟩
  have hB : Below w.heap.size w W2 := by rw [hW2]; go_grown
  have hc : ∀ w', Below W2.heap.size W2 w' → w'.cell? ⟨w.heap.size, 1, none⟩ = some (.string x.at_.v) ∧ w'.cell? ⟨w.heap.size, 2, none⟩ = some (.int .i64 x.at_.s.k) ∧ w'.cell? ⟨w.heap.size, 3, none⟩ = some (.string x.at_.s.t) ∧ w'.cell? ⟨w.heap.size, 4, none⟩ = some (.int .i64 x.at_.s.n) ∧ w'.cell? ⟨w.heap.size, 5, none⟩ = some (.int .i64 x.v.op) ∧ w'.cell? ⟨w.heap.size, 6, none⟩ = some (.string x.v.l.v) ∧ w'.cell? ⟨w.heap.size, 7, none⟩ = some (.int .i64 x.v.l.s.k) ∧ w'.cell? ⟨w.heap.size, 8, none⟩ = some (.string x.v.l.s.t) ∧ w'.cell? ⟨w.heap.size, 9, none⟩ = some (.int .i64 x.v.l.s.n) ∧ w'.cell? ⟨w.heap.size, 10, none⟩ = some (.string x.v.r.v) ∧ w'.cell? ⟨w.heap.size, 11, none⟩ = some (.int .i64 x.v.r.s.k) ∧ w'.cell? ⟨w.heap.size, 12, none⟩ = some (.string x.v.r.s.t) ∧ w'.cell? ⟨w.heap.size, 13, none⟩ = some (.int .i64 x.v.r.s.n) ∧ w'.cell? ⟨w.heap.size, 14, none⟩ = some (.int .i64 x.pref) ∧ w'.cell? ⟨w.heap.size, 15, none⟩ = some (.string x.oth.v) ∧ w'.cell? ⟨w.heap.size, 16, none⟩ = some (.int .i64 x.oth.s.k) ∧ w'.cell? ⟨w.heap.size, 17, none⟩ = some (.string x.oth.s.t) ∧ w'.cell? ⟨w.heap.size, 18, none⟩ = some (.int .i64 x.oth.s.n) := by
    intro w' h
    have hx := cells_of (W := W2) (b := w.heap.size) (c := #[.string x.id, .string x.at_.v, .int .i64 x.at_.s.k, .string x.at_.s.t, .int .i64 x.at_.s.n, .int .i64 x.v.op, .string x.v.l.v, .int .i64 x.v.l.s.k, .string x.v.l.s.t, .int .i64 x.v.l.s.n, .string x.v.r.v, .int .i64 x.v.r.s.k, .string x.v.r.s.t, .int .i64 x.v.r.s.n, .int .i64 x.pref, .string x.oth.v, .int .i64 x.oth.s.k, .string x.oth.s.t, .int .i64 x.oth.s.n]) (t := 59) (f := (0, 0)) (by rw [hW2]; exact new_at rfl)
    have hlt : w.heap.size < W2.heap.size := by rw [hW2]; simp
    refine ⟨?_, ?_, ?_, ?_, ?_, ?_, ?_, ?_, ?_, ?_, ?_, ?_, ?_, ?_, ?_, ?_, ?_, ?_⟩
    · exact (h.cell (p := ⟨w.heap.size, 1, none⟩) hlt).trans (by rw [hx]; rfl)
    · exact (h.cell (p := ⟨w.heap.size, 2, none⟩) hlt).trans (by rw [hx]; rfl)
    · exact (h.cell (p := ⟨w.heap.size, 3, none⟩) hlt).trans (by rw [hx]; rfl)
    · exact (h.cell (p := ⟨w.heap.size, 4, none⟩) hlt).trans (by rw [hx]; rfl)
    · exact (h.cell (p := ⟨w.heap.size, 5, none⟩) hlt).trans (by rw [hx]; rfl)
    · exact (h.cell (p := ⟨w.heap.size, 6, none⟩) hlt).trans (by rw [hx]; rfl)
    · exact (h.cell (p := ⟨w.heap.size, 7, none⟩) hlt).trans (by rw [hx]; rfl)
    · exact (h.cell (p := ⟨w.heap.size, 8, none⟩) hlt).trans (by rw [hx]; rfl)
    · exact (h.cell (p := ⟨w.heap.size, 9, none⟩) hlt).trans (by rw [hx]; rfl)
    · exact (h.cell (p := ⟨w.heap.size, 10, none⟩) hlt).trans (by rw [hx]; rfl)
    · exact (h.cell (p := ⟨w.heap.size, 11, none⟩) hlt).trans (by rw [hx]; rfl)
    · exact (h.cell (p := ⟨w.heap.size, 12, none⟩) hlt).trans (by rw [hx]; rfl)
    · exact (h.cell (p := ⟨w.heap.size, 13, none⟩) hlt).trans (by rw [hx]; rfl)
    · exact (h.cell (p := ⟨w.heap.size, 14, none⟩) hlt).trans (by rw [hx]; rfl)
    · exact (h.cell (p := ⟨w.heap.size, 15, none⟩) hlt).trans (by rw [hx]; rfl)
    · exact (h.cell (p := ⟨w.heap.size, 16, none⟩) hlt).trans (by rw [hx]; rfl)
    · exact (h.cell (p := ⟨w.heap.size, 17, none⟩) hlt).trans (by rw [hx]; rfl)
    · exact (h.cell (p := ⟨w.heap.size, 18, none⟩) hlt).trans (by rw [hx]; rfl)
  have HC := Lib.hid hc
  have HW := Lib.hid hW2
  have h1 := fun w' => rword_all x.id w'
  have h2 := fun w' => ratom_any x.at_ w'
  have h3 := fun w' => ratom_any x.v.l w'
  have h4 := fun w' => ratom_any x.v.r w'
  have h5 := fun w' => ratom_any x.oth w'
  have H1 := Lib.hid h1
  have H2 := Lib.hid h2
  have H3 := Lib.hid h3
  have H4 := Lib.hid h4
  have H5 := Lib.hid h5
  clear hc hW2 h1 h2 h3 h4 h5
  have t2 : Hid (0 = 0) := rfl
  have t3 : Hid (1 = 1) := rfl
  have t4 : Hid (2 = 2) := rfl
  cases q1 : wordB x.id.data.toList with
  | false =>
    have HQ := Lib.hid (show actB x = false by unfold actB; rw [q1]; rfl)
    go_enter Try.func45, Try.ntmps45
    go_wp2_with (first | (go_at_call 42; refine (H1.out _).mono ?_; rintro e w1 ⟨rfl, rfl⟩; rw [q1]))
    go_ret
    exact ⟨by rw [HQ.out]; rfl, by go_grown⟩
  | true =>
  cases q2 : atomB x.at_ with
  | false =>
    have HQ := Lib.hid (show actB x = false by unfold actB; rw [q1, q2]; rfl)
    go_enter Try.func45, Try.ntmps45
    go_wp2_with (first | (go_at_call 42; refine (H1.out _).mono ?_; rintro e w1 ⟨rfl, rfl⟩; rw [q1]) | (have _t2 := t2; go_at_call 73; rw [← HW.out]; refine (H2.out _).mono ?_; rintro e w2 ⟨rfl, hb2⟩; rw [q2]; clear t2 _t2; obtain ⟨c1, c2, c3, c4, c5, c6, c7, c8, c9, c10, c11, c12, c13, c14, c15, c16, c17, c18⟩ := HC.out _ hb2))
    go_ret
    exact ⟨by rw [HQ.out]; rfl, hB.trans (hb2.mono hB.size)⟩
  | true =>
  have HE := Lib.hid (show actB x = (termB x.v && otherB x.pref x.oth) by unfold actB; rw [q1, q2]; rfl)
  cases q3 : atomB x.v.l with
  | false =>
    have HQ := Lib.hid (show actB x = false by rw [HE.out]; unfold termB sumB; rw [q3]; simp)
    go_enter Try.func45, Try.ntmps45
    go_wp2_with (first | (go_at_call 42; refine (H1.out _).mono ?_; rintro e w1 ⟨rfl, rfl⟩; rw [q1]) | (have _t2 := t2; go_at_call 73; rw [← HW.out]; refine (H2.out _).mono ?_; rintro e w2 ⟨rfl, hb2⟩; rw [q2]; clear t2 _t2; obtain ⟨c1, c2, c3, c4, c5, c6, c7, c8, c9, c10, c11, c12, c13, c14, c15, c16, c17, c18⟩ := HC.out _ hb2) | (have _t3 := t3; go_at_call 73; refine (H3.out _).mono ?_; rintro e w3 ⟨rfl, hb3⟩; replace hb3 := hb2.trans (hb3.mono hb2.size); rw [q3]; clear t3 _t3; clear c1 c2 c3 c4 c5 c6 c7 c8 c9 c10 c11 c12 c13 c14 c15 c16 c17 c18; obtain ⟨c1, c2, c3, c4, c5, c6, c7, c8, c9, c10, c11, c12, c13, c14, c15, c16, c17, c18⟩ := HC.out _ hb3))
    go_ret
    exact ⟨by rw [HQ.out]; rfl, hB.trans (hb3.mono hB.size)⟩
  | true =>
  by_cases g1 : x.v.op < 0
  · have HQ := Lib.hid (show actB x = false by rw [HE.out]; unfold termB; rw [if_neg (by omega), if_neg (by omega)]; rfl)
    have dg1 : decide (x.v.op < 0) = true := decide_eq_true g1
    clear  g1
    go_enter Try.func45, Try.ntmps45
    go_wp2_with (first | (go_at_call 42; refine (H1.out _).mono ?_; rintro e w1 ⟨rfl, rfl⟩; rw [q1]) | (have _t2 := t2; go_at_call 73; rw [← HW.out]; refine (H2.out _).mono ?_; rintro e w2 ⟨rfl, hb2⟩; rw [q2]; clear t2 _t2; obtain ⟨c1, c2, c3, c4, c5, c6, c7, c8, c9, c10, c11, c12, c13, c14, c15, c16, c17, c18⟩ := HC.out _ hb2) | (have _t3 := t3; go_at_call 73; refine (H3.out _).mono ?_; rintro e w3 ⟨rfl, hb3⟩; replace hb3 := hb2.trans (hb3.mono hb2.size); rw [q3]; clear t3 _t3; clear c1 c2 c3 c4 c5 c6 c7 c8 c9 c10 c11 c12 c13 c14 c15 c16 c17 c18; obtain ⟨c1, c2, c3, c4, c5, c6, c7, c8, c9, c10, c11, c12, c13, c14, c15, c16, c17, c18⟩ := HC.out _ hb3))
    go_ret
    exact ⟨by rw [HQ.out]; rfl, hB.trans (hb3.mono hB.size)⟩
  have dg1 : decide (x.v.op < 0) = false := decide_eq_false g1
  by_cases g2 : 3 < x.v.op
  · have HQ := Lib.hid (show actB x = false by rw [HE.out]; unfold termB; rw [if_neg (by omega), if_neg (by omega)]; rfl)
    have dg2 : decide (3 < x.v.op) = true := decide_eq_true g2
    clear g1 g2
    go_enter Try.func45, Try.ntmps45
    go_wp2_with (first | (go_at_call 42; refine (H1.out _).mono ?_; rintro e w1 ⟨rfl, rfl⟩; rw [q1]) | (have _t2 := t2; go_at_call 73; rw [← HW.out]; refine (H2.out _).mono ?_; rintro e w2 ⟨rfl, hb2⟩; rw [q2]; clear t2 _t2; obtain ⟨c1, c2, c3, c4, c5, c6, c7, c8, c9, c10, c11, c12, c13, c14, c15, c16, c17, c18⟩ := HC.out _ hb2) | (have _t3 := t3; go_at_call 73; refine (H3.out _).mono ?_; rintro e w3 ⟨rfl, hb3⟩; replace hb3 := hb2.trans (hb3.mono hb2.size); rw [q3]; clear t3 _t3; clear c1 c2 c3 c4 c5 c6 c7 c8 c9 c10 c11 c12 c13 c14 c15 c16 c17 c18; obtain ⟨c1, c2, c3, c4, c5, c6, c7, c8, c9, c10, c11, c12, c13, c14, c15, c16, c17, c18⟩ := HC.out _ hb3))
    go_ret
    exact ⟨by rw [HQ.out]; rfl, hB.trans (hb3.mono hB.size)⟩
  have dg2 : decide (3 < x.v.op) = false := decide_eq_false g2
  by_cases g3 : x.pref < 1
  · have HQ := Lib.hid (show actB x = false by rw [HE.out]; unfold otherB; rw [if_neg (by omega), if_neg (by omega), Bool.and_false])
    have dg3 : decide (x.pref < 1) = true := decide_eq_true g3
    clear g1 g2 g3
    go_enter Try.func45, Try.ntmps45
    go_wp2_with (first | (go_at_call 42; refine (H1.out _).mono ?_; rintro e w1 ⟨rfl, rfl⟩; rw [q1]) | (have _t2 := t2; go_at_call 73; rw [← HW.out]; refine (H2.out _).mono ?_; rintro e w2 ⟨rfl, hb2⟩; rw [q2]; clear t2 _t2; obtain ⟨c1, c2, c3, c4, c5, c6, c7, c8, c9, c10, c11, c12, c13, c14, c15, c16, c17, c18⟩ := HC.out _ hb2) | (have _t3 := t3; go_at_call 73; refine (H3.out _).mono ?_; rintro e w3 ⟨rfl, hb3⟩; replace hb3 := hb2.trans (hb3.mono hb2.size); rw [q3]; clear t3 _t3; clear c1 c2 c3 c4 c5 c6 c7 c8 c9 c10 c11 c12 c13 c14 c15 c16 c17 c18; obtain ⟨c1, c2, c3, c4, c5, c6, c7, c8, c9, c10, c11, c12, c13, c14, c15, c16, c17, c18⟩ := HC.out _ hb3))
    go_ret
    exact ⟨by rw [HQ.out]; rfl, hB.trans (hb3.mono hB.size)⟩
  have dg3 : decide (x.pref < 1) = false := decide_eq_false g3
  by_cases g4 : 10 < x.pref
  · have HQ := Lib.hid (show actB x = false by rw [HE.out]; unfold otherB; rw [if_neg (by omega), if_neg (by omega), Bool.and_false])
    have dg4 : decide (10 < x.pref) = true := decide_eq_true g4
    clear g1 g2 g3 g4
    go_enter Try.func45, Try.ntmps45
    go_wp2_with (first | (go_at_call 42; refine (H1.out _).mono ?_; rintro e w1 ⟨rfl, rfl⟩; rw [q1]) | (have _t2 := t2; go_at_call 73; rw [← HW.out]; refine (H2.out _).mono ?_; rintro e w2 ⟨rfl, hb2⟩; rw [q2]; clear t2 _t2; obtain ⟨c1, c2, c3, c4, c5, c6, c7, c8, c9, c10, c11, c12, c13, c14, c15, c16, c17, c18⟩ := HC.out _ hb2) | (have _t3 := t3; go_at_call 73; refine (H3.out _).mono ?_; rintro e w3 ⟨rfl, hb3⟩; replace hb3 := hb2.trans (hb3.mono hb2.size); rw [q3]; clear t3 _t3; clear c1 c2 c3 c4 c5 c6 c7 c8 c9 c10 c11 c12 c13 c14 c15 c16 c17 c18; obtain ⟨c1, c2, c3, c4, c5, c6, c7, c8, c9, c10, c11, c12, c13, c14, c15, c16, c17, c18⟩ := HC.out _ hb3))
    go_ret
    exact ⟨by rw [HQ.out]; rfl, hB.trans (hb3.mono hB.size)⟩
  have dg4 : decide (10 < x.pref) = false := decide_eq_false g4
  by_cases g5 : x.v.op = 0
  · have d5 : (x.v.op == 0) = true := by simp [g5]
    have hqr : ∀ w, (binOp .neq 55 (.agg #[.string x.v.r.v, .int .i64 x.v.r.s.k, .string x.v.r.s.t, .int .i64 x.v.r.s.n]) (.agg #[.string ⟨#[]⟩, .int .i64 0, .string ⟨#[]⟩, .int .i64 0])).run Try.prog w = .ok (.bool (!decide (x.v.r = zeroA))) w := neA_run x.v.r zeroA
    have HT := Lib.hid (show actB x = (decide (x.v.r = zeroA) && otherB x.pref x.oth) by rw [HE.out]; unfold termB; rw [if_pos g5, q3]; rfl)
    clear g1 g2 g5
    cases qr : decide (x.v.r = zeroA) with
    | false =>
      rw [qr] at hqr
      have HQ := Lib.hid (show actB x = false by rw [HT.out, qr]; rfl)
      clear g3 g4 qr
      go_enter Try.func45, Try.ntmps45
      go_wp2_with (first | (go_at_call 42; refine (H1.out _).mono ?_; rintro e w1 ⟨rfl, rfl⟩; rw [q1]) | (have _t2 := t2; go_at_call 73; rw [← HW.out]; refine (H2.out _).mono ?_; rintro e w2 ⟨rfl, hb2⟩; rw [q2]; clear t2 _t2; obtain ⟨c1, c2, c3, c4, c5, c6, c7, c8, c9, c10, c11, c12, c13, c14, c15, c16, c17, c18⟩ := HC.out _ hb2) | (have _t3 := t3; go_at_call 73; refine (H3.out _).mono ?_; rintro e w3 ⟨rfl, hb3⟩; replace hb3 := hb2.trans (hb3.mono hb2.size); rw [q3]; clear t3 _t3; clear c1 c2 c3 c4 c5 c6 c7 c8 c9 c10 c11 c12 c13 c14 c15 c16 c17 c18; obtain ⟨c1, c2, c3, c4, c5, c6, c7, c8, c9, c10, c11, c12, c13, c14, c15, c16, c17, c18⟩ := HC.out _ hb3))
      go_ret
      exact ⟨by rw [HQ.out]; rfl, hB.trans (hb3.mono hB.size)⟩
    | true =>
      rw [qr] at hqr
      have HO := Lib.hid (show actB x = otherB x.pref x.oth by rw [HT.out, qr]; rfl)
      clear qr
      by_cases g8 : 8 ≤ x.pref
      · have HQ := Lib.hid (show actB x = atomB x.oth by rw [HO.out]; unfold otherB; rw [if_neg (by omega), if_pos (by omega)])
        have d8 : decide (8 ≤ x.pref) = true := decide_eq_true g8
        clear g3 g4 g8
        go_enter Try.func45, Try.ntmps45
        go_wp2_with (first | (go_at_call 42; refine (H1.out _).mono ?_; rintro e w1 ⟨rfl, rfl⟩; rw [q1]) | (have _t2 := t2; go_at_call 73; rw [← HW.out]; refine (H2.out _).mono ?_; rintro e w2 ⟨rfl, hb2⟩; rw [q2]; clear t2 _t2; obtain ⟨c1, c2, c3, c4, c5, c6, c7, c8, c9, c10, c11, c12, c13, c14, c15, c16, c17, c18⟩ := HC.out _ hb2) | (have _t3 := t3; go_at_call 73; refine (H3.out _).mono ?_; rintro e w3 ⟨rfl, hb3⟩; replace hb3 := hb2.trans (hb3.mono hb2.size); rw [q3]; clear t3 _t3; clear c1 c2 c3 c4 c5 c6 c7 c8 c9 c10 c11 c12 c13 c14 c15 c16 c17 c18; obtain ⟨c1, c2, c3, c4, c5, c6, c7, c8, c9, c10, c11, c12, c13, c14, c15, c16, c17, c18⟩ := HC.out _ hb3) | (go_at_call 73; refine (H5.out _).mono ?_; rintro e w5 ⟨rfl, hb5⟩; replace hb5 := hb3.trans (hb5.mono hb3.size)))
        go_ret
        exact ⟨by rw [HQ.out]; rfl, hB.trans (hb5.mono hB.size)⟩
      · have HQ := Lib.hid (show actB x = decide (x.oth = zeroA) by rw [HO.out]; unfold otherB; rw [if_pos (by omega)])
        have d8 : decide (8 ≤ x.pref) = false := decide_eq_false g8
        have hqo : ∀ w, (binOp .eql 55 (.agg #[.string x.oth.v, .int .i64 x.oth.s.k, .string x.oth.s.t, .int .i64 x.oth.s.n]) (.agg #[.string ⟨#[]⟩, .int .i64 0, .string ⟨#[]⟩, .int .i64 0])).run Try.prog w = .ok (.bool (decide (x.oth = zeroA))) w := eqA_run x.oth zeroA
        clear g3 g4 g8
        generalize decide (x.oth = zeroA) = q at HQ hqo
        go_enter Try.func45, Try.ntmps45
        go_wp2_with (first | (go_at_call 42; refine (H1.out _).mono ?_; rintro e w1 ⟨rfl, rfl⟩; rw [q1]) | (have _t2 := t2; go_at_call 73; rw [← HW.out]; refine (H2.out _).mono ?_; rintro e w2 ⟨rfl, hb2⟩; rw [q2]; clear t2 _t2; obtain ⟨c1, c2, c3, c4, c5, c6, c7, c8, c9, c10, c11, c12, c13, c14, c15, c16, c17, c18⟩ := HC.out _ hb2) | (have _t3 := t3; go_at_call 73; refine (H3.out _).mono ?_; rintro e w3 ⟨rfl, hb3⟩; replace hb3 := hb2.trans (hb3.mono hb2.size); rw [q3]; clear t3 _t3; clear c1 c2 c3 c4 c5 c6 c7 c8 c9 c10 c11 c12 c13 c14 c15 c16 c17 c18; obtain ⟨c1, c2, c3, c4, c5, c6, c7, c8, c9, c10, c11, c12, c13, c14, c15, c16, c17, c18⟩ := HC.out _ hb3))
        go_ret
        exact ⟨by rw [HQ.out]; rfl, hB.trans (hb3.mono hB.size)⟩
  · have d5 : (x.v.op == 0) = false := by simp [g5]
    have HT := Lib.hid (show actB x = (sumB x.v.l && sumB x.v.r && otherB x.pref x.oth) by rw [HE.out]; unfold termB; rw [if_neg g5, if_pos (by omega)])
    clear g1 g2 g5
    cases q4 : atomB x.v.r with
    | false =>
      have HQ := Lib.hid (show actB x = false by rw [HT.out]; unfold sumB; rw [q4]; simp)
      clear g3 g4
      go_enter Try.func45, Try.ntmps45
      go_wp2_with (first | (go_at_call 42; refine (H1.out _).mono ?_; rintro e w1 ⟨rfl, rfl⟩; rw [q1]) | (have _t2 := t2; go_at_call 73; rw [← HW.out]; refine (H2.out _).mono ?_; rintro e w2 ⟨rfl, hb2⟩; rw [q2]; clear t2 _t2; obtain ⟨c1, c2, c3, c4, c5, c6, c7, c8, c9, c10, c11, c12, c13, c14, c15, c16, c17, c18⟩ := HC.out _ hb2) | (have _t3 := t3; go_at_call 73; refine (H3.out _).mono ?_; rintro e w3 ⟨rfl, hb3⟩; replace hb3 := hb2.trans (hb3.mono hb2.size); rw [q3]; clear t3 _t3; clear c1 c2 c3 c4 c5 c6 c7 c8 c9 c10 c11 c12 c13 c14 c15 c16 c17 c18; obtain ⟨c1, c2, c3, c4, c5, c6, c7, c8, c9, c10, c11, c12, c13, c14, c15, c16, c17, c18⟩ := HC.out _ hb3) | (have _t4 := t4; go_at_call 73; refine (H4.out _).mono ?_; rintro e w4 ⟨rfl, hb4⟩; replace hb4 := hb3.trans (hb4.mono hb3.size); rw [q4]; clear t4 _t4; clear c1 c2 c3 c4 c5 c6 c7 c8 c9 c10 c11 c12 c13 c14 c15 c16 c17 c18; obtain ⟨c1, c2, c3, c4, c5, c6, c7, c8, c9, c10, c11, c12, c13, c14, c15, c16, c17, c18⟩ := HC.out _ hb4))
      go_ret
      exact ⟨by rw [HQ.out]; rfl, hB.trans (hb4.mono hB.size)⟩
    | true =>
      by_cases g6 : x.v.l.s.k = 3
      · have HQ := Lib.hid (show actB x = false by rw [HT.out]; unfold sumB; simp [g6])
        have d6 : (x.v.l.s.k == 3) = true := by simp [g6]
        clear g3 g4 g6
        go_enter Try.func45, Try.ntmps45
        go_wp2_with (first | (go_at_call 42; refine (H1.out _).mono ?_; rintro e w1 ⟨rfl, rfl⟩; rw [q1]) | (have _t2 := t2; go_at_call 73; rw [← HW.out]; refine (H2.out _).mono ?_; rintro e w2 ⟨rfl, hb2⟩; rw [q2]; clear t2 _t2; obtain ⟨c1, c2, c3, c4, c5, c6, c7, c8, c9, c10, c11, c12, c13, c14, c15, c16, c17, c18⟩ := HC.out _ hb2) | (have _t3 := t3; go_at_call 73; refine (H3.out _).mono ?_; rintro e w3 ⟨rfl, hb3⟩; replace hb3 := hb2.trans (hb3.mono hb2.size); rw [q3]; clear t3 _t3; clear c1 c2 c3 c4 c5 c6 c7 c8 c9 c10 c11 c12 c13 c14 c15 c16 c17 c18; obtain ⟨c1, c2, c3, c4, c5, c6, c7, c8, c9, c10, c11, c12, c13, c14, c15, c16, c17, c18⟩ := HC.out _ hb3) | (have _t4 := t4; go_at_call 73; refine (H4.out _).mono ?_; rintro e w4 ⟨rfl, hb4⟩; replace hb4 := hb3.trans (hb4.mono hb3.size); rw [q4]; clear t4 _t4; clear c1 c2 c3 c4 c5 c6 c7 c8 c9 c10 c11 c12 c13 c14 c15 c16 c17 c18; obtain ⟨c1, c2, c3, c4, c5, c6, c7, c8, c9, c10, c11, c12, c13, c14, c15, c16, c17, c18⟩ := HC.out _ hb4))
        go_ret
        exact ⟨by rw [HQ.out]; rfl, hB.trans (hb4.mono hB.size)⟩
      have d6 : (x.v.l.s.k == 3) = false := by simp [g6]
      by_cases g7 : x.v.r.s.k = 3
      · have HQ := Lib.hid (show actB x = false by rw [HT.out]; unfold sumB; simp [g7])
        have d7 : (x.v.r.s.k == 3) = true := by simp [g7]
        clear g3 g4 g6 g7
        go_enter Try.func45, Try.ntmps45
        go_wp2_with (first | (go_at_call 42; refine (H1.out _).mono ?_; rintro e w1 ⟨rfl, rfl⟩; rw [q1]) | (have _t2 := t2; go_at_call 73; rw [← HW.out]; refine (H2.out _).mono ?_; rintro e w2 ⟨rfl, hb2⟩; rw [q2]; clear t2 _t2; obtain ⟨c1, c2, c3, c4, c5, c6, c7, c8, c9, c10, c11, c12, c13, c14, c15, c16, c17, c18⟩ := HC.out _ hb2) | (have _t3 := t3; go_at_call 73; refine (H3.out _).mono ?_; rintro e w3 ⟨rfl, hb3⟩; replace hb3 := hb2.trans (hb3.mono hb2.size); rw [q3]; clear t3 _t3; clear c1 c2 c3 c4 c5 c6 c7 c8 c9 c10 c11 c12 c13 c14 c15 c16 c17 c18; obtain ⟨c1, c2, c3, c4, c5, c6, c7, c8, c9, c10, c11, c12, c13, c14, c15, c16, c17, c18⟩ := HC.out _ hb3) | (have _t4 := t4; go_at_call 73; refine (H4.out _).mono ?_; rintro e w4 ⟨rfl, hb4⟩; replace hb4 := hb3.trans (hb4.mono hb3.size); rw [q4]; clear t4 _t4; clear c1 c2 c3 c4 c5 c6 c7 c8 c9 c10 c11 c12 c13 c14 c15 c16 c17 c18; obtain ⟨c1, c2, c3, c4, c5, c6, c7, c8, c9, c10, c11, c12, c13, c14, c15, c16, c17, c18⟩ := HC.out _ hb4))
        go_ret
        exact ⟨by rw [HQ.out]; rfl, hB.trans (hb4.mono hB.size)⟩
      have d7 : (x.v.r.s.k == 3) = false := by simp [g7]
      have HO := Lib.hid (show actB x = otherB x.pref x.oth by rw [HT.out]; unfold sumB; rw [q3, q4]; simp [g6, g7])
      clear g6 g7
      by_cases g8 : 8 ≤ x.pref
      · have HQ := Lib.hid (show actB x = atomB x.oth by rw [HO.out]; unfold otherB; rw [if_neg (by omega), if_pos (by omega)])
        have d8 : decide (8 ≤ x.pref) = true := decide_eq_true g8
        clear g3 g4 g8
        go_enter Try.func45, Try.ntmps45
        go_wp2_with (first | (go_at_call 42; refine (H1.out _).mono ?_; rintro e w1 ⟨rfl, rfl⟩; rw [q1]) | (have _t2 := t2; go_at_call 73; rw [← HW.out]; refine (H2.out _).mono ?_; rintro e w2 ⟨rfl, hb2⟩; rw [q2]; clear t2 _t2; obtain ⟨c1, c2, c3, c4, c5, c6, c7, c8, c9, c10, c11, c12, c13, c14, c15, c16, c17, c18⟩ := HC.out _ hb2) | (have _t3 := t3; go_at_call 73; refine (H3.out _).mono ?_; rintro e w3 ⟨rfl, hb3⟩; replace hb3 := hb2.trans (hb3.mono hb2.size); rw [q3]; clear t3 _t3; clear c1 c2 c3 c4 c5 c6 c7 c8 c9 c10 c11 c12 c13 c14 c15 c16 c17 c18; obtain ⟨c1, c2, c3, c4, c5, c6, c7, c8, c9, c10, c11, c12, c13, c14, c15, c16, c17, c18⟩ := HC.out _ hb3) | (have _t4 := t4; go_at_call 73; refine (H4.out _).mono ?_; rintro e w4 ⟨rfl, hb4⟩; replace hb4 := hb3.trans (hb4.mono hb3.size); rw [q4]; clear t4 _t4; clear c1 c2 c3 c4 c5 c6 c7 c8 c9 c10 c11 c12 c13 c14 c15 c16 c17 c18; obtain ⟨c1, c2, c3, c4, c5, c6, c7, c8, c9, c10, c11, c12, c13, c14, c15, c16, c17, c18⟩ := HC.out _ hb4) | (go_at_call 73; refine (H5.out _).mono ?_; rintro e w5 ⟨rfl, hb5⟩; replace hb5 := hb4.trans (hb5.mono hb4.size)))
        go_ret
        exact ⟨by rw [HQ.out]; rfl, hB.trans (hb5.mono hB.size)⟩
      · have HQ := Lib.hid (show actB x = decide (x.oth = zeroA) by rw [HO.out]; unfold otherB; rw [if_pos (by omega)])
        have d8 : decide (8 ≤ x.pref) = false := decide_eq_false g8
        have hqo : ∀ w, (binOp .eql 55 (.agg #[.string x.oth.v, .int .i64 x.oth.s.k, .string x.oth.s.t, .int .i64 x.oth.s.n]) (.agg #[.string ⟨#[]⟩, .int .i64 0, .string ⟨#[]⟩, .int .i64 0])).run Try.prog w = .ok (.bool (decide (x.oth = zeroA))) w := eqA_run x.oth zeroA
        clear g3 g4 g8
        generalize decide (x.oth = zeroA) = q at HQ hqo
        go_enter Try.func45, Try.ntmps45
        go_wp2_with (first | (go_at_call 42; refine (H1.out _).mono ?_; rintro e w1 ⟨rfl, rfl⟩; rw [q1]) | (have _t2 := t2; go_at_call 73; rw [← HW.out]; refine (H2.out _).mono ?_; rintro e w2 ⟨rfl, hb2⟩; rw [q2]; clear t2 _t2; obtain ⟨c1, c2, c3, c4, c5, c6, c7, c8, c9, c10, c11, c12, c13, c14, c15, c16, c17, c18⟩ := HC.out _ hb2) | (have _t3 := t3; go_at_call 73; refine (H3.out _).mono ?_; rintro e w3 ⟨rfl, hb3⟩; replace hb3 := hb2.trans (hb3.mono hb2.size); rw [q3]; clear t3 _t3; clear c1 c2 c3 c4 c5 c6 c7 c8 c9 c10 c11 c12 c13 c14 c15 c16 c17 c18; obtain ⟨c1, c2, c3, c4, c5, c6, c7, c8, c9, c10, c11, c12, c13, c14, c15, c16, c17, c18⟩ := HC.out _ hb3) | (have _t4 := t4; go_at_call 73; refine (H4.out _).mono ?_; rintro e w4 ⟨rfl, hb4⟩; replace hb4 := hb3.trans (hb4.mono hb3.size); rw [q4]; clear t4 _t4; clear c1 c2 c3 c4 c5 c6 c7 c8 c9 c10 c11 c12 c13 c14 c15 c16 c17 c18; obtain ⟨c1, c2, c3, c4, c5, c6, c7, c8, c9, c10, c11, c12, c13, c14, c15, c16, c17, c18⟩ := HC.out _ hb4))
        go_ret
        exact ⟨by rw [HQ.out]; rfl, hB.trans (hb4.mono hB.size)⟩
end Go.Proofs.Ytccphigpobnjmaa
