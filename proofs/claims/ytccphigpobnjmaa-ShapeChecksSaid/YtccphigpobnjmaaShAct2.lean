/-
  Package shape: actFits. No condition.
-/
import Derived.Test.YtccphigpobnjmaaShTerm
namespace Go.Proofs.Ytccphigpobnjmaa
set_option linter.unusedVariables false
open Go.RowKit
def actB (x : Ac) : Bool := wordB x.id.data.toList && atomB x.at_ && termB x.v && otherB x.pref x.oth
set_option maxHeartbeats 2000000 in
theorem actF_any (x : Ac) (w : World) : Calls Try.prog 41 #[.agg #[.string x.id, .string x.at_.v, .int .i64 x.at_.s.k, .string x.at_.s.t, .int .i64 x.at_.s.n, .int .i64 x.v.op, .string x.v.l.v, .int .i64 x.v.l.s.k, .string x.v.l.s.t, .int .i64 x.v.l.s.n, .string x.v.r.v, .int .i64 x.v.r.s.k, .string x.v.r.s.t, .int .i64 x.v.r.s.n, .int .i64 x.pref, .string x.oth.v, .int .i64 x.oth.s.k, .string x.oth.s.t, .int .i64 x.oth.s.n]] w fun e w' => e = .returned (.bool (actB x)) ∧ Below w.heap.size w w' := by
  obtain ⟨W2, hW2⟩ : ∃ W2, W2 = w.alloc (.cells #[.string x.id, .string x.at_.v, .int .i64 x.at_.s.k, .string x.at_.s.t, .int .i64 x.at_.s.n, .int .i64 x.v.op, .string x.v.l.v, .int .i64 x.v.l.s.k, .string x.v.l.s.t, .int .i64 x.v.l.s.n, .string x.v.r.v, .int .i64 x.v.r.s.k, .string x.v.r.s.t, .int .i64 x.v.r.s.n, .int .i64 x.pref, .string x.oth.v, .int .i64 x.oth.s.k, .string x.oth.s.t, .int .i64 x.oth.s.n] 59) := ⟨_, rfl⟩
  have hB : Below w.heap.size w W2 := by rw [hW2]; go_grown
  have hc : ∀ w', Below W2.heap.size W2 w' → w'.cell? ⟨w.heap.size, 1, none⟩ = some (.string x.at_.v) ∧ w'.cell? ⟨w.heap.size, 2, none⟩ = some (.int .i64 x.at_.s.k) ∧ w'.cell? ⟨w.heap.size, 3, none⟩ = some (.string x.at_.s.t) ∧ w'.cell? ⟨w.heap.size, 4, none⟩ = some (.int .i64 x.at_.s.n) ∧ w'.cell? ⟨w.heap.size, 5, none⟩ = some (.int .i64 x.v.op) ∧ w'.cell? ⟨w.heap.size, 6, none⟩ = some (.string x.v.l.v) ∧ w'.cell? ⟨w.heap.size, 7, none⟩ = some (.int .i64 x.v.l.s.k) ∧ w'.cell? ⟨w.heap.size, 8, none⟩ = some (.string x.v.l.s.t) ∧ w'.cell? ⟨w.heap.size, 9, none⟩ = some (.int .i64 x.v.l.s.n) ∧ w'.cell? ⟨w.heap.size, 10, none⟩ = some (.string x.v.r.v) ∧ w'.cell? ⟨w.heap.size, 11, none⟩ = some (.int .i64 x.v.r.s.k) ∧ w'.cell? ⟨w.heap.size, 12, none⟩ = some (.string x.v.r.s.t) ∧ w'.cell? ⟨w.heap.size, 13, none⟩ = some (.int .i64 x.v.r.s.n) ∧ w'.cell? ⟨w.heap.size, 14, none⟩ = some (.int .i64 x.pref) ∧ w'.cell? ⟨w.heap.size, 15, none⟩ = some (.string x.oth.v) ∧ w'.cell? ⟨w.heap.size, 16, none⟩ = some (.int .i64 x.oth.s.k) ∧ w'.cell? ⟨w.heap.size, 17, none⟩ = some (.string x.oth.s.t) ∧ w'.cell? ⟨w.heap.size, 18, none⟩ = some (.int .i64 x.oth.s.n) := by
    intro w' h
    have hx := cells_of (W := W2) (b := w.heap.size) (c := #[.string x.id, .string x.at_.v, .int .i64 x.at_.s.k, .string x.at_.s.t, .int .i64 x.at_.s.n, .int .i64 x.v.op, .string x.v.l.v, .int .i64 x.v.l.s.k, .string x.v.l.s.t, .int .i64 x.v.l.s.n, .string x.v.r.v, .int .i64 x.v.r.s.k, .string x.v.r.s.t, .int .i64 x.v.r.s.n, .int .i64 x.pref, .string x.oth.v, .int .i64 x.oth.s.k, .string x.oth.s.t, .int .i64 x.oth.s.n]) (t := 59) (f := (0, 0)) (by rw [hW2]; exact new_at rfl)
    have hlt : w.heap.size < W2.heap.size := by rw [hW2]; simp
    refine ⟨?_, ?_, ?_, ?_, ?_, ?_, ?_, ?_, ?_, ?_, ?_, ?_, ?_, ?_, ?_, ?_, ?_, ?_⟩
    · exact (h.cell (p := ⟨w.heap.size, 1, none⟩) hlt).trans (by rw [hx]; rfl)
    · exact (h.cell (p := ⟨w.heap.size, 2, none⟩) hlt).trans (by rw [hx]; rfl)
    · exact (h.cell (p := ⟨w.heap.size, 3, none⟩) hlt).trans (by rw [hx]; rfl)
    · exact (h.cell (p := ⟨w.heap.size, 4, none⟩) hlt).trans (by rw [hx]; rfl)
    · exact (h.cell (p := ⟨w.heap.size, 5, none⟩) hlt).trans (by rw [hx]; rfl)
    · exact (h.cell (p := ⟨w.heap.size, 6, none⟩) hlt).trans (by rw [hx]; rfl)
    · exact (h.cell (p := ⟨w.heap.size, 7, none⟩) hlt).trans (by rw [hx]; rfl)
    · exact (h.cell (p := ⟨w.heap.size, 8, none⟩) hlt).trans (by rw [hx]; rfl)
    · exact (h.cell (p := ⟨w.heap.size, 9, none⟩) hlt).trans (by rw [hx]; rfl)
    · exact (h.cell (p := ⟨w.heap.size, 10, none⟩) hlt).trans (by rw [hx]; rfl)
    · exact (h.cell (p := ⟨w.heap.size, 11, none⟩) hlt).trans (by rw [hx]; rfl)
    · exact (h.cell (p := ⟨w.heap.size, 12, none⟩) hlt).trans (by rw [hx]; rfl)
    · exact (h.cell (p := ⟨w.heap.size, 13, none⟩) hlt).trans (by rw [hx]; rfl)
    · exact (h.cell (p := ⟨w.heap.size, 14, none⟩) hlt).trans (by rw [hx]; rfl)
    · exact (h.cell (p := ⟨w.heap.size, 15, none⟩) hlt).trans (by rw [hx]; rfl)
    · exact (h.cell (p := ⟨w.heap.size, 16, none⟩) hlt).trans (by rw [hx]; rfl)
    · exact (h.cell (p := ⟨w.heap.size, 17, none⟩) hlt).trans (by rw [hx]; rfl)
    · exact (h.cell (p := ⟨w.heap.size, 18, none⟩) hlt).trans (by rw [hx]; rfl)
  have HC := Lib.hid hc
  have HW := Lib.hid hW2
  have h1 := fun w' => word_all x.id w'
  have h2 := fun w' => atomF_any x.at_ w'
  have h3 := fun w' => termF_any x.v w'
  have h4 := fun w' => otherF_any x.pref x.oth w'
  have H1 := Lib.hid h1
  have H2 := Lib.hid h2
  have H3 := Lib.hid h3
  have H4 := Lib.hid h4
  clear hc hW2 h1 h2 h3 h4
  cases q1 : wordB x.id.data.toList with
  | false =>
    have HQ := Lib.hid (show actB x = false by unfold actB; rw [q1]; rfl)
    go_enter Try.func41, Try.ntmps41
    go_wp2_with (go_at_call 62; rw [← HW.out]; refine (H1.out _).mono ?_; rintro e w1 ⟨rfl, hb1⟩; rw [q1]; obtain ⟨c1, c2, c3, c4, c5, c6, c7, c8, c9, c10, c11, c12, c13, c14, c15, c16, c17, c18⟩ := HC.out _ hb1)
    go_ret
    exact ⟨by rw [HQ.out]; rfl, hB.trans (hb1.mono hB.size)⟩
  | true =>
    cases q2 : atomB x.at_ with
    | false =>
      have HQ := Lib.hid (show actB x = false by unfold actB; rw [q1, q2]; rfl)
      go_enter Try.func41, Try.ntmps41
      go_wp2_with (first | (go_at_call 62; rw [← HW.out]; refine (H1.out _).mono ?_; rintro e w1 ⟨rfl, hb1⟩; rw [q1]; obtain ⟨c1, c2, c3, c4, c5, c6, c7, c8, c9, c10, c11, c12, c13, c14, c15, c16, c17, c18⟩ := HC.out _ hb1) | (go_at_call 68; refine (H2.out _).mono ?_; rintro e w2 ⟨rfl, hb2⟩; replace hb2 := hb1.trans (hb2.mono hb1.size); rw [q2]; clear c1 c2 c3 c4 c5 c6 c7 c8 c9 c10 c11 c12 c13 c14 c15 c16 c17 c18; obtain ⟨c1, c2, c3, c4, c5, c6, c7, c8, c9, c10, c11, c12, c13, c14, c15, c16, c17, c18⟩ := HC.out _ hb2))
      go_ret
      exact ⟨by rw [HQ.out]; rfl, hB.trans (hb2.mono hB.size)⟩
    | true =>
      cases q3 : termB x.v with
      | false =>
        have HQ := Lib.hid (show actB x = false by unfold actB; rw [q1, q2, q3]; rfl)
        go_enter Try.func41, Try.ntmps41
        go_wp2_with (first | (go_at_call 62; rw [← HW.out]; refine (H1.out _).mono ?_; rintro e w1 ⟨rfl, hb1⟩; rw [q1]; obtain ⟨c1, c2, c3, c4, c5, c6, c7, c8, c9, c10, c11, c12, c13, c14, c15, c16, c17, c18⟩ := HC.out _ hb1) | (go_at_call 68; refine (H2.out _).mono ?_; rintro e w2 ⟨rfl, hb2⟩; replace hb2 := hb1.trans (hb2.mono hb1.size); rw [q2]; clear c1 c2 c3 c4 c5 c6 c7 c8 c9 c10 c11 c12 c13 c14 c15 c16 c17 c18; obtain ⟨c1, c2, c3, c4, c5, c6, c7, c8, c9, c10, c11, c12, c13, c14, c15, c16, c17, c18⟩ := HC.out _ hb2) | (go_at_call 69; refine (H3.out _).mono ?_; rintro e w3 ⟨rfl, hb3⟩; replace hb3 := hb2.trans (hb3.mono hb2.size); rw [q3]; clear c1 c2 c3 c4 c5 c6 c7 c8 c9 c10 c11 c12 c13 c14 c15 c16 c17 c18; obtain ⟨c1, c2, c3, c4, c5, c6, c7, c8, c9, c10, c11, c12, c13, c14, c15, c16, c17, c18⟩ := HC.out _ hb3))
        go_ret
        exact ⟨by rw [HQ.out]; rfl, hB.trans (hb3.mono hB.size)⟩
      | true =>
        have HQ := Lib.hid (show actB x = otherB x.pref x.oth by unfold actB; rw [q1, q2, q3]; rfl)
        go_enter Try.func41, Try.ntmps41
        go_wp2_with (first | (go_at_call 62; rw [← HW.out]; refine (H1.out _).mono ?_; rintro e w1 ⟨rfl, hb1⟩; rw [q1]; obtain ⟨c1, c2, c3, c4, c5, c6, c7, c8, c9, c10, c11, c12, c13, c14, c15, c16, c17, c18⟩ := HC.out _ hb1) | (go_at_call 68; refine (H2.out _).mono ?_; rintro e w2 ⟨rfl, hb2⟩; replace hb2 := hb1.trans (hb2.mono hb1.size); rw [q2]; clear c1 c2 c3 c4 c5 c6 c7 c8 c9 c10 c11 c12 c13 c14 c15 c16 c17 c18; obtain ⟨c1, c2, c3, c4, c5, c6, c7, c8, c9, c10, c11, c12, c13, c14, c15, c16, c17, c18⟩ := HC.out _ hb2) | (go_at_call 69; refine (H3.out _).mono ?_; rintro e w3 ⟨rfl, hb3⟩; replace hb3 := hb2.trans (hb3.mono hb2.size); rw [q3]; clear c1 c2 c3 c4 c5 c6 c7 c8 c9 c10 c11 c12 c13 c14 c15 c16 c17 c18; obtain ⟨c1, c2, c3, c4, c5, c6, c7, c8, c9, c10, c11, c12, c13, c14, c15, c16, c17, c18⟩ := HC.out _ hb3) | (go_at_call 70; refine (H4.out _).mono ?_; rintro e w4 ⟨rfl, hb4⟩; replace hb4 := hb3.trans (hb4.mono hb3.size)))
        go_ret
        exact ⟨by rw [HQ.out]; rfl, hB.trans (hb4.mono hB.size)⟩
end Go.Proofs.Ytccphigpobnjmaa
