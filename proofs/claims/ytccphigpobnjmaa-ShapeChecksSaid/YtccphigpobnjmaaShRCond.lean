/-
  The document's own answer on a condition itself. No condition but bounds on lengths.
-/
import Derived.Test.YtccphigpobnjmaaShCond2
import Derived.Test.YtccphigpobnjmaaShRTest
namespace Go.Proofs.Ytccphigpobnjmaa
set_option linter.unusedVariables false
open Go.RowKit
set_option maxHeartbeats 4000000 in
theorem rcond_any (c : Ch) (n : Nat) (depth : Int) (w : World) (ha : TestsAt w c.aa c.attr) (hv : TestsAt w c.va c.value) : Calls Try.prog 72 #[.agg #[.int .i64 c.kind, .bool c.goal, .string c.id, .slice c.aa c.attr.length c.ac, .slice c.va c.value.length c.vc, .bool c.acc, .slice c.ca n c.cc], .int .i64 depth] w fun e w' => e = .returned (.int .i64 (condE c n depth)) ∧ Below w.heap.size w w' := by
  obtain ⟨W2, hW2⟩ : ∃ W2, W2 = w.alloc (.cells #[.int .i64 c.kind, .bool c.goal, .string c.id, .slice c.aa c.attr.length c.ac, .slice c.va c.value.length c.vc, .bool c.acc, .slice c.ca n c.cc] 64) := ⟨_, rfl⟩
  have hB : Below w.heap.size w W2 := by rw [hW2]; go_grown
  have hc : ∀ w', Below W2.heap.size W2 w' → w'.cell? ⟨w.heap.size, 3, none⟩ = some (.slice c.aa c.attr.length c.ac) ∧ w'.cell? ⟨w.heap.size, 4, none⟩ = some (.slice c.va c.value.length c.vc) := by
    intro w' h
    have hx := cells_of (W := W2) (b := w.heap.size) (c := #[.int .i64 c.kind, .bool c.goal, .string c.id, .slice c.aa c.attr.length c.ac, .slice c.va c.value.length c.vc, .bool c.acc, .slice c.ca n c.cc]) (t := 64) (f := (0, 0)) (by rw [hW2]; exact new_at rfl)
    have hlt : w.heap.size < W2.heap.size := by rw [hW2]; simp
    refine ⟨?_, ?_⟩
    · exact (h.cell (p := ⟨w.heap.size, 3, none⟩) hlt).trans (by rw [hx]; rfl)
    · exact (h.cell (p := ⟨w.heap.size, 4, none⟩) hlt).trans (by rw [hx]; rfl)
  have HC := Lib.hid hc
  have HW := Lib.hid hW2
  have h1 := fun w' => rword_all c.id w'
  have H1 := Lib.hid h1
  have h2 := fun w' (h : Below W2.heap.size W2 w') hz => rtests_any w' c.aa c.ac c.attr (ha.mono (hB.trans (h.mono hB.size))) hz
  have h3 := fun w' (h : Below W2.heap.size W2 w') hz => rtests_any w' c.va c.vc c.value (hv.mono (hB.trans (h.mono hB.size))) hz
  have H2 := Lib.hid h2
  have H3 := Lib.hid h3
  clear hc hW2 h1 h2 h3 ha hv
  by_cases k1 : c.kind < 1
  · have HQ := Lib.hid (show condE c n depth = 9 by unfold condE; rw [if_neg (by omega), if_neg (by omega)])
    have b1 : decide (c.kind < 1) = true := decide_eq_true k1
    clear k1
    go_enter Try.func72, Try.ntmps72
    go_wp2_with fail
    go_ret
    exact ⟨by rw [HQ.out]; rfl, by go_grown⟩
  have b1 : decide (c.kind < 1) = false := decide_eq_false k1
  by_cases k2 : 3 < c.kind
  · have HQ := Lib.hid (show condE c n depth = 9 by unfold condE; rw [if_neg (by omega), if_neg (by omega)])
    have b2 : decide (3 < c.kind) = true := decide_eq_true k2
    clear k1 k2
    go_enter Try.func72, Try.ntmps72
    go_wp2_with fail
    go_ret
    exact ⟨by rw [HQ.out]; rfl, by go_grown⟩
  have b2 : decide (3 < c.kind) = false := decide_eq_false k2
  by_cases k3 : c.kind = 3
  · have b3 : (c.kind == 3) = true := by simp [k3]
    have HE := Lib.hid (show condE c n depth = groupE c n depth by unfold condE; rw [if_neg (by omega), if_pos k3])
    clear k1 k2 k3
    by_cases g1 : c.goal = true
    · have HQ := Lib.hid (show condE c n depth = 9 by rw [HE.out]; unfold groupE; rw [if_pos (.inl g1)])
      go_enter Try.func72, Try.ntmps72
      go_wp2_with fail
      go_ret
      exact ⟨by rw [HQ.out]; rfl, by go_grown⟩
    have z1 : c.goal = false := by simpa using g1
    by_cases g2 : c.id.size = 0
    case neg =>
      have HQ := Lib.hid (show condE c n depth = 9 by rw [HE.out]; unfold groupE; rw [if_pos (.inr (.inl g2))])
      have e1 : ¬ c.id.toList = [] := by rw [Lib.toList_data, bytes_cons _ (by omega)]; simp
      have e2 : c.id.toList.isEmpty = false := by rw [Lib.toList_data, bytes_cons _ (by omega)]; rfl
      clear g1 g2
      go_enter Try.func72, Try.ntmps72
      go_wp2_with fail
      go_ret
      exact ⟨by rw [HQ.out]; rfl, by go_grown⟩
    have e1 : c.id.toList = [] := by rw [Lib.toList_data]; exact bytes_nil _ g2
    have e2 : c.id.toList.isEmpty = true := by rw [e1]; rfl
    by_cases g3 : 0 < c.attr.length
    · have HQ := Lib.hid (show condE c n depth = 9 by rw [HE.out]; unfold groupE; rw [if_pos (.inr (.inr (.inl g3)))])
      have d3 : decide (0 < c.attr.length) = true := decide_eq_true g3
      clear g1 g2 g3
      go_enter Try.func72, Try.ntmps72
      go_wp2_with fail
      go_ret
      exact ⟨by rw [HQ.out]; rfl, by go_grown⟩
    have d3 : decide (0 < c.attr.length) = false := decide_eq_false g3
    by_cases g4 : 0 < c.value.length
    · have HQ := Lib.hid (show condE c n depth = 9 by rw [HE.out]; unfold groupE; rw [if_pos (.inr (.inr (.inr (.inl g4))))])
      have d4 : decide (0 < c.value.length) = true := decide_eq_true g4
      clear g1 g2 g3 g4
      go_enter Try.func72, Try.ntmps72
      go_wp2_with fail
      go_ret
      exact ⟨by rw [HQ.out]; rfl, by go_grown⟩
    have d4 : decide (0 < c.value.length) = false := decide_eq_false g4
    by_cases g5 : c.acc = true
    · have HQ := Lib.hid (show condE c n depth = 9 by rw [HE.out]; unfold groupE; rw [if_pos (.inr (.inr (.inr (.inr (.inl g5)))))])
      clear g1 g2 g3 g4
      go_enter Try.func72, Try.ntmps72
      go_wp2_with fail
      go_ret
      exact ⟨by rw [HQ.out]; rfl, by go_grown⟩
    have z5 : c.acc = false := by simpa using g5
    by_cases g6 : n = 0
    · have HQ := Lib.hid (show condE c n depth = 9 by rw [HE.out]; unfold groupE; rw [if_pos (.inr (.inr (.inr (.inr (.inr g6)))))])
      have d6 : ((n : Int) == 0) = true := by simp [g6]
      have d6b : (n == 0) = true := by simp [g6]
      clear g1 g2 g3 g4 g5 g6
      go_enter Try.func72, Try.ntmps72
      go_wp2_with fail
      go_ret
      exact ⟨by rw [HQ.out]; rfl, by go_grown⟩
    have d6 : ((n : Int) == 0) = false := by simp [g6]
    have HS := Lib.hid (show condE c n depth = if 3 ≤ depth then 8 else 0 by rw [HE.out]; unfold groupE; rw [if_neg (by rintro (h | h | h | h | h | h); exact g1 h; exact h g2; exact g3 h; exact g4 h; exact g5 h; exact g6 h)])
    clear g1 g2 g3 g4 g5 g6
    by_cases g7 : 3 ≤ depth
    · have HQ := Lib.hid (show condE c n depth = 8 by rw [HS.out, if_pos g7])
      have d7 : decide (3 ≤ depth) = true := decide_eq_true g7
      clear g7
      go_enter Try.func72, Try.ntmps72
      go_wp2_with fail
      go_ret
      exact ⟨by rw [HQ.out]; rfl, by go_grown⟩
    · have HQ := Lib.hid (show condE c n depth = 0 by rw [HS.out, if_neg g7])
      have d7 : decide (3 ≤ depth) = false := decide_eq_false g7
      clear g7
      go_enter Try.func72, Try.ntmps72
      go_wp2_with fail
      go_ret
      exact ⟨by rw [HQ.out]; rfl, by go_grown⟩
  · have b3 : (c.kind == 3) = false := by simp [k3]
    have HE := Lib.hid (show condE c n depth = singleE c n by unfold condE; rw [if_pos (by omega)])
    clear k1 k2 k3
    by_cases n1 : 0 < n
    · have HQ := Lib.hid (show condE c n depth = 9 by rw [HE.out]; unfold singleE; rw [if_pos n1])
      have d1 : decide (0 < n) = true := decide_eq_true n1
      clear n1
      go_enter Try.func72, Try.ntmps72
      go_wp2_with fail
      go_ret
      exact ⟨by rw [HQ.out]; rfl, by go_grown⟩
    have d1 : decide (0 < n) = false := decide_eq_false n1
    by_cases q1 : wordB c.id.data.toList = false
    · have HQ := Lib.hid (show condE c n depth = 9 by rw [HE.out]; unfold singleE; rw [if_neg n1, if_pos q1])
      clear n1
      go_enter Try.func72, Try.ntmps72
      go_wp2_with (go_at_call 42; refine (H1.out _).mono ?_; rintro e w1 ⟨rfl, rfl⟩; rw [q1])
      go_ret
      exact ⟨by rw [HQ.out]; rfl, by go_grown⟩
    replace q1 : wordB c.id.data.toList = true := by simpa using q1
    have HS1 := Lib.hid (show condE c n depth = (if c.attr.length = 0 then 9 else if 4 < c.attr.length then 7 else if 4 < c.value.length then 7 else if c.attr.all testB = false then 9 else if c.value.all testB = false then 9 else 0) by rw [HE.out]; unfold singleE; rw [if_neg n1, q1, if_neg (by decide)])
    clear n1
    by_cases n2 : c.attr.length = 0
    · have HQ := Lib.hid (show condE c n depth = 9 by rw [HS1.out, if_pos n2])
      have d2 : ((c.attr.length : Int) == 0) = true := by simp [n2]
      have d2b : (c.attr.length == 0) = true := by simp [n2]
      clear n2
      go_enter Try.func72, Try.ntmps72
      go_wp2_with (go_at_call 42; refine (H1.out _).mono ?_; rintro e w1 ⟨rfl, rfl⟩; rw [q1])
      go_ret
      exact ⟨by rw [HQ.out]; rfl, by go_grown⟩
    have d2 : ((c.attr.length : Int) == 0) = false := by simp; intro h; exact n2 (by rw [h]; rfl)
    by_cases n3 : 4 < c.attr.length
    · have HQ := Lib.hid (show condE c n depth = 7 by rw [HS1.out, if_neg n2, if_pos n3])
      have d3 : decide ((4 : Int) < (c.attr.length : Int)) = true := decide_eq_true (by omega)
      clear n2 n3
      go_enter Try.func72, Try.ntmps72
      go_wp2_with (go_at_call 42; refine (H1.out _).mono ?_; rintro e w1 ⟨rfl, rfl⟩; rw [q1])
      go_ret
      exact ⟨by rw [HQ.out]; rfl, by go_grown⟩
    have d3 : decide ((4 : Int) < (c.attr.length : Int)) = false := decide_eq_false (by omega)
    by_cases n4 : 4 < c.value.length
    · have HQ := Lib.hid (show condE c n depth = 7 by rw [HS1.out, if_neg n2, if_neg n3, if_pos n4])
      have d4 : decide ((4 : Int) < (c.value.length : Int)) = true := decide_eq_true (by omega)
      clear n2 n3 n4
      go_enter Try.func72, Try.ntmps72
      go_wp2_with (go_at_call 42; refine (H1.out _).mono ?_; rintro e w1 ⟨rfl, rfl⟩; rw [q1])
      go_ret
      exact ⟨by rw [HQ.out]; rfl, by go_grown⟩
    have d4 : decide ((4 : Int) < (c.value.length : Int)) = false := decide_eq_false (by omega)
    have HS2 := Lib.hid (show condE c n depth = (if c.attr.all testB = false then 9 else if c.value.all testB = false then 9 else 0) by rw [HS1.out, if_neg n2, if_neg n3, if_neg n4])
    have HZ := Lib.hid (show c.attr.length ≤ 1000000 ∧ c.value.length ≤ 1000000 by omega)
    clear n2 n3 n4
    have tok : Hid (0 = 0) := rfl
    cases q2 : c.attr.all testB with
    | false =>
      have HQ := Lib.hid (show condE c n depth = 9 by rw [HS2.out, if_pos q2])
      go_enter Try.func72, Try.ntmps72
      go_wp2_with (first | (go_at_call 42; refine (H1.out _).mono ?_; rintro e w1 ⟨rfl, rfl⟩; rw [q1]) | (have _t := tok; go_at_call 93; rw [← HW.out]; refine (H2.out _ (Below.refl _ _) HZ.out.1).mono ?_; rintro e w2 ⟨rfl, hb2⟩; rw [q2]; clear tok _t; obtain ⟨c3, c4⟩ := HC.out _ hb2))
      go_ret
      exact ⟨by rw [HQ.out]; rfl, hB.trans (hb2.mono hB.size)⟩
    | true =>
      cases q3 : c.value.all testB with
      | false =>
        have HQ := Lib.hid (show condE c n depth = 9 by rw [HS2.out, q2, if_neg (by decide), if_pos q3])
        go_enter Try.func72, Try.ntmps72
        go_wp2_with (first | (go_at_call 42; refine (H1.out _).mono ?_; rintro e w1 ⟨rfl, rfl⟩; rw [q1]) | (have _t := tok; go_at_call 93; rw [← HW.out]; refine (H2.out _ (Below.refl _ _) HZ.out.1).mono ?_; rintro e w2 ⟨rfl, hb2⟩; rw [q2]; clear tok _t; obtain ⟨c3, c4⟩ := HC.out _ hb2) | (go_at_call 93; refine (H3.out _ hb2 HZ.out.2).mono ?_; rintro e w3 ⟨rfl, hb3⟩; replace hb3 := hb2.trans (hb3.mono hb2.size); rw [q3]))
        go_ret
        exact ⟨by rw [HQ.out]; rfl, hB.trans (hb3.mono hB.size)⟩
      | true =>
        have HQ := Lib.hid (show condE c n depth = 0 by rw [HS2.out, q2, if_neg (by decide), q3, if_neg (by decide)])
        go_enter Try.func72, Try.ntmps72
        go_wp2_with (first | (go_at_call 42; refine (H1.out _).mono ?_; rintro e w1 ⟨rfl, rfl⟩; rw [q1]) | (have _t := tok; go_at_call 93; rw [← HW.out]; refine (H2.out _ (Below.refl _ _) HZ.out.1).mono ?_; rintro e w2 ⟨rfl, hb2⟩; rw [q2]; clear tok _t; obtain ⟨c3, c4⟩ := HC.out _ hb2) | (go_at_call 93; refine (H3.out _ hb2 HZ.out.2).mono ?_; rintro e w3 ⟨rfl, hb3⟩; replace hb3 := hb2.trans (hb3.mono hb2.size); rw [q3]))
        go_ret
        exact ⟨by rw [HQ.out]; rfl, hB.trans (hb3.mono hB.size)⟩
end Go.Proofs.Ytccphigpobnjmaa
