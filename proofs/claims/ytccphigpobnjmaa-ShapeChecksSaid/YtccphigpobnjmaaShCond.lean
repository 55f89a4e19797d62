/-
  Package shape: what is wrong with a condition itself. No condition but bounds on lengths.
-/
import Derived.Test.YtccphigpobnjmaaShTest
namespace Go.Proofs.Ytccphigpobnjmaa
set_option linter.unusedVariables false
open Go.RowKit
/-- A condition's own part: aa ac, va vc, ca cc tell where its tests and inner conditions lie. -/
structure Ch where
  kind : Int
  goal : Bool
  id : ByteArray
  attr : List Ts
  aa : Option Addr
  ac : Nat
  value : List Ts
  va : Option Addr
  vc : Nat
  acc : Bool
  ca : Option Addr
  cc : Nat
/-- The cells of a condition with n inner ones. -/
def encH (c : Ch) (n : Nat) : List Value := [.int .i64 c.kind, .bool c.goal, .string c.id, .slice c.aa c.attr.length c.ac, .slice c.va c.value.length c.vc, .bool c.acc, .slice c.ca n c.cc]
def singleE (c : Ch) (n : Nat) : Int :=
  if 0 < n then 9 else if wordB c.id.data.toList = false then 9 else if c.attr.length = 0 then 9 else if 4 < c.attr.length then 7 else if 4 < c.value.length then 7 else if c.attr.all testB = false then 9 else if c.value.all testB = false then 9 else 0
def groupE (c : Ch) (n : Nat) (depth : Int) : Int :=
  if c.goal = true ∨ ¬ c.id.size = 0 ∨ 0 < c.attr.length ∨ 0 < c.value.length ∨ c.acc = true ∨ n = 0 then 9 else if 3 ≤ depth then 8 else 0
def condE (c : Ch) (n : Nat) (depth : Int) : Int := if c.kind = 1 ∨ c.kind = 2 then singleE c n else if c.kind = 3 then groupE c n depth else 9
set_option maxHeartbeats 2000000 in
theorem single_any (c : Ch) (n : Nat) (w : World) (ha : TestsAt w c.aa c.attr) (hv : TestsAt w c.va c.value) : Calls Try.prog 66 #[.agg #[.int .i64 c.kind, .bool c.goal, .string c.id, .slice c.aa c.attr.length c.ac, .slice c.va c.value.length c.vc, .bool c.acc, .slice c.ca n c.cc]] w fun e w' => e = .returned (.int .i64 (singleE c n)) ∧ Below w.heap.size w w' := by
  obtain ⟨W2, hW2⟩ : ∃ W2, W2 = w.alloc (.cells #[.int .i64 c.kind, .bool c.goal, .string c.id, .slice c.aa c.attr.length c.ac, .slice c.va c.value.length c.vc, .bool c.acc, .slice c.ca n c.cc] 64) := ⟨_, rfl⟩
  have hB : Below w.heap.size w W2 := by rw [hW2]; go_grown
  have hc : ∀ w', Below W2.heap.size W2 w' → w'.cell? ⟨w.heap.size, 3, none⟩ = some (.slice c.aa c.attr.length c.ac) ∧ w'.cell? ⟨w.heap.size, 4, none⟩ = some (.slice c.va c.value.length c.vc) := by
    intro w' h
    have hx := cells_of (W := W2) (b := w.heap.size) (c := #[.int .i64 c.kind, .bool c.goal, .string c.id, .slice c.aa c.attr.length c.ac, .slice c.va c.value.length c.vc, .bool c.acc, .slice c.ca n c.cc]) (t := 64) (f := (0, 0)) (by rw [hW2]; exact new_at rfl)
    have hlt : w.heap.size < W2.heap.size := by rw [hW2]; simp
    refine ⟨?_, ?_⟩
    · exact (h.cell (p := ⟨w.heap.size, 3, none⟩) hlt).trans (by rw [hx]; rfl)
    · exact (h.cell (p := ⟨w.heap.size, 4, none⟩) hlt).trans (by rw [hx]; rfl)
  have HC := Lib.hid hc
  have HW := Lib.hid hW2
  have h1 := fun w' => word_all c.id w'
  have H1 := Lib.hid h1
  have h2 := fun w' (h : Below W2.heap.size W2 w') hz => testsF_any w' c.aa c.ac c.attr (ha.mono (hB.trans (h.mono hB.size))) hz
  have h3 := fun w' (h : Below W2.heap.size W2 w') hz => testsF_any w' c.va c.vc c.value (hv.mono (hB.trans (h.mono hB.size))) hz
  have H2 := Lib.hid h2
  have H3 := Lib.hid h3
  clear hc hW2 h1 h2 h3 ha hv
  by_cases n1 : 0 < n
  · have HQ := Lib.hid (show singleE c n = 9 by unfold singleE; rw [if_pos n1])
    have d1 : decide (0 < n) = true := decide_eq_true n1
    clear n1
    go_enter Try.func66, Try.ntmps66
    go_wp2_with fail
    go_ret
    exact ⟨by rw [HQ.out]; rfl, by rw [← HW.out]; exact hB⟩
  have d1 : decide (0 < n) = false := decide_eq_false n1
  cases q1 : wordB c.id.data.toList with
  | false =>
    have HQ := Lib.hid (show singleE c n = 9 by unfold singleE; rw [if_neg n1, if_pos q1])
    clear n1
    go_enter Try.func66, Try.ntmps66
    go_wp2_with (go_at_call 62; rw [← HW.out]; refine (H1.out _).mono ?_; rintro e w1 ⟨rfl, hb1⟩; rw [q1]; obtain ⟨c3, c4⟩ := HC.out _ hb1)
    go_ret
    exact ⟨by rw [HQ.out]; rfl, hB.trans (hb1.mono hB.size)⟩
  | true =>
    have hs1 : singleE c n = (if c.attr.length = 0 then 9 else if 4 < c.attr.length then 7 else if 4 < c.value.length then 7 else if c.attr.all testB = false then 9 else if c.value.all testB = false then 9 else 0) := by
      unfold singleE; rw [if_neg n1, q1, if_neg (by decide)]
    have HS1 := Lib.hid hs1
    clear hs1 n1
    by_cases n2 : c.attr.length = 0
    · have HQ := Lib.hid (show singleE c n = 9 by rw [HS1.out, if_pos n2])
      have d2 : ((c.attr.length : Int) == 0) = true := by simp [n2]
      clear n2
      go_enter Try.func66, Try.ntmps66
      go_wp2_with (go_at_call 62; rw [← HW.out]; refine (H1.out _).mono ?_; rintro e w1 ⟨rfl, hb1⟩; rw [q1]; obtain ⟨c3, c4⟩ := HC.out _ hb1)
      go_ret
      exact ⟨by rw [HQ.out]; rfl, hB.trans (hb1.mono hB.size)⟩
    have d2 : ((c.attr.length : Int) == 0) = false := by simp; intro h; exact n2 (by rw [h]; rfl)
    by_cases n3 : 4 < c.attr.length
    · have HQ := Lib.hid (show singleE c n = 7 by rw [HS1.out, if_neg n2, if_pos n3])
      have d3 : decide ((4 : Int) < (c.attr.length : Int)) = true := decide_eq_true (by omega)
      clear n2 n3
      go_enter Try.func66, Try.ntmps66
      go_wp2_with (go_at_call 62; rw [← HW.out]; refine (H1.out _).mono ?_; rintro e w1 ⟨rfl, hb1⟩; rw [q1]; obtain ⟨c3, c4⟩ := HC.out _ hb1)
      go_ret
      exact ⟨by rw [HQ.out]; rfl, hB.trans (hb1.mono hB.size)⟩
    have d3 : decide ((4 : Int) < (c.attr.length : Int)) = false := decide_eq_false (by omega)
    by_cases n4 : 4 < c.value.length
    · have HQ := Lib.hid (show singleE c n = 7 by rw [HS1.out, if_neg n2, if_neg n3, if_pos n4])
      have d4 : decide ((4 : Int) < (c.value.length : Int)) = true := decide_eq_true (by omega)
      clear n2 n3 n4
      go_enter Try.func66, Try.ntmps66
      go_wp2_with (go_at_call 62; rw [← HW.out]; refine (H1.out _).mono ?_; rintro e w1 ⟨rfl, hb1⟩; rw [q1]; obtain ⟨c3, c4⟩ := HC.out _ hb1)
      go_ret
      exact ⟨by rw [HQ.out]; rfl, hB.trans (hb1.mono hB.size)⟩
    have d4 : decide ((4 : Int) < (c.value.length : Int)) = false := decide_eq_false (by omega)
    have hs2 : singleE c n = (if c.attr.all testB = false then 9 else if c.value.all testB = false then 9 else 0) := by rw [HS1.out, if_neg n2, if_neg n3, if_neg n4]
    have HS2 := Lib.hid hs2
    have HZ := Lib.hid (show c.attr.length ≤ 1000000 ∧ c.value.length ≤ 1000000 by omega)
    clear hs2 n2 n3 n4
    have tok : Hid (0 = 0) := rfl
    cases q2 : c.attr.all testB with
    | false =>
      have HQ := Lib.hid (show singleE c n = 9 by rw [HS2.out, if_pos q2])
      go_enter Try.func66, Try.ntmps66
      go_wp2_with (first | (go_at_call 62; rw [← HW.out]; refine (H1.out _).mono ?_; rintro e w1 ⟨rfl, hb1⟩; rw [q1]; obtain ⟨c3, c4⟩ := HC.out _ hb1) | (have _t := tok; go_at_call 89; refine (H2.out _ hb1 HZ.out.1).mono ?_; rintro e w2 ⟨rfl, hb2⟩; replace hb2 := hb1.trans (hb2.mono hb1.size); rw [q2]; clear c3 c4 tok _t; obtain ⟨c3, c4⟩ := HC.out _ hb2))
      go_ret
      exact ⟨by rw [HQ.out]; rfl, hB.trans (hb2.mono hB.size)⟩
    | true =>
      cases q3 : c.value.all testB with
      | false =>
        have HQ := Lib.hid (show singleE c n = 9 by rw [HS2.out, q2, if_neg (by decide), if_pos q3])
        go_enter Try.func66, Try.ntmps66
        go_wp2_with (first | (go_at_call 62; rw [← HW.out]; refine (H1.out _).mono ?_; rintro e w1 ⟨rfl, hb1⟩; rw [q1]; obtain ⟨c3, c4⟩ := HC.out _ hb1) | (have _t := tok; go_at_call 89; refine (H2.out _ hb1 HZ.out.1).mono ?_; rintro e w2 ⟨rfl, hb2⟩; replace hb2 := hb1.trans (hb2.mono hb1.size); rw [q2]; clear c3 c4 tok _t; obtain ⟨c3, c4⟩ := HC.out _ hb2) | (go_at_call 89; refine (H3.out _ hb2 HZ.out.2).mono ?_; rintro e w3 ⟨rfl, hb3⟩; replace hb3 := hb2.trans (hb3.mono hb2.size); rw [q3]))
        go_ret
        exact ⟨by rw [HQ.out]; rfl, hB.trans (hb3.mono hB.size)⟩
      | true =>
        have HQ := Lib.hid (show singleE c n = 0 by rw [HS2.out, q2, if_neg (by decide), q3, if_neg (by decide)])
        go_enter Try.func66, Try.ntmps66
        go_wp2_with (first | (go_at_call 62; rw [← HW.out]; refine (H1.out _).mono ?_; rintro e w1 ⟨rfl, hb1⟩; rw [q1]; obtain ⟨c3, c4⟩ := HC.out _ hb1) | (have _t := tok; go_at_call 89; refine (H2.out _ hb1 HZ.out.1).mono ?_; rintro e w2 ⟨rfl, hb2⟩; replace hb2 := hb1.trans (hb2.mono hb1.size); rw [q2]; clear c3 c4 tok _t; obtain ⟨c3, c4⟩ := HC.out _ hb2) | (go_at_call 89; refine (H3.out _ hb2 HZ.out.2).mono ?_; rintro e w3 ⟨rfl, hb3⟩; replace hb3 := hb2.trans (hb3.mono hb2.size); rw [q3]))
        go_ret
        exact ⟨by rw [HQ.out]; rfl, hB.trans (hb3.mono hB.size)⟩
end Go.Proofs.Ytccphigpobnjmaa
