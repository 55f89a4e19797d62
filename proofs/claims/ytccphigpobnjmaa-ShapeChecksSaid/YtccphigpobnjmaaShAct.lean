/-
  Package shape: terms and actions, whatever they are. No condition.
-/
import Derived.Test.YtccphigpobnjmaaShLeaf
namespace Go.Proofs.Ytccphigpobnjmaa
set_option linter.unusedVariables false
open Go.RowKit
structure Tm where
  op : Int
  l : At
  r : At
structure Ac where
  id : ByteArray
  at_ : At
  v : Tm
  pref : Int
  oth : At
def zeroA : At := ⟨⟨#[]⟩, zeroY⟩
def encM (t : Tm) : List Value := [.int .i64 t.op, .string t.l.v, .int .i64 t.l.s.k, .string t.l.s.t, .int .i64 t.l.s.n, .string t.r.v, .int .i64 t.r.s.k, .string t.r.s.t, .int .i64 t.r.s.n]
def encA (x : Ac) : List Value := [.string x.id, .string x.at_.v, .int .i64 x.at_.s.k, .string x.at_.s.t, .int .i64 x.at_.s.n, .int .i64 x.v.op, .string x.v.l.v, .int .i64 x.v.l.s.k, .string x.v.l.s.t, .int .i64 x.v.l.s.n, .string x.v.r.v, .int .i64 x.v.r.s.k, .string x.v.r.s.t, .int .i64 x.v.r.s.n, .int .i64 x.pref, .string x.oth.v, .int .i64 x.oth.s.k, .string x.oth.s.t, .int .i64 x.oth.s.n]
theorem at_iff {x y : At} : x = y ↔ x.v.toList = y.v.toList ∧ x.s.k = y.s.k ∧ x.s.t.toList = y.s.t.toList ∧ x.s.n = y.s.n := by
  constructor
  · rintro rfl; exact ⟨rfl, rfl, rfl, rfl⟩
  · rintro ⟨h0, h1, h2, h3⟩
    obtain ⟨xv, xs⟩ := x
    obtain ⟨yv, ys⟩ := y
    have e : xs = ys := sy_iff.2 ⟨h1, h2, h3⟩
    simp only [Lib.toList_data] at h0
    subst e
    rw [ByteArray.ext (Array.toList_inj.mp h0)]
theorem eqA_run (x y : At) (w : World) : (binOp .eql 55 (.agg #[.string x.v, .int .i64 x.s.k, .string x.s.t, .int .i64 x.s.n]) (.agg #[.string y.v, .int .i64 y.s.k, .string y.s.t, .int .i64 y.s.n])).run Try.prog w = .ok (.bool (decide (x = y))) w := by
  simp only [at_iff]
  simp [go_sem]
  repeat' split
  all_goals simp_all
def sumB (a : At) : Bool := atomB a && decide (a.s.k ≠ 3)
theorem sumF_any (a : At) (w : World) : Calls Try.prog 92 #[.agg #[.string a.v, .int .i64 a.s.k, .string a.s.t, .int .i64 a.s.n]] w fun e w' => e = .returned (.bool (sumB a)) ∧ Below w.heap.size w w' := by
  obtain ⟨W2, hW2⟩ : ∃ W2, W2 = w.alloc (.cells #[.string a.v, .int .i64 a.s.k, .string a.s.t, .int .i64 a.s.n] 55) := ⟨_, rfl⟩
  have hB : Below w.heap.size w W2 := by rw [hW2]; go_grown
  have hc : ∀ w', Below W2.heap.size W2 w' → w'.cell? ⟨w.heap.size, 1, none⟩ = some (.int .i64 a.s.k) := by
    intro w' h
    have hx := cells_of (W := W2) (b := w.heap.size) (c := #[.string a.v, .int .i64 a.s.k, .string a.s.t, .int .i64 a.s.n]) (t := 55) (f := (0, 0)) (by rw [hW2]; exact new_at rfl)
    have hlt : w.heap.size < W2.heap.size := by rw [hW2]; simp
    exact (h.cell (p := ⟨w.heap.size, 1, none⟩) hlt).trans (by rw [hx]; rfl)
  have HC := Lib.hid hc
  have HW := Lib.hid hW2
  have hv := fun w' => atomF_any a w'
  have HV := Lib.hid hv
  clear hv hc hW2
  cases ha : atomB a with
  | false =>
    have HQ := Lib.hid (show sumB a = false by unfold sumB; rw [ha]; rfl)
    go_enter Try.func92, Try.ntmps92
    go_wp2_with (go_at_call 68; rw [← HW.out]; refine (HV.out _).mono ?_; rintro e w' ⟨rfl, hb⟩; rw [ha])
    go_ret
    exact ⟨by rw [HQ.out]; rfl, hB.trans (hb.mono hB.size)⟩
  | true =>
    have HQ := Lib.hid (show sumB a = (a.s.k != 3) by unfold sumB; rw [ha, Bool.true_and, Bool.eq_iff_iff]; simp)
    go_enter Try.func92, Try.ntmps92
    go_wp2_with (go_at_call 68; rw [← HW.out]; refine (HV.out _).mono ?_; rintro e w' ⟨rfl, hb⟩; rw [ha]; have c1 := HC.out _ hb)
    go_ret
    exact ⟨by rw [HQ.out]; rfl, hB.trans (hb.mono hB.size)⟩
def otherB (p : Int) (a : At) : Bool := if 1 ≤ p ∧ p ≤ 7 then decide (a = zeroA) else if 8 ≤ p ∧ p ≤ 10 then atomB a else false
set_option maxHeartbeats 1000000 in
theorem otherF_any (p : Int) (a : At) (w : World) : Calls Try.prog 70 #[.int .i64 p, .agg #[.string a.v, .int .i64 a.s.k, .string a.s.t, .int .i64 a.s.n]] w fun e w' => e = .returned (.bool (otherB p a)) ∧ Below w.heap.size w w' := by
  have hB : Below w.heap.size w (w.alloc (.cells #[.string a.v, .int .i64 a.s.k, .string a.s.t, .int .i64 a.s.n] 55)) := by go_grown
  have hq : ∀ w, (binOp .eql 55 (.agg #[.string a.v, .int .i64 a.s.k, .string a.s.t, .int .i64 a.s.n]) (.agg #[.string ⟨#[]⟩, .int .i64 0, .string ⟨#[]⟩, .int .i64 0])).run Try.prog w = .ok (.bool (decide (a = zeroA))) w := eqA_run a zeroA
  have hv := fun w' => atomF_any a w'
  have HV := Lib.hid hv
  clear hv
  by_cases p1 : p = 1
  · subst p1
    have HQ := Lib.hid (show otherB 1 a = decide (a = zeroA) from rfl)
    generalize decide (a = zeroA) = q at hq HQ
    go_enter Try.func70, Try.ntmps70
    go_wp2_with fail
    go_ret
    exact ⟨by rw [HQ.out]; rfl, hB⟩
  · have q1 : (p == 1) = false := by simp [p1]
    by_cases p2 : p = 2
    · subst p2
      have HQ := Lib.hid (show otherB 2 a = decide (a = zeroA) from rfl)
      generalize decide (a = zeroA) = q at hq HQ
      go_enter Try.func70, Try.ntmps70
      go_wp2_with fail
      go_ret
      exact ⟨by rw [HQ.out]; rfl, hB⟩
    · have q2 : (p == 2) = false := by simp [p2]
      by_cases p3 : p = 3
      · subst p3
        have HQ := Lib.hid (show otherB 3 a = decide (a = zeroA) from rfl)
        generalize decide (a = zeroA) = q at hq HQ
        go_enter Try.func70, Try.ntmps70
        go_wp2_with fail
        go_ret
        exact ⟨by rw [HQ.out]; rfl, hB⟩
      · have q3 : (p == 3) = false := by simp [p3]
        by_cases p4 : p = 4
        · subst p4
          have HQ := Lib.hid (show otherB 4 a = decide (a = zeroA) from rfl)
          generalize decide (a = zeroA) = q at hq HQ
          go_enter Try.func70, Try.ntmps70
          go_wp2_with fail
          go_ret
          exact ⟨by rw [HQ.out]; rfl, hB⟩
        · have q4 : (p == 4) = false := by simp [p4]
          by_cases p5 : p = 5
          · subst p5
            have HQ := Lib.hid (show otherB 5 a = decide (a = zeroA) from rfl)
            generalize decide (a = zeroA) = q at hq HQ
            go_enter Try.func70, Try.ntmps70
            go_wp2_with fail
            go_ret
            exact ⟨by rw [HQ.out]; rfl, hB⟩
          · have q5 : (p == 5) = false := by simp [p5]
            by_cases p6 : p = 6
            · subst p6
              have HQ := Lib.hid (show otherB 6 a = decide (a = zeroA) from rfl)
              generalize decide (a = zeroA) = q at hq HQ
              go_enter Try.func70, Try.ntmps70
              go_wp2_with fail
              go_ret
              exact ⟨by rw [HQ.out]; rfl, hB⟩
            · have q6 : (p == 6) = false := by simp [p6]
              by_cases p7 : p = 7
              · subst p7
                have HQ := Lib.hid (show otherB 7 a = decide (a = zeroA) from rfl)
                generalize decide (a = zeroA) = q at hq HQ
                go_enter Try.func70, Try.ntmps70
                go_wp2_with fail
                go_ret
                exact ⟨by rw [HQ.out]; rfl, hB⟩
              · have q7 : (p == 7) = false := by simp [p7]
                by_cases p8 : p = 8
                · subst p8
                  have HQ := Lib.hid (show otherB 8 a = atomB a from rfl)
                  clear hq
                  go_enter Try.func70, Try.ntmps70
                  go_wp2_with (go_at_call 68; refine (HV.out _).mono ?_; rintro e w2 ⟨rfl, hb⟩)
                  go_ret
                  exact ⟨by rw [HQ.out]; rfl, hB.trans (hb.mono hB.size)⟩
                · have q8 : (p == 8) = false := by simp [p8]
                  by_cases p9 : p = 9
                  · subst p9
                    have HQ := Lib.hid (show otherB 9 a = atomB a from rfl)
                    clear hq
                    go_enter Try.func70, Try.ntmps70
                    go_wp2_with (go_at_call 68; refine (HV.out _).mono ?_; rintro e w2 ⟨rfl, hb⟩)
                    go_ret
                    exact ⟨by rw [HQ.out]; rfl, hB.trans (hb.mono hB.size)⟩
                  · have q9 : (p == 9) = false := by simp [p9]
                    by_cases p10 : p = 10
                    · subst p10
                      have HQ := Lib.hid (show otherB 10 a = atomB a from rfl)
                      clear hq
                      go_enter Try.func70, Try.ntmps70
                      go_wp2_with (go_at_call 68; refine (HV.out _).mono ?_; rintro e w2 ⟨rfl, hb⟩)
                      go_ret
                      exact ⟨by rw [HQ.out]; rfl, hB.trans (hb.mono hB.size)⟩
                    · have q10 : (p == 10) = false := by simp [p10]
                      have HQ := Lib.hid (show otherB p a = false by unfold otherB; rw [if_neg (by omega), if_neg (by omega)])
                      clear p1 p2 p3 p4 p5 p6 p7 p8 p9 p10 hq
                      go_enter Try.func70, Try.ntmps70
                      go_wp2_with fail
                      go_ret
                      exact ⟨by rw [HQ.out]; rfl, hB⟩
def termB (t : Tm) : Bool := if t.op = 0 then atomB t.l && decide (t.r = zeroA) else if 1 ≤ t.op ∧ t.op ≤ 3 then sumB t.l && sumB t.r else false
end Go.Proofs.Ytccphigpobnjmaa
