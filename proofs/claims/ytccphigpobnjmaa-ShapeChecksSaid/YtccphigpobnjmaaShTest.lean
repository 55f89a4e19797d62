/-
  Package shape: testFails, whatever the test. No condition but bounds on lengths.
-/
import Derived.Test.YtccphigpobnjmaaShTests
namespace Go.Proofs.Ytccphigpobnjmaa
set_option linter.unusedVariables false
open Go.RowKit
def testB (x : Ts) : Bool := if x.rel = 8 then decide (x.var.size = 0) && decide (x.s = zeroY) && listB x.list else decide (1 ≤ x.rel ∧ x.rel ≤ 7) && decide (x.list.length = 0) && atomB ⟨x.var, x.s⟩
set_option maxHeartbeats 1000000 in
theorem testF_any (w : World) (x : Ts) (he : EltsK encS 3 w x.a x.list) (hz : x.list.length ≤ 1000000000) : Calls Try.prog 90 #[.agg #[.int .i64 x.rel, .string x.var, .int .i64 x.s.k, .string x.s.t, .int .i64 x.s.n, .slice x.a x.list.length x.cap]] w fun e w' => e = .returned (.bool (!testB x)) ∧ Below w.heap.size w w' := by
  have hB : Below w.heap.size w (w.alloc (.cells #[.int .i64 x.rel, .string x.var, .int .i64 x.s.k, .string x.s.t, .int .i64 x.s.n, .slice x.a x.list.length x.cap] 67)) := by go_grown
  have hl := fun w' h => listF_any w' x.a x.cap x.list (he.mono h) hz
  have HL := Lib.hid hl
  have ha := fun w' => atomF_any ⟨x.var, x.s⟩ w'
  have HA := Lib.hid ha
  have hq : ∀ w, (binOp .neq 47 (.agg #[.int .i64 x.s.k, .string x.s.t, .int .i64 x.s.n]) (.agg #[.int .i64 0, .string ⟨#[]⟩, .int .i64 0])).run Try.prog w = .ok (.bool (!decide (x.s = zeroY))) w := neY_run x.s zeroY
  clear hl ha he
  by_cases h8 : x.rel = 8
  · have b8 : (x.rel == 8) = true := by simp [h8]
    have hr : testB x = (decide (x.var.size = 0) && decide (x.s = zeroY) && listB x.list) := by unfold testB; rw [if_pos h8]
    have HR := Lib.hid hr
    clear hr h8
    by_cases hv : x.var.size = 0
    · have hn : x.var.toList = [] := by rw [Lib.toList_data]; exact bytes_nil _ hv
      have hn2 : x.var.toList.isEmpty = true := by rw [hn]; rfl
      by_cases hs : x.s = zeroY
      · have HQ := Lib.hid (show testB x = listB x.list by rw [HR.out]; simp [hv, hs])
        have hd : decide (x.s = zeroY) = true := by simp [hs]
        rw [hd] at hq
        clear hs hv hd
        go_enter Try.func90, Try.ntmps90
        go_wp2_with (go_at_call 102; refine (HL.out _ hB).mono ?_; rintro e w2 ⟨rfl, hb⟩)
        go_ret
        exact ⟨by rw [HQ.out]; rfl, hB.trans (hb.mono hB.size)⟩
      · have HQ := Lib.hid (show testB x = false by rw [HR.out]; simp [hs])
        have hd : decide (x.s = zeroY) = false := by simp [hs]
        rw [hd] at hq
        clear hs hv hd
        go_enter Try.func90, Try.ntmps90
        go_wp2_with fail
        go_ret
        exact ⟨by rw [HQ.out]; rfl, hB⟩
    · have hn : ¬ x.var.toList = [] := by rw [Lib.toList_data, bytes_cons _ (by omega)]; simp
      have hn2 : x.var.toList.isEmpty = false := by rw [Lib.toList_data, bytes_cons _ (by omega)]; rfl
      have HQ := Lib.hid (show testB x = false by rw [HR.out]; simp [hv])
      clear hv hq
      go_enter Try.func90, Try.ntmps90
      go_wp2_with fail
      go_ret
      exact ⟨by rw [HQ.out]; rfl, hB⟩
  · have b8 : (x.rel == 8) = false := by simp [h8]
    have hr : testB x = (decide (1 ≤ x.rel ∧ x.rel ≤ 7) && decide (x.list.length = 0) && atomB ⟨x.var, x.s⟩) := by unfold testB; rw [if_neg h8]
    have HR := Lib.hid hr
    clear hr h8 hq
    by_cases h1 : 1 ≤ x.rel
    · have d1 : decide (1 ≤ x.rel) = true := by simp [h1]
      by_cases h7 : x.rel ≤ 7
      · have d7 : decide (x.rel ≤ 7) = true := by simp [h7]
        by_cases hl : x.list.length = 0
        · have HQ := Lib.hid (show testB x = atomB ⟨x.var, x.s⟩ by rw [HR.out]; simp only [h1, h7, hl, and_self, decide_true, Bool.true_and])
          have dl : decide (0 < x.list.length) = false := decide_eq_false (by omega)
          clear h1 h7 hl
          go_enter Try.func90, Try.ntmps90
          go_wp2_with (go_at_call 68; refine (HA.out _).mono ?_; rintro e w2 ⟨rfl, hb⟩)
          go_ret
          exact ⟨by rw [HQ.out]; rfl, hB.trans (hb.mono hB.size)⟩
        · have HQ := Lib.hid (show testB x = false by rw [HR.out]; simp [hl])
          have dl : decide (0 < x.list.length) = true := decide_eq_true (by omega)
          clear h1 h7 hl
          go_enter Try.func90, Try.ntmps90
          go_wp2_with fail
          go_ret
          exact ⟨by rw [HQ.out]; rfl, hB⟩
      · have HQ := Lib.hid (show testB x = false by rw [HR.out]; simp [h7])
        have d7 : decide (x.rel ≤ 7) = false := by simp [h7]
        clear h1 h7
        go_enter Try.func90, Try.ntmps90
        go_wp2_with fail
        go_ret
        exact ⟨by rw [HQ.out]; rfl, hB⟩
    · have HQ := Lib.hid (show testB x = false by rw [HR.out]; simp [h1])
      have d1 : decide (1 ≤ x.rel) = false := by simp [h1]
      clear h1
      go_enter Try.func90, Try.ntmps90
      go_wp2_with fail
      go_ret
      exact ⟨by rw [HQ.out]; rfl, hB⟩
/-- A list of tests at a place, with their own lists. -/
def TestsAt (w : World) (a : Option Addr) (l : List Ts) : Prop := EltsK encT 6 w a l ∧ ∀ x ∈ l, EltsK encS 3 w x.a x.list ∧ x.list.length ≤ 1000000000
theorem TestsAt.mono {w w' : World} {a : Option Addr} {l : List Ts} (h : TestsAt w a l) (hb : Below w.heap.size w w') : TestsAt w' a l := ⟨h.1.mono hb, fun x hx => ⟨(h.2 x hx).1.mono hb, (h.2 x hx).2⟩⟩
theorem testsF_any (w : World) (a : Option Addr) (cap : Nat) (l : List Ts) (h : TestsAt w a l) (hz : l.length ≤ 1000000) :
    Calls Try.prog 89 #[.slice a l.length cap, .func (.func 90) #[] #[]] w fun e w' => e = .returned (.bool (!l.all testB)) ∧ Below w.heap.size w w' :=
  contains_T testB w a cap l h.1 hz (fun x hx w' hb => testF_any w' x ((h.2 x hx).1.mono hb) (h.2 x hx).2)
end Go.Proofs.Ytccphigpobnjmaa
