/-
  The document's own answers on words, symbols, constants, atoms, of any size. No condition.
-/
import Derived.Test.YtccphigpobnjmaaSymRef
import Derived.Test.YtccphigpobnjmaaShLeaf
namespace Go.Proofs.Ytccphigpobnjmaa
set_option linter.unusedVariables false
open Go.RowKit
theorem rword_long (s : ByteArray) (w : World) (h32 : 32 < s.size) : Calls Try.prog 42 #[.string s] w fun e w' => e = .returned (.bool false) ∧ w = w' := by
  have hpos : 0 < s.size := by omega
  go_enter Try.func42, Try.ntmps42
  go_wp2_with fail
  go_ret
  exact ⟨rfl, rfl⟩
theorem rword_all (s : ByteArray) (w : World) : Calls Try.prog 42 #[.string s] w fun e w' => e = .returned (.bool (wordB s.data.toList)) ∧ w = w' := by
  by_cases h : s.size ≤ 1000000
  · exact rword_any s w h
  · have := rword_long s w (by omega)
    rw [wordB_long s (by omega)]
    exact this
set_option maxHeartbeats 1000000 in
theorem rvalid_all (s : Sy) (w : World) : Calls Try.prog 105 #[.agg #[.int .i64 s.k, .string s.t, .int .i64 s.n]] w fun e w' => e = .returned (.bool (validY s)) ∧ Below w.heap.size w w' := by
  by_cases hs : s.t.size ≤ 1000000
  · exact rvalid_any s w hs
  · have hB : Below w.heap.size w (w.alloc (.cells #[.int .i64 s.k, .string s.t, .int .i64 s.n] 47)) := by go_grown
    rw [valid_long s (by omega)]
    have e1 : ((s.t.size : Int) == 1) = false := by simp; omega
    have he : ¬ s.t.toList = [] := by rw [Lib.toList_data, bytes_cons _ (by omega)]; simp
    have he2 : s.t.toList.isEmpty = false := by rw [Lib.toList_data, bytes_cons _ (by omega)]; rfl
    have hw := fun w' => rword_long s.t w' (by omega)
    have Hw := Lib.hid hw
    clear hw hs
    by_cases k1 : s.k = 1
    · have b1 : (s.k == 1) = true := by simp [k1]
      clear k1
      go_enter Try.func105, Try.ntmps105
      go_wp2_with fail
      all_goals
        go_ret
        exact ⟨rfl, hB⟩
    · have b1 : (s.k == 1) = false := by simp [k1]
      by_cases k2 : s.k = 2
      · have b2 : (s.k == 2) = true := by simp [k2]
        clear k1 k2
        go_enter Try.func105, Try.ntmps105
        go_wp2_with fail
        all_goals
          go_ret
          exact ⟨rfl, hB⟩
      · have b2 : (s.k == 2) = false := by simp [k2]
        by_cases k3 : s.k = 3
        · have b3 : (s.k == 3) = true := by simp [k3]
          clear k1 k2 k3
          by_cases hn : s.n = 0
          · have bn : (s.n == 0) = true := by simp [hn]
            clear hn
            go_enter Try.func105, Try.ntmps105
            go_wp2_with (go_at_call 42; refine (Hw.out _).mono ?_; rintro e w' ⟨rfl, rfl⟩)
            all_goals
              go_ret
              exact ⟨rfl, hB⟩
          · have bn : (s.n == 0) = false := by simp [hn]
            clear hn
            go_enter Try.func105, Try.ntmps105
            go_wp2_with fail
            all_goals
              go_ret
              exact ⟨rfl, hB⟩
        · have b3 : (s.k == 3) = false := by simp [k3]
          clear k1 k2 k3
          go_enter Try.func105, Try.ntmps105
          go_wp2_with fail
          all_goals
            go_ret
            exact ⟨rfl, hB⟩
theorem rconst_any (s : Sy) (w : World) : Calls Try.prog 94 #[.agg #[.int .i64 s.k, .string s.t, .int .i64 s.n]] w fun e w' => e = .returned (.bool (constB s)) ∧ Below w.heap.size w w' := by
  obtain ⟨W2, hW2⟩ : ∃ W2, W2 = w.alloc (.cells #[.int .i64 s.k, .string s.t, .int .i64 s.n] 47) := ⟨_, rfl⟩
  have hB : Below w.heap.size w W2 := by rw [hW2]; go_grown
  have hc : ∀ w', Below W2.heap.size W2 w' → w'.cell? ⟨w.heap.size, 0, none⟩ = some (.int .i64 s.k) := by
    intro w' h
    have hx := cells_of (W := W2) (b := w.heap.size) (c := #[.int .i64 s.k, .string s.t, .int .i64 s.n]) (t := 47) (f := (0, 0)) (by rw [hW2]; exact new_at rfl)
    have hlt : w.heap.size < W2.heap.size := by rw [hW2]; simp
    exact (h.cell (p := ⟨w.heap.size, 0, none⟩) hlt).trans (by rw [hx]; rfl)
  have HC := Lib.hid hc
  have HW := Lib.hid hW2
  have hv := fun w' => rvalid_all s w'
  have HV := Lib.hid hv
  clear hv hc hW2
  cases ha : validY s with
  | false =>
    have HQ := Lib.hid (show constB s = false by unfold constB; rw [ha, Bool.and_false])
    go_enter Try.func94, Try.ntmps94
    go_wp2_with (go_at_call 105; rw [← HW.out]; refine (HV.out _).mono ?_; rintro e w' ⟨rfl, hb⟩; rw [ha])
    go_ret
    exact ⟨by rw [HQ.out]; rfl, hB.trans (hb.mono hB.size)⟩
  | true =>
    have HQ := Lib.hid (show constB s = (s.k != 1) by unfold constB; rw [ha, Bool.and_true]; rfl)
    go_enter Try.func94, Try.ntmps94
    go_wp2_with (go_at_call 105; rw [← HW.out]; refine (HV.out _).mono ?_; rintro e w' ⟨rfl, hb⟩; rw [ha]; have c0 := HC.out _ hb)
    go_ret
    exact ⟨by rw [HQ.out]; rfl, hB.trans (hb.mono hB.size)⟩
theorem ratom_any (a : At) (w : World) : Calls Try.prog 73 #[.agg #[.string a.v, .int .i64 a.s.k, .string a.s.t, .int .i64 a.s.n]] w fun e w' => e = .returned (.bool (atomB a)) ∧ Below w.heap.size w w' := by
  obtain ⟨W2, hW2⟩ : ∃ W2, W2 = w.alloc (.cells #[.string a.v, .int .i64 a.s.k, .string a.s.t, .int .i64 a.s.n] 55) := ⟨_, rfl⟩
  have hB : Below w.heap.size w W2 := by rw [hW2]; go_grown
  by_cases hz : a.v.size = 0
  · have he : a.v.toList = [] := by rw [Lib.toList_data]; exact bytes_nil _ hz
    have he2 : a.v.toList.isEmpty = true := by rw [he]; rfl
    have HR := Lib.hid (show atomB a = constB a.s by unfold atomB; rw [if_pos hz])
    have HW := Lib.hid hW2
    clear hz hW2
    have hv := fun w' => rconst_any a.s w'
    have HV := Lib.hid hv
    clear hv
    go_enter Try.func73, Try.ntmps73
    go_wp2_with (go_at_call 94; rw [← HW.out]; refine (HV.out _).mono ?_; rintro e w' ⟨rfl, hb⟩)
    go_ret
    exact ⟨by rw [HR.out]; rfl, hB.trans (hb.mono hB.size)⟩
  · have he : ¬ a.v.toList = [] := by rw [Lib.toList_data, bytes_cons _ (by omega)]; simp
    have he2 : a.v.toList.isEmpty = false := by rw [Lib.toList_data, bytes_cons _ (by omega)]; rfl
    have HR := Lib.hid (show atomB a = (wordB a.v.data.toList && decide (a.s = zeroY)) by unfold atomB; rw [if_neg hz])
    have HW := Lib.hid hW2
    clear hz hW2
    have hv := fun w' => rword_all a.v w'
    have HV := Lib.hid hv
    clear hv
    cases hw : wordB a.v.data.toList with
    | false =>
      have HQ := Lib.hid (show atomB a = false by rw [HR.out, hw]; rfl)
      go_enter Try.func73, Try.ntmps73
      go_wp2_with (go_at_call 42; refine (HV.out _).mono ?_; rintro e w' ⟨rfl, rfl⟩; rw [hw])
      go_ret
      exact ⟨by rw [HQ.out]; rfl, by rw [← HW.out]; exact hB⟩
    | true =>
      have HQ := Lib.hid (show atomB a = decide (a.s = zeroY) by rw [HR.out, hw]; rfl)
      have hq : ∀ w, (binOp .eql 47 (.agg #[.int .i64 a.s.k, .string a.s.t, .int .i64 a.s.n]) (.agg #[.int .i64 0, .string ⟨#[]⟩, .int .i64 0])).run Try.prog w = .ok (.bool (decide (a.s = zeroY))) w := eqY_run a.s zeroY
      generalize decide (a.s = zeroY) = q at HQ hq
      go_enter Try.func73, Try.ntmps73
      go_wp2_with (go_at_call 42; refine (HV.out _).mono ?_; rintro e w' ⟨rfl, rfl⟩; rw [hw])
      go_ret
      exact ⟨by rw [HQ.out]; rfl, by rw [← HW.out]; exact hB⟩
end Go.Proofs.Ytccphigpobnjmaa
