/-
  Leaves of package shape: words and symbols of any size, constants, atoms. No condition.
-/
import Derived.Test.YtccphigpobnjmaaSymV
namespace Go.Proofs.Ytccphigpobnjmaa
set_option linter.unusedVariables false
open Go.RowKit
theorem sy_iff {x y : Sy} : x = y ↔ x.k = y.k ∧ x.t.toList = y.t.toList ∧ x.n = y.n := by
  constructor
  · rintro rfl; exact ⟨rfl, rfl, rfl⟩
  · rintro ⟨h1, h2, h3⟩
    cases x; cases y
    simp only [Lib.toList_data] at h2
    simp only at h1 h3
    subst h1; subst h3
    rw [ByteArray.ext (Array.toList_inj.mp h2)]
theorem eqY_run (x y : Sy) (w : World) : (binOp .eql 47 (.agg #[.int .i64 x.k, .string x.t, .int .i64 x.n]) (.agg #[.int .i64 y.k, .string y.t, .int .i64 y.n])).run Try.prog w = .ok (.bool (decide (x = y))) w := by
  simp only [sy_iff]
  simp [go_sem]
  split <;> (try split) <;> (try split) <;> simp_all
theorem neY_run (x y : Sy) (w : World) : (binOp .neq 47 (.agg #[.int .i64 x.k, .string x.t, .int .i64 x.n]) (.agg #[.int .i64 y.k, .string y.t, .int .i64 y.n])).run Try.prog w = .ok (.bool (!decide (x = y))) w := by
  simp only [sy_iff]
  simp [go_sem]
  split <;> (try split) <;> (try split) <;> simp_all
theorem eqY_yes {x y : Sy} (h : x = y) (w : World) : (binOp .eql 47 (.agg #[.int .i64 x.k, .string x.t, .int .i64 x.n]) (.agg #[.int .i64 y.k, .string y.t, .int .i64 y.n])).run Try.prog w = .ok (.bool true) w := by rw [eqY_run]; simp [h]
theorem eqY_no {x y : Sy} (h : x ≠ y) (w : World) : (binOp .eql 47 (.agg #[.int .i64 x.k, .string x.t, .int .i64 x.n]) (.agg #[.int .i64 y.k, .string y.t, .int .i64 y.n])).run Try.prog w = .ok (.bool false) w := by rw [eqY_run]; simp [h]
theorem neY_yes {x y : Sy} (h : x ≠ y) (w : World) : (binOp .neq 47 (.agg #[.int .i64 x.k, .string x.t, .int .i64 x.n]) (.agg #[.int .i64 y.k, .string y.t, .int .i64 y.n])).run Try.prog w = .ok (.bool true) w := by rw [neY_run]; simp [h]
theorem neY_no {x y : Sy} (h : x = y) (w : World) : (binOp .neq 47 (.agg #[.int .i64 x.k, .string x.t, .int .i64 x.n]) (.agg #[.int .i64 y.k, .string y.t, .int .i64 y.n])).run Try.prog w = .ok (.bool false) w := by rw [neY_run]; simp [h]

theorem word_long (t : ByteArray) (w : World) (h : 32 < t.size) : Calls Try.prog 62 #[.string t] w fun e w' => e = .returned (.bool false) ∧ Below w.heap.size w w' := by
  have hl := bytes_cons t (by omega)
  have hne : ¬ t.toList = [] := by rw [Lib.toList_data, hl]; simp
  have he2 : t.toList.isEmpty = false := by rw [Lib.toList_data, hl]; rfl
  clear hl
  go_enter Try.func62, Try.ntmps62
  go_wp2_with fail
  go_ret
  exact ⟨rfl, Below.refl _ _⟩
theorem wordB_long (t : ByteArray) (h : 32 < t.size) : wordB t.data.toList = false := by
  have hlen : (t.data.toList.drop 1).length + 1 = t.size := by simp; omega
  rw [bytes_cons t (by omega), wordB_cons, hlen]
  simp; omega
theorem valid_long (s : Sy) (h : 32 < s.t.size) : validY s = false := by
  unfold validY validL
  have h0 : ¬ s.t.size = 0 := by omega
  rw [caps_not _ (by omega), empty_size, wordB_long _ h]
  simp [h0]
theorem valid_size {s : Sy} (h : validY s = true) : s.t.size ≤ 32 := by
  apply Decidable.byContradiction
  intro hn
  rw [valid_long s (by omega)] at h
  cases h
set_option maxHeartbeats 1000000 in
theorem valid_all (s : Sy) (w : World) : Calls Try.prog 103 #[.agg #[.int .i64 s.k, .string s.t, .int .i64 s.n]] w fun e w' => e = .returned (.bool (validY s)) ∧ Below w.heap.size w w' := by
  by_cases hs : s.t.size ≤ 1000000
  · exact valid_any s w hs
  · have hB : Below w.heap.size w (w.alloc (.cells #[.int .i64 s.k, .string s.t, .int .i64 s.n] 47)) := by go_grown
    rw [valid_long s (by omega)]
    have e1 : ((s.t.size : Int) == 1) = false := by simp; omega
    have he : ¬ s.t.toList = [] := by rw [Lib.toList_data, bytes_cons _ (by omega)]; simp
    have he2 : s.t.toList.isEmpty = false := by rw [Lib.toList_data, bytes_cons _ (by omega)]; rfl
    have hw := fun w' => word_long s.t w' (by omega)
    have Hw := Lib.hid hw
    clear hw hs
    by_cases k1 : s.k = 1
    · have b1 : (s.k == 1) = true := by simp [k1]
      clear k1
      go_enter Try.func103, Try.ntmps103
      go_wp2_with fail
      all_goals
        go_ret
        exact ⟨rfl, hB⟩
    · have b1 : (s.k == 1) = false := by simp [k1]
      by_cases k2 : s.k = 2
      · have b2 : (s.k == 2) = true := by simp [k2]
        clear k1 k2
        go_enter Try.func103, Try.ntmps103
        go_wp2_with fail
        all_goals
          go_ret
          exact ⟨rfl, hB⟩
      · have b2 : (s.k == 2) = false := by simp [k2]
        by_cases k3 : s.k = 3
        · have b3 : (s.k == 3) = true := by simp [k3]
          clear k1 k2 k3
          by_cases hn : s.n = 0
          · have bn : (s.n == 0) = true := by simp [hn]
            clear hn
            go_enter Try.func103, Try.ntmps103
            go_wp2_with (go_at_call 62; refine (Hw.out _).mono ?_; rintro e w' ⟨rfl, hb⟩)
            all_goals
              go_ret
              exact ⟨rfl, hB.trans (hb.mono hB.size)⟩
          · have bn : (s.n == 0) = false := by simp [hn]
            clear hn
            go_enter Try.func103, Try.ntmps103
            go_wp2_with fail
            all_goals
              go_ret
              exact ⟨rfl, hB⟩
        · have b3 : (s.k == 3) = false := by simp [k3]
          clear k1 k2 k3
          go_enter Try.func103, Try.ntmps103
          go_wp2_with fail
          all_goals
            go_ret
            exact ⟨rfl, hB⟩
theorem word_all (s : ByteArray) (w : World) : Calls Try.prog 62 #[.string s] w fun e w' => e = .returned (.bool (wordB s.data.toList)) ∧ Below w.heap.size w w' := by
  by_cases h : s.size ≤ 1000000
  · exact word_any s w h
  · have := word_long s w (by omega)
    rw [wordB_long s (by omega)]
    exact this
def constB (s : Sy) : Bool := !(s.k == 1) && validY s
theorem constF_any (s : Sy) (w : World) : Calls Try.prog 91 #[.agg #[.int .i64 s.k, .string s.t, .int .i64 s.n]] w fun e w' => e = .returned (.bool (!constB s)) ∧ Below w.heap.size w w' := by
  have hB : Below w.heap.size w (w.alloc (.cells #[.int .i64 s.k, .string s.t, .int .i64 s.n] 47)) := by go_grown
  by_cases k1 : s.k = 1
  · have b1 : (s.k == 1) = true := by simp [k1]
    have hr : constB s = false := by simp [constB, k1]
    have HR := Lib.hid hr
    clear hr k1
    go_enter Try.func91, Try.ntmps91
    go_wp2_with fail
    go_ret
    exact ⟨by rw [HR.out]; rfl, hB⟩
  · have b1 : (s.k == 1) = false := by simp [k1]
    have hr : constB s = validY s := by simp [constB, k1]
    have HR := Lib.hid hr
    clear hr k1
    have hv := fun w' => valid_all s w'
    have HV := Lib.hid hv
    clear hv
    go_enter Try.func91, Try.ntmps91
    go_wp2_with (go_at_call 103; refine (HV.out _).mono ?_; rintro e w' ⟨rfl, hb⟩)
    go_ret
    exact ⟨by rw [HR.out]; rfl, hB.trans (hb.mono hB.size)⟩

structure At where
  v : ByteArray
  s : Sy
  deriving DecidableEq
def encAt (a : At) : List Value := [.string a.v, .int .i64 a.s.k, .string a.s.t, .int .i64 a.s.n]
def zeroY : Sy := ⟨0, ⟨#[]⟩, 0⟩
def atomB (a : At) : Bool := if a.v.size = 0 then constB a.s else wordB a.v.data.toList && decide (a.s = zeroY)
theorem atomF_any (a : At) (w : World) : Calls Try.prog 68 #[.agg #[.string a.v, .int .i64 a.s.k, .string a.s.t, .int .i64 a.s.n]] w fun e w' => e = .returned (.bool (atomB a)) ∧ Below w.heap.size w w' := by
  obtain ⟨W2, hW2⟩ : ∃ W2, W2 = w.alloc (.cells #[.string a.v, .int .i64 a.s.k, .string a.s.t, .int .i64 a.s.n] 55) := ⟨_, rfl⟩
  have hB : Below w.heap.size w W2 := by rw [hW2]; go_grown
  by_cases hz : a.v.size = 0
  · have he : a.v.toList = [] := by rw [Lib.toList_data]; exact bytes_nil _ hz
    have he2 : a.v.toList.isEmpty = true := by rw [he]; rfl
    have hr : atomB a = constB a.s := by unfold atomB; rw [if_pos hz]
    have HR := Lib.hid hr
    have HW := Lib.hid hW2
    clear hr hz hW2
    have hv := fun w' => constF_any a.s w'
    have HV := Lib.hid hv
    clear hv
    go_enter Try.func68, Try.ntmps68
    go_wp2_with (go_at_call 91; rw [← HW.out]; refine (HV.out _).mono ?_; rintro e w' ⟨rfl, hb⟩)
    go_ret
    exact ⟨by rw [HR.out]; simp, hB.trans (hb.mono hB.size)⟩
  · have he : ¬ a.v.toList = [] := by rw [Lib.toList_data, bytes_cons _ (by omega)]; simp
    have he2 : a.v.toList.isEmpty = false := by rw [Lib.toList_data, bytes_cons _ (by omega)]; rfl
    have hr : atomB a = (wordB a.v.data.toList && decide (a.s = zeroY)) := by unfold atomB; rw [if_neg hz]
    have HR := Lib.hid hr
    have hc : ∀ w', Below W2.heap.size W2 w' → w'.cell? ⟨w.heap.size, 1, none⟩ = some (.int .i64 a.s.k) ∧ w'.cell? ⟨w.heap.size, 2, none⟩ = some (.string a.s.t) ∧ w'.cell? ⟨w.heap.size, 3, none⟩ = some (.int .i64 a.s.n) := by
      intro w' h
      have hx := cells_of (W := W2) (b := w.heap.size) (c := #[.string a.v, .int .i64 a.s.k, .string a.s.t, .int .i64 a.s.n]) (t := 55) (f := (0, 0)) (by rw [hW2]; exact new_at rfl)
      have hlt : w.heap.size < W2.heap.size := by rw [hW2]; simp
      refine ⟨?_, ?_, ?_⟩
      · exact (h.cell (p := ⟨w.heap.size, 1, none⟩) hlt).trans (by rw [hx]; rfl)
      · exact (h.cell (p := ⟨w.heap.size, 2, none⟩) hlt).trans (by rw [hx]; rfl)
      · exact (h.cell (p := ⟨w.heap.size, 3, none⟩) hlt).trans (by rw [hx]; rfl)
    have HC := Lib.hid hc
    have HW := Lib.hid hW2
    clear hr hz hW2 hc
    have hv := fun w' => word_all a.v w'
    have HV := Lib.hid hv
    clear hv
    cases hw : wordB a.v.data.toList with
    | false =>
      have HQ := Lib.hid (show atomB a = false by rw [HR.out, hw]; rfl)
      go_enter Try.func68, Try.ntmps68
      go_wp2_with (go_at_call 62; rw [← HW.out]; refine (HV.out _).mono ?_; rintro e w' ⟨rfl, hb⟩; rw [hw])
      go_ret
      exact ⟨by rw [HQ.out]; rfl, hB.trans (hb.mono hB.size)⟩
    | true =>
      have hq := eqY_run a.s zeroY
      have HQ := Lib.hid (show atomB a = decide (a.s = zeroY) by rw [HR.out, hw]; rfl)
      have hq2 : ∀ w, (binOp .eql 47 (.agg #[.int .i64 a.s.k, .string a.s.t, .int .i64 a.s.n]) (.agg #[.int .i64 0, .string ⟨#[]⟩, .int .i64 0])).run Try.prog w = .ok (.bool (decide (a.s = zeroY))) w := hq
      clear hq
      generalize decide (a.s = zeroY) = q at HQ hq2
      go_enter Try.func68, Try.ntmps68
      go_wp2_with (go_at_call 62; rw [← HW.out]; refine (HV.out _).mono ?_; rintro e w' ⟨rfl, hb⟩; rw [hw]; obtain ⟨c1, c2, c3⟩ := HC.out _ hb)
      go_ret
      exact ⟨by rw [HQ.out]; rfl, hB.trans (hb.mono hB.size)⟩
end Go.Proofs.Ytccphigpobnjmaa
