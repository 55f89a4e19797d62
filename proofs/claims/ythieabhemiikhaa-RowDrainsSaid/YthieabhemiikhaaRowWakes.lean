/-
  The walks of the law's own example, of Within, of made. No condition but bounds on numbers.
-/
import Derived.Test.YthieabhemiikhaaQueI
namespace Go.Proofs.Ythieabhemiikhaa
set_option linter.unusedVariables false
open Go.RowKit
theorem emod_of_tmod (v n : Int) (hn : 0 < n) : v % n = if v.tmod n < 0 then v.tmod n + n else v.tmod n := by
  have h1 := Int.tmod_eq_emod (a := v) (b := n)
  have h2 := Int.emod_nonneg v (show n ≠ 0 by omega)
  have h3 := Int.emod_lt_of_pos v hn
  split at h1 <;> split <;> omega
theorem within_all (w : World) (v : Int) (n : Nat) (hv : -9223372036854775808 ≤ v) (hv2 : v ≤ 9223372036854775807) (h0 : 0 < n) (hn : n ≤ 1000000) :
    Calls Try.prog 11 #[.int .i64 v, .int .i64 n] w fun e w' => e = .returned (.int .i64 (v % n)) ∧ w = w' := by
  have hd : decide ((n : Int) < 1) = false := decide_eq_false (by omega)
  have hz : ((n : Int) == 0) = false := by simp; omega
  have he := emod_of_tmod v n (by omega)
  have h2 := Int.emod_nonneg v (show (n : Int) ≠ 0 by omega)
  have h3 := Int.emod_lt_of_pos v (show 0 < (n : Int) by omega)
  by_cases ht : v.tmod n < 0
  · rw [if_pos ht] at he
    have h4 : -(n : Int) ≤ v.tmod n := by omega
    have hd2 : decide (v.tmod n < 0) = true := decide_eq_true ht
    have he := Lib.hid he
    rename_i he0
    clear he0 h2 h3
    go_enter Try.func11, Try.ntmps11
    go_wp2_with fail
    go_ret
    exact ⟨ret_int he.out.symm, rfl⟩
  · rw [if_neg ht] at he
    have h4 : (n : Int) ≥ v.tmod n := by omega
    have hd2 : decide (v.tmod n < 0) = false := decide_eq_false ht
    have he := Lib.hid he
    rename_i he0
    clear he0 h2 h3
    go_enter Try.func11, Try.ntmps11
    go_wp2_with fail
    go_ret
    exact ⟨ret_int he.out.symm, rfl⟩
set_option maxHeartbeats 2000000 in
theorem wakes_any (w : World) : Calls Try.prog 10 #[] w fun e w' => e = .returned (.bool true) ∧ Below w.heap.size w w' := by
  obtain ⟨W1, hW1⟩ : ∃ W1, W1 = w.alloc (.cells #[.slice none 0 0, .int .i64 (2 : Nat)] 60) := ⟨_, rfl⟩
  obtain ⟨q, hq⟩ : ∃ q, q = w.heap.size := ⟨_, rfl⟩
  have h1 : QI W1 q (.slice none 0 0) 2 [] := ⟨by rw [hW1]; exact new_at hq, OffRow.nil _ _⟩
  have b1 : Below w.heap.size w W1 := by rw [hW1]; exact (Below.refl _ _).alloc (Nat.le_refl _) _
  obtain ⟨W2, hW2⟩ : ∃ W2, W2 = W1.alloc (.cells #[.int .i64 1, .int .i64 2, .int .i64 3] 3) := ⟨_, rfl⟩
  obtain ⟨B2, hB2⟩ : ∃ B2, B2 = W1.heap.size := ⟨_, rfl⟩
  have b2 : Below W1.heap.size W1 W2 := by rw [hW2]; exact (Below.refl _ _).alloc (Nat.le_refl _) _
  have h2 : QI W2 q (.slice none 0 0) 2 [] := h1.mono b2
  have r2 : Reads W2 (.slice (some ⟨B2, 0, none⟩) 3 3) [.int .i64 1, .int .i64 2, .int .i64 3] := by
    refine ⟨_, 3, rfl, by simp, by simp [maxLen], .inr ⟨B2, 0, rfl, by rw [hW2, hB2]; simp, ?_⟩⟩
    intro j hj
    have : W2.heap[B2]? = some (.cells #[.int .i64 1, .int .i64 2, .int .i64 3] 3 (0, 0)) := by rw [hW2]; exact new_at hB2
    rw [cells_of this]
    have : j = 0 ∨ j = 1 ∨ j = 2 := by simp at hj; omega
    rcases this with rfl | rfl | rfl <;> rfl
  have p2 := push_noI W2 q _ 2 [] h2 _ _ r2 (by simp) (by omega)
  have n1 := new_okI w 2 (by omega) (by omega)
  rw [← hW1, ← hq] at n1
  have HW2 := Lib.hid hW2
  have HB2 := Lib.hid hB2
  have N1 := Lib.hid n1
  have P2 := Lib.hid p2
  have H2 := Lib.hid h2
  have hqW : w.heap.size ≤ q := by omega
  clear p2 r2 n1 hW1 hW2 hB2 h1 h2 hq
  go_enter Try.func10, Try.ntmps10
  go_wp2_with fail
  refine N1.out.mono ?_
  rintro e w1 ⟨rfl, rfl⟩
  go_wp2_with fail
  rw [← HW2.out, ← HB2.out]
  refine P2.out.mono ?_
  rintro e w3 ⟨rfl, n3, rfl⟩
  have b3 := b1.trans ((bdN n3 b2).mono b1.size)
  have h3 : QI (W2.drewN n3) q (.slice none 0 0) 2 [] := ⟨H2.out.1, H2.out.2.but (Touch.drewN n3 (Touch.refl (fun _ => False) W2)) (fun _ _ h => h)⟩
  clear P2 H2
  obtain ⟨W3, hW3⟩ : ∃ W3, W3 = W2.drewN n3 := ⟨_, rfl⟩
  rw [← hW3] at b3 h3 ⊢
  have H3 := Lib.hid h3
  clear h3 hW3
  go_wp2_with fail
  refine (len_anyI _ _ _ _ _ H3.out).mono ?_
  rintro e w4 ⟨rfl, rfl⟩
  obtain ⟨W4, hW4⟩ : ∃ W4, W4 = W3.alloc (.cells #[.int .i64 4] 3) := ⟨_, rfl⟩
  obtain ⟨B4, hB4⟩ : ∃ B4, B4 = W3.heap.size := ⟨_, rfl⟩
  have b4 : Below W3.heap.size W3 W4 := by rw [hW4]; exact (Below.refl _ _).alloc (Nat.le_refl _) _
  have h4 : QI W4 q (.slice none 0 0) 2 [] := H3.out.mono b4
  have r4 : Reads W4 (.slice (some ⟨B4, 0, none⟩) 1 1) [.int .i64 4] := by
    refine ⟨_, 1, rfl, by simp, by simp [maxLen], .inr ⟨B4, 0, rfl, by rw [hW4, hB4]; simp, ?_⟩⟩
    intro j hj
    have : W4.heap[B4]? = some (.cells #[.int .i64 4] 3 (0, 0)) := by rw [hW4]; exact new_at hB4
    rw [cells_of this]
    have : j = 0 := by simpa using hj
    subst this; rfl
  have p4 := push_okI W4 q _ 2 [] h4 _ _ r4 (by simp [Value.oneCell']) (by simp) (by omega)
  have HW4 := Lib.hid hW4
  have HB4 := Lib.hid hB4
  have P4 := Lib.hid p4
  have bb4 := b3.trans (b4.mono b3.size)
  clear hW4 hB4 p4 r4 h4 H3 b1 b2 b3 b4
  go_wp2_with fail
  rw [← HW4.out, ← HB4.out]
  refine P4.out.mono ?_
  unfold PushOutI
  rintro e w5 ⟨rfl, v', h5, t5, -⟩
  have b5 := bb4.trans ((t5.below (B := w.heap.size) bb4.size (fun k hk hA => by
    rcases hA with rfl | hA
    · exact hqW
    · simp [Value.ownBlock] at hA)))
  have H5 := Lib.hid h5
  clear h5 t5 bb4 P4
  go_wp2_with fail
  refine (len_anyI _ _ _ _ _ H5.out).mono ?_
  rintro e w6 ⟨rfl, rfl⟩
  go_wp2_with fail
  go_ret
  exact ⟨rfl, b5⟩
def MadeI (w : World) (ls : List Value) (e : Ending) (w' : World) : Prop :=
  ∃ q v, e = .returned (.pointer (some ⟨q, 0, none⟩)) ∧ w.heap.size ≤ q ∧ QI w' q v 1000 ls ∧ Below w.heap.size w w' ∧ ∀ g, v.ownBlock = some g → w.heap.size ≤ g
theorem made_any (w : World) (lv : Value) (ls : List Value) (hl : Reads w lv ls) (h1 : ∀ u ∈ ls, u.oneCell' = true) (hn : ls.length ≤ 1000) :
    Calls Try.prog 19 #[lv] w (MadeI w ls) := by
  obtain ⟨W1, hW1⟩ : ∃ W1, W1 = w.alloc (.cells #[.slice none 0 0, .int .i64 (1000 : Nat)] 60) := ⟨_, rfl⟩
  obtain ⟨q, hq⟩ : ∃ q, q = w.heap.size := ⟨_, rfl⟩
  have q1 : QI W1 q (.slice none 0 0) 1000 [] := ⟨by rw [hW1]; exact new_at hq, OffRow.nil _ _⟩
  have b1 : Below w.heap.size w W1 := by rw [hW1]; exact (Below.refl _ _).alloc (Nat.le_refl _) _
  have p1 := push_okI W1 q _ 1000 [] q1 _ _ (hl.mono b1) h1 (by simpa using hn) (by omega)
  have n1 := new_okI w 1000 (by omega) (by omega)
  rw [← hW1, ← hq] at n1
  have hqW : w.heap.size ≤ q := by omega
  have hfin : ∀ e w', PushOutI W1 q (.slice none 0 0) 1000 [] ls e w' → e = .returned (.bool true) ∧ MadeI w ls (.returned (.pointer (some ⟨q, 0, none⟩))) w' := by
    rintro e w' ⟨he, v', h5, t5, k5⟩
    refine ⟨he, q, v', rfl, hqW, by simpa using h5, b1.trans (t5.below b1.size (fun k hk hA => ?_)), fun g hg => ?_⟩
    · rcases hA with rfl | hA
      · exact hqW
      · simp [Value.ownBlock] at hA
    · rcases k5 with k5 | k5 | ⟨g', k5, k6⟩
      · rw [k5] at hg; simp [Value.ownBlock] at hg
      · rw [k5] at hg; cases hg
      · rw [k5] at hg; cases hg; exact Nat.le_trans b1.size k6
  obtain ⟨al, cl, hlv, -⟩ := id hl
  have HF := Lib.hid hfin
  have P1 := Lib.hid (p1.mono hfin)
  have N1 := Lib.hid n1
  clear hfin p1 n1 hW1 hq q1 b1 hl h1 HF
  subst hlv
  go_enter Try.func19, Try.ntmps19
  go_wp2_with fail
  refine N1.out.mono ?_
  rintro e w1 ⟨rfl, rfl⟩
  go_wp2_with fail
  refine P1.out.mono ?_
  rintro e w3 ⟨rfl, h⟩
  have H := Lib.hid h
  clear h
  go_wp2_with fail
  go_ret
  exact H.out
end Go.Proofs.Ythieabhemiikhaa
