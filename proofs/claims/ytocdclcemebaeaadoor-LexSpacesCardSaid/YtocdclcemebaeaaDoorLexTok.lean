/-
  Walks over package lex: fits, token. What the listed variables give is a premise.
-/
import Derived.Test.YtocdclcemebaeaaDoorLexCut
import Derived.Deep.RegionHeld3
namespace Go.Proofs.YtocdclcemebaeaaDoor
set_option linter.unusedVariables false
open Go.RowKit
theorem str_slice (p : ByteArray) (l m : Nat) (h1 : l ≤ m) (h2 : m ≤ p.size) (w : World) : (Instr.slice 9 (.string p) (some (.int .i64 l)) (some (.int .i64 m)) none).run Tryd.prog w = .ok (.string (p.extract l m)) w := by
  have e2 : (m : Int) ≤ p.size := by omega
  unfold Instr.slice
  simp [go_sem, e2]
  intro h; omega
theorem meant_size2 (t : ByteArray) (h : t.size ≤ 1000000) : (symOf (meantL t.data.toList)).t.size ≤ 1000000 := by
  have hl : t.data.toList.length = t.size := by simp
  show (meantL t.data.toList).2.1.length ≤ 1000000
  cases hd : t.data.toList with
  | nil => show (0 : Nat) ≤ 1000000; omega
  | cons c r =>
    rw [meantL_cons]
    rw [hd] at hl
    split
    · show (1 : Nat) ≤ 1000000; omega
    · split
      · rw [hl]; exact h
      · show (0 : Nat) ≤ 1000000; omega
theorem fits_parse (nm : ByteArray) (w : World) (ht : nm.size ≤ 1000000) (hL : LexAt w) : ∃ z : Sy, ∀ w', Below w.heap.size w w' → Calls Tryd.prog 47 #[.string nm] w' fun e w2 => e = .returned (.tuple #[.agg #[.int .i64 z.k, .string z.t, .int .i64 z.n], .bool (parseL nm.data.toList).2]) ∧ Below w'.heap.size w' w2 :=
  ⟨symOf (parseL nm.data.toList).1, fun w' hq => parse_any nm w' ht (fun _ => (hL.atoi _ (by simp; omega)).mono hq) (fun _ => (hL.atoi nm ht).mono hq)
      (fun h h3 => (hL.itoa _ (by have := valid_num h h3; omega) (by have := valid_num h h3; omega)).mono hq) (meant_size2 nm ht) _ _ rfl⟩
set_option maxHeartbeats 1000000 in
theorem fits_any (k : Int) (nm : ByteArray) (w : World) (ht : nm.size ≤ 1000000) (hL : LexAt w) (b : Bool) (hb : b = fitsL k nm.data.toList) : Calls Tryd.prog 38 #[.int .i64 k, .string nm] w fun e w' => e = .returned (.bool b) ∧ Below w.heap.size w w' := by
  have hw := fun w' => word_any nm w' ht
  obtain ⟨z, hp⟩ := fits_parse nm w ht hL
  have hp := hp w (Below.refl _ _)
  have Hw := Lib.hid hw
  have Hp := Lib.hid hp
  clear hw hp hL
  by_cases k1 : k = 1
  · have b1 : (k == 1) = true := by simp [k1]
    have HQ : Hid (b = wordB nm.data.toList) := Lib.hid (by rw [hb]; unfold fitsL; rw [if_pos (.inl k1)])
    clear k1 hb
    go_enter Tryd.func38, Tryd.ntmps38
    go_wp2_with (go_at_call 46; refine (Hw.out _).mono ?_; rintro e w' ⟨rfl, hb2⟩)
    all_goals
      go_ret
      exact ⟨by rw [HQ.out]; rfl, hb2⟩
  · have b1 : (k == 1) = false := by simp [k1]
    by_cases k3 : k = 3
    · have b3 : (k == 3) = true := by simp [k3]
      have HQ : Hid (b = wordB nm.data.toList) := Lib.hid (by rw [hb]; unfold fitsL; rw [if_pos (.inr k3)])
      clear k1 k3 hb
      go_enter Tryd.func38, Tryd.ntmps38
      go_wp2_with (go_at_call 46; refine (Hw.out _).mono ?_; rintro e w' ⟨rfl, hb2⟩)
      all_goals
        go_ret
        exact ⟨by rw [HQ.out]; rfl, hb2⟩
    · have b3 : (k == 3) = false := by simp [k3]
      by_cases k2 : k = 2
      · have b2 : (k == 2) = true := by simp [k2]
        have HQ : Hid (b = (parseL nm.data.toList).2) := Lib.hid (by rw [hb]; unfold fitsL; rw [if_neg (by omega), if_pos k2])
        clear k1 k3 k2 hb
        go_enter Tryd.func38, Tryd.ntmps38
        go_wp2_with (go_at_call 47; refine Hp.out.mono ?_; rintro e w' ⟨rfl, hb2⟩; have HB := Lib.hid hb2; clear hb2)
        all_goals
          go_ret
          exact ⟨by rw [HQ.out]; rfl, by have h1 := HB.out; have h2 := h1.size; go_grown⟩
      · have b2 : (k == 2) = false := by simp [k2]
        have HQ : Hid (b = true) := Lib.hid (by rw [hb]; unfold fitsL; rw [if_neg (by omega), if_neg k2])
        clear k1 k3 k2 hb
        go_enter Tryd.func38, Tryd.ntmps38
        go_wp2_with fail
        all_goals
          go_ret
          exact ⟨by rw [HQ.out]; rfl, Below.refl _ _⟩
set_option maxRecDepth 100000 in
set_option maxHeartbeats 2000000 in
theorem token_any (k : Int) (p : ByteArray) (n : Nat) (w : World) (ht : p.size ≤ 1000000) (h3 : k = 3 → 2 ≤ p.size) (hL : LexAt w) (z : Sy) (hz : z = holdL k p.data.toList n) :
    Calls Tryd.prog 24 #[.int .i64 k, .string p, .int .i64 n] w fun e w' => e = .returned (.agg #[.int .i64 z.k, .string z.t, .int .i64 z.n]) ∧ Below w.heap.size w w' := by
  obtain ⟨W1, hW1⟩ : ∃ W1, W1 = w.alloc (.cells #[.int .i64 0, .string ⟨#[]⟩, .int .i64 0] 30) := ⟨_, rfl⟩
  have hB : Below w.heap.size w W1 := by rw [hW1]; go_grown
  have hx : W1.heap[w.heap.size]? = some (.cells #[.int .i64 0, .string ⟨#[]⟩, .int .i64 0] 30 (0, 0)) := by rw [hW1]; exact new_at rfl
  have hk : ∀ w', Below W1.heap.size W1 w' → (w'.cell? ⟨w.heap.size, 0, none⟩ = some (.int .i64 0) ∧ w'.cell? ⟨w.heap.size, 1, none⟩ = some (.string ⟨#[]⟩) ∧ w'.cell? ⟨w.heap.size, 2, none⟩ = some (.int .i64 0)
      ∧ w'.frozen? ⟨w.heap.size, 0, none⟩ = false ∧ w'.frozen? ⟨w.heap.size, 1, none⟩ = false ∧ w'.frozen? ⟨w.heap.size, 2, none⟩ = false) ∧ Hid (w'.heap[w.heap.size]? = some (.cells #[.int .i64 0, .string ⟨#[]⟩, .int .i64 0] 30 (0, 0))) := by
    intro w' h
    have h2 := (h.block _ (heap_lt hx)).trans hx
    exact ⟨⟨by rw [cells_of h2]; rfl, by rw [cells_of h2]; rfl, by rw [cells_of h2]; rfl, frozen_of h2, frozen_of h2, frozen_of h2⟩, h2⟩
  obtain ⟨nm, hnm⟩ : ∃ nm, nm = if k = 3 then p.extract 1 (p.size - 1) else p := ⟨_, rfl⟩
  have hnl : nm.data.toList = nameL k p.data.toList := by
    unfold nameL
    rw [hnm]
    split
    · rw [Lib.extract_data]
      congr 1
    · rfl
  have hns : nm.size ≤ 1000000 := by
    rw [hnm]; split
    · simp; omega
    · exact ht
  obtain ⟨b, hb⟩ : ∃ b, b = fitsL k nm.data.toList := ⟨_, rfl⟩
  have hz' : z = if b then ⟨k, nm, n⟩ else ⟨6, p, n⟩ := by
    rw [hz, hb, hnl]
    unfold holdL
    rw [← hnl, str_self, str_self]
  have hf := fits_any k nm W1 hns (hL.mono hB) b hb
  have HZ := Lib.hid hz'
  have HB := Lib.hid hB
  have HW := Lib.hid hW1
  have HF := Lib.hid hf
  have HK := Lib.hid hk
  clear hz' hz hB hW1 hf hk hb hnl hns hx hL
  have fin : ∀ (w2 : World) (a b c : Value), Below W1.heap.size W1 w2 → Below w.heap.size w (((w2.setCell ⟨w.heap.size, 0, none⟩ a).setCell ⟨w.heap.size, 1, none⟩ b).setCell ⟨w.heap.size, 2, none⟩ c) := fun w2 a b c h =>
    (((HB.out.trans (h.mono HB.out.size)).setCell (Nat.le_refl _) _).setCell (Nat.le_refl _) _).setCell (Nat.le_refl _) _
  have Fin := Lib.hid fin
  clear fin
  by_cases k3 : k = 3
  · have h3 := h3 k3
    have b3 : (k == 3) = true := by simp [k3]
    rw [if_pos k3] at hnm
    have hsub : ((p.size : Int) - 1) = ((p.size - 1 : Nat) : Int) := by omega
    have hsl : ∀ w', (Instr.slice 9 (.string p) (some (.int .i64 1)) (some (.int .i64 ((p.size - 1 : Nat) : Int))) none).run Tryd.prog w' = .ok (.string nm) w' := fun w' => by rw [hnm]; exact str_slice p 1 (p.size - 1) (by omega) (by omega) w'
    clear hnm k3 h3
    cases b with
    | true =>
      have HQ : Hid (z = ⟨k, nm, n⟩) := Lib.hid HZ.out
      go_enter Tryd.func24, Tryd.ntmps24
      go_wp2_with (go_at_call 38;  rw [← HW.out]; refine HF.out.mono ?_; rintro e w2 ⟨rfl, hb2⟩; have HB2 := Lib.hid hb2; obtain ⟨⟨c0, c1, c2, f0, f1, f2⟩, H2⟩ := HK.out _ hb2; clear hb2)
      obtain ⟨s0, s1, s2⟩ := set3 (a := .int .i64 k) (b := .string nm) (c := .int .i64 n) H2.out
      refine bodyPost_ret (by simp [results, Tryd.results24, go_sem, s0, s1, s2]; rfl) rfl ?_
      exact ⟨by rw [HQ.out], Fin.out _ _ _ _ HB2.out⟩
    | false =>
      have HQ : Hid (z = ⟨6, p, n⟩) := Lib.hid HZ.out
      go_enter Tryd.func24, Tryd.ntmps24
      go_wp2_with (go_at_call 38;  rw [← HW.out]; refine HF.out.mono ?_; rintro e w2 ⟨rfl, hb2⟩; have HB2 := Lib.hid hb2; obtain ⟨⟨c0, c1, c2, f0, f1, f2⟩, H2⟩ := HK.out _ hb2; clear hb2)
      obtain ⟨s0, s1, s2⟩ := set3 (a := .int .i64 6) (b := .string p) (c := .int .i64 n) H2.out
      refine bodyPost_ret (by simp [results, Tryd.results24, go_sem, s0, s1, s2]; rfl) rfl ?_
      exact ⟨by rw [HQ.out], Fin.out _ _ _ _ HB2.out⟩
  · have b3 : (k == 3) = false := by simp [k3]
    rw [if_neg k3] at hnm
    subst hnm
    clear k3
    cases b with
    | true =>
      have HQ : Hid (z = ⟨k, nm, n⟩) := Lib.hid HZ.out
      go_enter Tryd.func24, Tryd.ntmps24
      go_wp2_with (go_at_call 38;  rw [← HW.out]; refine HF.out.mono ?_; rintro e w2 ⟨rfl, hb2⟩; have HB2 := Lib.hid hb2; obtain ⟨⟨c0, c1, c2, f0, f1, f2⟩, H2⟩ := HK.out _ hb2; clear hb2)
      obtain ⟨s0, s1, s2⟩ := set3 (a := .int .i64 k) (b := .string nm) (c := .int .i64 n) H2.out
      refine bodyPost_ret (by simp [results, Tryd.results24, go_sem, s0, s1, s2]; rfl) rfl ?_
      exact ⟨by rw [HQ.out], Fin.out _ _ _ _ HB2.out⟩
    | false =>
      have HQ : Hid (z = ⟨6, nm, n⟩) := Lib.hid HZ.out
      go_enter Tryd.func24, Tryd.ntmps24
      go_wp2_with (go_at_call 38;  rw [← HW.out]; refine HF.out.mono ?_; rintro e w2 ⟨rfl, hb2⟩; have HB2 := Lib.hid hb2; obtain ⟨⟨c0, c1, c2, f0, f1, f2⟩, H2⟩ := HK.out _ hb2; clear hb2)
      obtain ⟨s0, s1, s2⟩ := set3 (a := .int .i64 6) (b := .string nm) (c := .int .i64 n) H2.out
      refine bodyPost_ret (by simp [results, Tryd.results24, go_sem, s0, s1, s2]; rfl) rfl ?_
      exact ⟨by rw [HQ.out], Fin.out _ _ _ _ HB2.out⟩
end Go.Proofs.YtocdclcemebaeaaDoor
