/-
  The walk over ponderref05.one, at a sign behind '-' or '<'. No condition but a bound on sizes.
-/
import Derived.Test.YtocdclcemebaeaaDoorLexOneB
namespace Go.Proofs.YtocdclcemebaeaaDoor
set_option linter.unusedVariables false
open Go.RowKit
set_option maxRecDepth 100000 in
set_option maxHeartbeats 8000000 in
theorem rone_p2 (t : ByteArray) (w : World) (ht : t.size ≤ 1000000) (k : Nat) (hk : k < t.size) (hsm : smallB t[k] = false) (hdc : digB t[k] = false) (h45 : t[k].toNat = 45) (hend : k + 1 = t.size)
    (z : Sy) (K : Nat) (g : Nat → ByteArray) (hg : g = sgn) (hT : SignTells t k z K g) : Calls Tryd.prog 20 #[.string t, .int .i64 k] w (OneOut w z K) := by
  have hki : (k : Int) < (t.size : Int) := by omega
  have b45 : ((t[k].toNat : Int) == 45) = true := by simp; omega
  have b60 : ((t[k].toNat : Int) == 60) = false := by simp; omega
  have dk : ((k : Int) + 1 < (t.size : Int)) = False := by simp; omega
  clear h45 hend
  have HT := Lib.hid hT
  have HG := Lib.hid hg
  unfold OneOut
  clear hT hg
  go_enter Tryd.func20, Tryd.ntmps20
  go_wp2_with (first | (go_at_call 26; refine (rsmall_any _ _).mono ?_; rintro e w' ⟨rfl, rfl⟩; first | rw [hsm] | rw [hsn]) | (go_at_call 29; refine (rdig_any _ _).mono ?_; rintro e w' ⟨rfl, rfl⟩; first | rw [hdc] | rw [hdn]))
  obtain ⟨W2, hW2⟩ : ∃ W2, W2 = (w.alloc (.cells #[.int .i64 0, .string ⟨#[]⟩, .int .i64 0] 46)).alloc (.cells #[.string ⟨#[45, 45, 62]⟩, .string ⟨#[60, 61, 62]⟩, .string ⟨#[60, 60]⟩, .string ⟨#[62, 62]⟩, .string ⟨#[60, 62]⟩, .string ⟨#[60, 61]⟩, .string ⟨#[62, 61]⟩, .string ⟨#[40]⟩, .string ⟨#[41]⟩, .string ⟨#[123]⟩, .string ⟨#[125]⟩, .string ⟨#[94]⟩, .string ⟨#[43]⟩, .string ⟨#[45]⟩, .string ⟨#[33]⟩, .string ⟨#[126]⟩, .string ⟨#[60]⟩, .string ⟨#[62]⟩, .string ⟨#[61]⟩, .string ⟨#[42]⟩] 9) := ⟨_, rfl⟩
  have hB2 : Below w.heap.size w W2 := by rw [hW2]; go_grown
  have hres : W2.heap[w.heap.size]? = some (.cells #[.int .i64 0, .string ⟨#[]⟩, .int .i64 0] 46 (0, 0)) := by rw [hW2]; exact (Below.heap_alloc _ _ _ (by simp)).trans (new_at rfl)
  have hrow : ∀ j, j < 20 → (#[.string ⟨#[45, 45, 62]⟩, .string ⟨#[60, 61, 62]⟩, .string ⟨#[60, 60]⟩, .string ⟨#[62, 62]⟩, .string ⟨#[60, 62]⟩, .string ⟨#[60, 61]⟩, .string ⟨#[62, 61]⟩, .string ⟨#[40]⟩, .string ⟨#[41]⟩, .string ⟨#[123]⟩, .string ⟨#[125]⟩, .string ⟨#[94]⟩, .string ⟨#[43]⟩, .string ⟨#[45]⟩, .string ⟨#[33]⟩, .string ⟨#[126]⟩, .string ⟨#[60]⟩, .string ⟨#[62]⟩, .string ⟨#[61]⟩, .string ⟨#[42]⟩] : Array Value)[j]? = some (.string (sgn j)) := fun j hj => by
    have e : (#[.string ⟨#[45, 45, 62]⟩, .string ⟨#[60, 61, 62]⟩, .string ⟨#[60, 60]⟩, .string ⟨#[62, 62]⟩, .string ⟨#[60, 62]⟩, .string ⟨#[60, 61]⟩, .string ⟨#[62, 61]⟩, .string ⟨#[40]⟩, .string ⟨#[41]⟩, .string ⟨#[123]⟩, .string ⟨#[125]⟩, .string ⟨#[94]⟩, .string ⟨#[43]⟩, .string ⟨#[45]⟩, .string ⟨#[33]⟩, .string ⟨#[126]⟩, .string ⟨#[60]⟩, .string ⟨#[62]⟩, .string ⟨#[61]⟩, .string ⟨#[42]⟩] : Array Value) = ((List.range 20).map fun i => Value.string (sgn i)).toArray := rfl
    rw [e]; simp [hj]
  have hcs : ∀ w', Below W2.heap.size W2 w' → ∀ j, j < 20 → w'.cell? ⟨w.heap.size + 1, j, none⟩ = some (.string (g j)) := fun w' h j hj => by
    have hx : W2.heap[w.heap.size + 1]? = some (.cells #[.string ⟨#[45, 45, 62]⟩, .string ⟨#[60, 61, 62]⟩, .string ⟨#[60, 60]⟩, .string ⟨#[62, 62]⟩, .string ⟨#[60, 62]⟩, .string ⟨#[60, 61]⟩, .string ⟨#[62, 61]⟩, .string ⟨#[40]⟩, .string ⟨#[41]⟩, .string ⟨#[123]⟩, .string ⟨#[125]⟩, .string ⟨#[94]⟩, .string ⟨#[43]⟩, .string ⟨#[45]⟩, .string ⟨#[33]⟩, .string ⟨#[126]⟩, .string ⟨#[60]⟩, .string ⟨#[62]⟩, .string ⟨#[61]⟩, .string ⟨#[42]⟩] 9 (0, 0)) := by rw [hW2]; exact new_at (by simp)
    rw [cells_of ((h.block _ (heap_lt hx)).trans hx), hrow j hj, HG.out]
  have hcells : ∀ w', Below W2.heap.size W2 w' → (w'.cell? ⟨w.heap.size, 0, none⟩ = some (.int .i64 0) ∧ w'.cell? ⟨w.heap.size, 1, none⟩ = some (.string ⟨#[]⟩) ∧ w'.cell? ⟨w.heap.size, 2, none⟩ = some (.int .i64 0)
      ∧ w'.frozen? ⟨w.heap.size, 0, none⟩ = false ∧ w'.frozen? ⟨w.heap.size, 1, none⟩ = false ∧ w'.frozen? ⟨w.heap.size, 2, none⟩ = false) ∧ Hid (w'.heap[w.heap.size]? = some (.cells #[.int .i64 0, .string ⟨#[]⟩, .int .i64 0] 46 (0, 0))) := by
    intro w' h
    have h2 := (h.block _ (heap_lt hres)).trans hres
    exact ⟨⟨by rw [cells_of h2]; rfl, by rw [cells_of h2]; rfl, by rw [cells_of h2]; rfl, frozen_of h2, frozen_of h2, frozen_of h2⟩, h2⟩
  have fin : ∀ (w2 : World) (a b c : Value), Below W2.heap.size W2 w2 → Below w.heap.size w (((w2.setCell ⟨w.heap.size, 0, none⟩ a).setCell ⟨w.heap.size, 1, none⟩ b).setCell ⟨w.heap.size, 2, none⟩ c) := fun w2 a b c h =>
    (((hB2.trans (h.mono hB2.size)).setCell (Nat.le_refl _) _).setCell (Nat.le_refl _) _).setCell (Nat.le_refl _) _
  have HCS := Lib.hid hcs
  have HC := Lib.hid hcells
  have HF := Lib.hid fin
  have HW2 := Lib.hid hW2
  clear hcs hcells fin hB2 hres hrow hW2
  rw [← HW2.out]
  go_loopw [13] (fun i wr => ∃ j : Nat, j ≤ 20 ∧ i = .int .i64 j ∧ Hid (∀ i, i < j → Lib.hasPrefix (t.data.toList.drop k) (g i).data.toList = false) ∧ Hid (Below W2.heap.size W2 wr)) (fun i _ => 20 - (intOf i).toNat)
  case atStart => exact ⟨0, Nat.zero_le _, rfl, Lib.hid (fun i hi => absurd hi (by omega)), Lib.hid (Below.refl _ _)⟩
  case round =>
    obtain ⟨j, hj, rfl, hno, hBr⟩ := hrel
    by_cases hjl : j < 20
    · have hji : (j : Int) < 20 := by omega
      have cj := HCS.out wr hBr.out j hjl
      cases hpx : Lib.hasPrefix (t.data.toList.drop k) (g j).data.toList with
      | true =>
        obtain ⟨hz, hK, hle, hex⟩ := HT.out.1 j hjl hno.out hpx
        have hq3 : (g j).size ≤ 3 := by rw [HG.out]; exact sgn_size j hjl
        have HCJ := Lib.hid (fun w' (h : Below W2.heap.size W2 w') => HCS.out w' h j hjl)
        generalize g j = q at cj hz hK hle hex hq3 HCJ
        have hsl : ∀ w', (Instr.slice 9 (.string t) (some (.int .i64 (k : Int))) (some (.int .i64 ((k : Int) + (q.size : Int)))) none).run Tryd.prog w' = .ok (.string q) w' := fun w' => by
          have h := str_slice t k (k + q.size) (by omega) hle w'
          rw [hex, Int.natCast_add] at h; exact h
        have d1 : decide ((q.size : Int) ≤ (t.size : Int) - (k : Int)) = true := by simp; omega
        have hw1 : IntKind.i64.wrap ((k : Int) + (q.size : Int)) = (k : Int) + (q.size : Int) := by rw [IntKind.wrap_i64]; omega
        subst hz; subst hK
        clear hex hpx
        go_wp2_with fail
        go_quiet (fail)
        obtain ⟨wz, hWz⟩ : ∃ wz, wz = wr.drewN nq := ⟨_, rfl⟩
        rw [← hWz]
        have hbz : Below W2.heap.size W2 wz := by rw [hWz]; exact bdN _ hBr.out
        obtain ⟨⟨c0, c1, c2, f0, f1, f2⟩, H2⟩ := HC.out wz hbz
        have cz := HCJ.out wz hbz
        have HBz := Lib.hid hbz
        clear hWz hbz cj
        go_wp2_with fail
        obtain ⟨s0, s1, s2⟩ := set3 (a := .int .i64 4) (b := .string q) (c := .int .i64 k) H2.out
        refine bodyPost_ret (by simp [results, Tryd.results20, go_sem, s0, s1, s2]; rfl) rfl ?_
        exact ⟨rfl, HF.out _ _ _ _ HBz.out⟩
      | false =>
        obtain ⟨hq3, hne⟩ := HT.out.2.1 j hjl hpx
        have HN : Hid (∀ i, i < j + 1 → Lib.hasPrefix (t.data.toList.drop k) (g i).data.toList = false) := Lib.hid (fun i hi => by
          rcases Nat.lt_or_ge i j with h | h
          · exact hno.out i h
          · obtain rfl : i = j := by omega
            exact hpx)
        generalize g j = q at cj hq3 hne
        clear hpx
        by_cases hle : k + q.size ≤ t.size
        · have hne := str_ne (hne hle)
          obtain ⟨P, hP⟩ : ∃ P, P = t.extract k (k + q.size) := ⟨_, rfl⟩
          have hsl : ∀ w', (Instr.slice 9 (.string t) (some (.int .i64 (k : Int))) (some (.int .i64 ((k : Int) + (q.size : Int)))) none).run Tryd.prog w' = .ok (.string P) w' := fun w' => by
            have h := str_slice t k (k + q.size) (by omega) hle w'
            rw [← hP, Int.natCast_add] at h; exact h
          rw [← hP] at hne
          have d1 : decide ((q.size : Int) ≤ (t.size : Int) - (k : Int)) = true := by simp; omega
          have hw1 : IntKind.i64.wrap ((k : Int) + (q.size : Int)) = (k : Int) + (q.size : Int) := by rw [IntKind.wrap_i64]; omega
          clear hP
          go_wp2_with fail
          go_quiet (fail)
          go_wp2_with fail
          go_roundw
          case rel => exact ⟨j + 1, by omega, by go_num, HN, Lib.hid (bdN _ hBr.out)⟩
          case measure => simp [intOf]; omega
        · have d1 : decide ((q.size : Int) ≤ (t.size : Int) - (k : Int)) = false := by simp; omega
          clear hne
          go_wp2_with fail
          go_quiet (fail)
          go_wp2_with fail
          go_roundw
          case rel => exact ⟨j + 1, by omega, by go_num, HN, Lib.hid (bdN _ hBr.out)⟩
          case measure => simp [intOf]; omega
    · obtain rfl : j = 20 := by omega
      obtain ⟨hz, hK⟩ := HT.out.2.2 hno.out
      obtain ⟨P, hP⟩ : ∃ P, P = t.extract k (k + 1) := ⟨_, rfl⟩
      rw [← hP] at hz
      have hsl : ∀ w', (Instr.slice 9 (.string t) (some (.int .i64 (k : Int))) (some (.int .i64 ((k : Int) + 1))) none).run Tryd.prog w' = .ok (.string P) w' := fun w' => by
        have h := str_slice t k (k + 1) (by omega) (by omega) w'
        rw [← hP, Int.natCast_add] at h; exact h
      subst hz; subst hK
      obtain ⟨⟨c0, c1, c2, f0, f1, f2⟩, H2⟩ := HC.out wr hBr.out
      clear hP
      go_wp2_with fail
      obtain ⟨s0, s1, s2⟩ := set3 (a := .int .i64 6) (b := .string P) (c := .int .i64 k) H2.out
      refine bodyPost_ret (by simp [results, Tryd.results20, go_sem, s0, s1, s2]; rfl) rfl ?_
      exact ⟨rfl, HF.out _ _ _ _ hBr.out⟩
set_option maxRecDepth 100000 in
set_option maxHeartbeats 8000000 in
theorem rone_p3 (t : ByteArray) (w : World) (ht : t.size ≤ 1000000) (k : Nat) (hk : k < t.size) (hsm : smallB t[k] = false) (hdc : digB t[k] = false) (h45 : t[k].toNat = 45) (hk1 : k + 1 < t.size) (hdn : digB t[k + 1] = false)
    (z : Sy) (K : Nat) (g : Nat → ByteArray) (hg : g = sgn) (hT : SignTells t k z K g) : Calls Tryd.prog 20 #[.string t, .int .i64 k] w (OneOut w z K) := by
  have hki : (k : Int) < (t.size : Int) := by omega
  have b45 : ((t[k].toNat : Int) == 45) = true := by simp; omega
  have b60 : ((t[k].toNat : Int) == 60) = false := by simp; omega
  have hki1 : (k : Int) + 1 < (t.size : Int) := by omega
  clear h45
  have HT := Lib.hid hT
  have HG := Lib.hid hg
  unfold OneOut
  clear hT hg
  go_enter Tryd.func20, Tryd.ntmps20
  go_wp2_with (first | (go_at_call 26; refine (rsmall_any _ _).mono ?_; rintro e w' ⟨rfl, rfl⟩; first | rw [hsm] | rw [hsn]) | (go_at_call 29; refine (rdig_any _ _).mono ?_; rintro e w' ⟨rfl, rfl⟩; first | rw [hdc] | rw [hdn]))
  obtain ⟨W2, hW2⟩ : ∃ W2, W2 = (w.alloc (.cells #[.int .i64 0, .string ⟨#[]⟩, .int .i64 0] 46)).alloc (.cells #[.string ⟨#[45, 45, 62]⟩, .string ⟨#[60, 61, 62]⟩, .string ⟨#[60, 60]⟩, .string ⟨#[62, 62]⟩, .string ⟨#[60, 62]⟩, .string ⟨#[60, 61]⟩, .string ⟨#[62, 61]⟩, .string ⟨#[40]⟩, .string ⟨#[41]⟩, .string ⟨#[123]⟩, .string ⟨#[125]⟩, .string ⟨#[94]⟩, .string ⟨#[43]⟩, .string ⟨#[45]⟩, .string ⟨#[33]⟩, .string ⟨#[126]⟩, .string ⟨#[60]⟩, .string ⟨#[62]⟩, .string ⟨#[61]⟩, .string ⟨#[42]⟩] 9) := ⟨_, rfl⟩
  have hB2 : Below w.heap.size w W2 := by rw [hW2]; go_grown
  have hres : W2.heap[w.heap.size]? = some (.cells #[.int .i64 0, .string ⟨#[]⟩, .int .i64 0] 46 (0, 0)) := by rw [hW2]; exact (Below.heap_alloc _ _ _ (by simp)).trans (new_at rfl)
  have hrow : ∀ j, j < 20 → (#[.string ⟨#[45, 45, 62]⟩, .string ⟨#[60, 61, 62]⟩, .string ⟨#[60, 60]⟩, .string ⟨#[62, 62]⟩, .string ⟨#[60, 62]⟩, .string ⟨#[60, 61]⟩, .string ⟨#[62, 61]⟩, .string ⟨#[40]⟩, .string ⟨#[41]⟩, .string ⟨#[123]⟩, .string ⟨#[125]⟩, .string ⟨#[94]⟩, .string ⟨#[43]⟩, .string ⟨#[45]⟩, .string ⟨#[33]⟩, .string ⟨#[126]⟩, .string ⟨#[60]⟩, .string ⟨#[62]⟩, .string ⟨#[61]⟩, .string ⟨#[42]⟩] : Array Value)[j]? = some (.string (sgn j)) := fun j hj => by
    have e : (#[.string ⟨#[45, 45, 62]⟩, .string ⟨#[60, 61, 62]⟩, .string ⟨#[60, 60]⟩, .string ⟨#[62, 62]⟩, .string ⟨#[60, 62]⟩, .string ⟨#[60, 61]⟩, .string ⟨#[62, 61]⟩, .string ⟨#[40]⟩, .string ⟨#[41]⟩, .string ⟨#[123]⟩, .string ⟨#[125]⟩, .string ⟨#[94]⟩, .string ⟨#[43]⟩, .string ⟨#[45]⟩, .string ⟨#[33]⟩, .string ⟨#[126]⟩, .string ⟨#[60]⟩, .string ⟨#[62]⟩, .string ⟨#[61]⟩, .string ⟨#[42]⟩] : Array Value) = ((List.range 20).map fun i => Value.string (sgn i)).toArray := rfl
    rw [e]; simp [hj]
  have hcs : ∀ w', Below W2.heap.size W2 w' → ∀ j, j < 20 → w'.cell? ⟨w.heap.size + 1, j, none⟩ = some (.string (g j)) := fun w' h j hj => by
    have hx : W2.heap[w.heap.size + 1]? = some (.cells #[.string ⟨#[45, 45, 62]⟩, .string ⟨#[60, 61, 62]⟩, .string ⟨#[60, 60]⟩, .string ⟨#[62, 62]⟩, .string ⟨#[60, 62]⟩, .string ⟨#[60, 61]⟩, .string ⟨#[62, 61]⟩, .string ⟨#[40]⟩, .string ⟨#[41]⟩, .string ⟨#[123]⟩, .string ⟨#[125]⟩, .string ⟨#[94]⟩, .string ⟨#[43]⟩, .string ⟨#[45]⟩, .string ⟨#[33]⟩, .string ⟨#[126]⟩, .string ⟨#[60]⟩, .string ⟨#[62]⟩, .string ⟨#[61]⟩, .string ⟨#[42]⟩] 9 (0, 0)) := by rw [hW2]; exact new_at (by simp)
    rw [cells_of ((h.block _ (heap_lt hx)).trans hx), hrow j hj, HG.out]
  have hcells : ∀ w', Below W2.heap.size W2 w' → (w'.cell? ⟨w.heap.size, 0, none⟩ = some (.int .i64 0) ∧ w'.cell? ⟨w.heap.size, 1, none⟩ = some (.string ⟨#[]⟩) ∧ w'.cell? ⟨w.heap.size, 2, none⟩ = some (.int .i64 0)
      ∧ w'.frozen? ⟨w.heap.size, 0, none⟩ = false ∧ w'.frozen? ⟨w.heap.size, 1, none⟩ = false ∧ w'.frozen? ⟨w.heap.size, 2, none⟩ = false) ∧ Hid (w'.heap[w.heap.size]? = some (.cells #[.int .i64 0, .string ⟨#[]⟩, .int .i64 0] 46 (0, 0))) := by
    intro w' h
    have h2 := (h.block _ (heap_lt hres)).trans hres
    exact ⟨⟨by rw [cells_of h2]; rfl, by rw [cells_of h2]; rfl, by rw [cells_of h2]; rfl, frozen_of h2, frozen_of h2, frozen_of h2⟩, h2⟩
  have fin : ∀ (w2 : World) (a b c : Value), Below W2.heap.size W2 w2 → Below w.heap.size w (((w2.setCell ⟨w.heap.size, 0, none⟩ a).setCell ⟨w.heap.size, 1, none⟩ b).setCell ⟨w.heap.size, 2, none⟩ c) := fun w2 a b c h =>
    (((hB2.trans (h.mono hB2.size)).setCell (Nat.le_refl _) _).setCell (Nat.le_refl _) _).setCell (Nat.le_refl _) _
  have HCS := Lib.hid hcs
  have HC := Lib.hid hcells
  have HF := Lib.hid fin
  have HW2 := Lib.hid hW2
  clear hcs hcells fin hB2 hres hrow hW2
  rw [← HW2.out]
  go_loopw [13] (fun i wr => ∃ j : Nat, j ≤ 20 ∧ i = .int .i64 j ∧ Hid (∀ i, i < j → Lib.hasPrefix (t.data.toList.drop k) (g i).data.toList = false) ∧ Hid (Below W2.heap.size W2 wr)) (fun i _ => 20 - (intOf i).toNat)
  case atStart => exact ⟨0, Nat.zero_le _, rfl, Lib.hid (fun i hi => absurd hi (by omega)), Lib.hid (Below.refl _ _)⟩
  case round =>
    obtain ⟨j, hj, rfl, hno, hBr⟩ := hrel
    by_cases hjl : j < 20
    · have hji : (j : Int) < 20 := by omega
      have cj := HCS.out wr hBr.out j hjl
      cases hpx : Lib.hasPrefix (t.data.toList.drop k) (g j).data.toList with
      | true =>
        obtain ⟨hz, hK, hle, hex⟩ := HT.out.1 j hjl hno.out hpx
        have hq3 : (g j).size ≤ 3 := by rw [HG.out]; exact sgn_size j hjl
        have HCJ := Lib.hid (fun w' (h : Below W2.heap.size W2 w') => HCS.out w' h j hjl)
        generalize g j = q at cj hz hK hle hex hq3 HCJ
        have hsl : ∀ w', (Instr.slice 9 (.string t) (some (.int .i64 (k : Int))) (some (.int .i64 ((k : Int) + (q.size : Int)))) none).run Tryd.prog w' = .ok (.string q) w' := fun w' => by
          have h := str_slice t k (k + q.size) (by omega) hle w'
          rw [hex, Int.natCast_add] at h; exact h
        have d1 : decide ((q.size : Int) ≤ (t.size : Int) - (k : Int)) = true := by simp; omega
        have hw1 : IntKind.i64.wrap ((k : Int) + (q.size : Int)) = (k : Int) + (q.size : Int) := by rw [IntKind.wrap_i64]; omega
        subst hz; subst hK
        clear hex hpx
        go_wp2_with fail
        go_quiet (fail)
        obtain ⟨wz, hWz⟩ : ∃ wz, wz = wr.drewN nq := ⟨_, rfl⟩
        rw [← hWz]
        have hbz : Below W2.heap.size W2 wz := by rw [hWz]; exact bdN _ hBr.out
        obtain ⟨⟨c0, c1, c2, f0, f1, f2⟩, H2⟩ := HC.out wz hbz
        have cz := HCJ.out wz hbz
        have HBz := Lib.hid hbz
        clear hWz hbz cj
        go_wp2_with fail
        obtain ⟨s0, s1, s2⟩ := set3 (a := .int .i64 4) (b := .string q) (c := .int .i64 k) H2.out
        refine bodyPost_ret (by simp [results, Tryd.results20, go_sem, s0, s1, s2]; rfl) rfl ?_
        exact ⟨rfl, HF.out _ _ _ _ HBz.out⟩
      | false =>
        obtain ⟨hq3, hne⟩ := HT.out.2.1 j hjl hpx
        have HN : Hid (∀ i, i < j + 1 → Lib.hasPrefix (t.data.toList.drop k) (g i).data.toList = false) := Lib.hid (fun i hi => by
          rcases Nat.lt_or_ge i j with h | h
          · exact hno.out i h
          · obtain rfl : i = j := by omega
            exact hpx)
        generalize g j = q at cj hq3 hne
        clear hpx
        by_cases hle : k + q.size ≤ t.size
        · have hne := str_ne (hne hle)
          obtain ⟨P, hP⟩ : ∃ P, P = t.extract k (k + q.size) := ⟨_, rfl⟩
          have hsl : ∀ w', (Instr.slice 9 (.string t) (some (.int .i64 (k : Int))) (some (.int .i64 ((k : Int) + (q.size : Int)))) none).run Tryd.prog w' = .ok (.string P) w' := fun w' => by
            have h := str_slice t k (k + q.size) (by omega) hle w'
            rw [← hP, Int.natCast_add] at h; exact h
          rw [← hP] at hne
          have d1 : decide ((q.size : Int) ≤ (t.size : Int) - (k : Int)) = true := by simp; omega
          have hw1 : IntKind.i64.wrap ((k : Int) + (q.size : Int)) = (k : Int) + (q.size : Int) := by rw [IntKind.wrap_i64]; omega
          clear hP
          go_wp2_with fail
          go_quiet (fail)
          go_wp2_with fail
          go_roundw
          case rel => exact ⟨j + 1, by omega, by go_num, HN, Lib.hid (bdN _ hBr.out)⟩
          case measure => simp [intOf]; omega
        · have d1 : decide ((q.size : Int) ≤ (t.size : Int) - (k : Int)) = false := by simp; omega
          clear hne
          go_wp2_with fail
          go_quiet (fail)
          go_wp2_with fail
          go_roundw
          case rel => exact ⟨j + 1, by omega, by go_num, HN, Lib.hid (bdN _ hBr.out)⟩
          case measure => simp [intOf]; omega
    · obtain rfl : j = 20 := by omega
      obtain ⟨hz, hK⟩ := HT.out.2.2 hno.out
      obtain ⟨P, hP⟩ : ∃ P, P = t.extract k (k + 1) := ⟨_, rfl⟩
      rw [← hP] at hz
      have hsl : ∀ w', (Instr.slice 9 (.string t) (some (.int .i64 (k : Int))) (some (.int .i64 ((k : Int) + 1))) none).run Tryd.prog w' = .ok (.string P) w' := fun w' => by
        have h := str_slice t k (k + 1) (by omega) (by omega) w'
        rw [← hP, Int.natCast_add] at h; exact h
      subst hz; subst hK
      obtain ⟨⟨c0, c1, c2, f0, f1, f2⟩, H2⟩ := HC.out wr hBr.out
      clear hP
      go_wp2_with fail
      obtain ⟨s0, s1, s2⟩ := set3 (a := .int .i64 6) (b := .string P) (c := .int .i64 k) H2.out
      refine bodyPost_ret (by simp [results, Tryd.results20, go_sem, s0, s1, s2]; rfl) rfl ?_
      exact ⟨rfl, HF.out _ _ _ _ hBr.out⟩
set_option maxRecDepth 100000 in
set_option maxHeartbeats 8000000 in
theorem rone_p4 (t : ByteArray) (w : World) (ht : t.size ≤ 1000000) (k : Nat) (hk : k < t.size) (hsm : smallB t[k] = false) (hdc : digB t[k] = false) (h60 : t[k].toNat = 60) (hend : k + 1 = t.size)
    (z : Sy) (K : Nat) (g : Nat → ByteArray) (hg : g = sgn) (hT : SignTells t k z K g) : Calls Tryd.prog 20 #[.string t, .int .i64 k] w (OneOut w z K) := by
  have hki : (k : Int) < (t.size : Int) := by omega
  have b45 : ((t[k].toNat : Int) == 45) = false := by simp; omega
  have b60 : ((t[k].toNat : Int) == 60) = true := by simp; omega
  have dk : ((k : Int) + 1 < (t.size : Int)) = False := by simp; omega
  clear h60 hend
  have HT := Lib.hid hT
  have HG := Lib.hid hg
  unfold OneOut
  clear hT hg
  go_enter Tryd.func20, Tryd.ntmps20
  go_wp2_with (first | (go_at_call 26; refine (rsmall_any _ _).mono ?_; rintro e w' ⟨rfl, rfl⟩; first | rw [hsm] | rw [hsn]) | (go_at_call 29; refine (rdig_any _ _).mono ?_; rintro e w' ⟨rfl, rfl⟩; first | rw [hdc] | rw [hdn]))
  obtain ⟨W2, hW2⟩ : ∃ W2, W2 = (w.alloc (.cells #[.int .i64 0, .string ⟨#[]⟩, .int .i64 0] 46)).alloc (.cells #[.string ⟨#[45, 45, 62]⟩, .string ⟨#[60, 61, 62]⟩, .string ⟨#[60, 60]⟩, .string ⟨#[62, 62]⟩, .string ⟨#[60, 62]⟩, .string ⟨#[60, 61]⟩, .string ⟨#[62, 61]⟩, .string ⟨#[40]⟩, .string ⟨#[41]⟩, .string ⟨#[123]⟩, .string ⟨#[125]⟩, .string ⟨#[94]⟩, .string ⟨#[43]⟩, .string ⟨#[45]⟩, .string ⟨#[33]⟩, .string ⟨#[126]⟩, .string ⟨#[60]⟩, .string ⟨#[62]⟩, .string ⟨#[61]⟩, .string ⟨#[42]⟩] 9) := ⟨_, rfl⟩
  have hB2 : Below w.heap.size w W2 := by rw [hW2]; go_grown
  have hres : W2.heap[w.heap.size]? = some (.cells #[.int .i64 0, .string ⟨#[]⟩, .int .i64 0] 46 (0, 0)) := by rw [hW2]; exact (Below.heap_alloc _ _ _ (by simp)).trans (new_at rfl)
  have hrow : ∀ j, j < 20 → (#[.string ⟨#[45, 45, 62]⟩, .string ⟨#[60, 61, 62]⟩, .string ⟨#[60, 60]⟩, .string ⟨#[62, 62]⟩, .string ⟨#[60, 62]⟩, .string ⟨#[60, 61]⟩, .string ⟨#[62, 61]⟩, .string ⟨#[40]⟩, .string ⟨#[41]⟩, .string ⟨#[123]⟩, .string ⟨#[125]⟩, .string ⟨#[94]⟩, .string ⟨#[43]⟩, .string ⟨#[45]⟩, .string ⟨#[33]⟩, .string ⟨#[126]⟩, .string ⟨#[60]⟩, .string ⟨#[62]⟩, .string ⟨#[61]⟩, .string ⟨#[42]⟩] : Array Value)[j]? = some (.string (sgn j)) := fun j hj => by
    have e : (#[.string ⟨#[45, 45, 62]⟩, .string ⟨#[60, 61, 62]⟩, .string ⟨#[60, 60]⟩, .string ⟨#[62, 62]⟩, .string ⟨#[60, 62]⟩, .string ⟨#[60, 61]⟩, .string ⟨#[62, 61]⟩, .string ⟨#[40]⟩, .string ⟨#[41]⟩, .string ⟨#[123]⟩, .string ⟨#[125]⟩, .string ⟨#[94]⟩, .string ⟨#[43]⟩, .string ⟨#[45]⟩, .string ⟨#[33]⟩, .string ⟨#[126]⟩, .string ⟨#[60]⟩, .string ⟨#[62]⟩, .string ⟨#[61]⟩, .string ⟨#[42]⟩] : Array Value) = ((List.range 20).map fun i => Value.string (sgn i)).toArray := rfl
    rw [e]; simp [hj]
  have hcs : ∀ w', Below W2.heap.size W2 w' → ∀ j, j < 20 → w'.cell? ⟨w.heap.size + 1, j, none⟩ = some (.string (g j)) := fun w' h j hj => by
    have hx : W2.heap[w.heap.size + 1]? = some (.cells #[.string ⟨#[45, 45, 62]⟩, .string ⟨#[60, 61, 62]⟩, .string ⟨#[60, 60]⟩, .string ⟨#[62, 62]⟩, .string ⟨#[60, 62]⟩, .string ⟨#[60, 61]⟩, .string ⟨#[62, 61]⟩, .string ⟨#[40]⟩, .string ⟨#[41]⟩, .string ⟨#[123]⟩, .string ⟨#[125]⟩, .string ⟨#[94]⟩, .string ⟨#[43]⟩, .string ⟨#[45]⟩, .string ⟨#[33]⟩, .string ⟨#[126]⟩, .string ⟨#[60]⟩, .string ⟨#[62]⟩, .string ⟨#[61]⟩, .string ⟨#[42]⟩] 9 (0, 0)) := by rw [hW2]; exact new_at (by simp)
    rw [cells_of ((h.block _ (heap_lt hx)).trans hx), hrow j hj, HG.out]
  have hcells : ∀ w', Below W2.heap.size W2 w' → (w'.cell? ⟨w.heap.size, 0, none⟩ = some (.int .i64 0) ∧ w'.cell? ⟨w.heap.size, 1, none⟩ = some (.string ⟨#[]⟩) ∧ w'.cell? ⟨w.heap.size, 2, none⟩ = some (.int .i64 0)
      ∧ w'.frozen? ⟨w.heap.size, 0, none⟩ = false ∧ w'.frozen? ⟨w.heap.size, 1, none⟩ = false ∧ w'.frozen? ⟨w.heap.size, 2, none⟩ = false) ∧ Hid (w'.heap[w.heap.size]? = some (.cells #[.int .i64 0, .string ⟨#[]⟩, .int .i64 0] 46 (0, 0))) := by
    intro w' h
    have h2 := (h.block _ (heap_lt hres)).trans hres
    exact ⟨⟨by rw [cells_of h2]; rfl, by rw [cells_of h2]; rfl, by rw [cells_of h2]; rfl, frozen_of h2, frozen_of h2, frozen_of h2⟩, h2⟩
  have fin : ∀ (w2 : World) (a b c : Value), Below W2.heap.size W2 w2 → Below w.heap.size w (((w2.setCell ⟨w.heap.size, 0, none⟩ a).setCell ⟨w.heap.size, 1, none⟩ b).setCell ⟨w.heap.size, 2, none⟩ c) := fun w2 a b c h =>
    (((hB2.trans (h.mono hB2.size)).setCell (Nat.le_refl _) _).setCell (Nat.le_refl _) _).setCell (Nat.le_refl _) _
  have HCS := Lib.hid hcs
  have HC := Lib.hid hcells
  have HF := Lib.hid fin
  have HW2 := Lib.hid hW2
  clear hcs hcells fin hB2 hres hrow hW2
  rw [← HW2.out]
  go_loopw [13] (fun i wr => ∃ j : Nat, j ≤ 20 ∧ i = .int .i64 j ∧ Hid (∀ i, i < j → Lib.hasPrefix (t.data.toList.drop k) (g i).data.toList = false) ∧ Hid (Below W2.heap.size W2 wr)) (fun i _ => 20 - (intOf i).toNat)
  case atStart => exact ⟨0, Nat.zero_le _, rfl, Lib.hid (fun i hi => absurd hi (by omega)), Lib.hid (Below.refl _ _)⟩
  case round =>
    obtain ⟨j, hj, rfl, hno, hBr⟩ := hrel
    by_cases hjl : j < 20
    · have hji : (j : Int) < 20 := by omega
      have cj := HCS.out wr hBr.out j hjl
      cases hpx : Lib.hasPrefix (t.data.toList.drop k) (g j).data.toList with
      | true =>
        obtain ⟨hz, hK, hle, hex⟩ := HT.out.1 j hjl hno.out hpx
        have hq3 : (g j).size ≤ 3 := by rw [HG.out]; exact sgn_size j hjl
        have HCJ := Lib.hid (fun w' (h : Below W2.heap.size W2 w') => HCS.out w' h j hjl)
        generalize g j = q at cj hz hK hle hex hq3 HCJ
        have hsl : ∀ w', (Instr.slice 9 (.string t) (some (.int .i64 (k : Int))) (some (.int .i64 ((k : Int) + (q.size : Int)))) none).run Tryd.prog w' = .ok (.string q) w' := fun w' => by
          have h := str_slice t k (k + q.size) (by omega) hle w'
          rw [hex, Int.natCast_add] at h; exact h
        have d1 : decide ((q.size : Int) ≤ (t.size : Int) - (k : Int)) = true := by simp; omega
        have hw1 : IntKind.i64.wrap ((k : Int) + (q.size : Int)) = (k : Int) + (q.size : Int) := by rw [IntKind.wrap_i64]; omega
        subst hz; subst hK
        clear hex hpx
        go_wp2_with fail
        go_quiet (fail)
        obtain ⟨wz, hWz⟩ : ∃ wz, wz = wr.drewN nq := ⟨_, rfl⟩
        rw [← hWz]
        have hbz : Below W2.heap.size W2 wz := by rw [hWz]; exact bdN _ hBr.out
        obtain ⟨⟨c0, c1, c2, f0, f1, f2⟩, H2⟩ := HC.out wz hbz
        have cz := HCJ.out wz hbz
        have HBz := Lib.hid hbz
        clear hWz hbz cj
        go_wp2_with fail
        obtain ⟨s0, s1, s2⟩ := set3 (a := .int .i64 4) (b := .string q) (c := .int .i64 k) H2.out
        refine bodyPost_ret (by simp [results, Tryd.results20, go_sem, s0, s1, s2]; rfl) rfl ?_
        exact ⟨rfl, HF.out _ _ _ _ HBz.out⟩
      | false =>
        obtain ⟨hq3, hne⟩ := HT.out.2.1 j hjl hpx
        have HN : Hid (∀ i, i < j + 1 → Lib.hasPrefix (t.data.toList.drop k) (g i).data.toList = false) := Lib.hid (fun i hi => by
          rcases Nat.lt_or_ge i j with h | h
          · exact hno.out i h
          · obtain rfl : i = j := by omega
            exact hpx)
        generalize g j = q at cj hq3 hne
        clear hpx
        by_cases hle : k + q.size ≤ t.size
        · have hne := str_ne (hne hle)
          obtain ⟨P, hP⟩ : ∃ P, P = t.extract k (k + q.size) := ⟨_, rfl⟩
          have hsl : ∀ w', (Instr.slice 9 (.string t) (some (.int .i64 (k : Int))) (some (.int .i64 ((k : Int) + (q.size : Int)))) none).run Tryd.prog w' = .ok (.string P) w' := fun w' => by
            have h := str_slice t k (k + q.size) (by omega) hle w'
            rw [← hP, Int.natCast_add] at h; exact h
          rw [← hP] at hne
          have d1 : decide ((q.size : Int) ≤ (t.size : Int) - (k : Int)) = true := by simp; omega
          have hw1 : IntKind.i64.wrap ((k : Int) + (q.size : Int)) = (k : Int) + (q.size : Int) := by rw [IntKind.wrap_i64]; omega
          clear hP
          go_wp2_with fail
          go_quiet (fail)
          go_wp2_with fail
          go_roundw
          case rel => exact ⟨j + 1, by omega, by go_num, HN, Lib.hid (bdN _ hBr.out)⟩
          case measure => simp [intOf]; omega
        · have d1 : decide ((q.size : Int) ≤ (t.size : Int) - (k : Int)) = false := by simp; omega
          clear hne
          go_wp2_with fail
          go_quiet (fail)
          go_wp2_with fail
          go_roundw
          case rel => exact ⟨j + 1, by omega, by go_num, HN, Lib.hid (bdN _ hBr.out)⟩
          case measure => simp [intOf]; omega
    · obtain rfl : j = 20 := by omega
      obtain ⟨hz, hK⟩ := HT.out.2.2 hno.out
      obtain ⟨P, hP⟩ : ∃ P, P = t.extract k (k + 1) := ⟨_, rfl⟩
      rw [← hP] at hz
      have hsl : ∀ w', (Instr.slice 9 (.string t) (some (.int .i64 (k : Int))) (some (.int .i64 ((k : Int) + 1))) none).run Tryd.prog w' = .ok (.string P) w' := fun w' => by
        have h := str_slice t k (k + 1) (by omega) (by omega) w'
        rw [← hP, Int.natCast_add] at h; exact h
      subst hz; subst hK
      obtain ⟨⟨c0, c1, c2, f0, f1, f2⟩, H2⟩ := HC.out wr hBr.out
      clear hP
      go_wp2_with fail
      obtain ⟨s0, s1, s2⟩ := set3 (a := .int .i64 6) (b := .string P) (c := .int .i64 k) H2.out
      refine bodyPost_ret (by simp [results, Tryd.results20, go_sem, s0, s1, s2]; rfl) rfl ?_
      exact ⟨rfl, HF.out _ _ _ _ hBr.out⟩
set_option maxRecDepth 100000 in
set_option maxHeartbeats 8000000 in
theorem rone_p5 (t : ByteArray) (w : World) (ht : t.size ≤ 1000000) (k : Nat) (hk : k < t.size) (hsm : smallB t[k] = false) (hdc : digB t[k] = false) (h60 : t[k].toNat = 60) (hk1 : k + 1 < t.size) (hsn : smallB t[k + 1] = false)
    (z : Sy) (K : Nat) (g : Nat → ByteArray) (hg : g = sgn) (hT : SignTells t k z K g) : Calls Tryd.prog 20 #[.string t, .int .i64 k] w (OneOut w z K) := by
  have hki : (k : Int) < (t.size : Int) := by omega
  have b45 : ((t[k].toNat : Int) == 45) = false := by simp; omega
  have b60 : ((t[k].toNat : Int) == 60) = true := by simp; omega
  have hki1 : (k : Int) + 1 < (t.size : Int) := by omega
  clear h60
  have HT := Lib.hid hT
  have HG := Lib.hid hg
  unfold OneOut
  clear hT hg
  go_enter Tryd.func20, Tryd.ntmps20
  go_wp2_with (first | (go_at_call 26; refine (rsmall_any _ _).mono ?_; rintro e w' ⟨rfl, rfl⟩; first | rw [hsm] | rw [hsn]) | (go_at_call 29; refine (rdig_any _ _).mono ?_; rintro e w' ⟨rfl, rfl⟩; first | rw [hdc] | rw [hdn]))
  obtain ⟨W2, hW2⟩ : ∃ W2, W2 = (w.alloc (.cells #[.int .i64 0, .string ⟨#[]⟩, .int .i64 0] 46)).alloc (.cells #[.string ⟨#[45, 45, 62]⟩, .string ⟨#[60, 61, 62]⟩, .string ⟨#[60, 60]⟩, .string ⟨#[62, 62]⟩, .string ⟨#[60, 62]⟩, .string ⟨#[60, 61]⟩, .string ⟨#[62, 61]⟩, .string ⟨#[40]⟩, .string ⟨#[41]⟩, .string ⟨#[123]⟩, .string ⟨#[125]⟩, .string ⟨#[94]⟩, .string ⟨#[43]⟩, .string ⟨#[45]⟩, .string ⟨#[33]⟩, .string ⟨#[126]⟩, .string ⟨#[60]⟩, .string ⟨#[62]⟩, .string ⟨#[61]⟩, .string ⟨#[42]⟩] 9) := ⟨_, rfl⟩
  have hB2 : Below w.heap.size w W2 := by rw [hW2]; go_grown
  have hres : W2.heap[w.heap.size]? = some (.cells #[.int .i64 0, .string ⟨#[]⟩, .int .i64 0] 46 (0, 0)) := by rw [hW2]; exact (Below.heap_alloc _ _ _ (by simp)).trans (new_at rfl)
  have hrow : ∀ j, j < 20 → (#[.string ⟨#[45, 45, 62]⟩, .string ⟨#[60, 61, 62]⟩, .string ⟨#[60, 60]⟩, .string ⟨#[62, 62]⟩, .string ⟨#[60, 62]⟩, .string ⟨#[60, 61]⟩, .string ⟨#[62, 61]⟩, .string ⟨#[40]⟩, .string ⟨#[41]⟩, .string ⟨#[123]⟩, .string ⟨#[125]⟩, .string ⟨#[94]⟩, .string ⟨#[43]⟩, .string ⟨#[45]⟩, .string ⟨#[33]⟩, .string ⟨#[126]⟩, .string ⟨#[60]⟩, .string ⟨#[62]⟩, .string ⟨#[61]⟩, .string ⟨#[42]⟩] : Array Value)[j]? = some (.string (sgn j)) := fun j hj => by
    have e : (#[.string ⟨#[45, 45, 62]⟩, .string ⟨#[60, 61, 62]⟩, .string ⟨#[60, 60]⟩, .string ⟨#[62, 62]⟩, .string ⟨#[60, 62]⟩, .string ⟨#[60, 61]⟩, .string ⟨#[62, 61]⟩, .string ⟨#[40]⟩, .string ⟨#[41]⟩, .string ⟨#[123]⟩, .string ⟨#[125]⟩, .string ⟨#[94]⟩, .string ⟨#[43]⟩, .string ⟨#[45]⟩, .string ⟨#[33]⟩, .string ⟨#[126]⟩, .string ⟨#[60]⟩, .string ⟨#[62]⟩, .string ⟨#[61]⟩, .string ⟨#[42]⟩] : Array Value) = ((List.range 20).map fun i => Value.string (sgn i)).toArray := rfl
    rw [e]; simp [hj]
  have hcs : ∀ w', Below W2.heap.size W2 w' → ∀ j, j < 20 → w'.cell? ⟨w.heap.size + 1, j, none⟩ = some (.string (g j)) := fun w' h j hj => by
    have hx : W2.heap[w.heap.size + 1]? = some (.cells #[.string ⟨#[45, 45, 62]⟩, .string ⟨#[60, 61, 62]⟩, .string ⟨#[60, 60]⟩, .string ⟨#[62, 62]⟩, .string ⟨#[60, 62]⟩, .string ⟨#[60, 61]⟩, .string ⟨#[62, 61]⟩, .string ⟨#[40]⟩, .string ⟨#[41]⟩, .string ⟨#[123]⟩, .string ⟨#[125]⟩, .string ⟨#[94]⟩, .string ⟨#[43]⟩, .string ⟨#[45]⟩, .string ⟨#[33]⟩, .string ⟨#[126]⟩, .string ⟨#[60]⟩, .string ⟨#[62]⟩, .string ⟨#[61]⟩, .string ⟨#[42]⟩] 9 (0, 0)) := by rw [hW2]; exact new_at (by simp)
    rw [cells_of ((h.block _ (heap_lt hx)).trans hx), hrow j hj, HG.out]
  have hcells : ∀ w', Below W2.heap.size W2 w' → (w'.cell? ⟨w.heap.size, 0, none⟩ = some (.int .i64 0) ∧ w'.cell? ⟨w.heap.size, 1, none⟩ = some (.string ⟨#[]⟩) ∧ w'.cell? ⟨w.heap.size, 2, none⟩ = some (.int .i64 0)
      ∧ w'.frozen? ⟨w.heap.size, 0, none⟩ = false ∧ w'.frozen? ⟨w.heap.size, 1, none⟩ = false ∧ w'.frozen? ⟨w.heap.size, 2, none⟩ = false) ∧ Hid (w'.heap[w.heap.size]? = some (.cells #[.int .i64 0, .string ⟨#[]⟩, .int .i64 0] 46 (0, 0))) := by
    intro w' h
    have h2 := (h.block _ (heap_lt hres)).trans hres
    exact ⟨⟨by rw [cells_of h2]; rfl, by rw [cells_of h2]; rfl, by rw [cells_of h2]; rfl, frozen_of h2, frozen_of h2, frozen_of h2⟩, h2⟩
  have fin : ∀ (w2 : World) (a b c : Value), Below W2.heap.size W2 w2 → Below w.heap.size w (((w2.setCell ⟨w.heap.size, 0, none⟩ a).setCell ⟨w.heap.size, 1, none⟩ b).setCell ⟨w.heap.size, 2, none⟩ c) := fun w2 a b c h =>
    (((hB2.trans (h.mono hB2.size)).setCell (Nat.le_refl _) _).setCell (Nat.le_refl _) _).setCell (Nat.le_refl _) _
  have HCS := Lib.hid hcs
  have HC := Lib.hid hcells
  have HF := Lib.hid fin
  have HW2 := Lib.hid hW2
  clear hcs hcells fin hB2 hres hrow hW2
  rw [← HW2.out]
  go_loopw [13] (fun i wr => ∃ j : Nat, j ≤ 20 ∧ i = .int .i64 j ∧ Hid (∀ i, i < j → Lib.hasPrefix (t.data.toList.drop k) (g i).data.toList = false) ∧ Hid (Below W2.heap.size W2 wr)) (fun i _ => 20 - (intOf i).toNat)
  case atStart => exact ⟨0, Nat.zero_le _, rfl, Lib.hid (fun i hi => absurd hi (by omega)), Lib.hid (Below.refl _ _)⟩
  case round =>
    obtain ⟨j, hj, rfl, hno, hBr⟩ := hrel
    by_cases hjl : j < 20
    · have hji : (j : Int) < 20 := by omega
      have cj := HCS.out wr hBr.out j hjl
      cases hpx : Lib.hasPrefix (t.data.toList.drop k) (g j).data.toList with
      | true =>
        obtain ⟨hz, hK, hle, hex⟩ := HT.out.1 j hjl hno.out hpx
        have hq3 : (g j).size ≤ 3 := by rw [HG.out]; exact sgn_size j hjl
        have HCJ := Lib.hid (fun w' (h : Below W2.heap.size W2 w') => HCS.out w' h j hjl)
        generalize g j = q at cj hz hK hle hex hq3 HCJ
        have hsl : ∀ w', (Instr.slice 9 (.string t) (some (.int .i64 (k : Int))) (some (.int .i64 ((k : Int) + (q.size : Int)))) none).run Tryd.prog w' = .ok (.string q) w' := fun w' => by
          have h := str_slice t k (k + q.size) (by omega) hle w'
          rw [hex, Int.natCast_add] at h; exact h
        have d1 : decide ((q.size : Int) ≤ (t.size : Int) - (k : Int)) = true := by simp; omega
        have hw1 : IntKind.i64.wrap ((k : Int) + (q.size : Int)) = (k : Int) + (q.size : Int) := by rw [IntKind.wrap_i64]; omega
        subst hz; subst hK
        clear hex hpx
        go_wp2_with fail
        go_quiet (fail)
        obtain ⟨wz, hWz⟩ : ∃ wz, wz = wr.drewN nq := ⟨_, rfl⟩
        rw [← hWz]
        have hbz : Below W2.heap.size W2 wz := by rw [hWz]; exact bdN _ hBr.out
        obtain ⟨⟨c0, c1, c2, f0, f1, f2⟩, H2⟩ := HC.out wz hbz
        have cz := HCJ.out wz hbz
        have HBz := Lib.hid hbz
        clear hWz hbz cj
        go_wp2_with fail
        obtain ⟨s0, s1, s2⟩ := set3 (a := .int .i64 4) (b := .string q) (c := .int .i64 k) H2.out
        refine bodyPost_ret (by simp [results, Tryd.results20, go_sem, s0, s1, s2]; rfl) rfl ?_
        exact ⟨rfl, HF.out _ _ _ _ HBz.out⟩
      | false =>
        obtain ⟨hq3, hne⟩ := HT.out.2.1 j hjl hpx
        have HN : Hid (∀ i, i < j + 1 → Lib.hasPrefix (t.data.toList.drop k) (g i).data.toList = false) := Lib.hid (fun i hi => by
          rcases Nat.lt_or_ge i j with h | h
          · exact hno.out i h
          · obtain rfl : i = j := by omega
            exact hpx)
        generalize g j = q at cj hq3 hne
        clear hpx
        by_cases hle : k + q.size ≤ t.size
        · have hne := str_ne (hne hle)
          obtain ⟨P, hP⟩ : ∃ P, P = t.extract k (k + q.size) := ⟨_, rfl⟩
          have hsl : ∀ w', (Instr.slice 9 (.string t) (some (.int .i64 (k : Int))) (some (.int .i64 ((k : Int) + (q.size : Int)))) none).run Tryd.prog w' = .ok (.string P) w' := fun w' => by
            have h := str_slice t k (k + q.size) (by omega) hle w'
            rw [← hP, Int.natCast_add] at h; exact h
          rw [← hP] at hne
          have d1 : decide ((q.size : Int) ≤ (t.size : Int) - (k : Int)) = true := by simp; omega
          have hw1 : IntKind.i64.wrap ((k : Int) + (q.size : Int)) = (k : Int) + (q.size : Int) := by rw [IntKind.wrap_i64]; omega
          clear hP
          go_wp2_with fail
          go_quiet (fail)
          go_wp2_with fail
          go_roundw
          case rel => exact ⟨j + 1, by omega, by go_num, HN, Lib.hid (bdN _ hBr.out)⟩
          case measure => simp [intOf]; omega
        · have d1 : decide ((q.size : Int) ≤ (t.size : Int) - (k : Int)) = false := by simp; omega
          clear hne
          go_wp2_with fail
          go_quiet (fail)
          go_wp2_with fail
          go_roundw
          case rel => exact ⟨j + 1, by omega, by go_num, HN, Lib.hid (bdN _ hBr.out)⟩
          case measure => simp [intOf]; omega
    · obtain rfl : j = 20 := by omega
      obtain ⟨hz, hK⟩ := HT.out.2.2 hno.out
      obtain ⟨P, hP⟩ : ∃ P, P = t.extract k (k + 1) := ⟨_, rfl⟩
      rw [← hP] at hz
      have hsl : ∀ w', (Instr.slice 9 (.string t) (some (.int .i64 (k : Int))) (some (.int .i64 ((k : Int) + 1))) none).run Tryd.prog w' = .ok (.string P) w' := fun w' => by
        have h := str_slice t k (k + 1) (by omega) (by omega) w'
        rw [← hP, Int.natCast_add] at h; exact h
      subst hz; subst hK
      obtain ⟨⟨c0, c1, c2, f0, f1, f2⟩, H2⟩ := HC.out wr hBr.out
      clear hP
      go_wp2_with fail
      obtain ⟨s0, s1, s2⟩ := set3 (a := .int .i64 6) (b := .string P) (c := .int .i64 k) H2.out
      refine bodyPost_ret (by simp [results, Tryd.results20, go_sem, s0, s1, s2]; rfl) rfl ?_
      exact ⟨rfl, HF.out _ _ _ _ hBr.out⟩
set_option maxRecDepth 100000 in
set_option maxHeartbeats 8000000 in
theorem rone_p6 (t : ByteArray) (w : World) (ht : t.size ≤ 1000000) (k : Nat) (hk : k < t.size) (hsm : smallB t[k] = false) (hdc : digB t[k] = false) (h60 : t[k].toNat = 60) (hk1 : k + 1 < t.size) (hsn : smallB t[k + 1] = true) (hpt : t.size = k + 1 + runL partB (t.data.toList.drop (k + 1)))
    (z : Sy) (K : Nat) (g : Nat → ByteArray) (hg : g = sgn) (hT : SignTells t k z K g) : Calls Tryd.prog 20 #[.string t, .int .i64 k] w (OneOut w z K) := by
  have hki : (k : Int) < (t.size : Int) := by omega
  have b45 : ((t[k].toNat : Int) == 45) = false := by simp; omega
  have b60 : ((t[k].toNat : Int) == 60) = true := by simp; omega
  have hki1 : (k : Int) + 1 < (t.size : Int) := by omega
  have hpa := fun w' => rparts_any t w' ht (k + 1) (by omega) t.size hpt
  rw [show ((k + 1 : Nat) : Int) = (k : Int) + 1 from Int.natCast_add k 1] at hpa
  have HP := Lib.hid hpa
  clear h60 hpa hpt
  have HT := Lib.hid hT
  have HG := Lib.hid hg
  unfold OneOut
  clear hT hg
  go_enter Tryd.func20, Tryd.ntmps20
  go_wp2_with (first | (go_at_call 26; refine (rsmall_any _ _).mono ?_; rintro e w' ⟨rfl, rfl⟩; first | rw [hsm] | rw [hsn]) | (go_at_call 29; refine (rdig_any _ _).mono ?_; rintro e w' ⟨rfl, rfl⟩; first | rw [hdc] | rw [hdn]) | (go_at_call 27; refine (HP.out _).mono ?_; rintro e w' ⟨rfl, rfl⟩))
  obtain ⟨W2, hW2⟩ : ∃ W2, W2 = (w.alloc (.cells #[.int .i64 0, .string ⟨#[]⟩, .int .i64 0] 46)).alloc (.cells #[.string ⟨#[45, 45, 62]⟩, .string ⟨#[60, 61, 62]⟩, .string ⟨#[60, 60]⟩, .string ⟨#[62, 62]⟩, .string ⟨#[60, 62]⟩, .string ⟨#[60, 61]⟩, .string ⟨#[62, 61]⟩, .string ⟨#[40]⟩, .string ⟨#[41]⟩, .string ⟨#[123]⟩, .string ⟨#[125]⟩, .string ⟨#[94]⟩, .string ⟨#[43]⟩, .string ⟨#[45]⟩, .string ⟨#[33]⟩, .string ⟨#[126]⟩, .string ⟨#[60]⟩, .string ⟨#[62]⟩, .string ⟨#[61]⟩, .string ⟨#[42]⟩] 9) := ⟨_, rfl⟩
  have hB2 : Below w.heap.size w W2 := by rw [hW2]; go_grown
  have hres : W2.heap[w.heap.size]? = some (.cells #[.int .i64 0, .string ⟨#[]⟩, .int .i64 0] 46 (0, 0)) := by rw [hW2]; exact (Below.heap_alloc _ _ _ (by simp)).trans (new_at rfl)
  have hrow : ∀ j, j < 20 → (#[.string ⟨#[45, 45, 62]⟩, .string ⟨#[60, 61, 62]⟩, .string ⟨#[60, 60]⟩, .string ⟨#[62, 62]⟩, .string ⟨#[60, 62]⟩, .string ⟨#[60, 61]⟩, .string ⟨#[62, 61]⟩, .string ⟨#[40]⟩, .string ⟨#[41]⟩, .string ⟨#[123]⟩, .string ⟨#[125]⟩, .string ⟨#[94]⟩, .string ⟨#[43]⟩, .string ⟨#[45]⟩, .string ⟨#[33]⟩, .string ⟨#[126]⟩, .string ⟨#[60]⟩, .string ⟨#[62]⟩, .string ⟨#[61]⟩, .string ⟨#[42]⟩] : Array Value)[j]? = some (.string (sgn j)) := fun j hj => by
    have e : (#[.string ⟨#[45, 45, 62]⟩, .string ⟨#[60, 61, 62]⟩, .string ⟨#[60, 60]⟩, .string ⟨#[62, 62]⟩, .string ⟨#[60, 62]⟩, .string ⟨#[60, 61]⟩, .string ⟨#[62, 61]⟩, .string ⟨#[40]⟩, .string ⟨#[41]⟩, .string ⟨#[123]⟩, .string ⟨#[125]⟩, .string ⟨#[94]⟩, .string ⟨#[43]⟩, .string ⟨#[45]⟩, .string ⟨#[33]⟩, .string ⟨#[126]⟩, .string ⟨#[60]⟩, .string ⟨#[62]⟩, .string ⟨#[61]⟩, .string ⟨#[42]⟩] : Array Value) = ((List.range 20).map fun i => Value.string (sgn i)).toArray := rfl
    rw [e]; simp [hj]
  have hcs : ∀ w', Below W2.heap.size W2 w' → ∀ j, j < 20 → w'.cell? ⟨w.heap.size + 1, j, none⟩ = some (.string (g j)) := fun w' h j hj => by
    have hx : W2.heap[w.heap.size + 1]? = some (.cells #[.string ⟨#[45, 45, 62]⟩, .string ⟨#[60, 61, 62]⟩, .string ⟨#[60, 60]⟩, .string ⟨#[62, 62]⟩, .string ⟨#[60, 62]⟩, .string ⟨#[60, 61]⟩, .string ⟨#[62, 61]⟩, .string ⟨#[40]⟩, .string ⟨#[41]⟩, .string ⟨#[123]⟩, .string ⟨#[125]⟩, .string ⟨#[94]⟩, .string ⟨#[43]⟩, .string ⟨#[45]⟩, .string ⟨#[33]⟩, .string ⟨#[126]⟩, .string ⟨#[60]⟩, .string ⟨#[62]⟩, .string ⟨#[61]⟩, .string ⟨#[42]⟩] 9 (0, 0)) := by rw [hW2]; exact new_at (by simp)
    rw [cells_of ((h.block _ (heap_lt hx)).trans hx), hrow j hj, HG.out]
  have hcells : ∀ w', Below W2.heap.size W2 w' → (w'.cell? ⟨w.heap.size, 0, none⟩ = some (.int .i64 0) ∧ w'.cell? ⟨w.heap.size, 1, none⟩ = some (.string ⟨#[]⟩) ∧ w'.cell? ⟨w.heap.size, 2, none⟩ = some (.int .i64 0)
      ∧ w'.frozen? ⟨w.heap.size, 0, none⟩ = false ∧ w'.frozen? ⟨w.heap.size, 1, none⟩ = false ∧ w'.frozen? ⟨w.heap.size, 2, none⟩ = false) ∧ Hid (w'.heap[w.heap.size]? = some (.cells #[.int .i64 0, .string ⟨#[]⟩, .int .i64 0] 46 (0, 0))) := by
    intro w' h
    have h2 := (h.block _ (heap_lt hres)).trans hres
    exact ⟨⟨by rw [cells_of h2]; rfl, by rw [cells_of h2]; rfl, by rw [cells_of h2]; rfl, frozen_of h2, frozen_of h2, frozen_of h2⟩, h2⟩
  have fin : ∀ (w2 : World) (a b c : Value), Below W2.heap.size W2 w2 → Below w.heap.size w (((w2.setCell ⟨w.heap.size, 0, none⟩ a).setCell ⟨w.heap.size, 1, none⟩ b).setCell ⟨w.heap.size, 2, none⟩ c) := fun w2 a b c h =>
    (((hB2.trans (h.mono hB2.size)).setCell (Nat.le_refl _) _).setCell (Nat.le_refl _) _).setCell (Nat.le_refl _) _
  have HCS := Lib.hid hcs
  have HC := Lib.hid hcells
  have HF := Lib.hid fin
  have HW2 := Lib.hid hW2
  clear hcs hcells fin hB2 hres hrow hW2
  rw [← HW2.out]
  go_loopw [13] (fun i wr => ∃ j : Nat, j ≤ 20 ∧ i = .int .i64 j ∧ Hid (∀ i, i < j → Lib.hasPrefix (t.data.toList.drop k) (g i).data.toList = false) ∧ Hid (Below W2.heap.size W2 wr)) (fun i _ => 20 - (intOf i).toNat)
  case atStart => exact ⟨0, Nat.zero_le _, rfl, Lib.hid (fun i hi => absurd hi (by omega)), Lib.hid (Below.refl _ _)⟩
  case round =>
    obtain ⟨j, hj, rfl, hno, hBr⟩ := hrel
    by_cases hjl : j < 20
    · have hji : (j : Int) < 20 := by omega
      have cj := HCS.out wr hBr.out j hjl
      cases hpx : Lib.hasPrefix (t.data.toList.drop k) (g j).data.toList with
      | true =>
        obtain ⟨hz, hK, hle, hex⟩ := HT.out.1 j hjl hno.out hpx
        have hq3 : (g j).size ≤ 3 := by rw [HG.out]; exact sgn_size j hjl
        have HCJ := Lib.hid (fun w' (h : Below W2.heap.size W2 w') => HCS.out w' h j hjl)
        generalize g j = q at cj hz hK hle hex hq3 HCJ
        have hsl : ∀ w', (Instr.slice 9 (.string t) (some (.int .i64 (k : Int))) (some (.int .i64 ((k : Int) + (q.size : Int)))) none).run Tryd.prog w' = .ok (.string q) w' := fun w' => by
          have h := str_slice t k (k + q.size) (by omega) hle w'
          rw [hex, Int.natCast_add] at h; exact h
        have d1 : decide ((q.size : Int) ≤ (t.size : Int) - (k : Int)) = true := by simp; omega
        have hw1 : IntKind.i64.wrap ((k : Int) + (q.size : Int)) = (k : Int) + (q.size : Int) := by rw [IntKind.wrap_i64]; omega
        subst hz; subst hK
        clear hex hpx
        go_wp2_with fail
        go_quiet (fail)
        obtain ⟨wz, hWz⟩ : ∃ wz, wz = wr.drewN nq := ⟨_, rfl⟩
        rw [← hWz]
        have hbz : Below W2.heap.size W2 wz := by rw [hWz]; exact bdN _ hBr.out
        obtain ⟨⟨c0, c1, c2, f0, f1, f2⟩, H2⟩ := HC.out wz hbz
        have cz := HCJ.out wz hbz
        have HBz := Lib.hid hbz
        clear hWz hbz cj
        go_wp2_with fail
        obtain ⟨s0, s1, s2⟩ := set3 (a := .int .i64 4) (b := .string q) (c := .int .i64 k) H2.out
        refine bodyPost_ret (by simp [results, Tryd.results20, go_sem, s0, s1, s2]; rfl) rfl ?_
        exact ⟨rfl, HF.out _ _ _ _ HBz.out⟩
      | false =>
        obtain ⟨hq3, hne⟩ := HT.out.2.1 j hjl hpx
        have HN : Hid (∀ i, i < j + 1 → Lib.hasPrefix (t.data.toList.drop k) (g i).data.toList = false) := Lib.hid (fun i hi => by
          rcases Nat.lt_or_ge i j with h | h
          · exact hno.out i h
          · obtain rfl : i = j := by omega
            exact hpx)
        generalize g j = q at cj hq3 hne
        clear hpx
        by_cases hle : k + q.size ≤ t.size
        · have hne := str_ne (hne hle)
          obtain ⟨P, hP⟩ : ∃ P, P = t.extract k (k + q.size) := ⟨_, rfl⟩
          have hsl : ∀ w', (Instr.slice 9 (.string t) (some (.int .i64 (k : Int))) (some (.int .i64 ((k : Int) + (q.size : Int)))) none).run Tryd.prog w' = .ok (.string P) w' := fun w' => by
            have h := str_slice t k (k + q.size) (by omega) hle w'
            rw [← hP, Int.natCast_add] at h; exact h
          rw [← hP] at hne
          have d1 : decide ((q.size : Int) ≤ (t.size : Int) - (k : Int)) = true := by simp; omega
          have hw1 : IntKind.i64.wrap ((k : Int) + (q.size : Int)) = (k : Int) + (q.size : Int) := by rw [IntKind.wrap_i64]; omega
          clear hP
          go_wp2_with fail
          go_quiet (fail)
          go_wp2_with fail
          go_roundw
          case rel => exact ⟨j + 1, by omega, by go_num, HN, Lib.hid (bdN _ hBr.out)⟩
          case measure => simp [intOf]; omega
        · have d1 : decide ((q.size : Int) ≤ (t.size : Int) - (k : Int)) = false := by simp; omega
          clear hne
          go_wp2_with fail
          go_quiet (fail)
          go_wp2_with fail
          go_roundw
          case rel => exact ⟨j + 1, by omega, by go_num, HN, Lib.hid (bdN _ hBr.out)⟩
          case measure => simp [intOf]; omega
    · obtain rfl : j = 20 := by omega
      obtain ⟨hz, hK⟩ := HT.out.2.2 hno.out
      obtain ⟨P, hP⟩ : ∃ P, P = t.extract k (k + 1) := ⟨_, rfl⟩
      rw [← hP] at hz
      have hsl : ∀ w', (Instr.slice 9 (.string t) (some (.int .i64 (k : Int))) (some (.int .i64 ((k : Int) + 1))) none).run Tryd.prog w' = .ok (.string P) w' := fun w' => by
        have h := str_slice t k (k + 1) (by omega) (by omega) w'
        rw [← hP, Int.natCast_add] at h; exact h
      subst hz; subst hK
      obtain ⟨⟨c0, c1, c2, f0, f1, f2⟩, H2⟩ := HC.out wr hBr.out
      clear hP
      go_wp2_with fail
      obtain ⟨s0, s1, s2⟩ := set3 (a := .int .i64 6) (b := .string P) (c := .int .i64 k) H2.out
      refine bodyPost_ret (by simp [results, Tryd.results20, go_sem, s0, s1, s2]; rfl) rfl ?_
      exact ⟨rfl, HF.out _ _ _ _ hBr.out⟩
set_option maxRecDepth 100000 in
set_option maxHeartbeats 8000000 in
theorem rone_p7 (t : ByteArray) (w : World) (ht : t.size ≤ 1000000) (k : Nat) (hk : k < t.size) (hsm : smallB t[k] = false) (hdc : digB t[k] = false) (h60 : t[k].toNat = 60) (hk1 : k + 1 < t.size) (hsn : smallB t[k + 1] = true) (m : Nat) (hm : m = k + 1 + runL partB (t.data.toList.drop (k + 1))) (hml : m < t.size) (h62 : ¬ t[m].toNat = 62)
    (z : Sy) (K : Nat) (g : Nat → ByteArray) (hg : g = sgn) (hT : SignTells t k z K g) : Calls Tryd.prog 20 #[.string t, .int .i64 k] w (OneOut w z K) := by
  have hki : (k : Int) < (t.size : Int) := by omega
  have b45 : ((t[k].toNat : Int) == 45) = false := by simp; omega
  have b60 : ((t[k].toNat : Int) == 60) = true := by simp; omega
  have hki1 : (k : Int) + 1 < (t.size : Int) := by omega
  have hmi : (m : Int) < (t.size : Int) := by omega
  have b62 : ((t[m].toNat : Int) == 62) = false := by simp; omega
  have hpa := fun w' => rparts_any t w' ht (k + 1) (by omega) m hm
  rw [show ((k + 1 : Nat) : Int) = (k : Int) + 1 from Int.natCast_add k 1] at hpa
  have HP := Lib.hid hpa
  clear h60 hpa hm h62
  have HT := Lib.hid hT
  have HG := Lib.hid hg
  unfold OneOut
  clear hT hg
  go_enter Tryd.func20, Tryd.ntmps20
  go_wp2_with (first | (go_at_call 26; refine (rsmall_any _ _).mono ?_; rintro e w' ⟨rfl, rfl⟩; first | rw [hsm] | rw [hsn]) | (go_at_call 29; refine (rdig_any _ _).mono ?_; rintro e w' ⟨rfl, rfl⟩; first | rw [hdc] | rw [hdn]) | (go_at_call 27; refine (HP.out _).mono ?_; rintro e w' ⟨rfl, rfl⟩))
  obtain ⟨W2, hW2⟩ : ∃ W2, W2 = (w.alloc (.cells #[.int .i64 0, .string ⟨#[]⟩, .int .i64 0] 46)).alloc (.cells #[.string ⟨#[45, 45, 62]⟩, .string ⟨#[60, 61, 62]⟩, .string ⟨#[60, 60]⟩, .string ⟨#[62, 62]⟩, .string ⟨#[60, 62]⟩, .string ⟨#[60, 61]⟩, .string ⟨#[62, 61]⟩, .string ⟨#[40]⟩, .string ⟨#[41]⟩, .string ⟨#[123]⟩, .string ⟨#[125]⟩, .string ⟨#[94]⟩, .string ⟨#[43]⟩, .string ⟨#[45]⟩, .string ⟨#[33]⟩, .string ⟨#[126]⟩, .string ⟨#[60]⟩, .string ⟨#[62]⟩, .string ⟨#[61]⟩, .string ⟨#[42]⟩] 9) := ⟨_, rfl⟩
  have hB2 : Below w.heap.size w W2 := by rw [hW2]; go_grown
  have hres : W2.heap[w.heap.size]? = some (.cells #[.int .i64 0, .string ⟨#[]⟩, .int .i64 0] 46 (0, 0)) := by rw [hW2]; exact (Below.heap_alloc _ _ _ (by simp)).trans (new_at rfl)
  have hrow : ∀ j, j < 20 → (#[.string ⟨#[45, 45, 62]⟩, .string ⟨#[60, 61, 62]⟩, .string ⟨#[60, 60]⟩, .string ⟨#[62, 62]⟩, .string ⟨#[60, 62]⟩, .string ⟨#[60, 61]⟩, .string ⟨#[62, 61]⟩, .string ⟨#[40]⟩, .string ⟨#[41]⟩, .string ⟨#[123]⟩, .string ⟨#[125]⟩, .string ⟨#[94]⟩, .string ⟨#[43]⟩, .string ⟨#[45]⟩, .string ⟨#[33]⟩, .string ⟨#[126]⟩, .string ⟨#[60]⟩, .string ⟨#[62]⟩, .string ⟨#[61]⟩, .string ⟨#[42]⟩] : Array Value)[j]? = some (.string (sgn j)) := fun j hj => by
    have e : (#[.string ⟨#[45, 45, 62]⟩, .string ⟨#[60, 61, 62]⟩, .string ⟨#[60, 60]⟩, .string ⟨#[62, 62]⟩, .string ⟨#[60, 62]⟩, .string ⟨#[60, 61]⟩, .string ⟨#[62, 61]⟩, .string ⟨#[40]⟩, .string ⟨#[41]⟩, .string ⟨#[123]⟩, .string ⟨#[125]⟩, .string ⟨#[94]⟩, .string ⟨#[43]⟩, .string ⟨#[45]⟩, .string ⟨#[33]⟩, .string ⟨#[126]⟩, .string ⟨#[60]⟩, .string ⟨#[62]⟩, .string ⟨#[61]⟩, .string ⟨#[42]⟩] : Array Value) = ((List.range 20).map fun i => Value.string (sgn i)).toArray := rfl
    rw [e]; simp [hj]
  have hcs : ∀ w', Below W2.heap.size W2 w' → ∀ j, j < 20 → w'.cell? ⟨w.heap.size + 1, j, none⟩ = some (.string (g j)) := fun w' h j hj => by
    have hx : W2.heap[w.heap.size + 1]? = some (.cells #[.string ⟨#[45, 45, 62]⟩, .string ⟨#[60, 61, 62]⟩, .string ⟨#[60, 60]⟩, .string ⟨#[62, 62]⟩, .string ⟨#[60, 62]⟩, .string ⟨#[60, 61]⟩, .string ⟨#[62, 61]⟩, .string ⟨#[40]⟩, .string ⟨#[41]⟩, .string ⟨#[123]⟩, .string ⟨#[125]⟩, .string ⟨#[94]⟩, .string ⟨#[43]⟩, .string ⟨#[45]⟩, .string ⟨#[33]⟩, .string ⟨#[126]⟩, .string ⟨#[60]⟩, .string ⟨#[62]⟩, .string ⟨#[61]⟩, .string ⟨#[42]⟩] 9 (0, 0)) := by rw [hW2]; exact new_at (by simp)
    rw [cells_of ((h.block _ (heap_lt hx)).trans hx), hrow j hj, HG.out]
  have hcells : ∀ w', Below W2.heap.size W2 w' → (w'.cell? ⟨w.heap.size, 0, none⟩ = some (.int .i64 0) ∧ w'.cell? ⟨w.heap.size, 1, none⟩ = some (.string ⟨#[]⟩) ∧ w'.cell? ⟨w.heap.size, 2, none⟩ = some (.int .i64 0)
      ∧ w'.frozen? ⟨w.heap.size, 0, none⟩ = false ∧ w'.frozen? ⟨w.heap.size, 1, none⟩ = false ∧ w'.frozen? ⟨w.heap.size, 2, none⟩ = false) ∧ Hid (w'.heap[w.heap.size]? = some (.cells #[.int .i64 0, .string ⟨#[]⟩, .int .i64 0] 46 (0, 0))) := by
    intro w' h
    have h2 := (h.block _ (heap_lt hres)).trans hres
    exact ⟨⟨by rw [cells_of h2]; rfl, by rw [cells_of h2]; rfl, by rw [cells_of h2]; rfl, frozen_of h2, frozen_of h2, frozen_of h2⟩, h2⟩
  have fin : ∀ (w2 : World) (a b c : Value), Below W2.heap.size W2 w2 → Below w.heap.size w (((w2.setCell ⟨w.heap.size, 0, none⟩ a).setCell ⟨w.heap.size, 1, none⟩ b).setCell ⟨w.heap.size, 2, none⟩ c) := fun w2 a b c h =>
    (((hB2.trans (h.mono hB2.size)).setCell (Nat.le_refl _) _).setCell (Nat.le_refl _) _).setCell (Nat.le_refl _) _
  have HCS := Lib.hid hcs
  have HC := Lib.hid hcells
  have HF := Lib.hid fin
  have HW2 := Lib.hid hW2
  clear hcs hcells fin hB2 hres hrow hW2
  rw [← HW2.out]
  go_loopw [13] (fun i wr => ∃ j : Nat, j ≤ 20 ∧ i = .int .i64 j ∧ Hid (∀ i, i < j → Lib.hasPrefix (t.data.toList.drop k) (g i).data.toList = false) ∧ Hid (Below W2.heap.size W2 wr)) (fun i _ => 20 - (intOf i).toNat)
  case atStart => exact ⟨0, Nat.zero_le _, rfl, Lib.hid (fun i hi => absurd hi (by omega)), Lib.hid (Below.refl _ _)⟩
  case round =>
    obtain ⟨j, hj, rfl, hno, hBr⟩ := hrel
    by_cases hjl : j < 20
    · have hji : (j : Int) < 20 := by omega
      have cj := HCS.out wr hBr.out j hjl
      cases hpx : Lib.hasPrefix (t.data.toList.drop k) (g j).data.toList with
      | true =>
        obtain ⟨hz, hK, hle, hex⟩ := HT.out.1 j hjl hno.out hpx
        have hq3 : (g j).size ≤ 3 := by rw [HG.out]; exact sgn_size j hjl
        have HCJ := Lib.hid (fun w' (h : Below W2.heap.size W2 w') => HCS.out w' h j hjl)
        generalize g j = q at cj hz hK hle hex hq3 HCJ
        have hsl : ∀ w', (Instr.slice 9 (.string t) (some (.int .i64 (k : Int))) (some (.int .i64 ((k : Int) + (q.size : Int)))) none).run Tryd.prog w' = .ok (.string q) w' := fun w' => by
          have h := str_slice t k (k + q.size) (by omega) hle w'
          rw [hex, Int.natCast_add] at h; exact h
        have d1 : decide ((q.size : Int) ≤ (t.size : Int) - (k : Int)) = true := by simp; omega
        have hw1 : IntKind.i64.wrap ((k : Int) + (q.size : Int)) = (k : Int) + (q.size : Int) := by rw [IntKind.wrap_i64]; omega
        subst hz; subst hK
        clear hex hpx
        go_wp2_with fail
        go_quiet (fail)
        obtain ⟨wz, hWz⟩ : ∃ wz, wz = wr.drewN nq := ⟨_, rfl⟩
        rw [← hWz]
        have hbz : Below W2.heap.size W2 wz := by rw [hWz]; exact bdN _ hBr.out
        obtain ⟨⟨c0, c1, c2, f0, f1, f2⟩, H2⟩ := HC.out wz hbz
        have cz := HCJ.out wz hbz
        have HBz := Lib.hid hbz
        clear hWz hbz cj
        go_wp2_with fail
        obtain ⟨s0, s1, s2⟩ := set3 (a := .int .i64 4) (b := .string q) (c := .int .i64 k) H2.out
        refine bodyPost_ret (by simp [results, Tryd.results20, go_sem, s0, s1, s2]; rfl) rfl ?_
        exact ⟨rfl, HF.out _ _ _ _ HBz.out⟩
      | false =>
        obtain ⟨hq3, hne⟩ := HT.out.2.1 j hjl hpx
        have HN : Hid (∀ i, i < j + 1 → Lib.hasPrefix (t.data.toList.drop k) (g i).data.toList = false) := Lib.hid (fun i hi => by
          rcases Nat.lt_or_ge i j with h | h
          · exact hno.out i h
          · obtain rfl : i = j := by omega
            exact hpx)
        generalize g j = q at cj hq3 hne
        clear hpx
        by_cases hle : k + q.size ≤ t.size
        · have hne := str_ne (hne hle)
          obtain ⟨P, hP⟩ : ∃ P, P = t.extract k (k + q.size) := ⟨_, rfl⟩
          have hsl : ∀ w', (Instr.slice 9 (.string t) (some (.int .i64 (k : Int))) (some (.int .i64 ((k : Int) + (q.size : Int)))) none).run Tryd.prog w' = .ok (.string P) w' := fun w' => by
            have h := str_slice t k (k + q.size) (by omega) hle w'
            rw [← hP, Int.natCast_add] at h; exact h
          rw [← hP] at hne
          have d1 : decide ((q.size : Int) ≤ (t.size : Int) - (k : Int)) = true := by simp; omega
          have hw1 : IntKind.i64.wrap ((k : Int) + (q.size : Int)) = (k : Int) + (q.size : Int) := by rw [IntKind.wrap_i64]; omega
          clear hP
          go_wp2_with fail
          go_quiet (fail)
          go_wp2_with fail
          go_roundw
          case rel => exact ⟨j + 1, by omega, by go_num, HN, Lib.hid (bdN _ hBr.out)⟩
          case measure => simp [intOf]; omega
        · have d1 : decide ((q.size : Int) ≤ (t.size : Int) - (k : Int)) = false := by simp; omega
          clear hne
          go_wp2_with fail
          go_quiet (fail)
          go_wp2_with fail
          go_roundw
          case rel => exact ⟨j + 1, by omega, by go_num, HN, Lib.hid (bdN _ hBr.out)⟩
          case measure => simp [intOf]; omega
    · obtain rfl : j = 20 := by omega
      obtain ⟨hz, hK⟩ := HT.out.2.2 hno.out
      obtain ⟨P, hP⟩ : ∃ P, P = t.extract k (k + 1) := ⟨_, rfl⟩
      rw [← hP] at hz
      have hsl : ∀ w', (Instr.slice 9 (.string t) (some (.int .i64 (k : Int))) (some (.int .i64 ((k : Int) + 1))) none).run Tryd.prog w' = .ok (.string P) w' := fun w' => by
        have h := str_slice t k (k + 1) (by omega) (by omega) w'
        rw [← hP, Int.natCast_add] at h; exact h
      subst hz; subst hK
      obtain ⟨⟨c0, c1, c2, f0, f1, f2⟩, H2⟩ := HC.out wr hBr.out
      clear hP
      go_wp2_with fail
      obtain ⟨s0, s1, s2⟩ := set3 (a := .int .i64 6) (b := .string P) (c := .int .i64 k) H2.out
      refine bodyPost_ret (by simp [results, Tryd.results20, go_sem, s0, s1, s2]; rfl) rfl ?_
      exact ⟨rfl, HF.out _ _ _ _ hBr.out⟩
end Go.Proofs.YtocdclcemebaeaaDoor
