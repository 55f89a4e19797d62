/-
  Walks over ponderref04: Parse. No condition.
-/
import Derived.Test.YtlledodigmkdjaaGreatDoorSymRP0
import Derived.Deep.RegionHeld3
import Derived.Deep.RegionWith
import Derived.BigRegion
namespace Go.Proofs.YtlledodigmkdjaaGreatDoor
set_option linter.unusedVariables false
open Go.RowKit

set_option maxHeartbeats 2000000 in
theorem rparse_id_yes (t : ByteArray) (w : World) (ht : t.size ≤ 1000000) (hw : wordB t.data.toList = false) (hf : idForm t) (n : Int) (ho : readL (t.extract 1 t.size).data.toList = some n) (hval : validY ⟨1, (t.extract 0 1), n⟩ = true) :
    Calls Tryz.prog 14 #[.string t] w fun e w' => e = .returned (.tuple #[.agg #[.int .i64 1, .string (t.extract 0 1), .int .i64 n], .bool true]) ∧ Below w.heap.size w w' := by
  obtain ⟨W1, hW1⟩ : ∃ W1, W1 = w.alloc (.cells #[.int .i64 0, .string ⟨#[]⟩, .int .i64 0] 23) := ⟨_, rfl⟩
  have hB : Below w.heap.size w W1 := by rw [hW1]; go_grown
  have hx : W1.heap[w.heap.size]? = some (.cells #[.int .i64 0, .string ⟨#[]⟩, .int .i64 0] 23 (0, 0)) := by rw [hW1]; exact new_at rfl
  obtain ⟨Wb, hWb⟩ : ∃ Wb, Wb = W1.alloc (.cells #[.int .i64 1, .string (t.extract 0 1), .int .i64 n] 23) := ⟨_, rfl⟩
  have hBb : Below W1.heap.size W1 Wb := by rw [hWb]; exact (Below.refl _ _).alloc (Nat.le_refl _) _
  have hxb : Wb.heap[w.heap.size]? = some (.cells #[.int .i64 0, .string ⟨#[]⟩, .int .i64 0] 23 (0, 0)) := (hBb.block _ (heap_lt hx)).trans hx
  have hsz : W1.heap.size = w.heap.size + 1 := by rw [hW1]; simp
  have hyb : Wb.heap[w.heap.size + 1]? = some (.cells #[.int .i64 1, .string (t.extract 0 1), .int .i64 n] 23 (0, 0)) := by rw [hWb]; exact new_at hsz.symm
  have hlt : w.heap.size < W1.heap.size := heap_lt hx
  have hres : ∀ w', Below Wb.heap.size Wb w' → (w'.cell? ⟨w.heap.size, 0, none⟩ = some (.int .i64 0) ∧ w'.cell? ⟨w.heap.size, 1, none⟩ = some (.string ⟨#[]⟩) ∧ w'.cell? ⟨w.heap.size, 2, none⟩ = some (.int .i64 0)
      ∧ w'.frozen? ⟨w.heap.size, 0, none⟩ = false ∧ w'.frozen? ⟨w.heap.size, 1, none⟩ = false ∧ w'.frozen? ⟨w.heap.size, 2, none⟩ = false) ∧ Hid (w'.heap[w.heap.size]? = some (.cells #[.int .i64 0, .string ⟨#[]⟩, .int .i64 0] 23 (0, 0))) := by
    intro w' h
    have h2 := (h.block _ (heap_lt hxb)).trans hxb
    exact ⟨⟨by rw [cells_of h2]; rfl, by rw [cells_of h2]; rfl, by rw [cells_of h2]; rfl, frozen_of h2, frozen_of h2, frozen_of h2⟩, h2⟩
  have hk : ∀ w', Touch (fun k => k = w.heap.size) Wb w' → (w'.cell? ⟨w.heap.size + 1, 0, none⟩ = some (.int .i64 1) ∧ w'.cell? ⟨w.heap.size + 1, 1, none⟩ = some (.string (t.extract 0 1)) ∧ w'.cell? ⟨w.heap.size + 1, 2, none⟩ = some (.int .i64 n)) := by
    intro w' h
    have h2 := (h.block (w.heap.size + 1) (heap_lt hyb) (by show ¬ w.heap.size + 1 = w.heap.size; omega)).trans hyb
    exact ⟨by rw [cells_of h2]; rfl, by rw [cells_of h2]; rfl, by rw [cells_of h2]; rfl⟩
  have hrw := fun w' => rword_any t w' ht
  rw [hw] at hrw
  have hrd := fun w' => rread_any (t.extract 1 t.size) w' (by simp; omega)
  rw [ho, retO_some] at hrd
  have hv := fun w' => rvalid_any (⟨1, (t.extract 0 1), n⟩ : Sy) w' (by simp; omega)
  rw [hval] at hv
  have Hv := Lib.hid hv
  clear hv hval
  have honly := fun w' => only_yes (⟨1, (t.extract 0 1), n⟩ : Sy) w'
  simp only at honly
  obtain ⟨⟨e0, e1, e2, g0, g1, g2⟩, -⟩ := hres Wb (Below.refl _ _)
  obtain ⟨m0, m1, m2⟩ := hk Wb (Touch.refl _ _)
  have HK := Lib.hid hk
  have HRes := Lib.hid hres
  have HB := Lib.hid hB
  have HW := Lib.hid hW1
  have HWb := Lib.hid hWb
  have HBb := Lib.hid (hB.trans (hBb.mono hB.size))
  have Hrw := Lib.hid hrw
  have Hrd := Lib.hid hrd
  have Honly := Lib.hid honly
  have hcur : Hid (Below Wb.heap.size Wb Wb.drew) := Lib.hid (Below.refl _ _).drew
  obtain ⟨hp, hcap, hsg⟩ := hf
  have hp0 : 0 < t.size := by omega
  simp only [capB, decide_eq_true_eq] at hcap
  obtain ⟨hc1, hc2⟩ := hcap
  have b45 : ((t[1].toNat : Int) != 45) = true := by simp; omega
  clear hk hres hB hW1 hWb hBb hrw hrd honly hx hxb hyb hw hsz
  go_enter Tryz.func14, Tryz.ntmps14
  go_wp2_with (first | (go_at_call 16; refine (Hrw.out _).mono ?_; rintro e w' ⟨rfl, rfl⟩) | (go_at_call 37; refine (Hrd.out _).mono ?_; rintro e w' ⟨rfl, rfl⟩))
  rw [← HW.out, ← HWb.out]
  go_region_held3 (fun w' => Touch (fun k => k = w.heap.size) Wb w' ∧ w'.cell? ⟨w.heap.size + 1, 0, none⟩ = some (.int .i64 1) ∧ w'.cell? ⟨w.heap.size + 1, 1, none⟩ = some (.string (t.extract 0 1)) ∧ w'.cell? ⟨w.heap.size + 1, 2, none⟩ = some (.int .i64 n))
    (first | exact ⟨Touch.ofBelow hcur.out, HK.out _ (Touch.ofBelow hcur.out)⟩ | exact (fun hh => ⟨hh, HK.out _ hh⟩) ((((Touch.ofBelow hcur.out).trans (Touch.set _ _ _ _)).trans (Touch.set _ _ _ _)).trans (Touch.set _ _ _ _)) | go_keep)
    (first | (go_at_call 10; refine (Hv.out _).mono ?_; rintro e wx ⟨rfl, hbx⟩; replace hcur := Lib.hid (hcur.out.trans (hbx.mono hcur.out.size)); clear hbx) | (go_at_call 38; refine (Honly.out _).mono ?_; rintro e wy ⟨rfl, hbx⟩; replace hcur := Lib.hid (hcur.out.trans (hbx.mono hcur.out.size)); obtain ⟨⟨r0, r1, r2, f0, f1, f2⟩, HX⟩ := HRes.out _ hcur.out; clear hbx))
  rename_i hHeld
  have HF := Lib.hid (((Touch.ofBelow HBb.out).trans hHeld.1).below (Nat.le_refl _) (fun k _ hk => by omega))
  clear hHeld
  go_wp2_with fail
  obtain ⟨s0, s1, s2⟩ := set3 (a := .int .i64 1) (b := .string (t.extract 0 1)) (c := .int .i64 n) HX.out
  refine bodyPost_ret (by simp [results, Tryz.results14, go_sem, s0, s1, s2]; rfl) rfl ?_
  exact ⟨rfl, HF.out⟩

set_option maxHeartbeats 2000000 in
theorem rparse_id_no (t : ByteArray) (w : World) (ht : t.size ≤ 1000000) (hw : wordB t.data.toList = false) (hf : idForm t) (n : Int) (ho : readL (t.extract 1 t.size).data.toList = some n) (hval : validY ⟨1, (t.extract 0 1), n⟩ = false) :
    Calls Tryz.prog 14 #[.string t] w fun e w' => e = .returned (.tuple #[.agg #[.int .i64 0, .string ⟨#[]⟩, .int .i64 0], .bool false]) ∧ Below w.heap.size w w' := by
  obtain ⟨W1, hW1⟩ : ∃ W1, W1 = w.alloc (.cells #[.int .i64 0, .string ⟨#[]⟩, .int .i64 0] 23) := ⟨_, rfl⟩
  have hB : Below w.heap.size w W1 := by rw [hW1]; go_grown
  have hx : W1.heap[w.heap.size]? = some (.cells #[.int .i64 0, .string ⟨#[]⟩, .int .i64 0] 23 (0, 0)) := by rw [hW1]; exact new_at rfl
  obtain ⟨Wb, hWb⟩ : ∃ Wb, Wb = W1.alloc (.cells #[.int .i64 1, .string (t.extract 0 1), .int .i64 n] 23) := ⟨_, rfl⟩
  have hBb : Below W1.heap.size W1 Wb := by rw [hWb]; exact (Below.refl _ _).alloc (Nat.le_refl _) _
  have hxb : Wb.heap[w.heap.size]? = some (.cells #[.int .i64 0, .string ⟨#[]⟩, .int .i64 0] 23 (0, 0)) := (hBb.block _ (heap_lt hx)).trans hx
  have hsz : W1.heap.size = w.heap.size + 1 := by rw [hW1]; simp
  have hyb : Wb.heap[w.heap.size + 1]? = some (.cells #[.int .i64 1, .string (t.extract 0 1), .int .i64 n] 23 (0, 0)) := by rw [hWb]; exact new_at hsz.symm
  have hlt : w.heap.size < W1.heap.size := heap_lt hx
  have hres : ∀ w', Below Wb.heap.size Wb w' → (w'.cell? ⟨w.heap.size, 0, none⟩ = some (.int .i64 0) ∧ w'.cell? ⟨w.heap.size, 1, none⟩ = some (.string ⟨#[]⟩) ∧ w'.cell? ⟨w.heap.size, 2, none⟩ = some (.int .i64 0)
      ∧ w'.frozen? ⟨w.heap.size, 0, none⟩ = false ∧ w'.frozen? ⟨w.heap.size, 1, none⟩ = false ∧ w'.frozen? ⟨w.heap.size, 2, none⟩ = false) ∧ Hid (w'.heap[w.heap.size]? = some (.cells #[.int .i64 0, .string ⟨#[]⟩, .int .i64 0] 23 (0, 0))) := by
    intro w' h
    have h2 := (h.block _ (heap_lt hxb)).trans hxb
    exact ⟨⟨by rw [cells_of h2]; rfl, by rw [cells_of h2]; rfl, by rw [cells_of h2]; rfl, frozen_of h2, frozen_of h2, frozen_of h2⟩, h2⟩
  have hk : ∀ w', Touch (fun k => k = w.heap.size) Wb w' → (w'.cell? ⟨w.heap.size + 1, 0, none⟩ = some (.int .i64 1) ∧ w'.cell? ⟨w.heap.size + 1, 1, none⟩ = some (.string (t.extract 0 1)) ∧ w'.cell? ⟨w.heap.size + 1, 2, none⟩ = some (.int .i64 n)) := by
    intro w' h
    have h2 := (h.block (w.heap.size + 1) (heap_lt hyb) (by show ¬ w.heap.size + 1 = w.heap.size; omega)).trans hyb
    exact ⟨by rw [cells_of h2]; rfl, by rw [cells_of h2]; rfl, by rw [cells_of h2]; rfl⟩
  have hrw := fun w' => rword_any t w' ht
  rw [hw] at hrw
  have hrd := fun w' => rread_any (t.extract 1 t.size) w' (by simp; omega)
  rw [ho, retO_some] at hrd
  have hv := fun w' => rvalid_any (⟨1, (t.extract 0 1), n⟩ : Sy) w' (by simp; omega)
  rw [hval] at hv
  have Hv := Lib.hid hv
  clear hv hval
  have honly := fun w' => only_no (⟨1, (t.extract 0 1), n⟩ : Sy) w'
  simp only at honly
  obtain ⟨⟨e0, e1, e2, g0, g1, g2⟩, -⟩ := hres Wb (Below.refl _ _)
  obtain ⟨m0, m1, m2⟩ := hk Wb (Touch.refl _ _)
  have HK := Lib.hid hk
  have HRes := Lib.hid hres
  have HB := Lib.hid hB
  have HW := Lib.hid hW1
  have HWb := Lib.hid hWb
  have HBb := Lib.hid (hB.trans (hBb.mono hB.size))
  have Hrw := Lib.hid hrw
  have Hrd := Lib.hid hrd
  have Honly := Lib.hid honly
  have hcur : Hid (Below Wb.heap.size Wb Wb.drew) := Lib.hid (Below.refl _ _).drew
  obtain ⟨hp, hcap, hsg⟩ := hf
  have hp0 : 0 < t.size := by omega
  simp only [capB, decide_eq_true_eq] at hcap
  obtain ⟨hc1, hc2⟩ := hcap
  have b45 : ((t[1].toNat : Int) != 45) = true := by simp; omega
  clear hk hres hB hW1 hWb hBb hrw hrd honly hx hxb hyb hw hsz
  go_enter Tryz.func14, Tryz.ntmps14
  go_wp2_with (first | (go_at_call 16; refine (Hrw.out _).mono ?_; rintro e w' ⟨rfl, rfl⟩) | (go_at_call 37; refine (Hrd.out _).mono ?_; rintro e w' ⟨rfl, rfl⟩))
  rw [← HW.out, ← HWb.out]
  go_region_held3 (fun w' => Touch (fun k => k = w.heap.size) Wb w' ∧ w'.cell? ⟨w.heap.size + 1, 0, none⟩ = some (.int .i64 1) ∧ w'.cell? ⟨w.heap.size + 1, 1, none⟩ = some (.string (t.extract 0 1)) ∧ w'.cell? ⟨w.heap.size + 1, 2, none⟩ = some (.int .i64 n))
    (first | exact ⟨Touch.ofBelow hcur.out, HK.out _ (Touch.ofBelow hcur.out)⟩ | exact (fun hh => ⟨hh, HK.out _ hh⟩) ((((Touch.ofBelow hcur.out).trans (Touch.set _ _ _ _)).trans (Touch.set _ _ _ _)).trans (Touch.set _ _ _ _)) | go_keep)
    (first | (go_at_call 10; refine (Hv.out _).mono ?_; rintro e wx ⟨rfl, hbx⟩; replace hcur := Lib.hid (hcur.out.trans (hbx.mono hcur.out.size)); clear hbx) | (go_at_call 38; refine (Honly.out _).mono ?_; rintro e wy ⟨rfl, hbx⟩; replace hcur := Lib.hid (hcur.out.trans (hbx.mono hcur.out.size)); obtain ⟨⟨r0, r1, r2, f0, f1, f2⟩, HX⟩ := HRes.out _ hcur.out; clear hbx))
  rename_i hHeld
  have HF := Lib.hid (((Touch.ofBelow HBb.out).trans hHeld.1).below (Nat.le_refl _) (fun k _ hk => by omega))
  clear hHeld
  go_wp2_with fail
  obtain ⟨s0, s1, s2⟩ := set3 (a := .int .i64 0) (b := .string ⟨#[]⟩) (c := .int .i64 0) HX.out
  refine bodyPost_ret (by simp [results, Tryz.results14, go_sem, s0, s1, s2]; rfl) rfl ?_
  exact ⟨rfl, HF.out⟩

set_option maxHeartbeats 2000000 in
theorem rparse_id_none (t : ByteArray) (w : World) (ht : t.size ≤ 1000000) (hw : wordB t.data.toList = false) (hf : idForm t) (ho : readL (t.extract 1 t.size).data.toList = none) :
    Calls Tryz.prog 14 #[.string t] w fun e w' => e = .returned (.tuple #[.agg #[.int .i64 0, .string ⟨#[]⟩, .int .i64 0], .bool false]) ∧ Below w.heap.size w w' := by
  obtain ⟨W1, hW1⟩ : ∃ W1, W1 = w.alloc (.cells #[.int .i64 0, .string ⟨#[]⟩, .int .i64 0] 23) := ⟨_, rfl⟩
  have hB : Below w.heap.size w W1 := by rw [hW1]; go_grown
  have hx : W1.heap[w.heap.size]? = some (.cells #[.int .i64 0, .string ⟨#[]⟩, .int .i64 0] 23 (0, 0)) := by rw [hW1]; exact new_at rfl
  obtain ⟨Wb, hWb⟩ : ∃ Wb, Wb = W1.alloc (.cells #[.int .i64 1, .string (t.extract 0 1), .int .i64 0] 23) := ⟨_, rfl⟩
  have hBb : Below W1.heap.size W1 Wb := by rw [hWb]; exact (Below.refl _ _).alloc (Nat.le_refl _) _
  have hxb : Wb.heap[w.heap.size]? = some (.cells #[.int .i64 0, .string ⟨#[]⟩, .int .i64 0] 23 (0, 0)) := (hBb.block _ (heap_lt hx)).trans hx
  have hsz : W1.heap.size = w.heap.size + 1 := by rw [hW1]; simp
  have hyb : Wb.heap[w.heap.size + 1]? = some (.cells #[.int .i64 1, .string (t.extract 0 1), .int .i64 0] 23 (0, 0)) := by rw [hWb]; exact new_at hsz.symm
  have hlt : w.heap.size < W1.heap.size := heap_lt hx
  have hres : ∀ w', Below Wb.heap.size Wb w' → (w'.cell? ⟨w.heap.size, 0, none⟩ = some (.int .i64 0) ∧ w'.cell? ⟨w.heap.size, 1, none⟩ = some (.string ⟨#[]⟩) ∧ w'.cell? ⟨w.heap.size, 2, none⟩ = some (.int .i64 0)
      ∧ w'.frozen? ⟨w.heap.size, 0, none⟩ = false ∧ w'.frozen? ⟨w.heap.size, 1, none⟩ = false ∧ w'.frozen? ⟨w.heap.size, 2, none⟩ = false) ∧ Hid (w'.heap[w.heap.size]? = some (.cells #[.int .i64 0, .string ⟨#[]⟩, .int .i64 0] 23 (0, 0))) := by
    intro w' h
    have h2 := (h.block _ (heap_lt hxb)).trans hxb
    exact ⟨⟨by rw [cells_of h2]; rfl, by rw [cells_of h2]; rfl, by rw [cells_of h2]; rfl, frozen_of h2, frozen_of h2, frozen_of h2⟩, h2⟩
  have hk : ∀ w', Touch (fun k => k = w.heap.size) Wb w' → (w'.cell? ⟨w.heap.size + 1, 0, none⟩ = some (.int .i64 1) ∧ w'.cell? ⟨w.heap.size + 1, 1, none⟩ = some (.string (t.extract 0 1)) ∧ w'.cell? ⟨w.heap.size + 1, 2, none⟩ = some (.int .i64 0)) := by
    intro w' h
    have h2 := (h.block (w.heap.size + 1) (heap_lt hyb) (by show ¬ w.heap.size + 1 = w.heap.size; omega)).trans hyb
    exact ⟨by rw [cells_of h2]; rfl, by rw [cells_of h2]; rfl, by rw [cells_of h2]; rfl⟩
  have hrw := fun w' => rword_any t w' ht
  rw [hw] at hrw
  have hrd := fun w' => rread_any (t.extract 1 t.size) w' (by simp; omega)
  rw [ho, retO_none] at hrd
  skip
  have honly := fun w' => only_no (⟨1, (t.extract 0 1), 0⟩ : Sy) w'
  simp only at honly
  obtain ⟨⟨e0, e1, e2, g0, g1, g2⟩, -⟩ := hres Wb (Below.refl _ _)
  obtain ⟨m0, m1, m2⟩ := hk Wb (Touch.refl _ _)
  have HK := Lib.hid hk
  have HRes := Lib.hid hres
  have HB := Lib.hid hB
  have HW := Lib.hid hW1
  have HWb := Lib.hid hWb
  have HBb := Lib.hid (hB.trans (hBb.mono hB.size))
  have Hrw := Lib.hid hrw
  have Hrd := Lib.hid hrd
  have Honly := Lib.hid honly
  have hcur : Hid (Below Wb.heap.size Wb Wb.drew) := Lib.hid (Below.refl _ _).drew
  obtain ⟨hp, hcap, hsg⟩ := hf
  have hp0 : 0 < t.size := by omega
  simp only [capB, decide_eq_true_eq] at hcap
  obtain ⟨hc1, hc2⟩ := hcap
  have b45 : ((t[1].toNat : Int) != 45) = true := by simp; omega
  clear hk hres hB hW1 hWb hBb hrw hrd honly hx hxb hyb hw hsz
  go_enter Tryz.func14, Tryz.ntmps14
  go_wp2_with (first | (go_at_call 16; refine (Hrw.out _).mono ?_; rintro e w' ⟨rfl, rfl⟩) | (go_at_call 37; refine (Hrd.out _).mono ?_; rintro e w' ⟨rfl, rfl⟩))
  rw [← HW.out, ← HWb.out]
  go_region_with ((go_at_call 38; refine (Honly.out _).mono ?_; rintro e wy ⟨rfl, hbx⟩; replace hcur := Lib.hid (hcur.out.trans (hbx.mono hcur.out.size)); obtain ⟨⟨r0, r1, r2, f0, f1, f2⟩, HX⟩ := HRes.out _ hcur.out; clear hbx))
  all_goals
    have HF := Lib.hid ((((HBb.out.trans (hcur.out.mono HBb.out.size)).setCell (p := ⟨w.heap.size, 0, none⟩) (Nat.le_refl _) (.int .i64 0)).setCell (p := ⟨w.heap.size, 1, none⟩) (Nat.le_refl _) (.string ⟨#[]⟩)).setCell (p := ⟨w.heap.size, 2, none⟩) (Nat.le_refl _) (.int .i64 0))
    go_wp2_with fail
    obtain ⟨s0, s1, s2⟩ := set3 (a := .int .i64 0) (b := .string ⟨#[]⟩) (c := .int .i64 0) HX.out
    refine bodyPost_ret (by simp [results, Tryz.results14, go_sem, s0, s1, s2]; rfl) rfl ?_
    exact ⟨rfl, HF.out⟩
end Go.Proofs.YtlledodigmkdjaaGreatDoor
