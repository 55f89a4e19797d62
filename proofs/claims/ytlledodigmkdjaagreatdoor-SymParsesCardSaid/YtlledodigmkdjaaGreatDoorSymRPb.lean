/-
  Walks over ponderref04: Parse. No condition.
-/
import Derived.Test.YtlledodigmkdjaaGreatDoorSymRP0
import Derived.Deep.RegionHeld3
import Derived.Deep.RegionWith
import Derived.BigRegion
namespace Go.Proofs.YtlledodigmkdjaaGreatDoor
set_option linter.unusedVariables false
open Go.RowKit

set_option maxHeartbeats 2000000 in
theorem rparse_num_yes (t : ByteArray) (w : World) (ht : t.size ≤ 1000000) (hw : wordB t.data.toList = false) (hf : ¬ idForm t) (n : Int) (ho : readL t.data.toList = some n) (hval : validY ⟨2, ⟨#[]⟩, n⟩ = true) :
    Calls Tryz.prog 14 #[.string t] w fun e w' => e = .returned (.tuple #[.agg #[.int .i64 2, .string ⟨#[]⟩, .int .i64 n], .bool true]) ∧ Below w.heap.size w w' := by
  obtain ⟨W1, hW1⟩ : ∃ W1, W1 = w.alloc (.cells #[.int .i64 0, .string ⟨#[]⟩, .int .i64 0] 23) := ⟨_, rfl⟩
  have hB : Below w.heap.size w W1 := by rw [hW1]; go_grown
  have hx : W1.heap[w.heap.size]? = some (.cells #[.int .i64 0, .string ⟨#[]⟩, .int .i64 0] 23 (0, 0)) := by rw [hW1]; exact new_at rfl
  obtain ⟨Wb, hWb⟩ : ∃ Wb, Wb = W1.alloc (.cells #[.int .i64 2, .string ⟨#[]⟩, .int .i64 n] 23) := ⟨_, rfl⟩
  have hBb : Below W1.heap.size W1 Wb := by rw [hWb]; exact (Below.refl _ _).alloc (Nat.le_refl _) _
  have hxb : Wb.heap[w.heap.size]? = some (.cells #[.int .i64 0, .string ⟨#[]⟩, .int .i64 0] 23 (0, 0)) := (hBb.block _ (heap_lt hx)).trans hx
  have hsz : W1.heap.size = w.heap.size + 1 := by rw [hW1]; simp
  have hyb : Wb.heap[w.heap.size + 1]? = some (.cells #[.int .i64 2, .string ⟨#[]⟩, .int .i64 n] 23 (0, 0)) := by rw [hWb]; exact new_at hsz.symm
  have hlt : w.heap.size < W1.heap.size := heap_lt hx
  have hres : ∀ w', Below Wb.heap.size Wb w' → (w'.cell? ⟨w.heap.size, 0, none⟩ = some (.int .i64 0) ∧ w'.cell? ⟨w.heap.size, 1, none⟩ = some (.string ⟨#[]⟩) ∧ w'.cell? ⟨w.heap.size, 2, none⟩ = some (.int .i64 0)
      ∧ w'.frozen? ⟨w.heap.size, 0, none⟩ = false ∧ w'.frozen? ⟨w.heap.size, 1, none⟩ = false ∧ w'.frozen? ⟨w.heap.size, 2, none⟩ = false) ∧ Hid (w'.heap[w.heap.size]? = some (.cells #[.int .i64 0, .string ⟨#[]⟩, .int .i64 0] 23 (0, 0))) := by
    intro w' h
    have h2 := (h.block _ (heap_lt hxb)).trans hxb
    exact ⟨⟨by rw [cells_of h2]; rfl, by rw [cells_of h2]; rfl, by rw [cells_of h2]; rfl, frozen_of h2, frozen_of h2, frozen_of h2⟩, h2⟩
  have hk : ∀ w', Touch (fun k => k = w.heap.size) Wb w' → (w'.cell? ⟨w.heap.size + 1, 0, none⟩ = some (.int .i64 2) ∧ w'.cell? ⟨w.heap.size + 1, 1, none⟩ = some (.string ⟨#[]⟩) ∧ w'.cell? ⟨w.heap.size + 1, 2, none⟩ = some (.int .i64 n)) := by
    intro w' h
    have h2 := (h.block (w.heap.size + 1) (heap_lt hyb) (by show ¬ w.heap.size + 1 = w.heap.size; omega)).trans hyb
    exact ⟨by rw [cells_of h2]; rfl, by rw [cells_of h2]; rfl, by rw [cells_of h2]; rfl⟩
  have hrw := fun w' => rword_any t w' ht
  rw [hw] at hrw
  have hrd := fun w' => rread_any t w' (by exact ht)
  rw [ho, retO_some] at hrd
  have hv := fun w' => rvalid_any (⟨2, ⟨#[]⟩, n⟩ : Sy) w' (by show (0 : Nat) ≤ 1000000; omega)
  rw [hval] at hv
  have Hv := Lib.hid hv
  clear hv hval
  have honly := fun w' => only_yes (⟨2, ⟨#[]⟩, n⟩ : Sy) w'
  simp only at honly
  obtain ⟨⟨e0, e1, e2, g0, g1, g2⟩, -⟩ := hres Wb (Below.refl _ _)
  obtain ⟨m0, m1, m2⟩ := hk Wb (Touch.refl _ _)
  have HK := Lib.hid hk
  have HRes := Lib.hid hres
  have HB := Lib.hid hB
  have HW := Lib.hid hW1
  have HWb := Lib.hid hWb
  have HBb := Lib.hid (hB.trans (hBb.mono hB.size))
  have Hrw := Lib.hid hrw
  have Hrd := Lib.hid hrd
  have Honly := Lib.hid honly
  have hcur : Hid (Below Wb.heap.size Wb Wb.drew) := Lib.hid (Below.refl _ _).drew
  have hnc : t.size ≤ 1 ∨ (∃ h : 1 < t.size, t[0].toNat < 65) ∨ (∃ h : 1 < t.size, 65 ≤ t[0].toNat ∧ 90 < t[0].toNat) ∨ (∃ h : 1 < t.size, 65 ≤ t[0].toNat ∧ t[0].toNat ≤ 90 ∧ ((t[1].toNat : Int) != 45) = false) := by
    by_cases h1 : 1 < t.size
    · by_cases h2 : t[0].toNat < 65
      · exact .inr (.inl ⟨h1, h2⟩)
      · by_cases h3 : 90 < t[0].toNat
        · exact .inr (.inr (.inl ⟨h1, by omega, h3⟩))
        · have h4 : t[1].toNat = 45 := Decidable.byContradiction fun h => hf ⟨h1, by simp [capB]; omega, h⟩
          exact .inr (.inr (.inr ⟨h1, by omega, by omega, by simp; omega⟩))
    · exact .inl (by omega)
  clear hf
  clear hk hres hB hW1 hWb hBb hrw hrd honly hx hxb hyb hw hsz
  rcases hnc with hc | ⟨hp, hc⟩ | ⟨hp, hc, hc2⟩ | ⟨hp, hc, hc2, b45⟩
  all_goals
    go_enter Tryz.func14, Tryz.ntmps14
    go_wp2_with (first | (go_at_call 16; refine (Hrw.out _).mono ?_; rintro e w' ⟨rfl, rfl⟩) | (go_at_call 37; refine (Hrd.out _).mono ?_; rintro e w' ⟨rfl, rfl⟩))
    rw [← HW.out, ← HWb.out]
    go_region_held3 (fun w' => Touch (fun k => k = w.heap.size) Wb w' ∧ w'.cell? ⟨w.heap.size + 1, 0, none⟩ = some (.int .i64 2) ∧ w'.cell? ⟨w.heap.size + 1, 1, none⟩ = some (.string ⟨#[]⟩) ∧ w'.cell? ⟨w.heap.size + 1, 2, none⟩ = some (.int .i64 n))
      (first | exact ⟨Touch.ofBelow hcur.out, HK.out _ (Touch.ofBelow hcur.out)⟩ | exact (fun hh => ⟨hh, HK.out _ hh⟩) ((((Touch.ofBelow hcur.out).trans (Touch.set _ _ _ _)).trans (Touch.set _ _ _ _)).trans (Touch.set _ _ _ _)) | go_keep)
      (first | (go_at_call 10; refine (Hv.out _).mono ?_; rintro e wx ⟨rfl, hbx⟩; replace hcur := Lib.hid (hcur.out.trans (hbx.mono hcur.out.size)); clear hbx) | (go_at_call 38; refine (Honly.out _).mono ?_; rintro e wy ⟨rfl, hbx⟩; replace hcur := Lib.hid (hcur.out.trans (hbx.mono hcur.out.size)); obtain ⟨⟨r0, r1, r2, f0, f1, f2⟩, HX⟩ := HRes.out _ hcur.out; clear hbx))
    rename_i hHeld
    have HF := Lib.hid (((Touch.ofBelow HBb.out).trans hHeld.1).below (Nat.le_refl _) (fun k _ hk => by omega))
    clear hHeld
    go_wp2_with fail
    obtain ⟨s0, s1, s2⟩ := set3 (a := .int .i64 2) (b := .string ⟨#[]⟩) (c := .int .i64 n) HX.out
    refine bodyPost_ret (by simp [results, Tryz.results14, go_sem, s0, s1, s2]; rfl) rfl ?_
    exact ⟨rfl, HF.out⟩
end Go.Proofs.YtlledodigmkdjaaGreatDoor
