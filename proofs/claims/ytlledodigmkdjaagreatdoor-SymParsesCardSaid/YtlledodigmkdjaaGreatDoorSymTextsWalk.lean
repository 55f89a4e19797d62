/-
  The walk of the law SymTexts. What strconv.Itoa gives is a premise.
-/
import Derived.Test.YtlledodigmkdjaaGreatDoorSymDig
import Derived.Test.YtlledodigmkdjaaGreatDoorSymWakes
namespace Go.Proofs.YtlledodigmkdjaaGreatDoor
set_option linter.unusedVariables false
open Go.RowKit
/-- strconv.Itoa, at whatever number a symbol may have. -/
def ItoaAll (w : World) : Prop := ∀ n : Int, -2147483648 ≤ n → n ≤ 2147483648 → ItoaAt w n
theorem ItoaAll.mono {w w1 : World} (h : ItoaAll w) (hb : Below w.heap.size w w1) : ItoaAll w1 := fun n h0 h1 => (h n h0 h1).mono hb
set_option maxHeartbeats 2000000 in
theorem texts_walk (w : World) (s : Sy) (hI : ItoaAll w) : Calls Tryz.prog 3 #[.agg #[.int .i64 s.k, .string s.t, .int .i64 s.n]] w fun e w' => e = .returned (.bool true) ∧ Below w.heap.size w w' := by
  obtain ⟨W1, hW1⟩ : ∃ W1, W1 = w.alloc (.cells #[.int .i64 s.k, .string s.t, .int .i64 s.n] 23) := ⟨_, rfl⟩
  have hB : Below w.heap.size w W1 := by rw [hW1]; go_grown
  have hx : W1.heap[w.heap.size]? = some (.cells #[.int .i64 s.k, .string s.t, .int .i64 s.n] 23 (0, 0)) := by rw [hW1]; exact new_at rfl
  have hk : ∀ w', Below W1.heap.size W1 w' → (w'.cell? ⟨w.heap.size, 0, none⟩ = some (.int .i64 s.k) ∧ w'.cell? ⟨w.heap.size, 1, none⟩ = some (.string s.t) ∧ w'.cell? ⟨w.heap.size, 2, none⟩ = some (.int .i64 s.n)) := by
    intro w' h
    have h2 := (h.block _ (heap_lt hx)).trans hx
    exact ⟨by rw [cells_of h2]; rfl, by rw [cells_of h2]; rfl, by rw [cells_of h2]; rfl⟩
  obtain ⟨d0, d1, d2⟩ := hk W1 (Below.refl _ _)
  have HK := Lib.hid hk
  have HB := Lib.hid hB
  have HW := Lib.hid hW1
  rw [hW1] at d0 d1 d2
  clear hk hB hx hW1
  by_cases hlong : 200 < s.t.size
  · go_enter Tryz.func3, Tryz.ntmps3
    go_wp2_with (go_at_call 8; rw [← HW.out]; refine (swakes_any _).mono ?_; rintro e w2 ⟨rfl, hb2⟩)
    go_ret
    exact ⟨rfl, HB.out.trans (hb2.mono HB.out.size)⟩
  · have hs : s.t.size ≤ 1000000 := by omega
    have hv := fun w' => valid_any s w' hs
    have hrv := fun w' => rvalid_any s w' hs
    have ht := fun w' (hq : Below w.heap.size w w') => text_any s w' hs (fun h h3 => (hI s.n (by have := valid_num h h3; omega) (by have := valid_num h h3; omega)).mono hq)
    have hrt := fun w' => rtext_any s w' hs
    obtain ⟨V, hV⟩ : ∃ V, V = validY s := ⟨_, rfl⟩
    obtain ⟨T, hT⟩ : ∃ T, T = textY s := ⟨_, rfl⟩
    rw [← hV] at hv hrv
    rw [← hT] at ht hrt
    have Hv := Lib.hid hv
    have Hrv := Lib.hid hrv
    have Ht := Lib.hid ht
    have Hrt := Lib.hid hrt
    clear hv hrv ht hrt hV hT hI hs
    have hcur : Hid (Below W1.heap.size W1 W1.drew) := Lib.hid (Below.refl _ _).drew
    go_enter Tryz.func3, Tryz.ntmps3
    go_wp2_with fail
    rw [← HW.out]
    go_region_held3 (fun w' => Below W1.heap.size W1 w' ∧ w'.cell? ⟨w.heap.size, 0, none⟩ = some (.int .i64 s.k) ∧ w'.cell? ⟨w.heap.size, 1, none⟩ = some (.string s.t) ∧ w'.cell? ⟨w.heap.size, 2, none⟩ = some (.int .i64 s.n))
      (first | exact ⟨hcur.out, HK.out _ hcur.out⟩ | go_keep)
      (first | (go_at_call 9; refine (Hv.out _).mono ?_; rintro e wx ⟨rfl, hbx⟩; replace hcur := Lib.hid (hcur.out.trans (hbx.mono hcur.out.size)); clear hbx) | (go_at_call 10; refine (Hrv.out _).mono ?_; rintro e wx ⟨rfl, hbx⟩; replace hcur := Lib.hid (hcur.out.trans (hbx.mono hcur.out.size)); clear hbx) | (go_at_call 11; refine (Ht.out _ (HB.out.trans (hcur.out.mono HB.out.size))).mono ?_; rintro e wx ⟨rfl, hbx⟩; replace hcur := Lib.hid (hcur.out.trans (hbx.mono hcur.out.size)); clear hbx) | (go_at_call 12; refine (Hrt.out _).mono ?_; rintro e wx ⟨rfl, hbx⟩; replace hcur := Lib.hid (hcur.out.trans (hbx.mono hcur.out.size)); clear hbx) | (go_at_call 8; refine (swakes_any _).mono ?_; rintro e wx ⟨rfl, hbx⟩; replace hcur := Lib.hid (hcur.out.trans (hbx.mono hcur.out.size)); clear hbx))
    all_goals
      rename_i hHeld
      have HH := Lib.hid (HB.out.trans (hcur.out.mono HB.out.size))
      clear hHeld
      go_wp2_with fail
      go_ret
      exact ⟨rfl, HH.out⟩
end Go.Proofs.YtlledodigmkdjaaGreatDoor
