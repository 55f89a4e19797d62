/-
  Walks over package sym: Has. No condition.
-/
import Derived.Test.YtlledodigmkdjaaGreatDoorSymFresh
import Derived.Test.YtlledodigmkdjaaGreatDoorFindS
namespace Go.Proofs.YtlledodigmkdjaaGreatDoor
set_option linter.unusedVariables false
open Go.RowKit
set_option maxHeartbeats 1000000 in
theorem has_raw (w : World) (b s : Nat) (x : Sy) (xs : List Sy) (room : Int) (mb : Nat) (hb : TabCells w b s mb room) (hS : SetS w s xs) (z : Sy) (ok : Bool) (hz : z = (look cmpY x xs).getD zeroS) (hok : ok = (look cmpY x xs).isSome) :
    Calls Tryz.prog 23 #[.pointer (some ⟨b, 0, none⟩), .agg #[.int .i64 x.k, .string x.t, .int .i64 x.n]] w fun e w' => e = .returned (.bool ok) ∧ Below w.heap.size w w' := by
  obtain ⟨W1, hW1⟩ : ∃ W1, W1 = w.alloc (.cells #[.int .i64 x.k, .string x.t, .int .i64 x.n] 23) := ⟨_, rfl⟩
  have hB : Below w.heap.size w W1 := by rw [hW1]; go_grown
  have hx : W1.heap[w.heap.size]? = some (.cells #[.int .i64 x.k, .string x.t, .int .i64 x.n] 23 (0, 0)) := by rw [hW1]; exact new_at rfl
  have hk : ∀ w', Below W1.heap.size W1 w' → (w'.cell? ⟨b, 0, none⟩ = some (.pointer (some ⟨s, 0, none⟩)) ∧ w'.cell? ⟨w.heap.size, 0, none⟩ = some (.int .i64 x.k) ∧ w'.cell? ⟨w.heap.size, 1, none⟩ = some (.string x.t) ∧ w'.cell? ⟨w.heap.size, 2, none⟩ = some (.int .i64 x.n)) := by
    intro w' h
    have h1 := ((hB.trans (h.mono hB.size)).block b (heap_lt hb)).trans hb
    have h2 := (h.block _ (heap_lt hx)).trans hx
    exact ⟨by rw [cells_of h1]; rfl, by rw [cells_of h2]; rfl, by rw [cells_of h2]; rfl, by rw [cells_of h2]; rfl⟩
  have hget := fun w' (h : Below w.heap.size w w') => (get_setS x w' s xs (IsSet.mono hS h)).mono (R' := fun e w2 => e = .returned (.tuple #[.agg #[.int .i64 z.k, .string z.t, .int .i64 z.n], .bool ok]) ∧ Below w'.heap.size w' w2) (by
    intro e w2 ho
    obtain ⟨h1, h2⟩ := ho
    subst hz hok
    cases hl : look cmpY x xs with
    | none => rw [hl] at h2; exact ⟨h2, h1⟩
    | some v => rw [hl] at h2; exact ⟨h2, h1⟩)
  have c0 := hk W1 (Below.refl _ _)
  obtain ⟨c0, d0, d1, d2⟩ := c0
  have hlt := heap_lt hb
  have hK := Lib.hid hk
  have Hget := Lib.hid hget
  have HB := Lib.hid hB
  have HW := Lib.hid hW1
  have h0 : Hid (Below W1.heap.size W1 W1.drew) := Lib.hid (Below.refl _ _).drew
  have hltW : b < W1.heap.size := Nat.lt_of_lt_of_le hlt hB.size
  clear hx hk hget hB hW1 hb hS hz hok
  go_enter Tryz.func23, Tryz.ntmps23
  go_wp2_with fail
  rw [← HW.out]
  go_region_held3 (fun w' => Below W1.heap.size W1 w' ∧ w'.cell? ⟨b, 0, none⟩ = some (.pointer (some ⟨s, 0, none⟩)) ∧ w'.cell? ⟨w.heap.size, 0, none⟩ = some (.int .i64 x.k) ∧ w'.cell? ⟨w.heap.size, 1, none⟩ = some (.string x.t) ∧ w'.cell? ⟨w.heap.size, 2, none⟩ = some (.int .i64 x.n))
    (first | exact ⟨h0.out, hK.out _ h0.out⟩ | exact ⟨hB2.out, hK.out _ hB2.out⟩ | exact ⟨hB2.out.alloc hB2.out.size _, hK.out _ (hB2.out.alloc hB2.out.size _)⟩ | exact ⟨h0.out.alloc h0.out.size _, hK.out _ (h0.out.alloc h0.out.size _)⟩ | exact (fun hh => ⟨hh, hK.out _ hh⟩) ((((hB2.out.setCell (Nat.le_refl _) _).setCell (Nat.le_refl _) _).setCell (Nat.le_refl _) _)) | exact (fun hh => ⟨hh, hK.out _ hh⟩) (((((hB2.out.alloc hB2.out.size _).setCell hB2.out.size _).setCell hB2.out.size _).setCell hB2.out.size _)) | go_keep)
    (first | (go_at_call 50; refine (Hget.out _ (by first | exact HB.out.trans (h0.out.mono HB.out.size) | exact HB.out.trans ((h0.out.alloc h0.out.size _).mono HB.out.size))).mono ?_; rintro e w2 ⟨rfl, h2⟩; have hB2 : Hid (Below W1.heap.size W1 w2) := Lib.hid (by first | exact h0.out.trans (h2.mono h0.out.size) | exact (h0.out.alloc h0.out.size _).trans (h2.mono (h0.out.alloc h0.out.size _).size)); obtain ⟨hc2, hf2, hl2⟩ := bcell3 h2; have H2 := Lib.hid h2; clear h2))
  all_goals
    rename_i hHeld
    have HF := Lib.hid (HB.out.trans (hHeld.1.mono HB.out.size))
    clear hHeld
    go_wp2_with fail
    go_ret
    exact ⟨rfl, HF.out⟩
theorem has_tab (w : World) (b sb mb ms : Nat) (room : Int) (xs : List Sy) (ys : List Pc) (x : Sy) (h : TabAt w b sb mb ms room xs ys) :
    Calls Tryz.prog 23 #[.pointer (some ⟨b, 0, none⟩), .agg #[.int .i64 x.k, .string x.t, .int .i64 x.n]] w fun e w' => e = .returned (.bool (has cmpY x xs)) ∧ Below w.heap.size w w' :=
  has_raw w b sb x xs room mb h.cells h.known _ _ rfl (has_look xs)
end Go.Proofs.YtlledodigmkdjaaGreatDoor
