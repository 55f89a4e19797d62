/-
  Walks over package sym: Clone and All of a table; Clone of the map and its set; the law's most; Fresh, whatever comes. No condition.
-/
import Derived.Test.YtlledodigmkdjaaGreatDoorSymPut
import Derived.Deep.RegionHeld3
namespace Go.Proofs.YtlledodigmkdjaaGreatDoor
set_option linter.unusedVariables false
open Go.RowKit
theorem clone_setS (w : World) (b : Nat) (xs : List Sy) (h : SetS w b xs) : Calls Tryz.prog 52 #[.pointer (some ⟨b, 0, none⟩)] w fun e w' => e = .returned (.pointer (some ⟨w.heap.size, 0, none⟩)) ∧ Below w.heap.size w w' ∧ SetS w' w.heap.size xs := by
  obtain ⟨p, T, hr, ht, hx, hs⟩ := h
  have h0 : w.cell? ⟨b, 0, none⟩ = some (.pointer p) := by rw [cells_of hr]; rfl
  have hfin : SetS (w.alloc (.cells #[.pointer p] 87)) w.heap.size xs := ⟨p, T, new_at rfl, ht.mono (by go_grown), hx, hs⟩
  have Hfin := Lib.hid hfin
  clear hfin hr ht hx hs
  go_enter Tryz.func52, Tryz.ntmps52
  go_wp2
  go_ret
  exact ⟨rfl, by go_grown, Hfin.out⟩
theorem clone_setC (w : World) (b : Nat) (xs : List Pc) (h : SetC w b xs) : Calls Tryz.prog 69 #[.pointer (some ⟨b, 0, none⟩)] w fun e w' => e = .returned (.pointer (some ⟨w.heap.size, 0, none⟩)) ∧ Below w.heap.size w w' ∧ SetC w' w.heap.size xs := by
  obtain ⟨p, T, hr, ht, hx, hs⟩ := h
  have h0 : w.cell? ⟨b, 0, none⟩ = some (.pointer p) := by rw [cells_of hr]; rfl
  have hfin : SetC (w.alloc (.cells #[.pointer p] 110)) w.heap.size xs := ⟨p, T, new_at rfl, ht.mono (by go_grown), hx, hs⟩
  have Hfin := Lib.hid hfin
  clear hfin hr ht hx hs
  go_enter Tryz.func69, Tryz.ntmps69
  go_wp2
  go_ret
  exact ⟨rfl, by go_grown, Hfin.out⟩
theorem clone_mapC (w : World) (b s : Nat) (xs : List Pc) (h : MapC w b s xs) : Calls Tryz.prog 53 #[.pointer (some ⟨b, 0, none⟩)] w fun e w' => ∃ mb, e = .returned (.pointer (some ⟨mb, 0, none⟩)) ∧ w.heap.size < mb ∧ Below w.heap.size w w' ∧ MapC w' mb w.heap.size xs := by
  have h0 : w.cell? ⟨b, 0, none⟩ = some (.pointer (some ⟨s, 0, none⟩)) := by rw [cells_of h.1]; rfl
  have hc := clone_setC w s xs h.2
  have Hc := Lib.hid hc
  clear hc h
  go_enter Tryz.func53, Tryz.ntmps53
  go_wp2_with (go_at_call 69; refine Hc.out.mono ?_; rintro e w2 ⟨rfl, hb2, hs2⟩)
  go_ret
  have hal : Below w2.heap.size w2 (w2.alloc (.cells #[.pointer (some ⟨w.heap.size, 0, none⟩)] 93)) := (Below.refl _ _).alloc (Nat.le_refl _) _
  exact ⟨w2.heap.size, rfl, IsSet.lt hs2, hb2.trans (hal.mono hb2.size), ⟨new_at rfl, IsSet.mono hs2 hal⟩⟩
def CloneOut (w : World) (room : Int) (xs : List Sy) (e : Ending) (w' : World) : Prop := ∃ b sb mb ms ys, e = .returned (.pointer (some ⟨b, 0, none⟩)) ∧ Below w.heap.size w w' ∧ (w.heap.size ≤ b ∧ w.heap.size ≤ sb ∧ w.heap.size ≤ mb ∧ w.heap.size ≤ ms) ∧ TabAt w' b sb mb ms room xs ys
set_option maxHeartbeats 1000000 in
theorem clone_tab (w : World) (b sb mb ms : Nat) (room : Int) (xs : List Sy) (ys : List Pc) (h : TabAt w b sb mb ms room xs ys) :
    Calls Tryz.prog 31 #[.pointer (some ⟨b, 0, none⟩)] w (CloneOut w room xs) := by
  have hk : ∀ w', Below w.heap.size w w' → (w'.cell? ⟨b, 0, none⟩ = some (.pointer (some ⟨sb, 0, none⟩)) ∧ w'.cell? ⟨b, 1, none⟩ = some (.pointer (some ⟨mb, 0, none⟩)) ∧ w'.cell? ⟨b, 2, none⟩ = some (.int .i64 room)) := by
    intro w' hb
    have h1 := h.cells.mono hb
    exact ⟨by rw [cells_of h1]; rfl, by rw [cells_of h1]; rfl, by rw [cells_of h1]; rfl⟩
  have hcs := fun w' (hq : Below w.heap.size w w') => (clone_setS w' sb xs (IsSet.mono h.known hq)).mono (R' := fun e w2 => ∃ s2, e = .returned (.pointer (some ⟨s2, 0, none⟩)) ∧ Hid (w'.heap.size ≤ s2 ∧ SetS w2 s2 xs) ∧ Below w'.heap.size w' w2) (by
    rintro e w2 ⟨rfl, h1, h2⟩
    exact ⟨_, rfl, ⟨Nat.le_refl _, h2⟩, h1⟩)
  have hcm := fun w' (hq : Below w.heap.size w w') => (clone_mapC w' mb ms ys (h.map.mono hq)).mono (R' := fun e w2 => ∃ m2, e = .returned (.pointer (some ⟨m2, 0, none⟩)) ∧ Hid (∃ s2, w'.heap.size ≤ m2 ∧ w'.heap.size ≤ s2 ∧ MapC w2 m2 s2 ys) ∧ Below w'.heap.size w' w2) (by
    rintro e w2 ⟨m2, rfl, h0, h1, h2⟩
    exact ⟨_, rfl, ⟨_, by omega, Nat.le_refl _, h2⟩, h1⟩)
  obtain ⟨d0, d1, d2⟩ := hk w (Below.refl _ _)
  have hfin : ∀ (wa wb W : World) (s2 m2 t2 : Nat), Below w.heap.size w wa → w.heap.size ≤ s2 → SetS wa s2 xs → Below wa.heap.size wa wb → w.heap.size ≤ m2 → w.heap.size ≤ t2 → MapC wb m2 t2 ys → Below wb.heap.size wb W → CloneOut w room xs (.returned (.pointer (some ⟨W.heap.size, 0, none⟩))) (W.alloc (.cells #[.pointer (some ⟨s2, 0, none⟩), .pointer (some ⟨m2, 0, none⟩), .int .i64 room] 73)) := by
    intro wa wb W s2 m2 t2 h1 h2 h3 h4 h5 h6 h7 h8
    have hal : Below W.heap.size W (W.alloc (.cells #[.pointer (some ⟨s2, 0, none⟩), .pointer (some ⟨m2, 0, none⟩), .int .i64 room] 73)) := (Below.refl _ _).alloc (Nat.le_refl _) _
    have h9 := h8.trans (hal.mono h8.size)
    have h14 := h1.trans (h4.mono h1.size)
    have h18 := h14.trans (h8.mono h14.size)
    exact ⟨W.heap.size, s2, m2, t2, ys, rfl, h18.trans (hal.mono h18.size), ⟨h18.size, h2, h5, h6⟩, ⟨new_at rfl, IsSet.mono (IsSet.mono h3 h4) h9, h7.mono h9, h.agree, h.small, h.all, h.len, h.top⟩⟩
  have HK := Lib.hid hk
  have Hcs := Lib.hid hcs
  have Hcm := Lib.hid hcm
  have Hfin := Lib.hid hfin
  have hcur : Hid (Below w.heap.size w w.drew) := Lib.hid (Below.refl _ _).drew
  have hltb := heap_lt h.cells
  clear hk hcs hcm hfin h
  go_enter Tryz.func31, Tryz.ntmps31
  go_wp2_with fail
  go_region_held3 (fun w' => Below w.heap.size w w' ∧ w'.cell? ⟨b, 0, none⟩ = some (.pointer (some ⟨sb, 0, none⟩)) ∧ w'.cell? ⟨b, 1, none⟩ = some (.pointer (some ⟨mb, 0, none⟩)) ∧ w'.cell? ⟨b, 2, none⟩ = some (.int .i64 room))
    (first | exact ⟨hcur.out, HK.out _ hcur.out⟩ | exact ⟨hcur.out.alloc hcur.out.size _, HK.out _ (hcur.out.alloc hcur.out.size _)⟩ | go_keep)
    (first | (go_at_call 52; refine (Hcs.out _ hcur.out).mono ?_; rintro e wa ⟨s2, rfl, hs2, hba⟩; have HA1 := Lib.hid (Nat.le_trans hcur.out.size hs2.out.1); replace hcur := Lib.hid (hcur.out.trans (hba.mono hcur.out.size)); have HA := hcur; obtain ⟨hca, hfa, hla⟩ := bcell3 hba; clear hba) | (go_at_call 53; refine (Hcm.out _ hcur.out).mono ?_; rintro e wb ⟨m2, rfl, hm2, hbb⟩; have HB1 := Lib.hid hcur.out.size; replace hcur := Lib.hid (hcur.out.trans (hbb.mono hcur.out.size)); obtain ⟨hcb, hfb, hlb⟩ := bcell3 hbb; have HBB := Lib.hid hbb; clear hbb))
  all_goals
    rename_i hHeld
    go_wp2_with fail
    go_ret
    obtain ⟨t2, q1, q2, q3⟩ := hm2.out
    exact Hfin.out wa wb _ s2 m2 t2 HA.out HA1.out hs2.out.2 HBB.out (Nat.le_trans HB1.out q1) (Nat.le_trans HB1.out q2) q3 (Below.refl _ _)
end Go.Proofs.YtlledodigmkdjaaGreatDoor
