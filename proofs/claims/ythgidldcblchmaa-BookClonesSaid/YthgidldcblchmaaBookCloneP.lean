/-
  Clone of a map of pairs of symbols and numbers. No condition.
-/
import Derived.Test.YthgidldcblchmaaBookP
namespace Go.Proofs.Ythgidldcblchmaa
set_option linter.unusedVariables false
open Go.RowKit
theorem clone_setP (w : World) (b : Nat) (xs : List Pr) (h : SetP w b xs) : Calls Try.prog 79 #[.pointer (some ⟨b, 0, none⟩)] w fun e w' => e = .returned (.pointer (some ⟨w.heap.size, 0, none⟩)) ∧ Below w.heap.size w w' ∧ SetP w' w.heap.size xs := by
  obtain ⟨p, T, hr, ht, hx, hs⟩ := h
  have h0 : w.cell? ⟨b, 0, none⟩ = some (.pointer p) := by rw [cells_of hr]; rfl
  have hfin : SetP (w.alloc (.cells #[.pointer p] 141)) w.heap.size xs := ⟨p, T, new_at rfl, ht.mono (by go_grown), hx, hs⟩
  have Hfin := Lib.hid hfin
  clear hfin hr ht hx hs
  go_enter Try.func79, Try.ntmps79
  go_wp2
  go_ret
  exact ⟨rfl, by go_grown, Hfin.out⟩
theorem clone_mapP (w : World) (b s : Nat) (xs : List Pr) (h : MapP w b s xs) : Calls Try.prog 47 #[.pointer (some ⟨b, 0, none⟩)] w fun e w' => ∃ mb, e = .returned (.pointer (some ⟨mb, 0, none⟩)) ∧ w.heap.size < mb ∧ Below w.heap.size w w' ∧ MapP w' mb w.heap.size xs := by
  have h0 : w.cell? ⟨b, 0, none⟩ = some (.pointer (some ⟨s, 0, none⟩)) := by rw [cells_of h.1]; rfl
  have hc := clone_setP w s xs h.2
  have Hc := Lib.hid hc
  clear hc h
  go_enter Try.func47, Try.ntmps47
  go_wp2_with (go_at_call 79; refine Hc.out.mono ?_; rintro e w2 ⟨rfl, hb2, hs2⟩)
  go_ret
  have hal : Below w2.heap.size w2 (w2.alloc (.cells #[.pointer (some ⟨w.heap.size, 0, none⟩)] 102)) := (Below.refl _ _).alloc (Nat.le_refl _) _
  exact ⟨w2.heap.size, rfl, IsSet.lt hs2, hb2.trans (hal.mono hb2.size), ⟨new_at rfl, IsSet.mono hs2 hal⟩⟩
end Go.Proofs.Ythgidldcblchmaa
