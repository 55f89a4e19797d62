/-
  From of a map of pairs of symbols and numbers. No condition.
-/
import Derived.RangeFuncNested
import Derived.RangeFuncBound
import Derived.RangeFuncCalls
import Derived.RangeFuncLeaves
import Derived.Shelf.Abstract
import Derived.Shelf.RegionOpen
import Derived.WalkKit
import Derived.OwnWalkIn
import Derived.TacticsInMore
import Derived.LoopNIn
import Derived.LoopIn
import Derived.BigGuardIn
import Derived.Test.YthgidldcblchmaaKit3
import Derived.Test.YthgidldcblchmaaBookAllP
import Derived.Test.YthgidldcblchmaaBookGetP
import Derived.Deep.RegionHeld3
namespace Go.Proofs.Ythgidldcblchmaa
set_option linter.unusedVariables false
open Go.RowKit Go.Shelf
attribute [local go_sem] Oper.semAt_some

theorem from_setP (w : World) (b : Nat) (x : Pr) : Calls Try.prog 91 #[.pointer (some ⟨b, 0, none⟩), .agg #[.int .i64 x.k.k, .string x.k.t, .int .i64 x.k.n, .int .i64 x.v]] w fun e w' => (∃ lb, e = .returned (.func (.func 107) #[] lb)) ∧ Below w.heap.size w w' := by
  go_enter Try.func91, Try.ntmps91
  go_wp2
  go_ret
  exact ⟨⟨_, rfl⟩, by go_grown⟩
theorem from_mapP (w : World) (b s : Nat) (k : Sy) (xs : List Pr) (h : MapP w b s xs) :
    Calls Try.prog 67 #[.pointer (some ⟨b, 0, none⟩), .agg #[.int .i64 k.k, .string k.t, .int .i64 k.n]] w fun e w' => (∃ lb, e = .returned (.func (.func 94) #[] lb)) ∧ Below w.heap.size w w' := by
  obtain ⟨hb, hS⟩ := h
  obtain ⟨W1, hW1⟩ : ∃ W1, W1 = w.alloc (.cells #[.int .i64 k.k, .string k.t, .int .i64 k.n] 27) := ⟨_, rfl⟩
  have hB : Below w.heap.size w W1 := by rw [hW1]; go_grown
  have hx : W1.heap[w.heap.size]? = some (.cells #[.int .i64 k.k, .string k.t, .int .i64 k.n] 27 (0, 0)) := by rw [hW1]; exact new_at rfl
  have hk : ∀ w', Below W1.heap.size W1 w' → (w'.cell? ⟨b, 0, none⟩ = some (.pointer (some ⟨s, 0, none⟩)) ∧ w'.cell? ⟨w.heap.size, 0, none⟩ = some (.int .i64 k.k) ∧ w'.cell? ⟨w.heap.size, 1, none⟩ = some (.string k.t) ∧ w'.cell? ⟨w.heap.size, 2, none⟩ = some (.int .i64 k.n)) := by
    intro w' h
    have h1 := ((hB.trans (h.mono hB.size)).block b (heap_lt hb)).trans hb
    have h2 := (h.block _ (heap_lt hx)).trans hx
    exact ⟨by rw [cells_of h1]; rfl, by rw [cells_of h2]; rfl, by rw [cells_of h2]; rfl, by rw [cells_of h2]; rfl⟩
  obtain ⟨c0, d0, d1, d2⟩ := hk W1 (Below.refl _ _)
  have hK := Lib.hid hk
  have HB := Lib.hid hB
  have HW := Lib.hid hW1
  have hcur : Hid (Below W1.heap.size W1 W1.drew) := Lib.hid (Below.refl _ _).drew
  have hlt := heap_lt hb
  have hltW : b < W1.heap.size := Nat.lt_of_lt_of_le hlt hB.size
  clear hk hB hW1 hb hS hx
  go_enter Try.func67, Try.ntmps67
  go_wp2_with fail
  rw [← HW.out]
  go_region_held3 (fun w' => Below W1.heap.size W1 w' ∧ w'.cell? ⟨b, 0, none⟩ = some (.pointer (some ⟨s, 0, none⟩)) ∧ w'.cell? ⟨w.heap.size, 0, none⟩ = some (.int .i64 k.k) ∧ w'.cell? ⟨w.heap.size, 1, none⟩ = some (.string k.t) ∧ w'.cell? ⟨w.heap.size, 2, none⟩ = some (.int .i64 k.n))
    (first | exact ⟨hcur.out, hK.out _ hcur.out⟩ | go_keep)
    (first
      | (go_at_call 64; refine (at_bookP _ k).mono ?_; rintro e w2 ⟨rfl, h2⟩; replace hcur := Lib.hid (hcur.out.trans (h2.mono hcur.out.size)); clear h2)
      | (go_at_call 91; refine (from_setP _ s ⟨k, 0⟩).mono ?_; rintro e w3 ⟨⟨lb3, rfl⟩, h3⟩; replace hcur := Lib.hid (hcur.out.trans (h3.mono hcur.out.size)); clear h3)
      | (go_at_call 70; refine (apart_anyP _ _ _).mono ?_; rintro e w4 ⟨rfl, rfl⟩; replace hcur := Lib.hid (hcur.out.alloc hcur.out.size (.cells #[.func (.func 107) #[] lb3] 112))))
  all_goals
    rename_i hHeld
    have HF := Lib.hid (HB.out.trans (hHeld.1.mono HB.out.size))
    clear hHeld
    go_wp2_with fail
    go_ret
    exact ⟨⟨_, rfl⟩, HF.out⟩
end Go.Proofs.Ythgidldcblchmaa
