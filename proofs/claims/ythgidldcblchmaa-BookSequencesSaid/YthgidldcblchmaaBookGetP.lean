/-
  Walks over package book at pairs ponder/book.pair[ponder/api.Sym, int]: at, Get. No condition.
-/
import Derived.Test.YthgidldcblchmaaProg
import Derived.Test.YthgidldcblchmaaKit
import Derived.Test.YthgidldcblchmaaFindP
import Derived.Test.YthgidldcblchmaaBookP
import Derived.WalkKit
import Derived.WalkLawsBesides
import Derived.Handy
import Derived.Lib.Hide
import Derived.StillTailTactics
import Derived.BigQuiet
import Derived.Deep.QuietTactic
import Derived.Deep.RegionHeld3
namespace Go.Proofs.Ythgidldcblchmaa
set_option linter.unusedVariables false
open Go.RowKit

theorem bcell3 {W w1 : World} (hb : Below W.heap.size W w1) : (∀ b o, b < W.heap.size → w1.cell? ⟨b, o, none⟩ = W.cell? ⟨b, o, none⟩) ∧ (∀ b o, b < W.heap.size → w1.frozen? ⟨b, o, none⟩ = W.frozen? ⟨b, o, none⟩) ∧ (∀ b, b < W.heap.size → b < w1.heap.size) :=
  ⟨fun b o h => hb.cell (p := ⟨b, o, none⟩) h, fun b o h => hb.frozen (p := ⟨b, o, none⟩) h, fun b h => Nat.lt_of_lt_of_le h hb.size⟩
theorem at_bookP (w : World) (k : Sy) : Calls Try.prog 64 #[.agg #[.int .i64 k.k, .string k.t, .int .i64 k.n]] w fun e w' => e = .returned (.agg #[.int .i64 k.k, .string k.t, .int .i64 k.n, .int .i64 0]) ∧ Below w.heap.size w w' := by
  have hk : ((w.alloc (.cells #[.int .i64 k.k, .string k.t, .int .i64 k.n] 27)).alloc (.cells #[.int .i64 0, .string ⟨#[]⟩, .int .i64 0, .int .i64 0] 100)).heap[w.heap.size + 1]? = some (.cells #[.int .i64 0, .string ⟨#[]⟩, .int .i64 0, .int .i64 0] 100 (0, 0)) := new_at (by simp)
  have hB : Below w.heap.size w ((w.alloc (.cells #[.int .i64 k.k, .string k.t, .int .i64 k.n] 27)).alloc (.cells #[.int .i64 0, .string ⟨#[]⟩, .int .i64 0, .int .i64 0] 100)) := by go_grown
  have HK := Lib.hid hk
  have HB := Lib.hid hB
  clear hk hB
  go_enter Try.func64, Try.ntmps64
  go_wp2_with fail
  refine bodyPost_ret (by simp [results, Try.results64, go_sem]; rfl) rfl ?_
  exact ⟨rfl, by go_grown⟩
set_option maxHeartbeats 1000000 in
theorem get_mapP (w : World) (b s : Nat) (k : Sy) (xs : List Pr) (h : MapP w b s xs) (z : Pr) (ok : Bool) (hz : z = (look cmpP ⟨k, 0⟩ xs).getD zeroP) (hok : ok = (look cmpP (⟨k, 0⟩ : Pr) xs).isSome) :
    Calls Try.prog 29 #[.pointer (some ⟨b, 0, none⟩), .agg #[.int .i64 k.k, .string k.t, .int .i64 k.n]] w fun e w' => e = .returned (.tuple #[.int .i64 z.v, .bool ok]) ∧ Below w.heap.size w w' := by
  obtain ⟨hb, hS⟩ := h
  obtain ⟨W1, hW1⟩ : ∃ W1, W1 = w.alloc (.cells #[.int .i64 k.k, .string k.t, .int .i64 k.n] 27) := ⟨_, rfl⟩
  have hB : Below w.heap.size w W1 := by rw [hW1]; go_grown
  have hx : W1.heap[w.heap.size]? = some (.cells #[.int .i64 k.k, .string k.t, .int .i64 k.n] 27 (0, 0)) := by rw [hW1]; exact new_at rfl
  have hk : ∀ w', Below W1.heap.size W1 w' → (w'.cell? ⟨b, 0, none⟩ = some (.pointer (some ⟨s, 0, none⟩)) ∧ w'.cell? ⟨w.heap.size, 0, none⟩ = some (.int .i64 k.k) ∧ w'.cell? ⟨w.heap.size, 1, none⟩ = some (.string k.t) ∧ w'.cell? ⟨w.heap.size, 2, none⟩ = some (.int .i64 k.n)) := by
    intro w' h
    have h1 := ((hB.trans (h.mono hB.size)).block b (heap_lt hb)).trans hb
    have h2 := (h.block _ (heap_lt hx)).trans hx
    exact ⟨by rw [cells_of h1]; rfl, by rw [cells_of h2]; rfl, by rw [cells_of h2]; rfl, by rw [cells_of h2]; rfl⟩
  have hat := fun w' => at_bookP w' k
  have hget := fun w' (h : Below w.heap.size w w') => (get_setP ⟨k, 0⟩ w' s xs (IsSet.mono hS h)).mono (R' := fun e w2 => e = .returned (.tuple #[.agg #[.int .i64 z.k.k, .string z.k.t, .int .i64 z.k.n, .int .i64 z.v], .bool ok]) ∧ Below w'.heap.size w' w2) (by
    intro e w2 ho
    obtain ⟨h1, h2⟩ := ho
    subst hz hok
    cases hl : look cmpP (⟨k, 0⟩ : Pr) xs with
    | none => rw [hl] at h2; exact ⟨h2, h1⟩
    | some v => rw [hl] at h2; exact ⟨h2, h1⟩)
  have c0 := hk W1 (Below.refl _ _)
  obtain ⟨c0, d0, d1, d2⟩ := c0
  have hlt := heap_lt hb
  have hK := Lib.hid hk
  have Hat := Lib.hid hat
  have Hget := Lib.hid hget
  have HB := Lib.hid hB
  have HW := Lib.hid hW1
  have h0 : Hid (Below W1.heap.size W1 W1.drew) := Lib.hid (Below.refl _ _).drew
  have hltW : b < W1.heap.size := Nat.lt_of_lt_of_le hlt hB.size
  clear hx
  clear hk hat hget hB hW1 hb hS hz hok
  go_enter Try.func29, Try.ntmps29
  go_wp2_with fail
  rw [← HW.out]
  go_region_held3 (fun w' => Below W1.heap.size W1 w' ∧ w'.cell? ⟨b, 0, none⟩ = some (.pointer (some ⟨s, 0, none⟩)) ∧ w'.cell? ⟨w.heap.size, 0, none⟩ = some (.int .i64 k.k) ∧ w'.cell? ⟨w.heap.size, 1, none⟩ = some (.string k.t) ∧ w'.cell? ⟨w.heap.size, 2, none⟩ = some (.int .i64 k.n))
    (first | exact ⟨h0.out, hK.out _ h0.out⟩ | exact ⟨hB2.out, hK.out _ hB2.out⟩ | exact ⟨hB3.out, hK.out _ hB3.out⟩ | exact ⟨hB3.out.alloc hB3.out.size _, hK.out _ (hB3.out.alloc hB3.out.size _)⟩ | exact ⟨hB2.out.alloc hB2.out.size _, hK.out _ (hB2.out.alloc hB2.out.size _)⟩ | exact ⟨h0.out.alloc h0.out.size _, hK.out _ (h0.out.alloc h0.out.size _)⟩ | exact (fun hh => ⟨hh, hK.out _ hh⟩) (((((hB3.out.setCell hB2.out.size _).setCell hB2.out.size _).setCell hB2.out.size _).setCell hB2.out.size _)) | exact (fun hh => ⟨hh, hK.out _ hh⟩) (((((hB3.out.setCell (Nat.le_refl _) _).setCell (Nat.le_refl _) _).setCell (Nat.le_refl _) _).setCell (Nat.le_refl _) _)) | exact (fun hh => ⟨hh, hK.out _ hh⟩) ((((((hB3.out.alloc hB3.out.size _).setCell hB3.out.size _).setCell hB3.out.size _).setCell hB3.out.size _).setCell hB3.out.size _)) | go_keep)
    (first | (go_at_call 64; refine (Hat.out _).mono ?_; rintro e w2 ⟨rfl, h2⟩; have hB2 : Hid (Below W1.heap.size W1 w2) := Lib.hid (by first | exact h0.out.trans (h2.mono h0.out.size) | exact (h0.out.alloc h0.out.size _).trans (h2.mono (h0.out.alloc h0.out.size _).size)); obtain ⟨hc2, hf2, hl2⟩ := bcell3 h2; have H2 := Lib.hid h2; clear h2) | (go_at_call 61; refine (Hget.out _ (by first | exact HB.out.trans (hB2.out.mono HB.out.size) | exact HB.out.trans ((hB2.out.alloc hB2.out.size _).mono HB.out.size))).mono ?_; rintro e w3 ⟨rfl, h3⟩; have hB3 : Hid (Below W1.heap.size W1 w3) := Lib.hid (by first | exact hB2.out.trans (h3.mono hB2.out.size) | exact (hB2.out.alloc hB2.out.size _).trans (h3.mono (hB2.out.alloc hB2.out.size _).size)); obtain ⟨hc3, hf3, hl3⟩ := bcell3 h3; have H3 := Lib.hid h3; clear h3))
  all_goals
    rename_i hHeld
    have HF := Lib.hid (HB.out.trans (hHeld.1.mono HB.out.size))
    clear hHeld
    first
      | (obtain ⟨s0, s1, s2, s3⟩ := setcellsP z ((H3.out.block w2.heap.size (by simp)).trans (new_at rfl)); go_wp2_with fail; go_ret2; exact ⟨rfl, HF.out⟩)
      | (obtain ⟨s0, s1, s2, s3⟩ := setcellsP z ((H3.out.block W1.heap.size (by have := H2.out.size; simp at this; omega)).trans ((H2.out.block W1.heap.size (by simp)).trans (new_at_drew rfl))); go_wp2_with fail; go_ret2; exact ⟨rfl, HF.out⟩)
      | (go_wp2_with fail; go_ret2; exact ⟨rfl, HF.out⟩)
end Go.Proofs.Ythgidldcblchmaa
