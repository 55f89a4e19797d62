/-
  Walks over package book at pairs ponder/book.pair[ponder/sym.capital, int]: New, Put of a new key. No condition but a bound on sizes.
-/
import Derived.Test.YtlledodigmkdjaaGreatDoorProg
import Derived.Test.YtlledodigmkdjaaGreatDoorKit
import Derived.Test.YtlledodigmkdjaaGreatDoorNewC
import Derived.Test.YtlledodigmkdjaaGreatDoorKit3
import Derived.WalkKit
import Derived.WalkLawsBesides
import Derived.Handy
import Derived.Lib.Hide
import Derived.StillTailTactics
import Derived.BigQuiet
import Derived.Deep.QuietTactic
import Derived.Deep.RegionHeld3
namespace Go.Proofs.YtlledodigmkdjaaGreatDoor
set_option linter.unusedVariables false
open Go.RowKit

/-- A map at block b: its set of pairs lies at block s. -/
def MapC (w : World) (b s : Nat) (xs : List Pc) : Prop := w.heap[b]? = some (.cells #[.pointer (some ⟨s, 0, none⟩)] 93 (0, 0)) ∧ SetC w s xs
theorem MapC.mono {w w' : World} {b s : Nat} {xs : List Pc} (h : MapC w b s xs) (hb : Below w.heap.size w w') : MapC w' b s xs := ⟨(hb.block b (heap_lt h.1)).trans h.1, IsSet.mono h.2 hb⟩
def NewMOutC (w : World) (e : Ending) (w' : World) : Prop := ∃ b s, e = .returned (.pointer (some ⟨b, 0, none⟩)) ∧ w.heap.size ≤ s ∧ s < b ∧ Below w.heap.size w w' ∧ MapC w' b s []
theorem new_mapC (w : World) : Calls Tryz.prog 44 #[] w (NewMOutC w) := by
  have hfin : ∀ (e : Ending) (w1 : World) (s : Nat), e = .returned (.pointer (some ⟨w1.heap.size, 0, none⟩)) → w.heap.size ≤ s → Below w.heap.size w w1 → SetC w1 s (insAll cmpC [] []) → NewMOutC w e (w1.alloc (.cells #[.pointer (some ⟨s, 0, none⟩)] 93)) := fun e w1 s he hs hb h =>
    ⟨w1.heap.size, s, he, hs, IsSet.lt h, hb.alloc hb.size _, new_at rfl, IsSet.mono h ((Below.refl _ _).alloc (Nat.le_refl _) _)⟩
  have Hfin := Lib.hid hfin
  clear hfin
  go_enter Tryz.func44, Tryz.ntmps44
  go_wp2_with (go_at_call 59; refine (new_nilC w).mono ?_; unfold NewOutC; rintro e w1 ⟨s, rfl, hs, hb, hset⟩)
  go_ret
  exact Hfin.out _ _ _ rfl hs hb hset
def PutMOutC (w : World) (b s : Nat) (ok : Bool) (xs : List Pc) (e : Ending) (w' : World) : Prop := e = .returned (.bool ok) ∧ w.grownBy w' (some s) ∧ MapC w' b s xs
set_option maxHeartbeats 1000000 in
theorem put_newC (w : World) (b s : Nat) (x : Pc) (xs : List Pc) (h : MapC w b s xs) (hz : xs.length ≤ 1000000) (hn : has cmpC x xs = false) :
    Calls Tryz.prog 64 #[.pointer (some ⟨b, 0, none⟩), .int .u8 x.k, .int .i64 x.v] w (PutMOutC w b s true (ins cmpC x xs)) := by
  obtain ⟨hb, hS⟩ := h
  have hne : b ≠ s := by
    rintro rfl
    obtain ⟨p, T, hr, -⟩ := hS
    rw [hb] at hr; cases hr
  have hlt := heap_lt hb
  have hsl := IsSet.lt hS
  obtain ⟨W2, hW2⟩ : ∃ W2, W2 = (w).alloc (.cells #[.int .u8 x.k, .int .i64 x.v] 91) := ⟨_, rfl⟩
  have hB : Below w.heap.size w W2 := by rw [hW2]; go_grown
  have hk : ∀ w', Below W2.heap.size W2 w' → (w'.cell? ⟨b, 0, none⟩ = some (.pointer (some ⟨s, 0, none⟩)) ∧ w'.cell? ⟨w.heap.size, 0, none⟩ = some (.int .u8 x.k) ∧ w'.cell? ⟨w.heap.size, 1, none⟩ = some (.int .i64 x.v)) := by
    intro w' h
    have h1 := ((hB.trans (h.mono hB.size)).block b hlt).trans hb
    have h2 := (h.block (w.heap.size) (by rw [hW2]; simp)).trans (show W2.heap[w.heap.size]? = some (.cells #[.int .u8 x.k, .int .i64 x.v] 91 (0, 0)) by rw [hW2]; exact new_at (by simp))
    refine ⟨by rw [cells_of h1]; rfl, ?_, ?_⟩ <;> (rw [cells_of h2]; rfl)
  have hput := fun w' (h : Below w.heap.size w w') => (put_anyC w' s x xs (IsSet.mono hS h) hz).mono (R' := fun e w2 => e = .returned (.bool true) ∧ w'.grownBy w2 (some s) ∧ SetC w2 s (ins cmpC x xs)) (by
    rintro e w2 ⟨he, h1, h2⟩
    rw [hn] at he
    exact ⟨he, h1, h2⟩)
  have hfin : ∀ (e : Ending) (w1 w2 : World), e = .returned (.bool true) → Below w.heap.size w w1 → w1.grownBy w2 (some s) → SetC w2 s (ins cmpC x xs) → PutMOutC w b s true (ins cmpC x xs) e w2 := fun e w1 w2 he h1 h2 h3 =>
    ⟨he, gtrans (gbelow h1) h2, ⟨(h2.block b (Nat.lt_of_lt_of_le hlt h1.size) (by simpa using hne)).trans ((h1.block b hlt).trans hb), h3⟩⟩
  have hK := Lib.hid hk
  have Hput := Lib.hid hput
  have Hfin := Lib.hid hfin
  have HB := Lib.hid hB
  have HW := Lib.hid hW2
  obtain ⟨c0, d0, d1⟩ := hk W2 (Below.refl _ _)
  clear hk hput hfin hB hb hS hW2
  go_enter Tryz.func64, Tryz.ntmps64
  go_wp2_with fail
  rw [← HW.out]
  refine region_tail 5 (by kernel_rfl) (by kernel_rfl) (fun KK hKK => ?_)
  simp only [List.take_succ_cons, List.take_zero]
  repeat (with_reducible refine wpStill_step (fun K hK => ?_); go_simp; (with_reducible refine hK _ ?_); clear hK K)
  refine wpStill_nil (hKK _ _ ?_)
  clear hKK KK
  simp only [List.drop_succ_cons, List.drop_zero]
  go_wp2_with (go_at_call 75; (with_reducible refine (Hput.out _ HB.out.drew).mono ?_); rintro e w1 ⟨rfl, hg, hs⟩)
  go_ret
  exact Hfin.out _ _ _ rfl HB.out.drew hg hs
end Go.Proofs.YtlledodigmkdjaaGreatDoor
