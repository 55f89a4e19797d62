/-
  Walks over package book at pairs ponder/book.pair[ponder/api.Sym, int]: New, Put of a new key. No condition but a bound on sizes.
-/
import Derived.Test.YthgidldcblchmaaProg
import Derived.Test.YthgidldcblchmaaKit
import Derived.Test.YthgidldcblchmaaNewP
import Derived.Test.YthgidldcblchmaaKit3
import Derived.WalkKit
import Derived.WalkLawsBesides
import Derived.Handy
import Derived.Lib.Hide
import Derived.StillTailTactics
import Derived.BigQuiet
import Derived.Deep.QuietTactic
import Derived.Deep.RegionHeld3
namespace Go.Proofs.Ythgidldcblchmaa
set_option linter.unusedVariables false
open Go.RowKit

/-- A map at block b: its set of pairs lies at block s. -/
def MapP (w : World) (b s : Nat) (xs : List Pr) : Prop := w.heap[b]? = some (.cells #[.pointer (some ⟨s, 0, none⟩)] 102 (0, 0)) ∧ SetP w s xs
theorem MapP.mono {w w' : World} {b s : Nat} {xs : List Pr} (h : MapP w b s xs) (hb : Below w.heap.size w w') : MapP w' b s xs := ⟨(hb.block b (heap_lt h.1)).trans h.1, IsSet.mono h.2 hb⟩
def NewMOutP (w : World) (e : Ending) (w' : World) : Prop := ∃ b s, e = .returned (.pointer (some ⟨b, 0, none⟩)) ∧ w.heap.size ≤ s ∧ s < b ∧ Below w.heap.size w w' ∧ MapP w' b s []
theorem new_mapP (w : World) : Calls Try.prog 21 #[] w (NewMOutP w) := by
  have hfin : ∀ (e : Ending) (w1 : World) (s : Nat), e = .returned (.pointer (some ⟨w1.heap.size, 0, none⟩)) → w.heap.size ≤ s → Below w.heap.size w w1 → SetP w1 s (insAll cmpP [] []) → NewMOutP w e (w1.alloc (.cells #[.pointer (some ⟨s, 0, none⟩)] 102)) := fun e w1 s he hs hb h =>
    ⟨w1.heap.size, s, he, hs, IsSet.lt h, hb.alloc hb.size _, new_at rfl, IsSet.mono h ((Below.refl _ _).alloc (Nat.le_refl _) _)⟩
  have Hfin := Lib.hid hfin
  clear hfin
  go_enter Try.func21, Try.ntmps21
  go_wp2_with (go_at_call 59; refine (new_nilP w).mono ?_; unfold NewOutP; rintro e w1 ⟨s, rfl, hs, hb, hset⟩)
  go_ret
  exact Hfin.out _ _ _ rfl hs hb hset
def PutMOutP (w : World) (b s : Nat) (ok : Bool) (xs : List Pr) (e : Ending) (w' : World) : Prop := e = .returned (.bool ok) ∧ w.grownBy w' (some s) ∧ MapP w' b s xs
set_option maxHeartbeats 1000000 in
theorem put_newP (w : World) (b s : Nat) (x : Pr) (xs : List Pr) (h : MapP w b s xs) (hz : xs.length ≤ 1000000) (hn : has cmpP x xs = false) :
    Calls Try.prog 25 #[.pointer (some ⟨b, 0, none⟩), .agg #[.int .i64 x.k.k, .string x.k.t, .int .i64 x.k.n], .int .i64 x.v] w (PutMOutP w b s true (ins cmpP x xs)) := by
  obtain ⟨hb, hS⟩ := h
  have hne : b ≠ s := by
    rintro rfl
    obtain ⟨p, T, hr, -⟩ := hS
    rw [hb] at hr; cases hr
  have hlt := heap_lt hb
  have hsl := IsSet.lt hS
  obtain ⟨W2, hW2⟩ : ∃ W2, W2 = (w.alloc (.cells #[.int .i64 x.k.k, .string x.k.t, .int .i64 x.k.n] 27)).alloc (.cells #[.int .i64 x.k.k, .string x.k.t, .int .i64 x.k.n, .int .i64 x.v] 100) := ⟨_, rfl⟩
  have hB : Below w.heap.size w W2 := by rw [hW2]; go_grown
  have hk : ∀ w', Below W2.heap.size W2 w' → (w'.cell? ⟨b, 0, none⟩ = some (.pointer (some ⟨s, 0, none⟩)) ∧ w'.cell? ⟨w.heap.size + 1, 0, none⟩ = some (.int .i64 x.k.k) ∧ w'.cell? ⟨w.heap.size + 1, 1, none⟩ = some (.string x.k.t) ∧ w'.cell? ⟨w.heap.size + 1, 2, none⟩ = some (.int .i64 x.k.n) ∧ w'.cell? ⟨w.heap.size + 1, 3, none⟩ = some (.int .i64 x.v)) := by
    intro w' h
    have h1 := ((hB.trans (h.mono hB.size)).block b hlt).trans hb
    have h2 := (h.block (w.heap.size + 1) (by rw [hW2]; simp)).trans (show W2.heap[w.heap.size + 1]? = some (.cells #[.int .i64 x.k.k, .string x.k.t, .int .i64 x.k.n, .int .i64 x.v] 100 (0, 0)) by rw [hW2]; exact new_at (by simp))
    refine ⟨by rw [cells_of h1]; rfl, ?_, ?_, ?_, ?_⟩ <;> (rw [cells_of h2]; rfl)
  have hput := fun w' (h : Below w.heap.size w w') => (put_anyP w' s x xs (IsSet.mono hS h) hz).mono (R' := fun e w2 => e = .returned (.bool true) ∧ w'.grownBy w2 (some s) ∧ SetP w2 s (ins cmpP x xs)) (by
    rintro e w2 ⟨he, h1, h2⟩
    rw [hn] at he
    exact ⟨he, h1, h2⟩)
  have hfin : ∀ (e : Ending) (w1 w2 : World), e = .returned (.bool true) → Below w.heap.size w w1 → w1.grownBy w2 (some s) → SetP w2 s (ins cmpP x xs) → PutMOutP w b s true (ins cmpP x xs) e w2 := fun e w1 w2 he h1 h2 h3 =>
    ⟨he, gtrans (gbelow h1) h2, ⟨(h2.block b (Nat.lt_of_lt_of_le hlt h1.size) (by simpa using hne)).trans ((h1.block b hlt).trans hb), h3⟩⟩
  have hK := Lib.hid hk
  have Hput := Lib.hid hput
  have Hfin := Lib.hid hfin
  have HB := Lib.hid hB
  have HW := Lib.hid hW2
  obtain ⟨c0, d0, d1, d2, d3⟩ := hk W2 (Below.refl _ _)
  clear hk hput hfin hB hb hS hW2
  go_enter Try.func25, Try.ntmps25
  go_wp2_with fail
  rw [← HW.out]
  refine region_tail 5 (by kernel_rfl) (by kernel_rfl) (fun KK hKK => ?_)
  simp only [List.take_succ_cons, List.take_zero]
  repeat (with_reducible refine wpStill_step (fun K hK => ?_); go_simp; (with_reducible refine hK _ ?_); clear hK K)
  refine wpStill_nil (hKK _ _ ?_)
  clear hKK KK
  simp only [List.drop_succ_cons, List.drop_zero]
  go_wp2_with (go_at_call 60; (with_reducible refine (Hput.out _ HB.out.drew).mono ?_); rintro e w1 ⟨rfl, hg, hs⟩)
  go_ret
  exact Hfin.out _ _ _ rfl HB.out.drew hg hs
end Go.Proofs.Ythgidldcblchmaa
