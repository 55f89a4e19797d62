/-
  Walks over package order at ponder/api.Sym: Put, New. No condition but a bound on sizes.
-/
import Derived.Test.YthgidldcblchmaaProg
import Derived.Test.YthgidldcblchmaaKit
import Derived.Test.YthgidldcblchmaaKit2
import Derived.Test.YthgidldcblchmaaWithS
import Derived.WalkKit
import Derived.WalkLawsBesides
import Derived.Handy
import Derived.Lib.Hide
import Derived.StillTailTactics
import Derived.BigQuiet
import Derived.Deep.QuietTactic
import Derived.Deep.RegionHeld3
namespace Go.Proofs.Ythgidldcblchmaa
set_option linter.unusedVariables false
open Go.RowKit

def SetS (w : World) (b : Nat) (xs : List Sy) : Prop := IsSet encS 156 131 cmpY w b xs
def PutOutS (w : World) (b : Nat) (x : Sy) (xs : List Sy) (e : Ending) (w' : World) : Prop := e = .returned (.bool (!has cmpY x xs)) ∧ w.grownBy w' (some b) ∧ SetS w' b (ins cmpY x xs)
theorem put_anyS (w : World) (b : Nat) (x : Sy) (xs : List Sy) (h : SetS w b xs) (hz : xs.length ≤ 1000000) : Calls Try.prog 81 #[.pointer (some ⟨b, 0, none⟩), .agg #[.int .i64 x.k, .string x.t, .int .i64 x.n]] w (PutOutS w b x xs) := by
  obtain ⟨p, T, hr, ht, rfl, hs⟩ := h
  have hB : Below w.heap.size w (w.alloc (.cells #[.int .i64 x.k, .string x.t, .int .i64 x.n] 27)) := by go_grown
  have hlt := heap_lt hr
  have hw := fun w' h => with_anyS x T w w' p ht h hs (by rw [BT.size_eq]; exact hz)
  have KEEP : ∀ w', Below (w.alloc (.cells #[.int .i64 x.k, .string x.t, .int .i64 x.n] 27)).heap.size (w.alloc (.cells #[.int .i64 x.k, .string x.t, .int .i64 x.n] 27)) w' → (w'.cell? ⟨w.heap.size, 0, none⟩ = some (.int .i64 x.k) ∧ w'.cell? ⟨w.heap.size, 1, none⟩ = some (.string x.t) ∧ w'.cell? ⟨w.heap.size, 2, none⟩ = some (.int .i64 x.n) ∧  w'.cell? ⟨b, 0, none⟩ = some (.pointer p)) := by
    intro w' h
    have hx := cells_of (W := w.alloc (.cells #[.int .i64 x.k, .string x.t, .int .i64 x.n] 27)) (b := w.heap.size) (c := #[.int .i64 x.k, .string x.t, .int .i64 x.n]) (t := 27) (f := (0, 0)) (new_at rfl)
    exact ⟨(h.cell (p := ⟨w.heap.size, 0, none⟩) (by simp)).trans (by rw [hx]; rfl), (h.cell (p := ⟨w.heap.size, 1, none⟩) (by simp)).trans (by rw [hx]; rfl), (h.cell (p := ⟨w.heap.size, 2, none⟩) (by simp)).trans (by rw [hx]; rfl),  by rw [cells_of (((hB.trans (h.mono hB.size)).block b hlt).trans hr)]; rfl⟩
  have hfin : ∀ (e : Ending) (w2 : World) (q : Option Addr) (Tq : BT Sy), e = .returned (.bool (!has cmpY x T.toList)) → Below w.heap.size w w2 → TreeS w2 q Tq → Tq.toList = ins cmpY x T.toList →
      PutOutS w b x T.toList e (w2.setCell ⟨b, 0, none⟩ (.pointer q)) := by
    intro e w2 q Tq he hb2 h2 h3
    have hr2 := (hb2.block b hlt).trans hr
    refine ⟨he, gtrans (gbelow hb2) (gset _ _ _ _), ⟨q, Tq, set_heap hr2, h2.but (gset _ _ _ _) hr2 (by decide), h3, ins_sorted cmpY_cmp hs⟩⟩
  have hfz : ∀ w2, Below w.heap.size w w2 → w2.frozen? ⟨b, 0, none⟩ = false := fun w2 h => frozen_of ((h.block b hlt).trans hr)
  have hK := Lib.hid KEEP
  have K0 := KEEP _ (Below.refl _ _)
  obtain ⟨x0, x1, x2, k0⟩ := K0
  have Hw := Lib.hid hw
  have Hfin := Lib.hid hfin
  have Hfz := Lib.hid hfz
  have Hup := Lib.hid (fun w' h => hB.trans (Below.mono h hB.size) : ∀ w', Below (w.alloc (.cells #[.int .i64 x.k, .string x.t, .int .i64 x.n] 27)).heap.size (w.alloc (.cells #[.int .i64 x.k, .string x.t, .int .i64 x.n] 27)) w' → Below w.heap.size w w')
  clear KEEP hw hfin hfz hs
  go_enter Try.func81, Try.ntmps81
  go_wp2_with fail
  go_region_held3 (fun w' => Below (w.alloc (.cells #[.int .i64 x.k, .string x.t, .int .i64 x.n] 27)).heap.size (w.alloc (.cells #[.int .i64 x.k, .string x.t, .int .i64 x.n] 27)) w' ∧ w'.cell? ⟨w.heap.size, 0, none⟩ = some (.int .i64 x.k) ∧ w'.cell? ⟨w.heap.size, 1, none⟩ = some (.string x.t) ∧ w'.cell? ⟨w.heap.size, 2, none⟩ = some (.int .i64 x.n) ∧  w'.cell? ⟨b, 0, none⟩ = some (.pointer p))
    (first | exact ⟨(Below.refl _ _).drew, hK.out _ (Below.refl _ _).drew⟩ | exact ⟨hBa.out, hK.out _ hBa.out⟩ | go_keep)
    (first | (go_at_call 101; (with_reducible refine (Hw.out _ (Hup.out _ (Below.refl _ _).drew)).mono ?_); unfold WithOutS; rintro e w2 ⟨q, Tq, rfl, hb2, h2, h3⟩; have hBa : Hid (Below (w.alloc (.cells #[.int .i64 x.k, .string x.t, .int .i64 x.n] 27)).heap.size (w.alloc (.cells #[.int .i64 x.k, .string x.t, .int .i64 x.n] 27)) w2) := Lib.hid ((Below.refl (w.alloc (.cells #[.int .i64 x.k, .string x.t, .int .i64 x.n] 27)).heap.size (w.alloc (.cells #[.int .i64 x.k, .string x.t, .int .i64 x.n] 27))).drew.trans hb2); clear hb2))
  have hB2 := Hup.out _ hBa.out
  have hf := Hfz.out _ hB2
  have hc2 := hK.out _ hBa.out
  obtain ⟨n0, n1, n2,  hc2⟩ := hc2
  go_wp2_with fail
  go_ret
  exact Hfin.out _ _ q Tq rfl hB2 h2 h3
end Go.Proofs.Ythgidldcblchmaa
