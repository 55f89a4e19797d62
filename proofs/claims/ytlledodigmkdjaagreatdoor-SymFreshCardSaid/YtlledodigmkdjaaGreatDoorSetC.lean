/-
  Walks over package order at ponder/book.pair[ponder/sym.capital, int]: Put, New. No condition but a bound on sizes.
-/
import Derived.Test.YtlledodigmkdjaaGreatDoorProg
import Derived.Test.YtlledodigmkdjaaGreatDoorKit
import Derived.Test.YtlledodigmkdjaaGreatDoorKit2
import Derived.Test.YtlledodigmkdjaaGreatDoorWithC
import Derived.WalkKit
import Derived.WalkLawsBesides
import Derived.Handy
import Derived.Lib.Hide
import Derived.StillTailTactics
import Derived.BigQuiet
import Derived.Deep.QuietTactic
import Derived.Deep.RegionHeld3
namespace Go.Proofs.YtlledodigmkdjaaGreatDoor
set_option linter.unusedVariables false
open Go.RowKit

def SetC (w : World) (b : Nat) (xs : List Pc) : Prop := IsSet encC 134 110 cmpC w b xs
def PutOutC (w : World) (b : Nat) (x : Pc) (xs : List Pc) (e : Ending) (w' : World) : Prop := e = .returned (.bool (!has cmpC x xs)) ∧ w.grownBy w' (some b) ∧ SetC w' b (ins cmpC x xs)
theorem put_anyC (w : World) (b : Nat) (x : Pc) (xs : List Pc) (h : SetC w b xs) (hz : xs.length ≤ 1000000) : Calls Tryz.prog 75 #[.pointer (some ⟨b, 0, none⟩), .agg #[.int .u8 x.k, .int .i64 x.v]] w (PutOutC w b x xs) := by
  obtain ⟨p, T, hr, ht, rfl, hs⟩ := h
  have hB : Below w.heap.size w (w.alloc (.cells #[.int .u8 x.k, .int .i64 x.v] 91)) := by go_grown
  have hlt := heap_lt hr
  have hw := fun w' h => with_anyC x T w w' p ht h hs (by rw [BT.size_eq]; exact hz)
  have KEEP : ∀ w', Below (w.alloc (.cells #[.int .u8 x.k, .int .i64 x.v] 91)).heap.size (w.alloc (.cells #[.int .u8 x.k, .int .i64 x.v] 91)) w' → (w'.cell? ⟨w.heap.size, 0, none⟩ = some (.int .u8 x.k) ∧ w'.cell? ⟨w.heap.size, 1, none⟩ = some (.int .i64 x.v) ∧  w'.cell? ⟨b, 0, none⟩ = some (.pointer p)) := by
    intro w' h
    have hx := cells_of (W := w.alloc (.cells #[.int .u8 x.k, .int .i64 x.v] 91)) (b := w.heap.size) (c := #[.int .u8 x.k, .int .i64 x.v]) (t := 91) (f := (0, 0)) (new_at rfl)
    exact ⟨(h.cell (p := ⟨w.heap.size, 0, none⟩) (by simp)).trans (by rw [hx]; rfl), (h.cell (p := ⟨w.heap.size, 1, none⟩) (by simp)).trans (by rw [hx]; rfl),  by rw [cells_of (((hB.trans (h.mono hB.size)).block b hlt).trans hr)]; rfl⟩
  have hfin : ∀ (e : Ending) (w2 : World) (q : Option Addr) (Tq : BT Pc), e = .returned (.bool (!has cmpC x T.toList)) → Below w.heap.size w w2 → TreeC w2 q Tq → Tq.toList = ins cmpC x T.toList →
      PutOutC w b x T.toList e (w2.setCell ⟨b, 0, none⟩ (.pointer q)) := by
    intro e w2 q Tq he hb2 h2 h3
    have hr2 := (hb2.block b hlt).trans hr
    refine ⟨he, gtrans (gbelow hb2) (gset _ _ _ _), ⟨q, Tq, set_heap hr2, h2.but (gset _ _ _ _) hr2 (by decide), h3, ins_sorted cmpC_cmp hs⟩⟩
  have hfz : ∀ w2, Below w.heap.size w w2 → w2.frozen? ⟨b, 0, none⟩ = false := fun w2 h => frozen_of ((h.block b hlt).trans hr)
  have hK := Lib.hid KEEP
  have K0 := KEEP _ (Below.refl _ _)
  obtain ⟨x0, x1, k0⟩ := K0
  have Hw := Lib.hid hw
  have Hfin := Lib.hid hfin
  have Hfz := Lib.hid hfz
  have Hup := Lib.hid (fun w' h => hB.trans (Below.mono h hB.size) : ∀ w', Below (w.alloc (.cells #[.int .u8 x.k, .int .i64 x.v] 91)).heap.size (w.alloc (.cells #[.int .u8 x.k, .int .i64 x.v] 91)) w' → Below w.heap.size w w')
  clear KEEP hw hfin hfz hs
  go_enter Tryz.func75, Tryz.ntmps75
  go_wp2_with fail
  go_region_held3 (fun w' => Below (w.alloc (.cells #[.int .u8 x.k, .int .i64 x.v] 91)).heap.size (w.alloc (.cells #[.int .u8 x.k, .int .i64 x.v] 91)) w' ∧ w'.cell? ⟨w.heap.size, 0, none⟩ = some (.int .u8 x.k) ∧ w'.cell? ⟨w.heap.size, 1, none⟩ = some (.int .i64 x.v) ∧  w'.cell? ⟨b, 0, none⟩ = some (.pointer p))
    (first | exact ⟨(Below.refl _ _).drew, hK.out _ (Below.refl _ _).drew⟩ | exact ⟨hBa.out, hK.out _ hBa.out⟩ | go_keep)
    (first | (go_at_call 90; (with_reducible refine (Hw.out _ (Hup.out _ (Below.refl _ _).drew)).mono ?_); unfold WithOutC; rintro e w2 ⟨q, Tq, rfl, hb2, h2, h3⟩; have hBa : Hid (Below (w.alloc (.cells #[.int .u8 x.k, .int .i64 x.v] 91)).heap.size (w.alloc (.cells #[.int .u8 x.k, .int .i64 x.v] 91)) w2) := Lib.hid ((Below.refl (w.alloc (.cells #[.int .u8 x.k, .int .i64 x.v] 91)).heap.size (w.alloc (.cells #[.int .u8 x.k, .int .i64 x.v] 91))).drew.trans hb2); clear hb2))
  have hB2 := Hup.out _ hBa.out
  have hf := Hfz.out _ hB2
  have hc2 := hK.out _ hBa.out
  obtain ⟨n0, n1,  hc2⟩ := hc2
  go_wp2_with fail
  go_ret
  exact Hfin.out _ _ q Tq rfl hB2 h2 h3
end Go.Proofs.YtlledodigmkdjaaGreatDoor
