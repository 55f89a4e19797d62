/-
  Walks over package order at ponder/shape.variable: Put, New. No condition but a bound on sizes.
-/
import Derived.Test.YtccphigpobnjmaaProg
import Derived.Test.YtccphigpobnjmaaKit
import Derived.Test.YtccphigpobnjmaaKit2
import Derived.Test.YtccphigpobnjmaaWithV
import Derived.WalkKit
import Derived.WalkLawsBesides
import Derived.Handy
import Derived.Lib.Hide
import Derived.StillTailTactics
import Derived.BigQuiet
import Derived.Deep.QuietTactic
import Derived.Deep.RegionHeld3
namespace Go.Proofs.Ytccphigpobnjmaa
set_option linter.unusedVariables false
open Go.RowKit

def SetV (w : World) (b : Nat) (xs : List ByteArray) : Prop := IsSet encV 153 138 cmpS w b xs
def PutOutV (w : World) (b : Nat) (x : ByteArray) (xs : List ByteArray) (e : Ending) (w' : World) : Prop := e = .returned (.bool (!has cmpS x xs)) ∧ w.grownBy w' (some b) ∧ SetV w' b (ins cmpS x xs)
theorem put_anyV (w : World) (b : Nat) (x : ByteArray) (xs : List ByteArray) (h : SetV w b xs) (hz : xs.length ≤ 1000000) : Calls Try.prog 107 #[.pointer (some ⟨b, 0, none⟩), .string x] w (PutOutV w b x xs) := by
  obtain ⟨p, T, hr, ht, rfl, hs⟩ := h
  have hB : Below w.heap.size w (w) := by go_grown
  have hlt := heap_lt hr
  have hw := fun w' h => with_anyV x T w w' p ht h hs (by rw [BT.size_eq]; exact hz)
  have KEEP : ∀ w', Below (w).heap.size (w) w' → ( w'.cell? ⟨b, 0, none⟩ = some (.pointer p)) := by
    intro w' h
    exact (by rw [cells_of (((hB.trans (h.mono hB.size)).block b hlt).trans hr)]; rfl)
  have hfin : ∀ (e : Ending) (w2 : World) (q : Option Addr) (Tq : BT ByteArray), e = .returned (.bool (!has cmpS x T.toList)) → Below w.heap.size w w2 → TreeV w2 q Tq → Tq.toList = ins cmpS x T.toList →
      PutOutV w b x T.toList e (w2.setCell ⟨b, 0, none⟩ (.pointer q)) := by
    intro e w2 q Tq he hb2 h2 h3
    have hr2 := (hb2.block b hlt).trans hr
    refine ⟨he, gtrans (gbelow hb2) (gset _ _ _ _), ⟨q, Tq, set_heap hr2, h2.but (gset _ _ _ _) hr2 (by decide), h3, ins_sorted cmpS_cmp hs⟩⟩
  have hfz : ∀ w2, Below w.heap.size w w2 → w2.frozen? ⟨b, 0, none⟩ = false := fun w2 h => frozen_of ((h.block b hlt).trans hr)
  have hK := Lib.hid KEEP
  have K0 := KEEP _ (Below.refl _ _)
  have k0 := K0
  have Hw := Lib.hid hw
  have Hfin := Lib.hid hfin
  have Hfz := Lib.hid hfz
  have Hup := Lib.hid (fun w' h => hB.trans (Below.mono h hB.size) : ∀ w', Below (w).heap.size (w) w' → Below w.heap.size w w')
  clear KEEP hw hfin hfz hs
  go_enter Try.func107, Try.ntmps107
  go_wp2_with (go_at_call 116; (with_reducible refine (Hw.out _ (Below.refl _ _)).mono ?_); unfold WithOutV; rintro e w2 ⟨q, Tq, rfl, hB2, h2, h3⟩; have hf := Hfz.out _ hB2; have hc2 := hK.out _ hB2)
  go_wp2_with fail
  go_ret
  exact Hfin.out _ _ q Tq rfl hB2 h2 h3
end Go.Proofs.Ytccphigpobnjmaa
