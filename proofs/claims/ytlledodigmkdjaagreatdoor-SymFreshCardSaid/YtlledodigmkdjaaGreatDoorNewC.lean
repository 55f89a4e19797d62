/-
  Walks over package order at ponder/book.pair[ponder/sym.capital, int]: New. No condition but a bound on sizes.
-/
import Derived.Test.YtlledodigmkdjaaGreatDoorProg
import Derived.Test.YtlledodigmkdjaaGreatDoorKit
import Derived.Test.YtlledodigmkdjaaGreatDoorKit2
import Derived.Test.YtlledodigmkdjaaGreatDoorSetC
import Derived.WalkKit
import Derived.WalkLawsBesides
import Derived.Handy
import Derived.Lib.Hide
import Derived.StillTailTactics
import Derived.BigQuiet
import Derived.Deep.QuietTactic
import Derived.Deep.RegionHeld3
namespace Go.Proofs.YtlledodigmkdjaaGreatDoor
set_option linter.unusedVariables false
open Go.RowKit

def NewOutC (w : World) (xs : List Pc) (e : Ending) (w' : World) : Prop := ∃ b, e = .returned (.pointer (some ⟨b, 0, none⟩)) ∧ w.heap.size ≤ b ∧ Below w.heap.size w w' ∧ SetC w' b (insAll cmpC [] xs)
theorem new_nilC (w : World) : Calls Tryz.prog 59 #[.slice none 0 0] w (NewOutC w []) := by
  have hfin : ∀ e, e = .returned (.pointer (some ⟨w.heap.size, 0, none⟩)) → NewOutC w [] e (w.alloc (.cells #[.pointer none] 110)) := fun e he =>
    ⟨w.heap.size, he, Nat.le_refl _, by go_grown, ⟨none, .leaf, new_at rfl, rfl, rfl, List.Pairwise.nil⟩⟩
  have Hfin := Lib.hid hfin
  clear hfin
  go_enter Tryz.func59, Tryz.ntmps59
  go_wp2_with fail
  go_loopw [10] (fun i wr => i = .int .i64 0 ∧ wr = w.alloc (.cells #[.pointer none] 110)) (fun _ _ => 0)
  case atStart => exact ⟨rfl, rfl⟩
  case round =>
    obtain ⟨rfl, rfl⟩ := hrel
    go_wp2_with fail
    go_ret
    exact Hfin.out _ rfl
set_option maxHeartbeats 1000000 in
theorem new_someC (w : World) (b off cap : Nat) (xs : List Pc) (hb : b < w.heap.size) (hz : xs.length ≤ 1000000)
    (hc : ∀ i (h : i < xs.length) j c, (encC xs[i])[j]? = some c → w.cell? ⟨b, off + i * 2 + j, none⟩ = some c) :
    Calls Tryz.prog 59 #[.slice (some ⟨b, off, none⟩) xs.length cap] w (NewOutC w xs) := by
  have hfin : ∀ e wr, e = .returned (.pointer (some ⟨w.heap.size, 0, none⟩)) → Below w.heap.size w wr → SetC wr w.heap.size (insAll cmpC [] xs) → NewOutC w xs e wr := fun e wr he h1 h2 =>
    ⟨w.heap.size, he, Nat.le_refl _, h1, h2⟩
  have hset0 : SetC (w.alloc (.cells #[.pointer none] 110)) w.heap.size (insAll cmpC [] (xs.take 0)) := ⟨none, .leaf, new_at rfl, rfl, rfl, List.Pairwise.nil⟩
  have hput := fun (wr : World) (x : Pc) (ys : List Pc) h1 h2 => put_anyC wr w.heap.size x ys h1 h2
  have Hfin := Lib.hid hfin
  have Hput := Lib.hid hput
  have Hc := Lib.hid hc
  clear hfin hput hc
  go_enter Tryz.func59, Tryz.ntmps59
  go_wp2_with fail
  go_loopw [10] (fun i wr => ∃ k : Nat, k ≤ xs.length ∧ i = .int .i64 k ∧ Below w.heap.size w wr ∧ SetC wr w.heap.size (insAll cmpC [] (xs.take k))) (fun i _ => xs.length - (intOf i).toNat)
  case atStart => exact ⟨0, Nat.zero_le _, rfl, by go_grown, hset0⟩
  case round =>
    obtain ⟨k, hk, rfl, hbw, hsw⟩ := hrel
    by_cases hlt : k < xs.length
    · have h0 := fun j c h => (hbw.cell (p := ⟨b, off + k * 2 + j, none⟩) hb).trans (Hc.out k hlt j c h)
      have hx : ∃ x, x = xs[k] := ⟨_, rfl⟩
      obtain ⟨x, hx⟩ := hx
      rw [← hx] at h0
      have c0 := h0 0 _ rfl
      simp only [Nat.add_zero] at c0
      have c1 := h0 1 _ rfl
      have hlen := insAll_length cmpC (xs.take k) []
      have hlen2 : (xs.take k).length ≤ k := List.length_take_le _ _
      have hnext : insAll cmpC [] (xs.take (k + 1)) = ins cmpC x (insAll cmpC [] (xs.take k)) := by
        rw [List.take_succ_eq_append_getElem hlt, insAll_snoc, hx]
      have HS := Lib.hid (fun W h => IsSet.mono hsw h : ∀ W, Below wr.heap.size wr W → SetC W w.heap.size (insAll cmpC [] (xs.take k)))
      have HN := Lib.hid hnext
      have HX := Lib.hid hx
      clear h0 hsw hnext hx
      generalize insAll cmpC [] (xs.take k) = ys at HS HN hlen
      have hys : ys.length ≤ 1000000 := by simp at hlen; omega
      clear hlen hlen2
      go_wp2_with (go_at_call 75; refine (Hput.out _ x ys (by exact HS.out _ (by go_grown)) hys).mono ?_; unfold PutOutC; rintro e w2 ⟨rfl, hg2, hs2⟩)
      go_roundw
      case rel => exact ⟨k + 1, by omega, by go_num, (hbw.alloc hbw.size _).trans (belowg hg2 (by have := hbw.size; simp; omega) (Nat.le_refl _)), by rw [HN.out]; exact hs2⟩
      case measure => simp [intOf]; omega
    · obtain rfl : k = xs.length := by omega
      rw [List.take_length] at hsw
      go_wp2_with fail
      go_ret
      exact Hfin.out _ _ rfl hbw hsw
theorem new_anyC (w : World) (v : Value) (xs : List Pc) (h : SliceAt encC 2 w v xs) (hz : xs.length ≤ 1000000) : Calls Tryz.prog 59 #[v] w (NewOutC w xs) := by
  rcases h with ⟨rfl, rfl⟩ | ⟨b, off, cap, rfl, h2, -, h4⟩
  · exact new_nilC w
  · exact new_someC w b off cap xs h2 hz h4
end Go.Proofs.YtlledodigmkdjaaGreatDoor
