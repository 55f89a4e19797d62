/-
  Walks over package order at ponder/shape.variable: New. No condition but a bound on sizes.
-/
import Derived.Test.YtccphigpobnjmaaProg
import Derived.Test.YtccphigpobnjmaaKit
import Derived.Test.YtccphigpobnjmaaKit2
import Derived.Test.YtccphigpobnjmaaSetV
import Derived.WalkKit
import Derived.WalkLawsBesides
import Derived.Handy
import Derived.Lib.Hide
import Derived.StillTailTactics
import Derived.BigQuiet
import Derived.Deep.QuietTactic
import Derived.Deep.RegionHeld3
namespace Go.Proofs.Ytccphigpobnjmaa
set_option linter.unusedVariables false
open Go.RowKit

def NewOutV (w : World) (xs : List ByteArray) (e : Ending) (w' : World) : Prop := ∃ b, e = .returned (.pointer (some ⟨b, 0, none⟩)) ∧ w.heap.size ≤ b ∧ Below w.heap.size w w' ∧ SetV w' b (insAll cmpS [] xs)
theorem new_nilV (w : World) : Calls Try.prog 96 #[.slice none 0 0] w (NewOutV w []) := by
  have hfin : ∀ e, e = .returned (.pointer (some ⟨w.heap.size, 0, none⟩)) → NewOutV w [] e (w.alloc (.cells #[.pointer none] 138)) := fun e he =>
    ⟨w.heap.size, he, Nat.le_refl _, by go_grown, ⟨none, .leaf, new_at rfl, rfl, rfl, List.Pairwise.nil⟩⟩
  have Hfin := Lib.hid hfin
  clear hfin
  go_enter Try.func96, Try.ntmps96
  go_wp2_with fail
  go_loopw [10] (fun i wr => i = .int .i64 0 ∧ wr = w.alloc (.cells #[.pointer none] 138)) (fun _ _ => 0)
  case atStart => exact ⟨rfl, rfl⟩
  case round =>
    obtain ⟨rfl, rfl⟩ := hrel
    go_wp2_with fail
    go_ret
    exact Hfin.out _ rfl
set_option maxHeartbeats 1000000 in
theorem new_someV (w : World) (b off cap : Nat) (xs : List ByteArray) (hb : b < w.heap.size) (hz : xs.length ≤ 1000000)
    (hc : ∀ i (h : i < xs.length) j c, (encV xs[i])[j]? = some c → w.cell? ⟨b, off + i * 1 + j, none⟩ = some c) :
    Calls Try.prog 96 #[.slice (some ⟨b, off, none⟩) xs.length cap] w (NewOutV w xs) := by
  have hfin : ∀ e wr, e = .returned (.pointer (some ⟨w.heap.size, 0, none⟩)) → Below w.heap.size w wr → SetV wr w.heap.size (insAll cmpS [] xs) → NewOutV w xs e wr := fun e wr he h1 h2 =>
    ⟨w.heap.size, he, Nat.le_refl _, h1, h2⟩
  have hset0 : SetV (w.alloc (.cells #[.pointer none] 138)) w.heap.size (insAll cmpS [] (xs.take 0)) := ⟨none, .leaf, new_at rfl, rfl, rfl, List.Pairwise.nil⟩
  have hput := fun (wr : World) (x : ByteArray) (ys : List ByteArray) h1 h2 => put_anyV wr w.heap.size x ys h1 h2
  have Hfin := Lib.hid hfin
  have Hput := Lib.hid hput
  have Hc := Lib.hid hc
  clear hfin hput hc
  go_enter Try.func96, Try.ntmps96
  go_wp2_with fail
  go_loopw [10] (fun i wr => ∃ k : Nat, k ≤ xs.length ∧ i = .int .i64 k ∧ Below w.heap.size w wr ∧ SetV wr w.heap.size (insAll cmpS [] (xs.take k))) (fun i _ => xs.length - (intOf i).toNat)
  case atStart => exact ⟨0, Nat.zero_le _, rfl, by go_grown, hset0⟩
  case round =>
    obtain ⟨k, hk, rfl, hbw, hsw⟩ := hrel
    by_cases hlt : k < xs.length
    · have h0 := fun j c h => (hbw.cell (p := ⟨b, off + k * 1 + j, none⟩) hb).trans (Hc.out k hlt j c h)
      have hx : ∃ x, x = xs[k] := ⟨_, rfl⟩
      obtain ⟨x, hx⟩ := hx
      rw [← hx] at h0
      simp only [Nat.mul_one] at h0
      have c0 := h0 0 _ rfl
      simp only [Nat.add_zero] at c0
      have hlen := insAll_length cmpS (xs.take k) []
      have hlen2 : (xs.take k).length ≤ k := List.length_take_le _ _
      have hnext : insAll cmpS [] (xs.take (k + 1)) = ins cmpS x (insAll cmpS [] (xs.take k)) := by
        rw [List.take_succ_eq_append_getElem hlt, insAll_snoc, hx]
      have HS := Lib.hid (fun W h => IsSet.mono hsw h : ∀ W, Below wr.heap.size wr W → SetV W w.heap.size (insAll cmpS [] (xs.take k)))
      have HN := Lib.hid hnext
      have HX := Lib.hid hx
      clear h0 hsw hnext hx
      generalize insAll cmpS [] (xs.take k) = ys at HS HN hlen
      have hys : ys.length ≤ 1000000 := by simp at hlen; omega
      clear hlen hlen2
      go_wp2_with (go_at_call 107; refine (Hput.out _ x ys (by exact HS.out _ (Below.refl _ _)) hys).mono ?_; unfold PutOutV; rintro e w2 ⟨rfl, hg2, hs2⟩)
      go_roundw
      case rel => exact ⟨k + 1, by omega, by go_num, hbw.trans (belowg hg2 hbw.size (Nat.le_refl _)), by rw [HN.out]; exact hs2⟩
      case measure => simp [intOf]; omega
    · obtain rfl : k = xs.length := by omega
      rw [List.take_length] at hsw
      go_wp2_with fail
      go_ret
      exact Hfin.out _ _ rfl hbw hsw
theorem new_anyV (w : World) (v : Value) (xs : List ByteArray) (h : SliceAt encV 1 w v xs) (hz : xs.length ≤ 1000000) : Calls Try.prog 96 #[v] w (NewOutV w xs) := by
  rcases h with ⟨rfl, rfl⟩ | ⟨b, off, cap, rfl, h2, -, h4⟩
  · exact new_nilV w
  · exact new_someV w b off cap xs h2 hz h4
end Go.Proofs.Ytccphigpobnjmaa
