/-
  Walks over package order at ponder/api.Sym: New, Len. No condition but a bound on sizes.
-/
import Derived.Test.YthgidldcblchmaaProg
import Derived.Test.YthgidldcblchmaaKit
import Derived.Test.YthgidldcblchmaaKit2
import Derived.Test.YthgidldcblchmaaSetS
import Derived.WalkKit
import Derived.WalkLawsBesides
import Derived.Handy
import Derived.Lib.Hide
import Derived.StillTailTactics
import Derived.BigQuiet
import Derived.Deep.QuietTactic
import Derived.Deep.RegionHeld3
namespace Go.Proofs.Ythgidldcblchmaa
set_option linter.unusedVariables false
open Go.RowKit

def NewOutS (w : World) (xs : List Sy) (e : Ending) (w' : World) : Prop := ∃ b, e = .returned (.pointer (some ⟨b, 0, none⟩)) ∧ w.heap.size ≤ b ∧ Below w.heap.size w w' ∧ SetS w' b (insAll cmpY [] xs)
theorem new_nilS (w : World) : Calls Try.prog 50 #[.slice none 0 0] w (NewOutS w []) := by
  have hfin : ∀ e, e = .returned (.pointer (some ⟨w.heap.size, 0, none⟩)) → NewOutS w [] e (w.alloc (.cells #[.pointer none] 131)) := fun e he =>
    ⟨w.heap.size, he, Nat.le_refl _, by go_grown, ⟨none, .leaf, new_at rfl, rfl, rfl, List.Pairwise.nil⟩⟩
  have Hfin := Lib.hid hfin
  clear hfin
  go_enter Try.func50, Try.ntmps50
  go_wp2_with fail
  go_loopw [10] (fun i wr => i = .int .i64 0 ∧ wr = w.alloc (.cells #[.pointer none] 131)) (fun _ _ => 0)
  case atStart => exact ⟨rfl, rfl⟩
  case round =>
    obtain ⟨rfl, rfl⟩ := hrel
    go_wp2_with fail
    go_ret
    exact Hfin.out _ rfl
set_option maxHeartbeats 1000000 in
theorem new_someS (w : World) (b off cap : Nat) (xs : List Sy) (hb : b < w.heap.size) (hz : xs.length ≤ 1000000)
    (hc : ∀ i (h : i < xs.length) j c, (encS xs[i])[j]? = some c → w.cell? ⟨b, off + i * 3 + j, none⟩ = some c) :
    Calls Try.prog 50 #[.slice (some ⟨b, off, none⟩) xs.length cap] w (NewOutS w xs) := by
  have hfin : ∀ e wr, e = .returned (.pointer (some ⟨w.heap.size, 0, none⟩)) → Below w.heap.size w wr → SetS wr w.heap.size (insAll cmpY [] xs) → NewOutS w xs e wr := fun e wr he h1 h2 =>
    ⟨w.heap.size, he, Nat.le_refl _, h1, h2⟩
  have hset0 : SetS (w.alloc (.cells #[.pointer none] 131)) w.heap.size (insAll cmpY [] (xs.take 0)) := ⟨none, .leaf, new_at rfl, rfl, rfl, List.Pairwise.nil⟩
  have hput := fun (wr : World) (x : Sy) (ys : List Sy) h1 h2 => put_anyS wr w.heap.size x ys h1 h2
  have Hfin := Lib.hid hfin
  have Hput := Lib.hid hput
  have Hc := Lib.hid hc
  clear hfin hput hc
  go_enter Try.func50, Try.ntmps50
  go_wp2_with fail
  go_loopw [10] (fun i wr => ∃ k : Nat, k ≤ xs.length ∧ i = .int .i64 k ∧ Below w.heap.size w wr ∧ SetS wr w.heap.size (insAll cmpY [] (xs.take k))) (fun i _ => xs.length - (intOf i).toNat)
  case atStart => exact ⟨0, Nat.zero_le _, rfl, by go_grown, hset0⟩
  case round =>
    obtain ⟨k, hk, rfl, hbw, hsw⟩ := hrel
    by_cases hlt : k < xs.length
    · have h0 := fun j c h => (hbw.cell (p := ⟨b, off + k * 3 + j, none⟩) hb).trans (Hc.out k hlt j c h)
      have hx : ∃ x, x = xs[k] := ⟨_, rfl⟩
      obtain ⟨x, hx⟩ := hx
      rw [← hx] at h0
      have c0 := h0 0 _ rfl
      simp only [Nat.add_zero] at c0
      have c1 := h0 1 _ rfl
      have c2 := h0 2 _ rfl
      have hlen := insAll_length cmpY (xs.take k) []
      have hlen2 : (xs.take k).length ≤ k := List.length_take_le _ _
      have hnext : insAll cmpY [] (xs.take (k + 1)) = ins cmpY x (insAll cmpY [] (xs.take k)) := by
        rw [List.take_succ_eq_append_getElem hlt, insAll_snoc, hx]
      have HS := Lib.hid (fun W h => IsSet.mono hsw h : ∀ W, Below wr.heap.size wr W → SetS W w.heap.size (insAll cmpY [] (xs.take k)))
      have HN := Lib.hid hnext
      have HX := Lib.hid hx
      clear h0 hsw hnext hx
      generalize insAll cmpY [] (xs.take k) = ys at HS HN hlen
      have hys : ys.length ≤ 1000000 := by simp at hlen; omega
      clear hlen hlen2
      go_wp2_with (go_at_call 81; refine (Hput.out _ x ys (by exact HS.out _ (by go_grown)) hys).mono ?_; unfold PutOutS; rintro e w2 ⟨rfl, hg2, hs2⟩)
      go_roundw
      case rel => exact ⟨k + 1, by omega, by go_num, (hbw.alloc hbw.size _).trans (belowg hg2 (by have := hbw.size; simp; omega) (Nat.le_refl _)), by rw [HN.out]; exact hs2⟩
      case measure => simp [intOf]; omega
    · obtain rfl : k = xs.length := by omega
      rw [List.take_length] at hsw
      go_wp2_with fail
      go_ret
      exact Hfin.out _ _ rfl hbw hsw
theorem new_anyS (w : World) (v : Value) (xs : List Sy) (h : SliceAt encS 3 w v xs) (hz : xs.length ≤ 1000000) : Calls Try.prog 50 #[v] w (NewOutS w xs) := by
  rcases h with ⟨rfl, rfl⟩ | ⟨b, off, cap, rfl, h2, -, h4⟩
  · exact new_nilS w
  · exact new_someS w b off cap xs h2 hz h4
theorem len_setS (w : World) (b : Nat) (xs : List Sy) (h : SetS w b xs) : Calls Try.prog 52 #[.pointer (some ⟨b, 0, none⟩)] w fun e w' => e = .returned (.int .i64 xs.length) ∧ w = w' := by
  obtain ⟨p, T, hr, ht, rfl, -⟩ := h
  have h0 : w.cell? ⟨b, 0, none⟩ = some (.pointer p) := by rw [cells_of hr]; rfl
  have hl := len_anyS w w p T ht (Below.refl _ _)
  rw [BT.size_eq] at hl
  have Hl := Lib.hid hl
  clear hl hr ht
  go_enter Try.func52, Try.ntmps52
  go_wp2_with (go_at_call 83; (with_reducible refine Hl.out.mono ?_); rintro e w' ⟨rfl, rfl⟩)
  go_ret
  exact ⟨rfl, rfl⟩
end Go.Proofs.Ythgidldcblchmaa
