/-
  Walks over package order at ponder/shape.variable: find, Get, Clone. No condition.
-/
import Derived.Test.YtccphigpobnjmaaNewV
import Derived.Test.YtccphigpobnjmaaKit3
import Derived.Deep.LoopGhost
namespace Go.Proofs.Ytccphigpobnjmaa
set_option linter.unusedVariables false
open Go.RowKit
def FindOutV (w : World) (o : Option ByteArray) (e : Ending) (w' : World) : Prop :=
  Below w.heap.size w w' ∧ e = .returned (.tuple #[.string (o.getD ⟨#[]⟩), .bool o.isSome])
set_option maxHeartbeats 1000000 in
theorem find_anyV (x : ByteArray) (w : World) (p : Option Addr) (T : BT ByteArray) (h : TreeV w p T) (hs : Sorted cmpS T.toList) :
    Calls Try.prog 120 #[.pointer p, .string x] w (FindOutV w (look cmpS x T.toList)) := by
  have hfin : ∀ (o : Option ByteArray) e (w' : World), look cmpS x T.toList = o → e = .returned (.tuple #[.string (o.getD ⟨#[]⟩), .bool o.isSome]) → Below w.heap.size w w' → FindOutV w (look cmpS x T.toList) e w' := by
    intro v e w' h1 h2 h3; rw [h1]; exact ⟨h3, h2⟩
  have Hfin := Lib.hid hfin
  have h' : Hid (TreeV w p T) := h
  have hs' : Hid (Sorted cmpS T.toList) := hs
  clear hfin h hs
  go_enter Try.func120, Try.ntmps120
  go_wp2_with fail
  go_loopg [0] T.size (fun k ps wr => ∃ (T' : BT ByteArray) (pa : Option Addr), ps = .pointer pa ∧ k = T'.size ∧ TreeV w pa T' ∧ Below w.heap.size w wr ∧ look cmpS x T.toList = look cmpS x T'.toList ∧ Sorted cmpS T'.toList)
  case atStart => exact ⟨T, p, rfl, rfl, h'.out, Below.refl _ _, rfl, hs'.out⟩
  case round =>
    obtain ⟨T', pa, rfl, rfl, ht, hbw, hg, hs⟩ := hrel
    have hsz0 := hbw.size
    have HG := Lib.hid hg
    clear hg
    cases T' with
    | leaf =>
      obtain rfl : pa = none := ht
      have HN := Lib.hid (HG.out.trans (look_nil x))
      clear HG hs
      go_wp2_with fail
      go_returns
      exact Hfin.out none _ _ HN.out rfl (by go_grown)
    | node l v r =>
      obtain ⟨b, pl, pr, rfl, hc, htl, htr⟩ := ht
      obtain ⟨c0, c1, c2, -⟩ := node_cellsV (w := wr) hc hbw
      have hcell := fun w' (h : Below wr.heap.size wr w') => node_cellsV (w := w') hc (hbw.trans (h.mono hbw.size))
      have Hcell := Lib.hid hcell
      have htl' : Hid (TreeV w pl l) := htl
      have htr' : Hid (TreeV w pr r) := htr
      have hgn : ((BT.node l v r).size = l.size + 1 + r.size) := rfl
      have HGN := Lib.hid hgn
      simp only [BT.toList] at hs HG
      obtain ⟨hsl, hsr, -, -⟩ := sorted_mid hs
      have Hsl := Lib.hid hsl
      have Hsr := Lib.hid hsr
      clear hc htl htr hcell hgn hsl hsr
      by_cases h1 : cmpS x v < 0
      · have hn := HG.out.trans (look_mid_lt cmpS_cmp hs h1)
        have Hn := Lib.hid hn
        have h2 : (cmpS x v == 0) = false := by simp; omega
        clear hn hs
        go_wp2_with (go_at_call 149; refine (cmp_anyV x v _).mono ?_; rintro e w1 ⟨rfl, hb1⟩; obtain ⟨d0, d1, d2, -⟩ := Hcell.out _ hb1; have hbw1 := hbw.trans (hb1.mono hbw.size))
        go_roundg l.size
        case measure => rw [HGN.out]; omega
        case rel => exact ⟨l, pl, rfl, rfl, htl'.out, hbw1, Hn.out, Hsl.out⟩
      · by_cases h2 : cmpS x v = 0
        · have hn := HG.out.trans (look_mid_eq cmpS_cmp hs h2)
          have Hn := Lib.hid hn
          have h3 : (cmpS x v == 0) = true := by simp [h2]
          clear hn hs h2
          go_wp2_with (go_at_call 149; refine (cmp_anyV x v _).mono ?_; rintro e w1 ⟨rfl, hb1⟩; obtain ⟨d0, d1, d2, -⟩ := Hcell.out _ hb1; have hbw1 := hbw.trans (hb1.mono hbw.size))
          go_returns
          exact Hfin.out (some v) _ _ Hn.out rfl (by go_grown)
        · have hn := HG.out.trans (look_mid_gt cmpS_cmp hs (by omega))
          have Hn := Lib.hid hn
          have h3 : (cmpS x v == 0) = false := by simp [h2]
          clear hn hs h2
          go_wp2_with (go_at_call 149; refine (cmp_anyV x v _).mono ?_; rintro e w1 ⟨rfl, hb1⟩; obtain ⟨d0, d1, d2, -⟩ := Hcell.out _ hb1; have hbw1 := hbw.trans (hb1.mono hbw.size))
          go_roundg r.size
          case measure => rw [HGN.out]; omega
          case rel => exact ⟨r, pr, rfl, rfl, htr'.out, hbw1, Hn.out, Hsr.out⟩
theorem get_setV (x : ByteArray) (w : World) (b : Nat) (xs : List ByteArray) (h : SetV w b xs) : Calls Try.prog 110 #[.pointer (some ⟨b, 0, none⟩), .string x] w (FindOutV w (look cmpS x xs)) := by
  obtain ⟨p, T, hr, ht, rfl, hs⟩ := h
  have h0 : w.cell? ⟨b, 0, none⟩ = some (.pointer p) := by rw [cells_of hr]; rfl
  have hf := find_anyV x w p T ht hs
  have Hf := Lib.hid hf
  clear hf hr ht hs
  generalize look cmpS x T.toList = o at Hf ⊢
  have hfin : ∀ e w', Below w.heap.size w w' → e = .returned (.tuple #[.string (o.getD ⟨#[]⟩), .bool o.isSome]) → FindOutV w o e w' := fun _ _ h1 h2 => ⟨h1, h2⟩
  have Hfin := Lib.hid hfin
  clear hfin
  unfold FindOutV at Hf
  go_enter Try.func110, Try.ntmps110
  go_wp2_with (go_at_call 120; refine Hf.out.mono ?_; rintro e w1 ⟨hb1, rfl⟩)
  go_ret2
  exact Hfin.out _ _ hb1 rfl
theorem clone_setV (w : World) (b : Nat) (xs : List ByteArray) (h : SetV w b xs) : Calls Try.prog 117 #[.pointer (some ⟨b, 0, none⟩)] w fun e w' => e = .returned (.pointer (some ⟨w.heap.size, 0, none⟩)) ∧ Below w.heap.size w w' ∧ SetV w' w.heap.size xs := by
  obtain ⟨p, T, hr, ht, hx, hs⟩ := h
  have h0 : w.cell? ⟨b, 0, none⟩ = some (.pointer p) := by rw [cells_of hr]; rfl
  have hfin : SetV (w.alloc (.cells #[.pointer p] 138)) w.heap.size xs := ⟨p, T, new_at rfl, ht.mono (by go_grown), hx, hs⟩
  have Hfin := Lib.hid hfin
  clear hfin hr ht hx hs
  go_enter Try.func117, Try.ntmps117
  go_wp2
  go_ret
  exact ⟨rfl, by go_grown, Hfin.out⟩
end Go.Proofs.Ytccphigpobnjmaa
