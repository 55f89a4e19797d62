/-
  Walks over package order at ponder/ponderlaw01.Num: find, Get, place, Place. No condition but bounds on sizes.
-/
import Derived.Test.YtnmcmalijjjbmaaNewN
import Derived.Test.YtnmcmalijjjbmaaKit3
import Derived.Deep.LoopGhost
namespace Go.Proofs.Ytnmcmalijjjbmaa
set_option linter.unusedVariables false
open Go.RowKit
def FindOutN (w : World) (o : Option Int) (e : Ending) (w' : World) : Prop :=
  Below w.heap.size w w' ∧ e = .returned (.tuple #[.int .i64 (o.getD 0), .bool o.isSome])
set_option maxHeartbeats 1000000 in
theorem find_anyN (x : Int) (w : World) (p : Option Addr) (T : BT Int) (h : TreeN w p T) (hs : Sorted cmpI T.toList) :
    Calls Try.prog 64 #[.pointer p, .int .i64 x] w (FindOutN w (look cmpI x T.toList)) := by
  have hfin : ∀ (o : Option Int) e (w' : World), look cmpI x T.toList = o → e = .returned (.tuple #[.int .i64 (o.getD 0), .bool o.isSome]) → Below w.heap.size w w' → FindOutN w (look cmpI x T.toList) e w' := by
    intro v e w' h1 h2 h3; rw [h1]; exact ⟨h3, h2⟩
  have Hfin := Lib.hid hfin
  have h' : Hid (TreeN w p T) := h
  have hs' : Hid (Sorted cmpI T.toList) := hs
  clear hfin h hs
  go_enter Try.func64, Try.ntmps64
  go_wp2_with fail
  go_loopg [0] T.size (fun k ps wr => ∃ (T' : BT Int) (pa : Option Addr), ps = .pointer pa ∧ k = T'.size ∧ TreeN w pa T' ∧ Below w.heap.size w wr ∧ look cmpI x T.toList = look cmpI x T'.toList ∧ Sorted cmpI T'.toList)
  case atStart => exact ⟨T, p, rfl, rfl, h'.out, Below.refl _ _, rfl, hs'.out⟩
  case round =>
    obtain ⟨T', pa, rfl, rfl, ht, hbw, hg, hs⟩ := hrel
    have hsz0 := hbw.size
    have HG := Lib.hid hg
    clear hg
    cases T' with
    | leaf =>
      obtain rfl : pa = none := ht
      have HN := Lib.hid (HG.out.trans (look_nil x))
      clear HG hs
      go_wp2_with fail
      go_returns
      exact Hfin.out none _ _ HN.out rfl (by go_grown)
    | node l v r =>
      obtain ⟨b, pl, pr, rfl, hc, htl, htr⟩ := ht
      obtain ⟨c0, c1, c2, -⟩ := node_cellsN (w := wr) hc hbw
      have hcell := fun w' (h : Below wr.heap.size wr w') => node_cellsN (w := w') hc (hbw.trans (h.mono hbw.size))
      have Hcell := Lib.hid hcell
      have htl' : Hid (TreeN w pl l) := htl
      have htr' : Hid (TreeN w pr r) := htr
      have hgn : ((BT.node l v r).size = l.size + 1 + r.size) := rfl
      have HGN := Lib.hid hgn
      simp only [BT.toList] at hs HG
      obtain ⟨hsl, hsr, -, -⟩ := sorted_mid hs
      have Hsl := Lib.hid hsl
      have Hsr := Lib.hid hsr
      clear hc htl htr hcell hgn hsl hsr
      by_cases h1 : cmpI x v < 0
      · have hn := HG.out.trans (look_mid_lt cmpI_cmp hs h1)
        have Hn := Lib.hid hn
        have h2 : (cmpI x v == 0) = false := by simp; omega
        clear hn hs
        go_wp2_with (go_at_call 125; refine (cmp_anyN x v _).mono ?_; rintro e w1 ⟨rfl, hb1⟩; obtain ⟨d0, d1, d2, -⟩ := Hcell.out _ hb1; have hbw1 := hbw.trans (hb1.mono hbw.size))
        go_roundg l.size
        case measure => rw [HGN.out]; omega
        case rel => exact ⟨l, pl, rfl, rfl, htl'.out, hbw1, Hn.out, Hsl.out⟩
      · by_cases h2 : cmpI x v = 0
        · have hn := HG.out.trans (look_mid_eq cmpI_cmp hs h2)
          have Hn := Lib.hid hn
          have h3 : (cmpI x v == 0) = true := by simp [h2]
          clear hn hs h2
          go_wp2_with (go_at_call 125; refine (cmp_anyN x v _).mono ?_; rintro e w1 ⟨rfl, hb1⟩; obtain ⟨d0, d1, d2, -⟩ := Hcell.out _ hb1; have hbw1 := hbw.trans (hb1.mono hbw.size))
          go_returns
          exact Hfin.out (some v) _ _ Hn.out rfl (by go_grown)
        · have hn := HG.out.trans (look_mid_gt cmpI_cmp hs (by omega))
          have Hn := Lib.hid hn
          have h3 : (cmpI x v == 0) = false := by simp [h2]
          clear hn hs h2
          go_wp2_with (go_at_call 125; refine (cmp_anyN x v _).mono ?_; rintro e w1 ⟨rfl, hb1⟩; obtain ⟨d0, d1, d2, -⟩ := Hcell.out _ hb1; have hbw1 := hbw.trans (hb1.mono hbw.size))
          go_roundg r.size
          case measure => rw [HGN.out]; omega
          case rel => exact ⟨r, pr, rfl, rfl, htr'.out, hbw1, Hn.out, Hsr.out⟩
theorem get_setN (x : Int) (w : World) (b : Nat) (xs : List Int) (h : SetN w b xs) : Calls Try.prog 31 #[.pointer (some ⟨b, 0, none⟩), .int .i64 x] w (FindOutN w (look cmpI x xs)) := by
  obtain ⟨p, T, hr, ht, rfl, hs⟩ := h
  have h0 : w.cell? ⟨b, 0, none⟩ = some (.pointer p) := by rw [cells_of hr]; rfl
  have hf := find_anyN x w p T ht hs
  have Hf := Lib.hid hf
  clear hf hr ht hs
  generalize look cmpI x T.toList = o at Hf ⊢
  have hfin : ∀ e w', Below w.heap.size w w' → e = .returned (.tuple #[.int .i64 (o.getD 0), .bool o.isSome]) → FindOutN w o e w' := fun _ _ h1 h2 => ⟨h1, h2⟩
  have Hfin := Lib.hid hfin
  clear hfin
  unfold FindOutN at Hf
  go_enter Try.func31, Try.ntmps31
  go_wp2_with (go_at_call 64; refine Hf.out.mono ?_; rintro e w1 ⟨hb1, rfl⟩)
  go_ret2
  exact Hfin.out _ _ hb1 rfl
def PlaceOutN (w : World) (n : Nat) (ok : Bool) (e : Ending) (w' : World) : Prop :=
  Below w.heap.size w w' ∧ e = .returned (.tuple #[.int .i64 n, .bool ok])
set_option maxHeartbeats 1000000 in
theorem place_anyN (x : Int) (w : World) (p : Option Addr) (T : BT Int) (h : TreeN w p T) (hs : Sorted cmpI T.toList) (hz : T.size ≤ 100000000) :
    Calls Try.prog 63 #[.pointer p, .int .i64 x] w (PlaceOutN w (place cmpI x T.toList) (has cmpI x T.toList)) := by
  have hfin : ∀ (n : Nat) (ok : Bool) e (w' : World), place cmpI x T.toList = n → has cmpI x T.toList = ok → e = .returned (.tuple #[.int .i64 n, .bool ok]) → Below w.heap.size w w' → PlaceOutN w (place cmpI x T.toList) (has cmpI x T.toList) e w' := by
    intro v ok e w' h1 h1' h2 h3; rw [h1, h1']; exact ⟨h3, h2⟩
  have Hfin := Lib.hid hfin
  have h' : Hid (TreeN w p T) := h
  have hs' : Hid (Sorted cmpI T.toList) := hs
  clear hfin h hs
  go_enter Try.func63, Try.ntmps63
  go_wp2_with fail
  go_loopg [0, 6] T.size (fun k ps ls wr => ∃ (T' : BT Int) (pa : Option Addr) (n : Nat), ps = .pointer pa ∧ ls = .int .i64 n ∧ k = T'.size ∧ TreeN w pa T' ∧ Below w.heap.size w wr ∧ place cmpI x T.toList = n + place cmpI x T'.toList ∧ has cmpI x T.toList = has cmpI x T'.toList ∧ n + T'.size ≤ 100000000 ∧ Sorted cmpI T'.toList)
  case atStart => exact ⟨T, p, 0, rfl, rfl, rfl, h'.out, Below.refl _ _, by omega, rfl, by omega, hs'.out⟩
  case round =>
    obtain ⟨T', pa, n, rfl, rfl, rfl, ht, hbw, hg, hgh, hnz, hs⟩ := hrel
    have hsz0 := hbw.size
    have HG := Lib.hid hg
    have HH := Lib.hid hgh
    clear hg hgh
    cases T' with
    | leaf =>
      obtain rfl : pa = none := ht
      have HN := Lib.hid (HG.out.trans (by simp [BT.toList, place]) : place cmpI x T.toList = n)
      have HM := Lib.hid (HH.out.trans (by simp [BT.toList, has]) : has cmpI x T.toList = false)
      clear HG HH hs
      go_wp2_with fail
      go_returns
      exact Hfin.out n false _ _ HN.out HM.out rfl (by go_grown)
    | node l v r =>
      obtain ⟨b, pl, pr, rfl, hc, htl, htr⟩ := ht
      obtain ⟨c0, c1, c2, -⟩ := node_cellsN (w := wr) hc hbw
      have hcell := fun w' (h : Below wr.heap.size wr w') => node_cellsN (w := w') hc (hbw.trans (h.mono hbw.size))
      have Hcell := Lib.hid hcell
      have hlen := fun w' h => len_anyN w w' pl l htl h
      have Hlen := Lib.hid hlen
      have htl' : Hid (TreeN w pl l) := htl
      have htr' : Hid (TreeN w pr r) := htr
      have hgn : ((BT.node l v r).size = l.size + 1 + r.size) := rfl
      have HGN := Lib.hid hgn
      rw [hgn] at hnz
      simp only [BT.toList] at hs HG HH
      obtain ⟨hsl, hsr, -, -⟩ := sorted_mid hs
      have Hsl := Lib.hid hsl
      have Hsr := Lib.hid hsr
      clear hc htl htr hcell hgn hsl hsr hlen
      by_cases h1 : cmpI x v < 0
      · have Hn := Lib.hid (HG.out.trans (by rw [place_mid_lt cmpI_cmp hs h1]) : place cmpI x T.toList = n + place cmpI x l.toList)
        have Hm := Lib.hid (HH.out.trans (has_mid_lt cmpI_cmp hs h1))
        have h2 : (cmpI x v == 0) = false := by simp; omega
        clear hs
        go_wp2_with (go_at_call 125; refine (cmp_anyN x v _).mono ?_; rintro e w1 ⟨rfl, hb1⟩; obtain ⟨d0, d1, d2, -⟩ := Hcell.out _ hb1; have hbw1 := hbw.trans (hb1.mono hbw.size))
        go_roundg l.size
        case measure => rw [HGN.out]; omega
        case rel => exact ⟨l, pl, n, rfl, rfl, rfl, htl'.out, hbw1, Hn.out, Hm.out, by omega, Hsl.out⟩
      · by_cases h2 : cmpI x v = 0
        · have Hn := Lib.hid (HG.out.trans (by rw [place_mid_eq cmpI_cmp hs h2, ← BT.size_eq]) : place cmpI x T.toList = n + l.size)
          have Hm := Lib.hid (HH.out.trans (has_mid_eq h2))
          have h3 : (cmpI x v == 0) = true := by simp [h2]
          clear hs h2
          go_wp2_with (first | (go_at_call 125; refine (cmp_anyN x v _).mono ?_; rintro e w1 ⟨rfl, hb1⟩; obtain ⟨d0, d1, d2, -⟩ := Hcell.out _ hb1; have hbw1 := hbw.trans (hb1.mono hbw.size)) | (go_at_call 65; refine (Hlen.out _ hbw1).mono ?_; rintro e w2 ⟨rfl, rfl⟩))
          go_returns
          exact Hfin.out (n + l.size) true _ _ Hn.out Hm.out (by push_cast; rfl) (by go_grown)
        · have Hn := Lib.hid (HG.out.trans (by rw [place_mid_gt cmpI_cmp hs (by omega), ← BT.size_eq]; omega) : place cmpI x T.toList = n + (l.size + 1) + place cmpI x r.toList)
          have Hm := Lib.hid (HH.out.trans (has_mid_gt cmpI_cmp hs (by omega)))
          have h3 : (cmpI x v == 0) = false := by simp [h2]
          clear hs h2
          go_wp2_with (first | (go_at_call 125; refine (cmp_anyN x v _).mono ?_; rintro e w1 ⟨rfl, hb1⟩; obtain ⟨d0, d1, d2, -⟩ := Hcell.out _ hb1; have hbw1 := hbw.trans (hb1.mono hbw.size)) | (go_at_call 65; refine (Hlen.out _ hbw1).mono ?_; rintro e w2 ⟨rfl, rfl⟩))
          go_roundg r.size
          case measure => rw [HGN.out]; omega
          case rel => exact ⟨r, pr, n + (l.size + 1), rfl, by push_cast; rfl, rfl, htr'.out, hbw1, Hn.out, Hm.out, by omega, Hsr.out⟩
theorem place_setN (x : Int) (w : World) (b : Nat) (xs : List Int) (h : SetN w b xs) (hz : xs.length ≤ 100000000) : Calls Try.prog 30 #[.pointer (some ⟨b, 0, none⟩), .int .i64 x] w (PlaceOutN w (place cmpI x xs) (has cmpI x xs)) := by
  obtain ⟨p, T, hr, ht, rfl, hs⟩ := h
  have h0 : w.cell? ⟨b, 0, none⟩ = some (.pointer p) := by rw [cells_of hr]; rfl
  have hf := place_anyN x w p T ht hs (by rw [BT.size_eq]; exact hz)
  have Hf := Lib.hid hf
  clear hf hr ht hs
  generalize place cmpI x T.toList = n at Hf ⊢
  generalize has cmpI x T.toList = ok at Hf ⊢
  have hfin : ∀ e w', Below w.heap.size w w' → e = .returned (.tuple #[.int .i64 n, .bool ok]) → PlaceOutN w n ok e w' := fun _ _ h1 h2 => ⟨h1, h2⟩
  have Hfin := Lib.hid hfin
  clear hfin
  unfold PlaceOutN at Hf
  go_enter Try.func30, Try.ntmps30
  go_wp2_with (go_at_call 63; refine Hf.out.mono ?_; rintro e w1 ⟨hb1, rfl⟩)
  go_ret2
  exact Hfin.out _ _ hb1 rfl
end Go.Proofs.Ytnmcmalijjjbmaa
