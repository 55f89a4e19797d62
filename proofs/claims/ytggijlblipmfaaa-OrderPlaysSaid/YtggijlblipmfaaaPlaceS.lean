/-
  Walks over package order at ponder/api.Sym: place, Place. No condition but bounds on sizes.
-/
import Derived.Test.YtggijlblipmfaaaFindS
import Derived.Test.YtggijlblipmfaaaAtS
import Derived.Test.YtggijlblipmfaaaKit3
import Derived.Deep.LoopGhost
namespace Go.Proofs.Ytggijlblipmfaaa
set_option linter.unusedVariables false
open Go.RowKit
def PlaceOutS (w : World) (n : Nat) (ok : Bool) (e : Ending) (w' : World) : Prop :=
  Below w.heap.size w w' ∧ e = .returned (.tuple #[.int .i64 n, .bool ok])
set_option maxHeartbeats 4000000 in
theorem place_anyS (x : Sy) (w : World) (p : Option Addr) (T : BT Sy) (h : TreeS w p T) (hs : Sorted cmpY T.toList) (hz : T.size ≤ 100000000) :
    Calls Try.prog 82 #[.pointer p, .agg #[.int .i64 x.k, .string x.t, .int .i64 x.n]] w (PlaceOutS w (place cmpY x T.toList) (has cmpY x T.toList)) := by
  have hfin : ∀ (n : Nat) (ok : Bool) e (w' : World), place cmpY x T.toList = n → has cmpY x T.toList = ok → e = .returned (.tuple #[.int .i64 n, .bool ok]) → Below w.heap.size w w' → PlaceOutS w (place cmpY x T.toList) (has cmpY x T.toList) e w' := by
    intro v ok e w' h1 h1' h2 h3; rw [h1, h1']; exact ⟨h3, h2⟩
  obtain ⟨W2, hW2⟩ : ∃ W2, W2 = w.alloc (.cells #[.int .i64 x.k, .string x.t, .int .i64 x.n] 26) := ⟨_, rfl⟩
  have hB : Below w.heap.size w W2 := by rw [hW2]; go_grown
  have hbox : W2.heap[w.heap.size]? = some (.cells #[.int .i64 x.k, .string x.t, .int .i64 x.n] 26 (0, 0)) := by rw [hW2]; exact new_at rfl
  have hkeep := fun wr (h : Below W2.heap.size W2 wr) => box_cells hbox h
  have Hkeep := Lib.hid hkeep
  have h2 := h.mono hB
  have Hfin := Lib.hid hfin
  have h' : Hid (TreeS W2 p T) := h2
  have hs' : Hid (Sorted cmpY T.toList) := hs
  have HB := Lib.hid hB
  have HW := Lib.hid hW2
  clear hfin h h2 hs hkeep hbox hB hW2
  go_enter Try.func82, Try.ntmps82
  go_wp2_with fail
  rw [← HW.out]
  go_loopg [0, 6] T.size (fun k ps ls wr => ∃ (T' : BT Sy) (pa : Option Addr) (n : Nat), ps = .pointer pa ∧ ls = .int .i64 n ∧ k = T'.size ∧ TreeS W2 pa T' ∧ Below W2.heap.size W2 wr ∧ place cmpY x T.toList = n + place cmpY x T'.toList ∧ has cmpY x T.toList = has cmpY x T'.toList ∧ n + T'.size ≤ 100000000 ∧ Sorted cmpY T'.toList)
  case atStart => exact ⟨T, p, 0, rfl, rfl, rfl, h'.out, Below.refl _ _, by omega, rfl, by omega, hs'.out⟩
  case round =>
    obtain ⟨T', pa, n, rfl, rfl, rfl, ht, hbw, hg, hgh, hnz, hs⟩ := hrel
    have hsz0 := hbw.size
    obtain ⟨x0, x1, x2, -, -, -, -⟩ := Hkeep.out _ hbw
    have HG := Lib.hid hg
    have HH := Lib.hid hgh
    clear hg hgh
    cases T' with
    | leaf =>
      obtain rfl : pa = none := ht
      have HN := Lib.hid (HG.out.trans (by simp [BT.toList, place]) : place cmpY x T.toList = n)
      have HM := Lib.hid (HH.out.trans (by simp [BT.toList, has]) : has cmpY x T.toList = false)
      have hbww := HB.out.trans (hbw.mono HB.out.size)
      clear HG HH hs
      go_wp2_with fail
      go_returns
      exact Hfin.out n false _ _ HN.out HM.out rfl hbww
    | node l v r =>
      obtain ⟨b, pl, pr, rfl, hc, htl, htr⟩ := ht
      obtain ⟨c0, c1, c2, c3, c4, -⟩ := node_cellsS (w := wr) hc hbw
      have hcell := fun w' (h : Below wr.heap.size wr w') => And.intro (node_cellsS (w := w') hc (hbw.trans (h.mono hbw.size))) (Hkeep.out _ (hbw.trans (h.mono hbw.size)))
      have Hcell := Lib.hid hcell
      have hlen := fun w' h => len_anyS W2 w' pl l htl h
      have Hlen := Lib.hid hlen
      have htl' : Hid (TreeS W2 pl l) := htl
      have htr' : Hid (TreeS W2 pr r) := htr
      have hgn : ((BT.node l v r).size = l.size + 1 + r.size) := rfl
      have HGN := Lib.hid hgn
      rw [hgn] at hnz
      simp only [BT.toList] at hs HG HH
      obtain ⟨hsl, hsr, -, -⟩ := sorted_mid hs
      have Hsl := Lib.hid hsl
      have Hsr := Lib.hid hsr
      clear hc htl htr hcell hgn hsl hsr hlen
      by_cases h1 : cmpY x v < 0
      · have Hn := Lib.hid (HG.out.trans (by rw [place_mid_lt cmpY_cmp hs h1]) : place cmpY x T.toList = n + place cmpY x l.toList)
        have Hm := Lib.hid (HH.out.trans (has_mid_lt cmpY_cmp hs h1))
        have h2 : (cmpY x v == 0) = false := by simp; omega
        clear hs
        go_wp2_with fail
        refine region_tail 6 (by kernel_rfl) (by kernel_rfl) (fun KK hKK => ?_)
        simp only [List.take_succ_cons, List.take_zero]
        repeat (with_reducible refine wpStill_step (fun K hK => ?_); go_simp; (with_reducible refine hK _ ?_); clear hK K)
        refine wpStill_nil (hKK _ _ ?_)
        clear hKK KK
        simp only [List.drop_succ_cons, List.drop_zero]
        go_wp2_with (go_at_call 191; refine (cmp_anyS x v _).mono ?_; rintro e w1 ⟨rfl, hb1'⟩; have hb1 := ((Below.refl wr.heap.size wr).drew).trans hb1'; obtain ⟨⟨d0, d1, d2, d3, d4, -⟩, ⟨y0, y1, y2, -, -, -, -⟩⟩ := Hcell.out _ hb1; have hbw1 := hbw.trans (hb1.mono hbw.size))
        go_roundg l.size
        case measure => rw [HGN.out]; omega
        case rel => exact ⟨l, pl, n, rfl, rfl, rfl, htl'.out, hbw1, Hn.out, Hm.out, by omega, Hsl.out⟩
      · by_cases h2 : cmpY x v = 0
        · have Hn := Lib.hid (HG.out.trans (by rw [place_mid_eq cmpY_cmp hs h2, ← BT.size_eq]) : place cmpY x T.toList = n + l.size)
          have Hm := Lib.hid (HH.out.trans (has_mid_eq h2))
          have h3 : (cmpY x v == 0) = true := by simp [h2]
          clear hs h2
          go_wp2_with fail
          refine region_tail 6 (by kernel_rfl) (by kernel_rfl) (fun KK hKK => ?_)
          simp only [List.take_succ_cons, List.take_zero]
          repeat (with_reducible refine wpStill_step (fun K hK => ?_); go_simp; (with_reducible refine hK _ ?_); clear hK K)
          refine wpStill_nil (hKK _ _ ?_)
          clear hKK KK
          simp only [List.drop_succ_cons, List.drop_zero]
          go_wp2_with (first | (go_at_call 191; refine (cmp_anyS x v _).mono ?_; rintro e w1 ⟨rfl, hb1'⟩; have hb1 := ((Below.refl wr.heap.size wr).drew).trans hb1'; obtain ⟨⟨d0, d1, d2, d3, d4, -⟩, ⟨y0, y1, y2, -, -, -, -⟩⟩ := Hcell.out _ hb1; have hbw1 := hbw.trans (hb1.mono hbw.size)) | (go_at_call 84; refine (Hlen.out _ hbw1).mono ?_; rintro e w2 ⟨rfl, rfl⟩))
          go_returns
          exact Hfin.out (n + l.size) true _ _ Hn.out Hm.out (by push_cast; rfl) (HB.out.trans (hbw1.mono HB.out.size))
        · have Hn := Lib.hid (HG.out.trans (by rw [place_mid_gt cmpY_cmp hs (by omega), ← BT.size_eq]; omega) : place cmpY x T.toList = n + (l.size + 1) + place cmpY x r.toList)
          have Hm := Lib.hid (HH.out.trans (has_mid_gt cmpY_cmp hs (by omega)))
          have h3 : (cmpY x v == 0) = false := by simp [h2]
          clear hs h2
          go_wp2_with fail
          refine region_tail 6 (by kernel_rfl) (by kernel_rfl) (fun KK hKK => ?_)
          simp only [List.take_succ_cons, List.take_zero]
          repeat (with_reducible refine wpStill_step (fun K hK => ?_); go_simp; (with_reducible refine hK _ ?_); clear hK K)
          refine wpStill_nil (hKK _ _ ?_)
          clear hKK KK
          simp only [List.drop_succ_cons, List.drop_zero]
          go_wp2_with (first | (go_at_call 191; refine (cmp_anyS x v _).mono ?_; rintro e w1 ⟨rfl, hb1'⟩; have hb1 := ((Below.refl wr.heap.size wr).drew).trans hb1'; obtain ⟨⟨d0, d1, d2, d3, d4, -⟩, ⟨y0, y1, y2, -, -, -, -⟩⟩ := Hcell.out _ hb1; have hbw1 := hbw.trans (hb1.mono hbw.size)) | (go_at_call 84; refine (Hlen.out _ hbw1).mono ?_; rintro e w2 ⟨rfl, rfl⟩))
          go_roundg r.size
          case measure => rw [HGN.out]; omega
          case rel => exact ⟨r, pr, n + (l.size + 1), rfl, by push_cast; rfl, rfl, htr'.out, hbw1, Hn.out, Hm.out, by omega, Hsr.out⟩
set_option maxHeartbeats 1000000 in
theorem place_setS (x : Sy) (w : World) (b : Nat) (xs : List Sy) (h : SetS w b xs) (hz : xs.length ≤ 100000000) : Calls Try.prog 24 #[.pointer (some ⟨b, 0, none⟩), .agg #[.int .i64 x.k, .string x.t, .int .i64 x.n]] w (PlaceOutS w (place cmpY x xs) (has cmpY x xs)) := by
  obtain ⟨p, T, hr, ht, rfl, hs⟩ := h
  obtain ⟨W2, hW2⟩ : ∃ W2, W2 = w.alloc (.cells #[.int .i64 x.k, .string x.t, .int .i64 x.n] 26) := ⟨_, rfl⟩
  have hB : Below w.heap.size w W2 := by rw [hW2]; go_grown
  have hbox : W2.heap[w.heap.size]? = some (.cells #[.int .i64 x.k, .string x.t, .int .i64 x.n] 26 (0, 0)) := by rw [hW2]; exact new_at rfl
  have hroot := (hB.block b (heap_lt hr)).trans hr
  have hf := fun w' (h : Below W2.heap.size W2 w') => place_anyS x w' p T ((ht.mono hB).mono h) hs (by rw [BT.size_eq]; exact hz)
  obtain ⟨x0, x1, x2, -, -, -, -⟩ := box_cells hbox (Below.refl _ _)
  have c0 : W2.cell? ⟨b, 0, none⟩ = some (.pointer p) := by rw [cells_of hroot]; rfl
  have KEEP : ∀ w', Below W2.heap.size W2 w' → (w'.cell? ⟨w.heap.size, 0, none⟩ = some (.int .i64 x.k) ∧ w'.cell? ⟨w.heap.size, 1, none⟩ = some (.string x.t) ∧ w'.cell? ⟨w.heap.size, 2, none⟩ = some (.int .i64 x.n) ∧ w'.cell? ⟨b, 0, none⟩ = some (.pointer p)) := by
    intro w' h
    obtain ⟨y0, y1, y2, -, -, -, -⟩ := box_cells hbox h
    exact ⟨y0, y1, y2, by rw [cells_of ((h.block b (heap_lt hroot)).trans hroot)]; rfl⟩
  have hKz := Lib.hid KEEP
  have Hf := Lib.hid hf
  have HB := Lib.hid hB
  have HW := Lib.hid hW2
  clear hf hbox hroot hr ht hs hB hW2 KEEP
  generalize place cmpY x T.toList = n at Hf ⊢
  generalize has cmpY x T.toList = ok at Hf ⊢
  have hfin : ∀ e w', Below w.heap.size w w' → e = .returned (.tuple #[.int .i64 n, .bool ok]) → PlaceOutS w n ok e w' := fun _ _ h1 h2 => ⟨h1, h2⟩
  have Hfin := Lib.hid hfin
  clear hfin
  unfold PlaceOutS at Hf
  go_enter Try.func24, Try.ntmps24
  go_wp2_with fail
  rw [← HW.out]
  go_region_held3 (fun w' => Below W2.heap.size W2 w' ∧ w'.cell? ⟨w.heap.size, 0, none⟩ = some (.int .i64 x.k) ∧ w'.cell? ⟨w.heap.size, 1, none⟩ = some (.string x.t) ∧ w'.cell? ⟨w.heap.size, 2, none⟩ = some (.int .i64 x.n) ∧ w'.cell? ⟨b, 0, none⟩ = some (.pointer p))
    (first | exact ⟨(Below.refl _ _).drew, hKz.out _ (Below.refl _ _).drew⟩ | exact ⟨hBa.out, hKz.out _ hBa.out⟩ | go_keep)
    (first | (go_at_call 82; refine (Hf.out _ (Below.refl _ _).drew).mono ?_; rintro e w1 ⟨hb1, rfl⟩; have hBa : Hid (Below W2.heap.size W2 w1) := Lib.hid ((Below.refl W2.heap.size W2).drew.trans hb1)))
  go_wp2_with fail
  go_ret2
  exact Hfin.out _ _ (HB.out.trans (hBa.out.mono HB.out.size)) rfl
end Go.Proofs.Ytggijlblipmfaaa
