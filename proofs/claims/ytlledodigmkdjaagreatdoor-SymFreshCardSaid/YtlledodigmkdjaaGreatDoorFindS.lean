/-
  Walks over package order at ponder/api.Sym: find, Get. No condition but bounds on sizes.
-/
import Derived.Test.YtlledodigmkdjaaGreatDoorNewS
import Derived.Test.YtlledodigmkdjaaGreatDoorZeroS
import Derived.Test.YtlledodigmkdjaaGreatDoorKit3
import Derived.Deep.LoopGhost
namespace Go.Proofs.YtlledodigmkdjaaGreatDoor
set_option linter.unusedVariables false
open Go.RowKit
def FindOutS (w : World) (o : Option Sy) (e : Ending) (w' : World) : Prop :=
  Below w.heap.size w w' ∧ match o with
    | some v => e = .returned (.tuple #[.agg #[.int .i64 v.k, .string v.t, .int .i64 v.n], .bool true])
    | none => e = .returned (.tuple #[.agg #[.int .i64 0, .string ⟨#[]⟩, .int .i64 0], .bool false])
theorem box_cells {w0 w : World} {B : Nat} {v : Sy} {t : TypeId} (hc : w0.heap[B]? = some (.cells #[.int .i64 v.k, .string v.t, .int .i64 v.n] t (0, 0))) (hb : Below w0.heap.size w0 w) :
    w.cell? ⟨B, 0, none⟩ = some (.int .i64 v.k) ∧ w.cell? ⟨B, 1, none⟩ = some (.string v.t) ∧ w.cell? ⟨B, 2, none⟩ = some (.int .i64 v.n) ∧
      w.frozen? ⟨B, 0, none⟩ = false ∧ w.frozen? ⟨B, 1, none⟩ = false ∧ w.frozen? ⟨B, 2, none⟩ = false ∧ Hid (w.heap[B]? = some (.cells #[.int .i64 v.k, .string v.t, .int .i64 v.n] t (0, 0))) := by
  have h := (hb.block B (heap_lt hc)).trans hc
  exact ⟨by rw [cells_of h]; rfl, by rw [cells_of h]; rfl, by rw [cells_of h]; rfl, frozen_of h, frozen_of h, frozen_of h, h⟩
set_option maxHeartbeats 4000000 in
theorem find_anyS (x : Sy) (w : World) (p : Option Addr) (T : BT Sy) (h : TreeS w p T) (hs : Sorted cmpY T.toList) :
    Calls Tryz.prog 66 #[.pointer p, .agg #[.int .i64 x.k, .string x.t, .int .i64 x.n]] w (FindOutS w (look cmpY x T.toList)) := by
  have hsome : ∀ (v : Sy) e (w' : World), look cmpY x T.toList = some v → e = .returned (.tuple #[.agg #[.int .i64 v.k, .string v.t, .int .i64 v.n], .bool true]) → Below w.heap.size w w' → FindOutS w (look cmpY x T.toList) e w' := by
    intro v e w' h1 h2 h3; rw [h1]; exact ⟨h3, h2⟩
  have hnone : ∀ e (w' : World), look cmpY x T.toList = none → e = .returned (.tuple #[.agg #[.int .i64 0, .string ⟨#[]⟩, .int .i64 0], .bool false]) → Below w.heap.size w w' → FindOutS w (look cmpY x T.toList) e w' := by
    intro e w' h1 h2 h3; rw [h1]; exact ⟨h3, h2⟩
  obtain ⟨W2, hW2⟩ : ∃ W2, W2 = (w.alloc (.cells #[.int .i64 x.k, .string x.t, .int .i64 x.n] 23)).alloc (.cells #[.int .i64 0, .string ⟨#[]⟩, .int .i64 0] 23) := ⟨_, rfl⟩
  have hB : Below w.heap.size w W2 := by rw [hW2]; go_grown
  have hbox : W2.heap[w.heap.size]? = some (.cells #[.int .i64 x.k, .string x.t, .int .i64 x.n] 23 (0, 0)) := by
    rw [hW2]; exact (Below.heap_alloc _ _ _ (by simp)).trans (new_at rfl)
  have hres : W2.heap[w.heap.size + 1]? = some (.cells #[.int .i64 zeroS.k, .string zeroS.t, .int .i64 zeroS.n] 23 (0, 0)) := by rw [hW2]; exact new_at (by simp)
  have hkeep := fun wr (h : Below W2.heap.size W2 wr) => And.intro (box_cells hbox h) (box_cells hres h)
  simp only [zeroS] at hkeep
  have Hkeep := Lib.hid hkeep
  have h2 := h.mono hB
  have Hsome := Lib.hid hsome
  have Hnone := Lib.hid hnone
  have h' : Hid (TreeS W2 p T) := h2
  have hs' : Hid (Sorted cmpY T.toList) := hs
  have HB := Lib.hid hB
  have HW := Lib.hid hW2
  clear hsome hnone h h2 hs hkeep hbox hres hB hW2
  go_enter Tryz.func66, Tryz.ntmps66
  go_wp2_with fail
  rw [← HW.out]
  go_loopg [0] T.size (fun k ps wr => ∃ (T' : BT Sy) (pa : Option Addr), ps = .pointer pa ∧ k = T'.size ∧ TreeS W2 pa T' ∧ Below W2.heap.size W2 wr ∧ look cmpY x T.toList = look cmpY x T'.toList ∧ Sorted cmpY T'.toList)
  case atStart => exact ⟨T, p, rfl, rfl, h'.out, Below.refl _ _, rfl, hs'.out⟩
  case round =>
    obtain ⟨T', pa, rfl, rfl, ht, hbw, hg, hs⟩ := hrel
    have hszw := HB.out.size
    have hsz0 := hbw.size
    obtain ⟨⟨x0, x1, x2, -, -, -, -⟩, ⟨r0, r1, r2, f0, f1, f2, hr⟩⟩ := Hkeep.out _ hbw
    have HG := Lib.hid hg
    clear hg
    cases T' with
    | leaf =>
      obtain rfl : pa = none := ht
      have HN := Lib.hid (HG.out.trans (look_nil x))
      have hbww := HB.out.trans (hbw.mono HB.out.size)
      have hbww2 := hbww.size
      have hba := hbw.alloc hsz0 (.cells #[.int .i64 0, .string ⟨#[]⟩, .int .i64 0] 23)
      obtain ⟨-, ⟨e0, e1, e2, g0, g1, g2, hr2⟩⟩ := Hkeep.out _ hba
      clear HG hs hba
      go_wp2_with fail
      obtain ⟨s0, s1, s2⟩ := set3 (a := .int .i64 0) (b := .string ⟨#[]⟩) (c := .int .i64 0) hr2.out
      refine bodyPost_ret (by simp [results, Tryz.results66, go_sem, s0, s1, s2]; rfl) rfl ?_
      exact Hnone.out _ _ HN.out rfl (by go_grown)
    | node l v r =>
      obtain ⟨b, pl, pr, rfl, hc, htl, htr⟩ := ht
      obtain ⟨c0, c1, c2, c3, c4, -⟩ := node_cellsS (w := wr) hc hbw
      have hcell := fun w' (h : Below wr.heap.size wr w') => And.intro (node_cellsS (w := w') hc (hbw.trans (h.mono hbw.size))) (Hkeep.out _ (hbw.trans (h.mono hbw.size)))
      have Hcell := Lib.hid hcell
      have htl' : Hid (TreeS W2 pl l) := htl
      have htr' : Hid (TreeS W2 pr r) := htr
      have hgn : ((BT.node l v r).size = l.size + 1 + r.size) := rfl
      have HGN := Lib.hid hgn
      simp only [BT.toList] at hs HG
      obtain ⟨hsl, hsr, -, -⟩ := sorted_mid hs
      have Hsl := Lib.hid hsl
      have Hsr := Lib.hid hsr
      clear hc htl htr hcell hgn hsl hsr
      by_cases h1 : cmpY x v < 0
      · have hn := HG.out.trans (look_mid_lt cmpY_cmp hs h1)
        have Hn := Lib.hid hn
        have h2 : (cmpY x v == 0) = false := by simp; omega
        clear hn hs
        go_wp2_with fail
        refine region_tail 6 (by kernel_rfl) (by kernel_rfl) (fun KK hKK => ?_)
        simp only [List.take_succ_cons, List.take_zero]
        repeat (with_reducible refine wpStill_step (fun K hK => ?_); go_simp; (with_reducible refine hK _ ?_); clear hK K)
        refine wpStill_nil (hKK _ _ ?_)
        clear hKK KK
        simp only [List.drop_succ_cons, List.drop_zero]
        clear r0 r1 r2 f0 f1 f2
        go_wp2_with (go_at_call 130; refine (cmp_anyS x v _).mono ?_; rintro e w1 ⟨rfl, hb1'⟩; have hb1 := ((Below.refl wr.heap.size wr).drew).trans hb1'; obtain ⟨⟨d0, d1, d2, d3, d4, -⟩, ⟨⟨y0, y1, y2, -, -, -, -⟩, ⟨q0, q1, q2, g0, g1, g2, hr1⟩⟩⟩ := Hcell.out _ hb1; have hbw1 := hbw.trans (hb1.mono hbw.size))
        go_roundg l.size
        case measure => rw [HGN.out]; omega
        case rel => exact ⟨l, pl, rfl, rfl, htl'.out, hbw1, Hn.out, Hsl.out⟩
      · by_cases h2 : cmpY x v = 0
        · have hn := HG.out.trans (look_mid_eq cmpY_cmp hs h2)
          have Hn := Lib.hid hn
          have h3 : (cmpY x v == 0) = true := by simp [h2]
          clear hn hs h2
          go_wp2_with fail
          refine region_tail 6 (by kernel_rfl) (by kernel_rfl) (fun KK hKK => ?_)
          simp only [List.take_succ_cons, List.take_zero]
          repeat (with_reducible refine wpStill_step (fun K hK => ?_); go_simp; (with_reducible refine hK _ ?_); clear hK K)
          refine wpStill_nil (hKK _ _ ?_)
          clear hKK KK
          simp only [List.drop_succ_cons, List.drop_zero]
          clear r0 r1 r2 f0 f1 f2
          go_wp2_with (go_at_call 130; refine (cmp_anyS x v _).mono ?_; rintro e w1 ⟨rfl, hb1'⟩; have hb1 := ((Below.refl wr.heap.size wr).drew).trans hb1'; obtain ⟨⟨d0, d1, d2, d3, d4, -⟩, ⟨⟨y0, y1, y2, -, -, -, -⟩, ⟨q0, q1, q2, g0, g1, g2, hr1⟩⟩⟩ := Hcell.out _ hb1; have hbw1 := hbw.trans (hb1.mono hbw.size))
          have hbww := HB.out.trans (hbw1.mono HB.out.size)
          obtain ⟨s0, s1, s2⟩ := set3 (a := .int .i64 v.k) (b := .string v.t) (c := .int .i64 v.n) hr1.out
          refine bodyPost_ret (by simp [results, Tryz.results66, go_sem, s0, s1, s2]; rfl) rfl ?_
          exact Hsome.out v _ _ Hn.out rfl (by go_grown)
        · have hn := HG.out.trans (look_mid_gt cmpY_cmp hs (by omega))
          have Hn := Lib.hid hn
          have h3 : (cmpY x v == 0) = false := by simp [h2]
          clear hn hs h2
          go_wp2_with fail
          refine region_tail 6 (by kernel_rfl) (by kernel_rfl) (fun KK hKK => ?_)
          simp only [List.take_succ_cons, List.take_zero]
          repeat (with_reducible refine wpStill_step (fun K hK => ?_); go_simp; (with_reducible refine hK _ ?_); clear hK K)
          refine wpStill_nil (hKK _ _ ?_)
          clear hKK KK
          simp only [List.drop_succ_cons, List.drop_zero]
          clear r0 r1 r2 f0 f1 f2
          go_wp2_with (go_at_call 130; refine (cmp_anyS x v _).mono ?_; rintro e w1 ⟨rfl, hb1'⟩; have hb1 := ((Below.refl wr.heap.size wr).drew).trans hb1'; obtain ⟨⟨d0, d1, d2, d3, d4, -⟩, ⟨⟨y0, y1, y2, -, -, -, -⟩, ⟨q0, q1, q2, g0, g1, g2, hr1⟩⟩⟩ := Hcell.out _ hb1; have hbw1 := hbw.trans (hb1.mono hbw.size))
          go_roundg r.size
          case measure => rw [HGN.out]; omega
          case rel => exact ⟨r, pr, rfl, rfl, htr'.out, hbw1, Hn.out, Hsr.out⟩

set_option maxHeartbeats 1000000 in
theorem get_setS (x : Sy) (w : World) (b : Nat) (xs : List Sy) (h : SetS w b xs) : Calls Tryz.prog 50 #[.pointer (some ⟨b, 0, none⟩), .agg #[.int .i64 x.k, .string x.t, .int .i64 x.n]] w (FindOutS w (look cmpY x xs)) := by
  obtain ⟨p, T, hr, ht, rfl, hs⟩ := h
  obtain ⟨W2, hW2⟩ : ∃ W2, W2 = (w.alloc (.cells #[.int .i64 x.k, .string x.t, .int .i64 x.n] 23)).alloc (.cells #[.int .i64 0, .string ⟨#[]⟩, .int .i64 0] 23) := ⟨_, rfl⟩
  have hB : Below w.heap.size w W2 := by rw [hW2]; go_grown
  have hbox : W2.heap[w.heap.size]? = some (.cells #[.int .i64 x.k, .string x.t, .int .i64 x.n] 23 (0, 0)) := by
    rw [hW2]; exact (Below.heap_alloc _ _ _ (by simp)).trans (new_at rfl)
  have hres : W2.heap[w.heap.size + 1]? = some (.cells #[.int .i64 zeroS.k, .string zeroS.t, .int .i64 zeroS.n] 23 (0, 0)) := by rw [hW2]; exact new_at (by simp)
  have hroot := (hB.block b (heap_lt hr)).trans hr
  have hf := fun w' (h : Below W2.heap.size W2 w') => find_anyS x w' p T ((ht.mono hB).mono h) hs
  have hafter := fun w1 (h : Below W2.heap.size W2 w1) => box_cells hres h
  simp only [zeroS] at hafter
  obtain ⟨x0, x1, x2, -, -, -, -⟩ := box_cells hbox (Below.refl _ _)
  have c0 : W2.cell? ⟨b, 0, none⟩ = some (.pointer p) := by rw [cells_of hroot]; rfl
  have KEEP : ∀ w', Below (w.heap.size + 1) W2 w' → (w'.cell? ⟨w.heap.size, 0, none⟩ = some (.int .i64 x.k) ∧ w'.cell? ⟨w.heap.size, 1, none⟩ = some (.string x.t) ∧ w'.cell? ⟨w.heap.size, 2, none⟩ = some (.int .i64 x.n) ∧ w'.cell? ⟨b, 0, none⟩ = some (.pointer p)) := by
    intro w' h
    have hlt := heap_lt hr
    exact ⟨(h.cell (p := ⟨w.heap.size, 0, none⟩) (by simp)).trans x0, (h.cell (p := ⟨w.heap.size, 1, none⟩) (by simp)).trans x1, (h.cell (p := ⟨w.heap.size, 2, none⟩) (by simp)).trans x2, (h.cell (p := ⟨b, 0, none⟩) (by simp; omega)).trans c0⟩
  have hsz2 : w.heap.size + 1 ≤ W2.heap.size := by rw [hW2]; simp
  have hKz := Lib.hid KEEP
  clear KEEP
  have Hf := Lib.hid hf
  have Hafter := Lib.hid hafter
  have HB := Lib.hid hB
  have HW := Lib.hid hW2
  clear hf hafter hbox hres hroot hr ht hs hB hW2
  generalize look cmpY x T.toList = o at Hf ⊢
  unfold FindOutS at Hf
  cases o with
  | some v =>
    have hfin : ∀ e w', Below w.heap.size w w' → e = .returned (.tuple #[.agg #[.int .i64 v.k, .string v.t, .int .i64 v.n], .bool true]) → FindOutS w (some v) e w' := fun _ _ h1 h2 => ⟨h1, h2⟩
    have Hfin := Lib.hid hfin
    clear hfin
    go_enter Tryz.func50, Tryz.ntmps50
    go_wp2_with fail
    rw [← HW.out]
    go_region_held3 (fun w' => Below (w.heap.size + 1) W2 w' ∧ w'.cell? ⟨w.heap.size, 0, none⟩ = some (.int .i64 x.k) ∧ w'.cell? ⟨w.heap.size, 1, none⟩ = some (.string x.t) ∧ w'.cell? ⟨w.heap.size, 2, none⟩ = some (.int .i64 x.n) ∧ w'.cell? ⟨b, 0, none⟩ = some (.pointer p))
      (first | exact ⟨(Below.refl _ _).drew, hKz.out _ (Below.refl _ _).drew⟩ | exact ⟨hBa.out, hKz.out _ hBa.out⟩ | exact ⟨((hBa.out.setCell (by simp) _).setCell (by simp) _).setCell (by simp) _, hKz.out _ (((hBa.out.setCell (by simp) _).setCell (by simp) _).setCell (by simp) _)⟩ | go_keep)
      (first | (go_at_call 66; refine (Hf.out _ (Below.refl _ _).drew).mono ?_; rintro e w1 ⟨hb1, rfl⟩; have hb2 := (Below.refl W2.heap.size W2).drew.trans hb1; obtain ⟨q0, q1, q2, f0, f1, f2, hr1⟩ := Hafter.out _ hb2; have hBa : Hid (Below (w.heap.size + 1) W2 w1) := Lib.hid (hb2.mono hsz2)))
    go_wp2_with fail
    have hbww := HB.out.trans (hb2.mono HB.out.size)
    obtain ⟨s0, s1, s2⟩ := set3 (a := .int .i64 v.k) (b := .string v.t) (c := .int .i64 v.n) hr1.out
    refine bodyPost_ret (by simp [results, Tryz.results50, go_sem, s0, s1, s2]; rfl) rfl ?_
    exact Hfin.out _ _ (by go_grown) rfl
  | none =>
    have hfin : ∀ e w', Below w.heap.size w w' → e = .returned (.tuple #[.agg #[.int .i64 0, .string ⟨#[]⟩, .int .i64 0], .bool false]) → FindOutS w none e w' := fun _ _ h1 h2 => ⟨h1, h2⟩
    have Hfin := Lib.hid hfin
    clear hfin
    go_enter Tryz.func50, Tryz.ntmps50
    go_wp2_with fail
    rw [← HW.out]
    go_region_held3 (fun w' => Below (w.heap.size + 1) W2 w' ∧ w'.cell? ⟨w.heap.size, 0, none⟩ = some (.int .i64 x.k) ∧ w'.cell? ⟨w.heap.size, 1, none⟩ = some (.string x.t) ∧ w'.cell? ⟨w.heap.size, 2, none⟩ = some (.int .i64 x.n) ∧ w'.cell? ⟨b, 0, none⟩ = some (.pointer p))
      (first | exact ⟨(Below.refl _ _).drew, hKz.out _ (Below.refl _ _).drew⟩ | exact ⟨hBa.out, hKz.out _ hBa.out⟩ | exact ⟨((hBa.out.setCell (by simp) _).setCell (by simp) _).setCell (by simp) _, hKz.out _ (((hBa.out.setCell (by simp) _).setCell (by simp) _).setCell (by simp) _)⟩ | go_keep)
      (first | (go_at_call 66; refine (Hf.out _ (Below.refl _ _).drew).mono ?_; rintro e w1 ⟨hb1, rfl⟩; have hb2 := (Below.refl W2.heap.size W2).drew.trans hb1; obtain ⟨q0, q1, q2, f0, f1, f2, hr1⟩ := Hafter.out _ hb2; have hBa : Hid (Below (w.heap.size + 1) W2 w1) := Lib.hid (hb2.mono hsz2)))
    go_wp2_with fail
    have hbww := HB.out.trans (hb2.mono HB.out.size)
    obtain ⟨s0, s1, s2⟩ := set3 (a := .int .i64 0) (b := .string ⟨#[]⟩) (c := .int .i64 0) hr1.out
    refine bodyPost_ret (by simp [results, Tryz.results50, go_sem, s0, s1, s2]; rfl) rfl ?_
    exact Hfin.out _ _ (by go_grown) rfl
end Go.Proofs.YtlledodigmkdjaaGreatDoor
