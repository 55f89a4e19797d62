/-
  Walks over package order at ponder/book.pair[ponder/api.Sym, int]: find, Get. No condition but bounds on sizes.
-/
import Derived.Test.YthgidldcblchmaaZeroS
import Derived.Test.YthgidldcblchmaaKit3
import Derived.Deep.LoopGhost
import Derived.Test.YthgidldcblchmaaNewP
namespace Go.Proofs.Ythgidldcblchmaa
set_option linter.unusedVariables false
open Go.RowKit
def zeroP : Pr := ⟨zeroS, 0⟩
theorem box_cellsP {w0 w : World} {B : Nat} {v : Pr} {t : TypeId} (hc : w0.heap[B]? = some (.cells #[.int .i64 v.k.k, .string v.k.t, .int .i64 v.k.n, .int .i64 v.v] t (0, 0))) (hb : Below w0.heap.size w0 w) :
    w.cell? ⟨B, 0, none⟩ = some (.int .i64 v.k.k) ∧ w.cell? ⟨B, 1, none⟩ = some (.string v.k.t) ∧ w.cell? ⟨B, 2, none⟩ = some (.int .i64 v.k.n) ∧ w.cell? ⟨B, 3, none⟩ = some (.int .i64 v.v) ∧ w.frozen? ⟨B, 0, none⟩ = false ∧ w.frozen? ⟨B, 1, none⟩ = false ∧ w.frozen? ⟨B, 2, none⟩ = false ∧ w.frozen? ⟨B, 3, none⟩ = false ∧ Hid (w.heap[B]? = some (.cells #[.int .i64 v.k.k, .string v.k.t, .int .i64 v.k.n, .int .i64 v.v] t (0, 0))) := by
  have h := (hb.block B (heap_lt hc)).trans hc
  exact ⟨by rw [cells_of h]; rfl, by rw [cells_of h]; rfl, by rw [cells_of h]; rfl, by rw [cells_of h]; rfl, frozen_of h, frozen_of h, frozen_of h, frozen_of h, h⟩
theorem setcellsP (v : Pr) {w : World} {B : Nat} {u0 u1 u2 u3 : Value} {t : TypeId} (h : w.heap[B]? = some (.cells #[u0, u1, u2, u3] t (0, 0))) :
    (w.setCell ⟨B, 0, none⟩ (.int .i64 v.k.k)).cell? ⟨B, 0, none⟩ = some (.int .i64 v.k.k) ∧ ((w.setCell ⟨B, 0, none⟩ (.int .i64 v.k.k)).setCell ⟨B, 1, none⟩ (.string v.k.t)).cell? ⟨B, 1, none⟩ = some (.string v.k.t) ∧ (((w.setCell ⟨B, 0, none⟩ (.int .i64 v.k.k)).setCell ⟨B, 1, none⟩ (.string v.k.t)).setCell ⟨B, 2, none⟩ (.int .i64 v.k.n)).cell? ⟨B, 2, none⟩ = some (.int .i64 v.k.n) ∧ ((((w.setCell ⟨B, 0, none⟩ (.int .i64 v.k.k)).setCell ⟨B, 1, none⟩ (.string v.k.t)).setCell ⟨B, 2, none⟩ (.int .i64 v.k.n)).setCell ⟨B, 3, none⟩ (.int .i64 v.v)).cell? ⟨B, 3, none⟩ = some (.int .i64 v.v) := by
  refine ⟨?_, ?_, ?_, ?_⟩ <;> simp [World.setCell, World.cell?, Array.getElem?_modify, h]
def FindOutP (w : World) (o : Option Pr) (e : Ending) (w' : World) : Prop :=
  Below w.heap.size w w' ∧ match o with
    | some v => e = .returned (.tuple #[.agg #[.int .i64 v.k.k, .string v.k.t, .int .i64 v.k.n, .int .i64 v.v], .bool true])
    | none => e = .returned (.tuple #[.agg #[.int .i64 0, .string ⟨#[]⟩, .int .i64 0, .int .i64 0], .bool false])
set_option maxHeartbeats 4000000 in
theorem find_anyP (x : Pr) (w : World) (p : Option Addr) (T : BT Pr) (h : TreeP w p T) (hs : Sorted cmpP T.toList) :
    Calls Try.prog 87 #[.pointer p, .agg #[.int .i64 x.k.k, .string x.k.t, .int .i64 x.k.n, .int .i64 x.v]] w (FindOutP w (look cmpP x T.toList)) := by
  have hsome : ∀ (v : Pr) e (w' : World), look cmpP x T.toList = some v → e = .returned (.tuple #[.agg #[.int .i64 v.k.k, .string v.k.t, .int .i64 v.k.n, .int .i64 v.v], .bool true]) → Below w.heap.size w w' → FindOutP w (look cmpP x T.toList) e w' := by
    intro v e w' h1 h2 h3; rw [h1]; exact ⟨h3, h2⟩
  have hnone : ∀ e (w' : World), look cmpP x T.toList = none → e = .returned (.tuple #[.agg #[.int .i64 0, .string ⟨#[]⟩, .int .i64 0, .int .i64 0], .bool false]) → Below w.heap.size w w' → FindOutP w (look cmpP x T.toList) e w' := by
    intro e w' h1 h2 h3; rw [h1]; exact ⟨h3, h2⟩
  obtain ⟨W2, hW2⟩ : ∃ W2, W2 = (w.alloc (.cells #[.int .i64 x.k.k, .string x.k.t, .int .i64 x.k.n, .int .i64 x.v] 100)).alloc (.cells #[.int .i64 0, .string ⟨#[]⟩, .int .i64 0, .int .i64 0] 100) := ⟨_, rfl⟩
  have hB : Below w.heap.size w W2 := by rw [hW2]; go_grown
  have hbox : W2.heap[w.heap.size]? = some (.cells #[.int .i64 x.k.k, .string x.k.t, .int .i64 x.k.n, .int .i64 x.v] 100 (0, 0)) := by
    rw [hW2]; exact (Below.heap_alloc _ _ _ (by simp)).trans (new_at rfl)
  have hres : W2.heap[w.heap.size + 1]? = some (.cells #[.int .i64 zeroP.k.k, .string zeroP.k.t, .int .i64 zeroP.k.n, .int .i64 zeroP.v] 100 (0, 0)) := by rw [hW2]; exact new_at (by simp)
  have hkeep := fun wr (h : Below W2.heap.size W2 wr) => And.intro (box_cellsP hbox h) (box_cellsP hres h)
  simp only [zeroP, zeroS] at hkeep
  have Hkeep := Lib.hid hkeep
  have h2 := h.mono hB
  have Hsome := Lib.hid hsome
  have Hnone := Lib.hid hnone
  have h' : Hid (TreeP W2 p T) := h2
  have hs' : Hid (Sorted cmpP T.toList) := hs
  have HB := Lib.hid hB
  have HW := Lib.hid hW2
  clear hsome hnone h h2 hs hkeep hbox hres hB hW2
  go_enter Try.func87, Try.ntmps87
  go_wp2_with fail
  rw [← HW.out]
  go_loopg [0] T.size (fun k ps wr => ∃ (T' : BT Pr) (pa : Option Addr), ps = .pointer pa ∧ k = T'.size ∧ TreeP W2 pa T' ∧ Below W2.heap.size W2 wr ∧ look cmpP x T.toList = look cmpP x T'.toList ∧ Sorted cmpP T'.toList)
  case atStart => exact ⟨T, p, rfl, rfl, h'.out, Below.refl _ _, rfl, hs'.out⟩
  case round =>
    obtain ⟨T', pa, rfl, rfl, ht, hbw, hg, hs⟩ := hrel
    have hszw := HB.out.size
    have hsz0 := hbw.size
    obtain ⟨⟨x0, x1, x2, x3, -, -, -, -, -⟩, ⟨r0, r1, r2, r3, f0, f1, f2, f3, hr⟩⟩ := Hkeep.out _ hbw
    have HG := Lib.hid hg
    clear hg
    cases T' with
    | leaf =>
      obtain rfl : pa = none := ht
      have HN := Lib.hid (HG.out.trans (look_nil x))
      have hbww := HB.out.trans (hbw.mono HB.out.size)
      have hbww2 := hbww.size
      have hba := hbw.alloc hsz0 (.cells #[.int .i64 0, .string ⟨#[]⟩, .int .i64 0, .int .i64 0] 100)
      obtain ⟨-, ⟨e0, e1, e2, e3, g0, g1, g2, g3, hr2⟩⟩ := Hkeep.out _ hba
      clear HG hs hba
      go_wp2_with fail
      have hset := setcellsP zeroP hr2.out
      simp only [zeroP, zeroS] at hset
      obtain ⟨s0, s1, s2, s3⟩ := hset
      refine bodyPost_ret (by simp [results, Try.results87, go_sem, s0, s1, s2, s3]; rfl) rfl ?_
      exact Hnone.out _ _ HN.out rfl (by go_grown)
    | node l v r =>
      obtain ⟨b, pl, pr, rfl, hc, htl, htr⟩ := ht
      obtain ⟨c0, c1, c2, c3, c4, c5, -⟩ := node_cellsP (w := wr) hc hbw
      have hcell := fun w' (h : Below wr.heap.size wr w') => And.intro (node_cellsP (w := w') hc (hbw.trans (h.mono hbw.size))) (Hkeep.out _ (hbw.trans (h.mono hbw.size)))
      have Hcell := Lib.hid hcell
      have htl' : Hid (TreeP W2 pl l) := htl
      have htr' : Hid (TreeP W2 pr r) := htr
      have hgn : ((BT.node l v r).size = l.size + 1 + r.size) := rfl
      have HGN := Lib.hid hgn
      simp only [BT.toList] at hs HG
      obtain ⟨hsl, hsr, -, -⟩ := sorted_mid hs
      have Hsl := Lib.hid hsl
      have Hsr := Lib.hid hsr
      clear hc htl htr hcell hgn hsl hsr
      by_cases h1 : cmpP x v < 0
      · have hn := HG.out.trans (look_mid_lt cmpP_cmp hs h1)
        have Hn := Lib.hid hn
        have h2 : (cmpP x v == 0) = false := by simp; omega
        clear hn hs
        go_wp2_with fail
        refine region_tail 6 (by kernel_rfl) (by kernel_rfl) (fun KK hKK => ?_)
        simp only [List.take_succ_cons, List.take_zero]
        repeat (with_reducible refine wpStill_step (fun K hK => ?_); go_simp; (with_reducible refine hK _ ?_); clear hK K)
        refine wpStill_nil (hKK _ _ ?_)
        clear hKK KK
        simp only [List.drop_succ_cons, List.drop_zero]
        clear r0 r1 r2 r3 f0 f1 f2 f3
        go_wp2_with (go_at_call 171; refine (cmp_anyP x v _).mono ?_; rintro e w1 ⟨rfl, hb1'⟩; have hb1 := ((Below.refl wr.heap.size wr).drew).trans hb1'; obtain ⟨⟨d0, d1, d2, d3, d4, d5, -⟩, ⟨⟨y0, y1, y2, y3, -, -, -, -, -⟩, ⟨q0, q1, q2, q3, g0, g1, g2, g3, hr1⟩⟩⟩ := Hcell.out _ hb1; have hbw1 := hbw.trans (hb1.mono hbw.size))
        go_roundg l.size
        case measure => rw [HGN.out]; omega
        case rel => exact ⟨l, pl, rfl, rfl, htl'.out, hbw1, Hn.out, Hsl.out⟩
      · by_cases h2 : cmpP x v = 0
        · have hn := HG.out.trans (look_mid_eq cmpP_cmp hs h2)
          have Hn := Lib.hid hn
          have h3 : (cmpP x v == 0) = true := by simp [h2]
          clear hn hs h2
          go_wp2_with fail
          refine region_tail 6 (by kernel_rfl) (by kernel_rfl) (fun KK hKK => ?_)
          simp only [List.take_succ_cons, List.take_zero]
          repeat (with_reducible refine wpStill_step (fun K hK => ?_); go_simp; (with_reducible refine hK _ ?_); clear hK K)
          refine wpStill_nil (hKK _ _ ?_)
          clear hKK KK
          simp only [List.drop_succ_cons, List.drop_zero]
          clear r0 r1 r2 r3 f0 f1 f2 f3
          go_wp2_with (go_at_call 171; refine (cmp_anyP x v _).mono ?_; rintro e w1 ⟨rfl, hb1'⟩; have hb1 := ((Below.refl wr.heap.size wr).drew).trans hb1'; obtain ⟨⟨d0, d1, d2, d3, d4, d5, -⟩, ⟨⟨y0, y1, y2, y3, -, -, -, -, -⟩, ⟨q0, q1, q2, q3, g0, g1, g2, g3, hr1⟩⟩⟩ := Hcell.out _ hb1; have hbw1 := hbw.trans (hb1.mono hbw.size))
          have hbww := HB.out.trans (hbw1.mono HB.out.size)
          obtain ⟨s0, s1, s2, s3⟩ := setcellsP v hr1.out
          refine bodyPost_ret (by simp [results, Try.results87, go_sem, s0, s1, s2, s3]; rfl) rfl ?_
          exact Hsome.out v _ _ Hn.out rfl (by go_grown)
        · have hn := HG.out.trans (look_mid_gt cmpP_cmp hs (by omega))
          have Hn := Lib.hid hn
          have h3 : (cmpP x v == 0) = false := by simp [h2]
          clear hn hs h2
          go_wp2_with fail
          refine region_tail 6 (by kernel_rfl) (by kernel_rfl) (fun KK hKK => ?_)
          simp only [List.take_succ_cons, List.take_zero]
          repeat (with_reducible refine wpStill_step (fun K hK => ?_); go_simp; (with_reducible refine hK _ ?_); clear hK K)
          refine wpStill_nil (hKK _ _ ?_)
          clear hKK KK
          simp only [List.drop_succ_cons, List.drop_zero]
          clear r0 r1 r2 r3 f0 f1 f2 f3
          go_wp2_with (go_at_call 171; refine (cmp_anyP x v _).mono ?_; rintro e w1 ⟨rfl, hb1'⟩; have hb1 := ((Below.refl wr.heap.size wr).drew).trans hb1'; obtain ⟨⟨d0, d1, d2, d3, d4, d5, -⟩, ⟨⟨y0, y1, y2, y3, -, -, -, -, -⟩, ⟨q0, q1, q2, q3, g0, g1, g2, g3, hr1⟩⟩⟩ := Hcell.out _ hb1; have hbw1 := hbw.trans (hb1.mono hbw.size))
          go_roundg r.size
          case measure => rw [HGN.out]; omega
          case rel => exact ⟨r, pr, rfl, rfl, htr'.out, hbw1, Hn.out, Hsr.out⟩

set_option maxHeartbeats 1000000 in
theorem get_setP (x : Pr) (w : World) (b : Nat) (xs : List Pr) (h : SetP w b xs) : Calls Try.prog 61 #[.pointer (some ⟨b, 0, none⟩), .agg #[.int .i64 x.k.k, .string x.k.t, .int .i64 x.k.n, .int .i64 x.v]] w (FindOutP w (look cmpP x xs)) := by
  obtain ⟨p, T, hr, ht, rfl, hs⟩ := h
  obtain ⟨W2, hW2⟩ : ∃ W2, W2 = (w.alloc (.cells #[.int .i64 x.k.k, .string x.k.t, .int .i64 x.k.n, .int .i64 x.v] 100)).alloc (.cells #[.int .i64 0, .string ⟨#[]⟩, .int .i64 0, .int .i64 0] 100) := ⟨_, rfl⟩
  have hB : Below w.heap.size w W2 := by rw [hW2]; go_grown
  have hbox : W2.heap[w.heap.size]? = some (.cells #[.int .i64 x.k.k, .string x.k.t, .int .i64 x.k.n, .int .i64 x.v] 100 (0, 0)) := by
    rw [hW2]; exact (Below.heap_alloc _ _ _ (by simp)).trans (new_at rfl)
  have hres : W2.heap[w.heap.size + 1]? = some (.cells #[.int .i64 zeroP.k.k, .string zeroP.k.t, .int .i64 zeroP.k.n, .int .i64 zeroP.v] 100 (0, 0)) := by rw [hW2]; exact new_at (by simp)
  have hroot := (hB.block b (heap_lt hr)).trans hr
  have hf := fun w' (h : Below W2.heap.size W2 w') => find_anyP x w' p T ((ht.mono hB).mono h) hs
  have hafter := fun w1 (h : Below W2.heap.size W2 w1) => box_cellsP hres h
  simp only [zeroP, zeroS] at hafter
  obtain ⟨x0, x1, x2, x3, -, -, -, -, -⟩ := box_cellsP hbox (Below.refl _ _)
  have c0 : W2.cell? ⟨b, 0, none⟩ = some (.pointer p) := by rw [cells_of hroot]; rfl
  have KEEP : ∀ w', Below (w.heap.size + 1) W2 w' → (w'.cell? ⟨w.heap.size, 0, none⟩ = some (.int .i64 x.k.k) ∧ w'.cell? ⟨w.heap.size, 1, none⟩ = some (.string x.k.t) ∧ w'.cell? ⟨w.heap.size, 2, none⟩ = some (.int .i64 x.k.n) ∧ w'.cell? ⟨w.heap.size, 3, none⟩ = some (.int .i64 x.v) ∧ w'.cell? ⟨b, 0, none⟩ = some (.pointer p)) := by
    intro w' h
    have hlt := heap_lt hr
    exact ⟨(h.cell (p := ⟨w.heap.size, 0, none⟩) (by simp)).trans x0, (h.cell (p := ⟨w.heap.size, 1, none⟩) (by simp)).trans x1, (h.cell (p := ⟨w.heap.size, 2, none⟩) (by simp)).trans x2, (h.cell (p := ⟨w.heap.size, 3, none⟩) (by simp)).trans x3, (h.cell (p := ⟨b, 0, none⟩) (by simp; omega)).trans c0⟩
  have hsz2 : w.heap.size + 1 ≤ W2.heap.size := by rw [hW2]; simp
  have hKz := Lib.hid KEEP
  clear KEEP
  have Hf := Lib.hid hf
  have Hafter := Lib.hid hafter
  have HB := Lib.hid hB
  have HW := Lib.hid hW2
  clear hf hafter hbox hres hroot hr ht hs hB hW2
  generalize look cmpP x T.toList = o at Hf ⊢
  unfold FindOutP at Hf
  cases o with
  | some v =>
    have hfin : ∀ e w', Below w.heap.size w w' → e = .returned (.tuple #[.agg #[.int .i64 v.k.k, .string v.k.t, .int .i64 v.k.n, .int .i64 v.v], .bool true]) → FindOutP w (some v) e w' := fun _ _ h1 h2 => ⟨h1, h2⟩
    have Hfin := Lib.hid hfin
    clear hfin
    go_enter Try.func61, Try.ntmps61
    go_wp2_with fail
    rw [← HW.out]
    go_region_held3 (fun w' => Below (w.heap.size + 1) W2 w' ∧ w'.cell? ⟨w.heap.size, 0, none⟩ = some (.int .i64 x.k.k) ∧ w'.cell? ⟨w.heap.size, 1, none⟩ = some (.string x.k.t) ∧ w'.cell? ⟨w.heap.size, 2, none⟩ = some (.int .i64 x.k.n) ∧ w'.cell? ⟨w.heap.size, 3, none⟩ = some (.int .i64 x.v) ∧ w'.cell? ⟨b, 0, none⟩ = some (.pointer p))
      (first | exact ⟨(Below.refl _ _).drew, hKz.out _ (Below.refl _ _).drew⟩ | exact ⟨hBa.out, hKz.out _ hBa.out⟩ | exact ⟨(((hBa.out.setCell (by simp) _).setCell (by simp) _).setCell (by simp) _).setCell (by simp) _, hKz.out _ ((((hBa.out.setCell (by simp) _).setCell (by simp) _).setCell (by simp) _).setCell (by simp) _)⟩ | go_keep)
      (first | (go_at_call 87; refine (Hf.out _ (Below.refl _ _).drew).mono ?_; rintro e w1 ⟨hb1, rfl⟩; have hb2 := (Below.refl W2.heap.size W2).drew.trans hb1; obtain ⟨q0, q1, q2, q3, f0, f1, f2, f3, hr1⟩ := Hafter.out _ hb2; have hBa : Hid (Below (w.heap.size + 1) W2 w1) := Lib.hid (hb2.mono hsz2)))
    go_wp2_with fail
    have hbww := HB.out.trans (hb2.mono HB.out.size)
    obtain ⟨s0, s1, s2, s3⟩ := setcellsP v hr1.out
    refine bodyPost_ret (by simp [results, Try.results61, go_sem, s0, s1, s2, s3]; rfl) rfl ?_
    exact Hfin.out _ _ (by go_grown) rfl
  | none =>
    have hfin : ∀ e w', Below w.heap.size w w' → e = .returned (.tuple #[.agg #[.int .i64 0, .string ⟨#[]⟩, .int .i64 0, .int .i64 0], .bool false]) → FindOutP w none e w' := fun _ _ h1 h2 => ⟨h1, h2⟩
    have Hfin := Lib.hid hfin
    clear hfin
    go_enter Try.func61, Try.ntmps61
    go_wp2_with fail
    rw [← HW.out]
    go_region_held3 (fun w' => Below (w.heap.size + 1) W2 w' ∧ w'.cell? ⟨w.heap.size, 0, none⟩ = some (.int .i64 x.k.k) ∧ w'.cell? ⟨w.heap.size, 1, none⟩ = some (.string x.k.t) ∧ w'.cell? ⟨w.heap.size, 2, none⟩ = some (.int .i64 x.k.n) ∧ w'.cell? ⟨w.heap.size, 3, none⟩ = some (.int .i64 x.v) ∧ w'.cell? ⟨b, 0, none⟩ = some (.pointer p))
      (first | exact ⟨(Below.refl _ _).drew, hKz.out _ (Below.refl _ _).drew⟩ | exact ⟨hBa.out, hKz.out _ hBa.out⟩ | exact ⟨(((hBa.out.setCell (by simp) _).setCell (by simp) _).setCell (by simp) _).setCell (by simp) _, hKz.out _ ((((hBa.out.setCell (by simp) _).setCell (by simp) _).setCell (by simp) _).setCell (by simp) _)⟩ | go_keep)
      (first | (go_at_call 87; refine (Hf.out _ (Below.refl _ _).drew).mono ?_; rintro e w1 ⟨hb1, rfl⟩; have hb2 := (Below.refl W2.heap.size W2).drew.trans hb1; obtain ⟨q0, q1, q2, q3, f0, f1, f2, f3, hr1⟩ := Hafter.out _ hb2; have hBa : Hid (Below (w.heap.size + 1) W2 w1) := Lib.hid (hb2.mono hsz2)))
    go_wp2_with fail
    have hbww := HB.out.trans (hb2.mono HB.out.size)
    have hset := setcellsP zeroP hr1.out
    simp only [zeroP, zeroS] at hset
    obtain ⟨s0, s1, s2, s3⟩ := hset
    refine bodyPost_ret (by simp [results, Try.results61, go_sem, s0, s1, s2, s3]; rfl) rfl ?_
    exact Hfin.out _ _ (by go_grown) rfl
end Go.Proofs.Ythgidldcblchmaa
