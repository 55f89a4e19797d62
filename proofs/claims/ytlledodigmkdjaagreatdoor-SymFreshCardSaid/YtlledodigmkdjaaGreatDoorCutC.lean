/-
  Walks over package order at ponder/api.Sym: cutFirst, cutLast. No condition but bounds on sizes.
-/
import Derived.Test.YtlledodigmkdjaaGreatDoorFindC
import Derived.Test.YtlledodigmkdjaaGreatDoorBalC
namespace Go.Proofs.YtlledodigmkdjaaGreatDoor
set_option linter.unusedVariables false
open Go.RowKit
def CutFOut (w : World) (f : Pc) (rest : List Pc) (e : Ending) (w' : World) : Prop :=
  ∃ p' T', e = .returned (.tuple #[.agg #[.int .u8 f.k, .int .i64 f.v], .pointer p']) ∧ Below w.heap.size w w' ∧ TreeC w' p' T' ∧ T'.toList = rest
set_option maxRecDepth 100000 in
set_option maxHeartbeats 2000000 in
theorem cutFirst_any (T : BT Pc) : ∀ (W0 w : World) (p : Option Addr) (f : Pc) (rest : List Pc), TreeC W0 p T → Below W0.heap.size W0 w → T.size ≤ 1000000 → T.toList = f :: rest →
    Calls Tryz.prog 114 #[.pointer p] w (CutFOut w f rest) := by
  induction T with
  | leaf => intro _ _ _ _ _ _ _ _ h; cases h
  | node l v r ihl ihr =>
    clear ihr
    intro W0 w p f rest h hb0 hz hlist
    replace h := h.mono hb0
    clear hb0 W0
    obtain ⟨b, pl, pr, rfl, hc, hl, hr⟩ := h
    simp only [BT.size] at hz
    obtain ⟨W2, hW2⟩ : ∃ W2, W2 = w.alloc (.cells #[.int .u8 0, .int .i64 0] 91) := ⟨_, rfl⟩
    have hB : Below w.heap.size w W2 := by rw [hW2]; go_grown
    have hres : W2.heap[w.heap.size]? = some (.cells #[.int .u8 zeroC.k, .int .i64 zeroC.v] 91 (0, 0)) := by rw [hW2]; exact new_at rfl
    have hnode := fun w' (h : Below W2.heap.size W2 w') => node_cellsC (w := w') hc (hB.trans (h.mono hB.size))
    have hafter := fun w' (h : Below W2.heap.size W2 w') => box_cellsC hres h
    simp only [zeroC] at hafter
    have hbl := heap_lt hc
    have Hnode := Lib.hid hnode
    have Hafter := Lib.hid hafter
    have HB := Lib.hid hB
    have hs2 : W2.heap.size = w.heap.size + 1 := by rw [hW2]; simp
    have HS2 := Lib.hid hs2
    obtain ⟨c0, c1, c2, c3, -⟩ := node_cellsC (w := w) hc (Below.refl _ _)
    obtain ⟨q0, q1, f0, f1, -⟩ := Hafter.out _ (Below.refl _ _)
    clear hc hres hnode hafter hB hs2
    subst hW2
    cases l with
    | leaf =>
      obtain rfl : pl = none := hl
      simp only [BT.toList, List.nil_append] at hlist
      obtain ⟨rfl, rfl⟩ : v = f ∧ r.toList = rest := by simpa using hlist
      have hfin : ∀ e w', e = .returned (.tuple #[.agg #[.int .u8 v.k, .int .i64 v.v], .pointer pr]) → Below w.heap.size w w' → CutFOut w v r.toList e w' := fun e w' h1 h2 => ⟨pr, r, h1, h2, hr.mono h2, rfl⟩
      have Hfin := Lib.hid hfin
      clear hfin ihl hr hlist
      go_enter Tryz.func114, Tryz.ntmps114
      go_wp2_with fail
      go_region
      go_wp2_with fail
      go_returns
      exact Hfin.out _ _ rfl (by go_grown)
    | node ll lv lr =>
      obtain ⟨lrest, hlr⟩ : ∃ lrest, (BT.node ll lv lr).toList = f :: lrest := by
        have hlist2 := hlist
        rw [BT.toList] at hlist2
        cases hh : (BT.node ll lv lr).toList with
        | nil => simp [BT.toList] at hh
        | cons a tl => rw [hh] at hlist2; simp at hlist2; exact ⟨tl, by rw [hlist2.1]⟩
      have hrest : rest = lrest ++ v :: r.toList := by
        rw [BT.toList, hlr] at hlist; simp at hlist; exact hlist.symm
      have hne : ∃ bl, pl = some ⟨bl, 0, none⟩ := by obtain ⟨bl, _, _, h, _⟩ := hl; exact ⟨bl, h⟩
      obtain ⟨bl, rfl⟩ := hne
      have hrec := fun w' (h : Below w.heap.size w w') => ihl w w' _ f lrest hl h (by omega) hlr
      have hsz : lrest.length + 1 = (BT.node ll lv lr).size := by rw [BT.size_eq, hlr]; rfl
      have hbal := fun (W0 w' : World) (q q' : Option Addr) (l' r' : BT Pc) h1 h2 h3 h4 h5 => balanced_anyC W0 w' q q' v l' r' h1 h2 h3 h4 h5
      have hfin : ∀ e w' p' T', e = .returned (.tuple #[.agg #[.int .u8 f.k, .int .i64 f.v], .pointer p']) → Below w.heap.size w w' → TreeC w' p' T' → T'.toList = rest → CutFOut w f rest e w' := fun e w' p' T' h1 h2 h3 h4 => ⟨p', T', h1, h2, h3, h4⟩
      have Hfin := Lib.hid hfin
      have Hrec := Lib.hid hrec
      have Hbal := Lib.hid hbal
      have Hr : Hid (TreeC w pr r) := hr
      have Hrest := Lib.hid hrest
      have hlq0 : lrest.length ≤ 999999 := by omega
      have hrz : r.size ≤ 1000000 := by omega
      have hIz := Lib.hid hsz
      have hZ := Lib.hid hz
      clear hsz hz
      clear hfin ihl hl hr hlist hrec hbal hlr hrest
      unfold CutFOut at Hrec
      go_enter Tryz.func114, Tryz.ntmps114
      go_wp2_with (go_at_call 114; refine (Hrec.out _ (HB.out)).mono ?_; rintro e w1 ⟨q, Tq, rfl, hb1, htq, hTq⟩; obtain ⟨d0, d1, d2, d3, -⟩ := Hnode.out _ hb1; obtain ⟨q0, q1, f0, f1, hres1⟩ := Hafter.out _ hb1; have hs1 : w.heap.size + 1 ≤ w1.heap.size := (by have h9 := hb1.size; rwa [World.size_alloc] at h9); have hbl1 : b < w1.heap.size := (by omega); have hw1 : w.heap.size < w1.heap.size := (by omega))
      have hbw1 := HB.out.trans (hb1.mono HB.out.size)
      have HTq := Lib.hid hTq
      have hlq : Tq.size ≤ 1000000 := by rw [BT.size_eq, hTq]; omega
      clear hTq
      obtain ⟨Wb, hWb⟩ : ∃ Wb, Wb = w1.alloc (.cells #[.int .u8 f.k, .int .i64 f.v] 91) := ⟨_, rfl⟩
      have hB1 : Below w1.heap.size w1 Wb := by rw [hWb]; go_grown
      have hbx := cells_of (W := Wb) (b := w1.heap.size) (c := #[.int .u8 f.k, .int .i64 f.v]) (t := 91) (f := (0, 0)) (by rw [hWb]; exact new_at rfl)
      have hWbz : Wb.heap.size = w1.heap.size + 1 := by rw [hWb]; simp
      have KEEP : ∀ w', Wb.grownBy w' (some w.heap.size) → (w'.cell? ⟨w1.heap.size, 0, none⟩ = some (.int .u8 f.k) ∧ w'.cell? ⟨w1.heap.size, 1, none⟩ = some (.int .i64 f.v) ∧
          w'.cell? ⟨b, 1, none⟩ = some (.pointer pr) ∧ w'.cell? ⟨b, 2, none⟩ = some (.int .u8 v.k) ∧ w'.cell? ⟨b, 3, none⟩ = some (.int .i64 v.v)) := by
        intro w' h
        have hx : ∀ i, w'.cell? ⟨w1.heap.size, i, none⟩ = Wb.cell? ⟨w1.heap.size, i, none⟩ := fun i => World.cell?_of_block (w := Wb) (a := ⟨w1.heap.size, i, none⟩) (h.block w1.heap.size (by omega) (by simp; omega))
        have hy : ∀ i, w'.cell? ⟨b, i, none⟩ = w1.cell? ⟨b, i, none⟩ := fun i => (World.cell?_of_block (w := Wb) (a := ⟨b, i, none⟩) (h.block b (by omega) (by simp; omega))).trans (hB1.cell (p := ⟨b, i, none⟩) hbl1)
        exact ⟨by rw [hx, hbx]; rfl, by rw [hx, hbx]; rfl, (hy 1).trans d1, (hy 2).trans d2, (hy 3).trans d3⟩
      have hK := Lib.hid KEEP
      rw [← hWb]
      have hup : ∀ w', Below Wb.heap.size Wb w' → Below w1.heap.size w1 w' := fun w' h => hB1.trans (h.mono hB1.size)
      clear hWb hbx KEEP d0 d1 d2 d3 q0 q1 f0 f1 hres1
      have hWz := Lib.hid hWbz
      clear hWbz
      have grd : Wb.grownBy Wb.drew (some w.heap.size) := gbelow (Below.refl _ _).drew
      have Hgrd := Lib.hid grd
      clear grd
      go_region_held3 (fun w' => Wb.grownBy w' (some w.heap.size) ∧ w'.cell? ⟨w1.heap.size, 0, none⟩ = some (.int .u8 f.k) ∧ w'.cell? ⟨w1.heap.size, 1, none⟩ = some (.int .i64 f.v) ∧
          w'.cell? ⟨b, 1, none⟩ = some (.pointer pr) ∧ w'.cell? ⟨b, 2, none⟩ = some (.int .u8 v.k) ∧ w'.cell? ⟨b, 3, none⟩ = some (.int .i64 v.v))
        (first | exact ⟨Hgrd.out, hK.out _ Hgrd.out⟩ | exact ⟨hG3.out, hK.out _ hG3.out⟩ | exact ⟨hG4.out, hK.out _ hG4.out⟩ | go_keep)
        (first | (go_at_call 103; refine (Hbal.out w1 _ q pr Tq r htq (Hr.out.mono hbw1) (hup _ (Below.refl _ _).drew) (by omega) (by omega)).mono ?_; rintro e w3 ⟨q3, T3, rfl, hb3, h6, h7⟩; have hb3' := hup _ ((Below.refl Wb.heap.size Wb).drew.trans hb3); obtain ⟨z0, z1, g0, g1, hres3⟩ := Hafter.out _ (hb1.trans (hb3'.mono hb1.size)); have hG3 : Hid (Wb.grownBy w3 (some w.heap.size)) := gbelow ((Below.refl Wb.heap.size Wb).drew.trans hb3); have hG4 : Hid (Wb.grownBy ((w3.setCell ⟨w.heap.size, 0, none⟩ (.int .u8 f.k)).setCell ⟨w.heap.size, 1, none⟩ (.int .i64 f.v)) (some w.heap.size)) := gtrans hG3.out (gtrans (gset w3 w.heap.size 0 (.int .u8 f.k)) (gset _ w.heap.size 1 (.int .i64 f.v)))))
      go_wp2_with fail
      obtain ⟨s0, s1⟩ := setcellsC f hres3.out
      refine bodyPost_ret (by simp [results, Tryz.results114, go_sem, s0, s1]; rfl) rfl ?_
      have hbw3 := hbw1.trans (hb3'.mono hbw1.size)
      refine Hfin.out _ _ q3 T3 rfl (by go_grown) ?_ (by rw [h7, HTq.out, Hrest.out])
      exact h6.but (gtrans (gset w3 w.heap.size 0 (.int .u8 f.k)) (gset _ w.heap.size 1 (.int .i64 f.v))) hres3.out (by decide)
def CutLOut (w : World) (f : Pc) (rest : List Pc) (e : Ending) (w' : World) : Prop :=
  ∃ p' T', e = .returned (.tuple #[.pointer p', .agg #[.int .u8 f.k, .int .i64 f.v]]) ∧ Below w.heap.size w w' ∧ TreeC w' p' T' ∧ T'.toList = rest
set_option maxRecDepth 100000 in
set_option maxHeartbeats 2000000 in
theorem cutLast_any (T : BT Pc) : ∀ (W0 w : World) (p : Option Addr) (f : Pc) (rest : List Pc), TreeC W0 p T → Below W0.heap.size W0 w → T.size ≤ 1000000 → T.toList = rest ++ [f] →
    Calls Tryz.prog 113 #[.pointer p] w (CutLOut w f rest) := by
  induction T with
  | leaf => intro _ _ _ _ _ _ _ _ h; simp [BT.toList] at h
  | node l v r ihl ihr =>
    clear ihl
    intro W0 w p f rest h hb0 hz hlist
    replace h := h.mono hb0
    clear hb0 W0
    obtain ⟨b, pl, pr, rfl, hc, hl, hr⟩ := h
    simp only [BT.size] at hz
    obtain ⟨W2, hW2⟩ : ∃ W2, W2 = w.alloc (.cells #[.int .u8 0, .int .i64 0] 91) := ⟨_, rfl⟩
    have hB : Below w.heap.size w W2 := by rw [hW2]; go_grown
    have hres : W2.heap[w.heap.size]? = some (.cells #[.int .u8 zeroC.k, .int .i64 zeroC.v] 91 (0, 0)) := by rw [hW2]; exact new_at rfl
    have hnode := fun w' (h : Below W2.heap.size W2 w') => node_cellsC (w := w') hc (hB.trans (h.mono hB.size))
    have hafter := fun w' (h : Below W2.heap.size W2 w') => box_cellsC hres h
    simp only [zeroC] at hafter
    have hbl := heap_lt hc
    have Hnode := Lib.hid hnode
    have Hafter := Lib.hid hafter
    have HB := Lib.hid hB
    have hs2 : W2.heap.size = w.heap.size + 1 := by rw [hW2]; simp
    have HS2 := Lib.hid hs2
    obtain ⟨c0, c1, c2, c3, -⟩ := node_cellsC (w := w) hc (Below.refl _ _)
    obtain ⟨q0, q1, f0, f1, -⟩ := Hafter.out _ (Below.refl _ _)
    clear hc hres hnode hafter hB hs2
    subst hW2
    cases r with
    | leaf =>
      obtain rfl : pr = none := hr
      simp only [BT.toList] at hlist
      obtain ⟨rfl, rfl⟩ : l.toList = rest ∧ v = f := by simpa using List.append_inj' hlist rfl
      have hfin : ∀ e w', e = .returned (.tuple #[.pointer pl, .agg #[.int .u8 v.k, .int .i64 v.v]]) → Below w.heap.size w w' → CutLOut w v l.toList e w' := fun e w' h1 h2 => ⟨pl, l, h1, h2, hl.mono h2, rfl⟩
      have Hfin := Lib.hid hfin
      clear hfin ihr hl hlist
      go_enter Tryz.func113, Tryz.ntmps113
      go_wp2_with fail
      go_region
      go_wp2_with fail
      go_returns
      exact Hfin.out _ _ rfl (by go_grown)
    | node ll lv lr =>
      have hnn : (BT.node ll lv lr).toList ≠ [] := by simp [BT.toList]
      obtain ⟨lrest, hlr⟩ : ∃ lrest, (BT.node ll lv lr).toList = lrest ++ [f] := by
        have h1 := List.dropLast_concat_getLast hnn
        have h2 : rest ++ [f] = (l.toList ++ v :: (BT.node ll lv lr).toList.dropLast) ++ [(BT.node ll lv lr).toList.getLast hnn] := by
          rw [← hlist, BT.toList]; conv => lhs; rw [← h1]
          simp
        have h3 := (List.append_inj' h2 rfl).2
        simp only [List.cons.injEq, and_true] at h3
        exact ⟨_, by rw [h3]; exact h1.symm⟩
      have hrest : rest = l.toList ++ v :: lrest := by
        rw [BT.toList, hlr] at hlist
        have h2 : (l.toList ++ v :: lrest) ++ [f] = rest ++ [f] := by rw [← hlist]; simp
        exact ((List.append_inj' h2 rfl).1).symm
      have hne : ∃ bl, pr = some ⟨bl, 0, none⟩ := by obtain ⟨bl, _, _, h, _⟩ := hr; exact ⟨bl, h⟩
      obtain ⟨bl, rfl⟩ := hne
      have hrec := fun w' (h : Below w.heap.size w w') => ihr w w' _ f lrest hr h (by omega) hlr
      have hsz : lrest.length + 1 = (BT.node ll lv lr).size := by rw [BT.size_eq, hlr]; simp
      have hbal := fun (W0 w' : World) (q q' : Option Addr) (l' r' : BT Pc) h1 h2 h3 h4 h5 => balanced_anyC W0 w' q q' v l' r' h1 h2 h3 h4 h5
      have hfin : ∀ e w' p' T', e = .returned (.tuple #[.pointer p', .agg #[.int .u8 f.k, .int .i64 f.v]]) → Below w.heap.size w w' → TreeC w' p' T' → T'.toList = rest → CutLOut w f rest e w' := fun e w' p' T' h1 h2 h3 h4 => ⟨p', T', h1, h2, h3, h4⟩
      have Hfin := Lib.hid hfin
      have Hrec := Lib.hid hrec
      have Hbal := Lib.hid hbal
      have Hr : Hid (TreeC w pl l) := hl
      have Hrest := Lib.hid hrest
      have hlq0 : lrest.length ≤ 999999 := by omega
      have hrz : l.size ≤ 1000000 := by omega
      have hIz := Lib.hid hsz
      have hZ := Lib.hid hz
      clear hsz hz
      clear hfin ihr hl hr hlist hrec hbal hlr hrest hnn
      unfold CutLOut at Hrec
      go_enter Tryz.func113, Tryz.ntmps113
      go_wp2_with (go_at_call 113; refine (Hrec.out _ (HB.out)).mono ?_; rintro e w1 ⟨q, Tq, rfl, hb1, htq, hTq⟩; obtain ⟨d0, d1, d2, d3, -⟩ := Hnode.out _ hb1; obtain ⟨q0, q1, f0, f1, hres1⟩ := Hafter.out _ hb1; have hs1 : w.heap.size + 1 ≤ w1.heap.size := (by have h9 := hb1.size; rwa [World.size_alloc] at h9); have hbl1 : b < w1.heap.size := (by omega); have hw1 : w.heap.size < w1.heap.size := (by omega))
      have hbw1 := HB.out.trans (hb1.mono HB.out.size)
      have HTq := Lib.hid hTq
      have hlq : Tq.size ≤ 1000000 := by rw [BT.size_eq, hTq]; omega
      clear hTq
      obtain ⟨Wb, hWb⟩ : ∃ Wb, Wb = w1.alloc (.cells #[.int .u8 f.k, .int .i64 f.v] 91) := ⟨_, rfl⟩
      have hB1 : Below w1.heap.size w1 Wb := by rw [hWb]; go_grown
      have hbx := cells_of (W := Wb) (b := w1.heap.size) (c := #[.int .u8 f.k, .int .i64 f.v]) (t := 91) (f := (0, 0)) (by rw [hWb]; exact new_at rfl)
      have hWbz : Wb.heap.size = w1.heap.size + 1 := by rw [hWb]; simp
      have KEEP : ∀ w', Wb.grownBy w' (some w.heap.size) → (w'.cell? ⟨w1.heap.size, 0, none⟩ = some (.int .u8 f.k) ∧ w'.cell? ⟨w1.heap.size, 1, none⟩ = some (.int .i64 f.v) ∧
          w'.cell? ⟨b, 0, none⟩ = some (.pointer pl) ∧ w'.cell? ⟨b, 2, none⟩ = some (.int .u8 v.k) ∧ w'.cell? ⟨b, 3, none⟩ = some (.int .i64 v.v)) := by
        intro w' h
        have hx : ∀ i, w'.cell? ⟨w1.heap.size, i, none⟩ = Wb.cell? ⟨w1.heap.size, i, none⟩ := fun i => World.cell?_of_block (w := Wb) (a := ⟨w1.heap.size, i, none⟩) (h.block w1.heap.size (by omega) (by simp; omega))
        have hy : ∀ i, w'.cell? ⟨b, i, none⟩ = w1.cell? ⟨b, i, none⟩ := fun i => (World.cell?_of_block (w := Wb) (a := ⟨b, i, none⟩) (h.block b (by omega) (by simp; omega))).trans (hB1.cell (p := ⟨b, i, none⟩) hbl1)
        exact ⟨by rw [hx, hbx]; rfl, by rw [hx, hbx]; rfl, (hy 0).trans d0, (hy 2).trans d2, (hy 3).trans d3⟩
      have hK := Lib.hid KEEP
      rw [← hWb]
      have hup : ∀ w', Below Wb.heap.size Wb w' → Below w1.heap.size w1 w' := fun w' h => hB1.trans (h.mono hB1.size)
      clear hWb hbx KEEP d0 d1 d2 d3 q0 q1 f0 f1 hres1
      have hWz := Lib.hid hWbz
      clear hWbz
      have grd : Wb.grownBy Wb.drew (some w.heap.size) := gbelow (Below.refl _ _).drew
      have Hgrd := Lib.hid grd
      clear grd
      go_region_held3 (fun w' => Wb.grownBy w' (some w.heap.size) ∧ w'.cell? ⟨w1.heap.size, 0, none⟩ = some (.int .u8 f.k) ∧ w'.cell? ⟨w1.heap.size, 1, none⟩ = some (.int .i64 f.v) ∧
          w'.cell? ⟨b, 0, none⟩ = some (.pointer pl) ∧ w'.cell? ⟨b, 2, none⟩ = some (.int .u8 v.k) ∧ w'.cell? ⟨b, 3, none⟩ = some (.int .i64 v.v))
        (first | exact ⟨Hgrd.out, hK.out _ Hgrd.out⟩ | exact ⟨hG3.out, hK.out _ hG3.out⟩ | exact ⟨hG4.out, hK.out _ hG4.out⟩ | go_keep)
        (first | (go_at_call 103; refine (Hbal.out w1 _ pl q l Tq (Hr.out.mono hbw1) htq (hup _ (Below.refl _ _).drew) (by omega) (by omega)).mono ?_; rintro e w3 ⟨q3, T3, rfl, hb3, h6, h7⟩; have hb3' := hup _ ((Below.refl Wb.heap.size Wb).drew.trans hb3); obtain ⟨z0, z1, g0, g1, hres3⟩ := Hafter.out _ (hb1.trans (hb3'.mono hb1.size)); have hG3 : Hid (Wb.grownBy w3 (some w.heap.size)) := gbelow ((Below.refl Wb.heap.size Wb).drew.trans hb3); have hG4 : Hid (Wb.grownBy ((w3.setCell ⟨w.heap.size, 0, none⟩ (.int .u8 f.k)).setCell ⟨w.heap.size, 1, none⟩ (.int .i64 f.v)) (some w.heap.size)) := gtrans hG3.out (gtrans (gset w3 w.heap.size 0 (.int .u8 f.k)) (gset _ w.heap.size 1 (.int .i64 f.v)))))
      go_wp2_with fail
      obtain ⟨s0, s1⟩ := setcellsC f hres3.out
      refine bodyPost_ret (by simp [results, Tryz.results113, go_sem, s0, s1]; rfl) rfl ?_
      have hbw3 := hbw1.trans (hb3'.mono hbw1.size)
      refine Hfin.out _ _ q3 T3 rfl (by go_grown) ?_ (by rw [h7, HTq.out, Hrest.out])
      exact h6.but (gtrans (gset w3 w.heap.size 0 (.int .u8 f.k)) (gset _ w.heap.size 1 (.int .i64 f.v))) hres3.out (by decide)
end Go.Proofs.YtlledodigmkdjaaGreatDoor
