/-
  Walks over package order at ponder/api.Sym: cutFirst, cutLast. No condition but bounds on sizes.
-/
import Derived.Test.YthgidldcblchmaaFindP
import Derived.Test.YthgidldcblchmaaBalP
namespace Go.Proofs.Ythgidldcblchmaa
set_option linter.unusedVariables false
open Go.RowKit
def CutFOut (w : World) (f : Pr) (rest : List Pr) (e : Ending) (w' : World) : Prop :=
  ∃ p' T', e = .returned (.tuple #[.agg #[.int .i64 f.k.k, .string f.k.t, .int .i64 f.k.n, .int .i64 f.v], .pointer p']) ∧ Below w.heap.size w w' ∧ TreeP w' p' T' ∧ T'.toList = rest
set_option maxRecDepth 100000 in
set_option maxHeartbeats 2000000 in
theorem cutFirst_any (T : BT Pr) : ∀ (W0 w : World) (p : Option Addr) (f : Pr) (rest : List Pr), TreeP W0 p T → Below W0.heap.size W0 w → T.size ≤ 1000000 → T.toList = f :: rest →
    Calls Try.prog 122 #[.pointer p] w (CutFOut w f rest) := by
  induction T with
  | leaf => intro _ _ _ _ _ _ _ _ h; cases h
  | node l v r ihl ihr =>
    clear ihr
    intro W0 w p f rest h hb0 hz hlist
    replace h := h.mono hb0
    clear hb0 W0
    obtain ⟨b, pl, pr, rfl, hc, hl, hr⟩ := h
    simp only [BT.size] at hz
    obtain ⟨W2, hW2⟩ : ∃ W2, W2 = w.alloc (.cells #[.int .i64 0, .string ⟨#[]⟩, .int .i64 0, .int .i64 0] 100) := ⟨_, rfl⟩
    have hB : Below w.heap.size w W2 := by rw [hW2]; go_grown
    have hres : W2.heap[w.heap.size]? = some (.cells #[.int .i64 zeroP.k.k, .string zeroP.k.t, .int .i64 zeroP.k.n, .int .i64 zeroP.v] 100 (0, 0)) := by rw [hW2]; exact new_at rfl
    have hnode := fun w' (h : Below W2.heap.size W2 w') => node_cellsP (w := w') hc (hB.trans (h.mono hB.size))
    have hafter := fun w' (h : Below W2.heap.size W2 w') => box_cellsP hres h
    simp only [zeroP] at hafter
    have hbl := heap_lt hc
    have Hnode := Lib.hid hnode
    have Hafter := Lib.hid hafter
    have HB := Lib.hid hB
    have hs2 : W2.heap.size = w.heap.size + 1 := by rw [hW2]; simp
    have HS2 := Lib.hid hs2
    obtain ⟨c0, c1, c2, c3, c4, c5, -⟩ := node_cellsP (w := w) hc (Below.refl _ _)
    obtain ⟨q0, q1, q2, f0, f1, f2, -⟩ := Hafter.out _ (Below.refl _ _)
    clear hc hres hnode hafter hB hs2
    subst hW2
    cases l with
    | leaf =>
      obtain rfl : pl = none := hl
      simp only [BT.toList, List.nil_append] at hlist
      obtain ⟨rfl, rfl⟩ : v = f ∧ r.toList = rest := by simpa using hlist
      have hfin : ∀ e w', e = .returned (.tuple #[.agg #[.int .i64 v.k.k, .string v.k.t, .int .i64 v.k.n, .int .i64 v.v], .pointer pr]) → Below w.heap.size w w' → CutFOut w v r.toList e w' := fun e w' h1 h2 => ⟨pr, r, h1, h2, hr.mono h2, rfl⟩
      have Hfin := Lib.hid hfin
      clear hfin ihl hr hlist
      go_enter Try.func122, Try.ntmps122
      go_wp2_with fail
      go_region
      go_wp2_with fail
      go_returns
      exact Hfin.out _ _ rfl (by go_grown)
    | node ll lv lr =>
      obtain ⟨lrest, hlr⟩ : ∃ lrest, (BT.node ll lv lr).toList = f :: lrest := by
        have hlist2 := hlist
        rw [BT.toList] at hlist2
        cases hh : (BT.node ll lv lr).toList with
        | nil => simp [BT.toList] at hh
        | cons a tl => rw [hh] at hlist2; simp at hlist2; exact ⟨tl, by rw [hlist2.1]⟩
      have hrest : rest = lrest ++ v :: r.toList := by
        rw [BT.toList, hlr] at hlist; simp at hlist; exact hlist.symm
      have hne : ∃ bl, pl = some ⟨bl, 0, none⟩ := by obtain ⟨bl, _, _, h, _⟩ := hl; exact ⟨bl, h⟩
      obtain ⟨bl, rfl⟩ := hne
      have hrec := fun w' (h : Below w.heap.size w w') => ihl w w' _ f lrest hl h (by omega) hlr
      have hsz : lrest.length + 1 = (BT.node ll lv lr).size := by rw [BT.size_eq, hlr]; rfl
      have hbal := fun (W0 w' : World) (q q' : Option Addr) (l' r' : BT Pr) h1 h2 h3 h4 h5 => balanced_anyP W0 w' q q' v l' r' h1 h2 h3 h4 h5
      have hfin : ∀ e w' p' T', e = .returned (.tuple #[.agg #[.int .i64 f.k.k, .string f.k.t, .int .i64 f.k.n, .int .i64 f.v], .pointer p']) → Below w.heap.size w w' → TreeP w' p' T' → T'.toList = rest → CutFOut w f rest e w' := fun e w' p' T' h1 h2 h3 h4 => ⟨p', T', h1, h2, h3, h4⟩
      have Hfin := Lib.hid hfin
      have Hrec := Lib.hid hrec
      have Hbal := Lib.hid hbal
      have Hr : Hid (TreeP w pr r) := hr
      have Hrest := Lib.hid hrest
      have hlq0 : lrest.length ≤ 999999 := by omega
      have hrz : r.size ≤ 1000000 := by omega
      have hIz := Lib.hid hsz
      have hZ := Lib.hid hz
      clear hsz hz
      clear hfin ihl hl hr hlist hrec hbal hlr hrest
      unfold CutFOut at Hrec
      go_enter Try.func122, Try.ntmps122
      go_wp2_with (go_at_call 122; refine (Hrec.out _ (HB.out)).mono ?_; rintro e w1 ⟨q, Tq, rfl, hb1, htq, hTq⟩; obtain ⟨d0, d1, d2, d3, d4, d5, -⟩ := Hnode.out _ hb1; obtain ⟨q0, q1, q2, q3, f0, f1, f2, f3, hres1⟩ := Hafter.out _ hb1; have hs1 : w.heap.size + 1 ≤ w1.heap.size := (by have h9 := hb1.size; rwa [World.size_alloc] at h9); have hbl1 : b < w1.heap.size := (by omega); have hw1 : w.heap.size < w1.heap.size := (by omega))
      have hbw1 := HB.out.trans (hb1.mono HB.out.size)
      have HTq := Lib.hid hTq
      have hlq : Tq.size ≤ 1000000 := by rw [BT.size_eq, hTq]; omega
      clear hTq
      obtain ⟨Wb, hWb⟩ : ∃ Wb, Wb = w1.alloc (.cells #[.int .i64 f.k.k, .string f.k.t, .int .i64 f.k.n, .int .i64 f.v] 100) := ⟨_, rfl⟩
      have hB1 : Below w1.heap.size w1 Wb := by rw [hWb]; go_grown
      have hbx := cells_of (W := Wb) (b := w1.heap.size) (c := #[.int .i64 f.k.k, .string f.k.t, .int .i64 f.k.n, .int .i64 f.v]) (t := 100) (f := (0, 0)) (by rw [hWb]; exact new_at rfl)
      have hWbz : Wb.heap.size = w1.heap.size + 1 := by rw [hWb]; simp
      have KEEP : ∀ w', Wb.grownBy w' (some w.heap.size) → (w'.cell? ⟨w1.heap.size, 0, none⟩ = some (.int .i64 f.k.k) ∧ w'.cell? ⟨w1.heap.size, 1, none⟩ = some (.string f.k.t) ∧ w'.cell? ⟨w1.heap.size, 2, none⟩ = some (.int .i64 f.k.n) ∧ w'.cell? ⟨w1.heap.size, 3, none⟩ = some (.int .i64 f.v) ∧
          w'.cell? ⟨b, 1, none⟩ = some (.pointer pr) ∧ w'.cell? ⟨b, 2, none⟩ = some (.int .i64 v.k.k) ∧ w'.cell? ⟨b, 3, none⟩ = some (.string v.k.t) ∧ w'.cell? ⟨b, 4, none⟩ = some (.int .i64 v.k.n) ∧ w'.cell? ⟨b, 5, none⟩ = some (.int .i64 v.v)) := by
        intro w' h
        have hx : ∀ i, w'.cell? ⟨w1.heap.size, i, none⟩ = Wb.cell? ⟨w1.heap.size, i, none⟩ := fun i => World.cell?_of_block (w := Wb) (a := ⟨w1.heap.size, i, none⟩) (h.block w1.heap.size (by omega) (by simp; omega))
        have hy : ∀ i, w'.cell? ⟨b, i, none⟩ = w1.cell? ⟨b, i, none⟩ := fun i => (World.cell?_of_block (w := Wb) (a := ⟨b, i, none⟩) (h.block b (by omega) (by simp; omega))).trans (hB1.cell (p := ⟨b, i, none⟩) hbl1)
        exact ⟨by rw [hx, hbx]; rfl, by rw [hx, hbx]; rfl, by rw [hx, hbx]; rfl, by rw [hx, hbx]; rfl, (hy 1).trans d1, (hy 2).trans d2, (hy 3).trans d3, (hy 4).trans d4, (hy 5).trans d5⟩
      have hK := Lib.hid KEEP
      rw [← hWb]
      have hup : ∀ w', Below Wb.heap.size Wb w' → Below w1.heap.size w1 w' := fun w' h => hB1.trans (h.mono hB1.size)
      clear hWb hbx KEEP d0 d1 d2 d3 d4 d5 q0 q1 q2 q3 f0 f1 f2 f3 hres1
      have hWz := Lib.hid hWbz
      clear hWbz
      have grd : Wb.grownBy Wb.drew (some w.heap.size) := gbelow (Below.refl _ _).drew
      have Hgrd := Lib.hid grd
      clear grd
      go_region_held3 (fun w' => Wb.grownBy w' (some w.heap.size) ∧ w'.cell? ⟨w1.heap.size, 0, none⟩ = some (.int .i64 f.k.k) ∧ w'.cell? ⟨w1.heap.size, 1, none⟩ = some (.string f.k.t) ∧ w'.cell? ⟨w1.heap.size, 2, none⟩ = some (.int .i64 f.k.n) ∧ w'.cell? ⟨w1.heap.size, 3, none⟩ = some (.int .i64 f.v) ∧
          w'.cell? ⟨b, 1, none⟩ = some (.pointer pr) ∧ w'.cell? ⟨b, 2, none⟩ = some (.int .i64 v.k.k) ∧ w'.cell? ⟨b, 3, none⟩ = some (.string v.k.t) ∧ w'.cell? ⟨b, 4, none⟩ = some (.int .i64 v.k.n) ∧ w'.cell? ⟨b, 5, none⟩ = some (.int .i64 v.v))
        (first | exact ⟨Hgrd.out, hK.out _ Hgrd.out⟩ | exact ⟨hG3.out, hK.out _ hG3.out⟩ | exact ⟨hG4.out, hK.out _ hG4.out⟩ | go_keep)
        (first | (go_at_call 105; refine (Hbal.out w1 _ q pr Tq r htq (Hr.out.mono hbw1) (hup _ (Below.refl _ _).drew) (by omega) (by omega)).mono ?_; rintro e w3 ⟨q3, T3, rfl, hb3, h6, h7⟩; have hb3' := hup _ ((Below.refl Wb.heap.size Wb).drew.trans hb3); obtain ⟨z0, z1, z2, z3, g0, g1, g2, g3, hres3⟩ := Hafter.out _ (hb1.trans (hb3'.mono hb1.size)); have hG3 : Hid (Wb.grownBy w3 (some w.heap.size)) := gbelow ((Below.refl Wb.heap.size Wb).drew.trans hb3); have hG4 : Hid (Wb.grownBy ((((w3.setCell ⟨w.heap.size, 0, none⟩ (.int .i64 f.k.k)).setCell ⟨w.heap.size, 1, none⟩ (.string f.k.t)).setCell ⟨w.heap.size, 2, none⟩ (.int .i64 f.k.n)).setCell ⟨w.heap.size, 3, none⟩ (.int .i64 f.v)) (some w.heap.size)) := gtrans hG3.out (gtrans (gtrans (gtrans (gset w3 w.heap.size 0 (.int .i64 f.k.k)) (gset _ w.heap.size 1 (.string f.k.t))) (gset _ w.heap.size 2 (.int .i64 f.k.n))) (gset _ w.heap.size 3 (.int .i64 f.v)))))
      go_wp2_with fail
      obtain ⟨s0, s1, s2, s3⟩ := setcellsP f hres3.out
      refine bodyPost_ret (by simp [results, Try.results122, go_sem, s0, s1, s2, s3]; rfl) rfl ?_
      have hbw3 := hbw1.trans (hb3'.mono hbw1.size)
      refine Hfin.out _ _ q3 T3 rfl (by go_grown) ?_ (by rw [h7, HTq.out, Hrest.out])
      exact h6.but (gtrans (gtrans (gtrans (gset w3 w.heap.size 0 (.int .i64 f.k.k)) (gset _ w.heap.size 1 (.string f.k.t))) (gset _ w.heap.size 2 (.int .i64 f.k.n))) (gset _ w.heap.size 3 (.int .i64 f.v))) hres3.out (by decide)
def CutLOut (w : World) (f : Pr) (rest : List Pr) (e : Ending) (w' : World) : Prop :=
  ∃ p' T', e = .returned (.tuple #[.pointer p', .agg #[.int .i64 f.k.k, .string f.k.t, .int .i64 f.k.n, .int .i64 f.v]]) ∧ Below w.heap.size w w' ∧ TreeP w' p' T' ∧ T'.toList = rest
set_option maxRecDepth 100000 in
set_option maxHeartbeats 2000000 in
theorem cutLast_any (T : BT Pr) : ∀ (W0 w : World) (p : Option Addr) (f : Pr) (rest : List Pr), TreeP W0 p T → Below W0.heap.size W0 w → T.size ≤ 1000000 → T.toList = rest ++ [f] →
    Calls Try.prog 121 #[.pointer p] w (CutLOut w f rest) := by
  induction T with
  | leaf => intro _ _ _ _ _ _ _ _ h; simp [BT.toList] at h
  | node l v r ihl ihr =>
    clear ihl
    intro W0 w p f rest h hb0 hz hlist
    replace h := h.mono hb0
    clear hb0 W0
    obtain ⟨b, pl, pr, rfl, hc, hl, hr⟩ := h
    simp only [BT.size] at hz
    obtain ⟨W2, hW2⟩ : ∃ W2, W2 = w.alloc (.cells #[.int .i64 0, .string ⟨#[]⟩, .int .i64 0, .int .i64 0] 100) := ⟨_, rfl⟩
    have hB : Below w.heap.size w W2 := by rw [hW2]; go_grown
    have hres : W2.heap[w.heap.size]? = some (.cells #[.int .i64 zeroP.k.k, .string zeroP.k.t, .int .i64 zeroP.k.n, .int .i64 zeroP.v] 100 (0, 0)) := by rw [hW2]; exact new_at rfl
    have hnode := fun w' (h : Below W2.heap.size W2 w') => node_cellsP (w := w') hc (hB.trans (h.mono hB.size))
    have hafter := fun w' (h : Below W2.heap.size W2 w') => box_cellsP hres h
    simp only [zeroP] at hafter
    have hbl := heap_lt hc
    have Hnode := Lib.hid hnode
    have Hafter := Lib.hid hafter
    have HB := Lib.hid hB
    have hs2 : W2.heap.size = w.heap.size + 1 := by rw [hW2]; simp
    have HS2 := Lib.hid hs2
    obtain ⟨c0, c1, c2, c3, c4, c5, -⟩ := node_cellsP (w := w) hc (Below.refl _ _)
    obtain ⟨q0, q1, q2, f0, f1, f2, -⟩ := Hafter.out _ (Below.refl _ _)
    clear hc hres hnode hafter hB hs2
    subst hW2
    cases r with
    | leaf =>
      obtain rfl : pr = none := hr
      simp only [BT.toList] at hlist
      obtain ⟨rfl, rfl⟩ : l.toList = rest ∧ v = f := by simpa using List.append_inj' hlist rfl
      have hfin : ∀ e w', e = .returned (.tuple #[.pointer pl, .agg #[.int .i64 v.k.k, .string v.k.t, .int .i64 v.k.n, .int .i64 v.v]]) → Below w.heap.size w w' → CutLOut w v l.toList e w' := fun e w' h1 h2 => ⟨pl, l, h1, h2, hl.mono h2, rfl⟩
      have Hfin := Lib.hid hfin
      clear hfin ihr hl hlist
      go_enter Try.func121, Try.ntmps121
      go_wp2_with fail
      go_region
      go_wp2_with fail
      go_returns
      exact Hfin.out _ _ rfl (by go_grown)
    | node ll lv lr =>
      have hnn : (BT.node ll lv lr).toList ≠ [] := by simp [BT.toList]
      obtain ⟨lrest, hlr⟩ : ∃ lrest, (BT.node ll lv lr).toList = lrest ++ [f] := by
        have h1 := List.dropLast_concat_getLast hnn
        have h2 : rest ++ [f] = (l.toList ++ v :: (BT.node ll lv lr).toList.dropLast) ++ [(BT.node ll lv lr).toList.getLast hnn] := by
          rw [← hlist, BT.toList]; conv => lhs; rw [← h1]
          simp
        have h3 := (List.append_inj' h2 rfl).2
        simp only [List.cons.injEq, and_true] at h3
        exact ⟨_, by rw [h3]; exact h1.symm⟩
      have hrest : rest = l.toList ++ v :: lrest := by
        rw [BT.toList, hlr] at hlist
        have h2 : (l.toList ++ v :: lrest) ++ [f] = rest ++ [f] := by rw [← hlist]; simp
        exact ((List.append_inj' h2 rfl).1).symm
      have hne : ∃ bl, pr = some ⟨bl, 0, none⟩ := by obtain ⟨bl, _, _, h, _⟩ := hr; exact ⟨bl, h⟩
      obtain ⟨bl, rfl⟩ := hne
      have hrec := fun w' (h : Below w.heap.size w w') => ihr w w' _ f lrest hr h (by omega) hlr
      have hsz : lrest.length + 1 = (BT.node ll lv lr).size := by rw [BT.size_eq, hlr]; simp
      have hbal := fun (W0 w' : World) (q q' : Option Addr) (l' r' : BT Pr) h1 h2 h3 h4 h5 => balanced_anyP W0 w' q q' v l' r' h1 h2 h3 h4 h5
      have hfin : ∀ e w' p' T', e = .returned (.tuple #[.pointer p', .agg #[.int .i64 f.k.k, .string f.k.t, .int .i64 f.k.n, .int .i64 f.v]]) → Below w.heap.size w w' → TreeP w' p' T' → T'.toList = rest → CutLOut w f rest e w' := fun e w' p' T' h1 h2 h3 h4 => ⟨p', T', h1, h2, h3, h4⟩
      have Hfin := Lib.hid hfin
      have Hrec := Lib.hid hrec
      have Hbal := Lib.hid hbal
      have Hr : Hid (TreeP w pl l) := hl
      have Hrest := Lib.hid hrest
      have hlq0 : lrest.length ≤ 999999 := by omega
      have hrz : l.size ≤ 1000000 := by omega
      have hIz := Lib.hid hsz
      have hZ := Lib.hid hz
      clear hsz hz
      clear hfin ihr hl hr hlist hrec hbal hlr hrest hnn
      unfold CutLOut at Hrec
      go_enter Try.func121, Try.ntmps121
      go_wp2_with (go_at_call 121; refine (Hrec.out _ (HB.out)).mono ?_; rintro e w1 ⟨q, Tq, rfl, hb1, htq, hTq⟩; obtain ⟨d0, d1, d2, d3, d4, d5, -⟩ := Hnode.out _ hb1; obtain ⟨q0, q1, q2, q3, f0, f1, f2, f3, hres1⟩ := Hafter.out _ hb1; have hs1 : w.heap.size + 1 ≤ w1.heap.size := (by have h9 := hb1.size; rwa [World.size_alloc] at h9); have hbl1 : b < w1.heap.size := (by omega); have hw1 : w.heap.size < w1.heap.size := (by omega))
      have hbw1 := HB.out.trans (hb1.mono HB.out.size)
      have HTq := Lib.hid hTq
      have hlq : Tq.size ≤ 1000000 := by rw [BT.size_eq, hTq]; omega
      clear hTq
      obtain ⟨Wb, hWb⟩ : ∃ Wb, Wb = w1.alloc (.cells #[.int .i64 f.k.k, .string f.k.t, .int .i64 f.k.n, .int .i64 f.v] 100) := ⟨_, rfl⟩
      have hB1 : Below w1.heap.size w1 Wb := by rw [hWb]; go_grown
      have hbx := cells_of (W := Wb) (b := w1.heap.size) (c := #[.int .i64 f.k.k, .string f.k.t, .int .i64 f.k.n, .int .i64 f.v]) (t := 100) (f := (0, 0)) (by rw [hWb]; exact new_at rfl)
      have hWbz : Wb.heap.size = w1.heap.size + 1 := by rw [hWb]; simp
      have KEEP : ∀ w', Wb.grownBy w' (some w.heap.size) → (w'.cell? ⟨w1.heap.size, 0, none⟩ = some (.int .i64 f.k.k) ∧ w'.cell? ⟨w1.heap.size, 1, none⟩ = some (.string f.k.t) ∧ w'.cell? ⟨w1.heap.size, 2, none⟩ = some (.int .i64 f.k.n) ∧ w'.cell? ⟨w1.heap.size, 3, none⟩ = some (.int .i64 f.v) ∧
          w'.cell? ⟨b, 0, none⟩ = some (.pointer pl) ∧ w'.cell? ⟨b, 2, none⟩ = some (.int .i64 v.k.k) ∧ w'.cell? ⟨b, 3, none⟩ = some (.string v.k.t) ∧ w'.cell? ⟨b, 4, none⟩ = some (.int .i64 v.k.n) ∧ w'.cell? ⟨b, 5, none⟩ = some (.int .i64 v.v)) := by
        intro w' h
        have hx : ∀ i, w'.cell? ⟨w1.heap.size, i, none⟩ = Wb.cell? ⟨w1.heap.size, i, none⟩ := fun i => World.cell?_of_block (w := Wb) (a := ⟨w1.heap.size, i, none⟩) (h.block w1.heap.size (by omega) (by simp; omega))
        have hy : ∀ i, w'.cell? ⟨b, i, none⟩ = w1.cell? ⟨b, i, none⟩ := fun i => (World.cell?_of_block (w := Wb) (a := ⟨b, i, none⟩) (h.block b (by omega) (by simp; omega))).trans (hB1.cell (p := ⟨b, i, none⟩) hbl1)
        exact ⟨by rw [hx, hbx]; rfl, by rw [hx, hbx]; rfl, by rw [hx, hbx]; rfl, by rw [hx, hbx]; rfl, (hy 0).trans d0, (hy 2).trans d2, (hy 3).trans d3, (hy 4).trans d4, (hy 5).trans d5⟩
      have hK := Lib.hid KEEP
      rw [← hWb]
      have hup : ∀ w', Below Wb.heap.size Wb w' → Below w1.heap.size w1 w' := fun w' h => hB1.trans (h.mono hB1.size)
      clear hWb hbx KEEP d0 d1 d2 d3 d4 d5 q0 q1 q2 q3 f0 f1 f2 f3 hres1
      have hWz := Lib.hid hWbz
      clear hWbz
      have grd : Wb.grownBy Wb.drew (some w.heap.size) := gbelow (Below.refl _ _).drew
      have Hgrd := Lib.hid grd
      clear grd
      go_region_held3 (fun w' => Wb.grownBy w' (some w.heap.size) ∧ w'.cell? ⟨w1.heap.size, 0, none⟩ = some (.int .i64 f.k.k) ∧ w'.cell? ⟨w1.heap.size, 1, none⟩ = some (.string f.k.t) ∧ w'.cell? ⟨w1.heap.size, 2, none⟩ = some (.int .i64 f.k.n) ∧ w'.cell? ⟨w1.heap.size, 3, none⟩ = some (.int .i64 f.v) ∧
          w'.cell? ⟨b, 0, none⟩ = some (.pointer pl) ∧ w'.cell? ⟨b, 2, none⟩ = some (.int .i64 v.k.k) ∧ w'.cell? ⟨b, 3, none⟩ = some (.string v.k.t) ∧ w'.cell? ⟨b, 4, none⟩ = some (.int .i64 v.k.n) ∧ w'.cell? ⟨b, 5, none⟩ = some (.int .i64 v.v))
        (first | exact ⟨Hgrd.out, hK.out _ Hgrd.out⟩ | exact ⟨hG3.out, hK.out _ hG3.out⟩ | exact ⟨hG4.out, hK.out _ hG4.out⟩ | go_keep)
        (first | (go_at_call 105; refine (Hbal.out w1 _ pl q l Tq (Hr.out.mono hbw1) htq (hup _ (Below.refl _ _).drew) (by omega) (by omega)).mono ?_; rintro e w3 ⟨q3, T3, rfl, hb3, h6, h7⟩; have hb3' := hup _ ((Below.refl Wb.heap.size Wb).drew.trans hb3); obtain ⟨z0, z1, z2, z3, g0, g1, g2, g3, hres3⟩ := Hafter.out _ (hb1.trans (hb3'.mono hb1.size)); have hG3 : Hid (Wb.grownBy w3 (some w.heap.size)) := gbelow ((Below.refl Wb.heap.size Wb).drew.trans hb3); have hG4 : Hid (Wb.grownBy ((((w3.setCell ⟨w.heap.size, 0, none⟩ (.int .i64 f.k.k)).setCell ⟨w.heap.size, 1, none⟩ (.string f.k.t)).setCell ⟨w.heap.size, 2, none⟩ (.int .i64 f.k.n)).setCell ⟨w.heap.size, 3, none⟩ (.int .i64 f.v)) (some w.heap.size)) := gtrans hG3.out (gtrans (gtrans (gtrans (gset w3 w.heap.size 0 (.int .i64 f.k.k)) (gset _ w.heap.size 1 (.string f.k.t))) (gset _ w.heap.size 2 (.int .i64 f.k.n))) (gset _ w.heap.size 3 (.int .i64 f.v)))))
      go_wp2_with fail
      obtain ⟨s0, s1, s2, s3⟩ := setcellsP f hres3.out
      refine bodyPost_ret (by simp [results, Try.results121, go_sem, s0, s1, s2, s3]; rfl) rfl ?_
      have hbw3 := hbw1.trans (hb3'.mono hbw1.size)
      refine Hfin.out _ _ q3 T3 rfl (by go_grown) ?_ (by rw [h7, HTq.out, Hrest.out])
      exact h6.but (gtrans (gtrans (gtrans (gset w3 w.heap.size 0 (.int .i64 f.k.k)) (gset _ w.heap.size 1 (.string f.k.t))) (gset _ w.heap.size 2 (.int .i64 f.k.n))) (gset _ w.heap.size 3 (.int .i64 f.v))) hres3.out (by decide)
end Go.Proofs.Ythgidldcblchmaa
