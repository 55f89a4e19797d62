/-
  Walks over package order at ponder/api.Sym: glued. No condition but bounds on sizes.
-/
import Derived.Test.YthgidldcblchmaaCutP
namespace Go.Proofs.Ythgidldcblchmaa
set_option linter.unusedVariables false
open Go.RowKit
set_option maxRecDepth 100000 in
set_option maxHeartbeats 2000000 in
theorem glued_any (W0 w : World) (pl pr : Option Addr) (l r : BT Pr) (hl : TreeP W0 pl l) (hr : TreeP W0 pr r) (hb : Below W0.heap.size W0 w) (hls : l.size ≤ 1000000) (hrs : r.size ≤ 1000000) :
    Calls Try.prog 106 #[.pointer pl, .pointer pr] w (TreeOut encP 162 w (l.toList ++ r.toList)) := by
  replace hl := hl.mono hb
  replace hr := hr.mono hb
  clear hb W0
  cases l with
  | leaf =>
    obtain rfl : pl = none := hl
    have hfin : TreeOut encP 162 w ((BT.leaf : BT Pr).toList ++ r.toList) (.returned (.pointer pr)) w := ⟨pr, r, rfl, Below.refl _ _, hr, rfl⟩
    have Hfin := Lib.hid hfin
    clear hfin hr
    go_enter Try.func106, Try.ntmps106
    go_wp2_with fail
    go_ret
    exact Hfin.out
  | node ll lv lr =>
    obtain ⟨bl, p0, p1, rfl, hcl, hll, hlr⟩ := hl
    have hl : TreeP w (some ⟨bl, 0, none⟩) (.node ll lv lr) := ⟨bl, p0, p1, rfl, hcl, hll, hlr⟩
    cases r with
    | leaf =>
      obtain rfl : pr = none := hr
      have hfin : TreeOut encP 162 w ((BT.node ll lv lr).toList ++ (BT.leaf : BT Pr).toList) (.returned (.pointer (some ⟨bl, 0, none⟩))) w := ⟨_, _, rfl, Below.refl _ _, hl, by simp [BT.toList]⟩
      have Hfin := Lib.hid hfin
      clear hfin hl hcl hll hlr
      go_enter Try.func106, Try.ntmps106
      go_wp2_with fail
      go_ret
      exact Hfin.out
    | node rl rv rr =>
      obtain ⟨br, p2, p3, rfl, hcr, hrl, hrr⟩ := hr
      have hr : TreeP w (some ⟨br, 0, none⟩) (.node rl rv rr) := ⟨br, p2, p3, rfl, hcr, hrl, hrr⟩
      obtain ⟨-, -, -, -, -, -, cl⟩ := node_cellsP (w := w) hcl (Below.refl _ _)
      obtain ⟨-, -, -, -, -, -, cr⟩ := node_cellsP (w := w) hcr (Below.refl _ _)
      have hbal := fun (W0 w' : World) (q q' : Option Addr) (v : Pr) (l' r' : BT Pr) h1 h2 h3 h4 h5 => balanced_anyP W0 w' q q' v l' r' h1 h2 h3 h4 h5
      have Hbal := Lib.hid hbal
      by_cases hgt : (BT.node rl rv rr).size < (BT.node ll lv lr).size
      · have hnn : (BT.node ll lv lr).toList ≠ [] := by simp [BT.toList]
        obtain ⟨rest, f, hlist⟩ : ∃ rest f, (BT.node ll lv lr).toList = rest ++ [f] := ⟨_, _, (List.dropLast_concat_getLast hnn).symm⟩
        have hcut := fun w' (h : Below w.heap.size w w') => cutLast_any _ w w' _ f rest hl h (by omega) hlist
        have hfin : ∀ e w' p' T', e = .returned (.pointer p') → Below w.heap.size w w' → TreeP w' p' T' → T'.toList = rest ++ f :: (BT.node rl rv rr).toList → TreeOut encP 162 w ((BT.node ll lv lr).toList ++ (BT.node rl rv rr).toList) e w' := fun e w' p' T' h1 h2 h3 h4 => ⟨p', T', h1, h2, h3, by rw [h4, hlist]; simp⟩
        have hsz : rest.length ≤ 1000000 := by have := BT.size_eq (BT.node ll lv lr); rw [hlist] at this; simp at this; omega
        have hgti : ((BT.node rl rv rr).size : Int) < ((BT.node ll lv lr).size : Int) := by omega
        have Hcut := Lib.hid hcut
        have Hfin := Lib.hid hfin
        have Hr := Lib.hid hr
        clear hcut hfin hbal hl hr hcl hcr hll hlr hrl hrr hlist hnn hgt
        generalize (BT.node ll lv lr).size = sl at *
        generalize (BT.node rl rv rr) = rt at *
        generalize hgs : rt.size = sr at *
        have HGS := Lib.hid hgs
        clear hgs
        unfold CutLOut at Hcut
        go_enter Try.func106, Try.ntmps106
        go_wp2_with fail
        go_quiet (fail)
        go_wp2_with (first | (go_at_call 121; refine (Hcut.out _ (bdN _ (Below.refl _ _))).mono ?_; rintro e w1 ⟨q, Tq, rfl, hb1, htq, hTq⟩; have hb1' := (bdN nq (Below.refl w.heap.size w)).trans hb1; have HTq := Lib.hid hTq; have hqs : Tq.size ≤ 1000000 := (by rw [BT.size_eq, hTq]; exact hsz); clear hTq) | (go_at_call 105; refine (Hbal.out w1 _ q _ f Tq rt htq (Hr.out.mono hb1') (by go_grown) (by omega) (by rw [HGS.out]; omega)).mono ?_; rintro e w2 ⟨q3, T3, rfl, hb2, h6, h7⟩))
        go_ret
        refine Hfin.out _ _ q3 T3 rfl ?_ h6 (by rw [h7, HTq.out])
        have h8 := hb1'.size
        exact (hb1'.alloc h8 _).trans (hb2.mono (by simp; omega))
      · obtain ⟨f, rest, hlist⟩ : ∃ f rest, (BT.node rl rv rr).toList = f :: rest := by
          cases hh : (BT.node rl rv rr).toList with
          | nil => simp [BT.toList] at hh
          | cons a tl => exact ⟨a, tl, rfl⟩
        have hcut := fun w' (h : Below w.heap.size w w') => cutFirst_any _ w w' _ f rest hr h (by omega) hlist
        have hfin : ∀ e w' p' T', e = .returned (.pointer p') → Below w.heap.size w w' → TreeP w' p' T' → T'.toList = (BT.node ll lv lr).toList ++ f :: rest → TreeOut encP 162 w ((BT.node ll lv lr).toList ++ (BT.node rl rv rr).toList) e w' := fun e w' p' T' h1 h2 h3 h4 => ⟨p', T', h1, h2, h3, by rw [h4, hlist]⟩
        have hsz : rest.length ≤ 1000000 := by have := BT.size_eq (BT.node rl rv rr); rw [hlist] at this; simp at this; omega
        have hgti : ((BT.node ll lv lr).size : Int) ≤ ((BT.node rl rv rr).size : Int) := by omega
        have Hcut := Lib.hid hcut
        have Hfin := Lib.hid hfin
        have Hl := Lib.hid hl
        clear hcut hfin hbal hl hr hcl hcr hll hlr hrl hrr hlist hgt
        generalize (BT.node rl rv rr).size = sr at *
        generalize (BT.node ll lv lr) = lt at *
        generalize hgs : lt.size = sl at *
        have HGS := Lib.hid hgs
        clear hgs
        unfold CutFOut at Hcut
        go_enter Try.func106, Try.ntmps106
        go_wp2_with fail
        go_quiet (fail)
        go_wp2_with (first | (go_at_call 122; refine (Hcut.out _ (bdN _ (Below.refl _ _))).mono ?_; rintro e w1 ⟨q, Tq, rfl, hb1, htq, hTq⟩; have hb1' := (bdN nq (Below.refl w.heap.size w)).trans hb1; have HTq := Lib.hid hTq; have hqs : Tq.size ≤ 1000000 := (by rw [BT.size_eq, hTq]; exact hsz); clear hTq) | (go_at_call 105; refine (Hbal.out w1 _ _ q f lt Tq (Hl.out.mono hb1') htq (by go_grown) (by rw [HGS.out]; omega) (by omega)).mono ?_; rintro e w2 ⟨q3, T3, rfl, hb2, h6, h7⟩))
        go_ret
        refine Hfin.out _ _ q3 T3 rfl ?_ h6 (by rw [h7, HTq.out])
        have h8 := hb1'.size
        exact (hb1'.alloc h8 _).trans (hb2.mono (by simp; omega))
end Go.Proofs.Ythgidldcblchmaa
