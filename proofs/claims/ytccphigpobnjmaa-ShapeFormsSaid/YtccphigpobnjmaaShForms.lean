/-
  ShapeForms, walked whatever production came in. No condition.
-/
import Derived.Test.YtccphigpobnjmaaShRShape
import Derived.Test.YtccphigpobnjmaaShWakes
namespace Go.Proofs.Ytccphigpobnjmaa
set_option linter.unusedVariables false
open Go.RowKit
set_option maxRecDepth 100000 in
set_option maxHeartbeats 4000000 in
theorem forms_walk (w : World) (p : Pr) (hp : PrIn w p) : Calls Try.prog 3 #[.agg #[.string p.name, .slice p.ca p.conds.length p.cc, .slice p.aa p.acts.length p.ac]] w fun e w' => e = .returned (.bool true) ∧ Below w.heap.size w w' := by
  obtain ⟨W2, hW2⟩ : ∃ W2, W2 = w.alloc (.cells #[.string p.name, .slice p.ca p.conds.length p.cc, .slice p.aa p.acts.length p.ac] 25) := ⟨_, rfl⟩
  have hB : Below w.heap.size w W2 := by rw [hW2]; go_grown
  have hgp : W2.heap[w.heap.size]? = some (.cells #[.string p.name, .slice p.ca p.conds.length p.cc, .slice p.aa p.acts.length p.ac] 25 (0, 0)) := by rw [hW2]; exact new_at rfl
  have hlater : ∀ w', Below W2.heap.size W2 w' → ∀ (j : Nat) (v : Value), [.string p.name, .slice p.ca p.conds.length p.cc, .slice p.aa p.acts.length p.ac][j]? = some v → w'.cell? ((⟨w.heap.size, 0, none⟩ : Addr).add j) = some v := fun w' h j v hv => by
    rw [Addr.add_lit, Nat.zero_add, cells_of ((h.block _ (heap_lt hgp)).trans hgp)]; simpa using hv
  have HL := Lib.hid hlater
  have hi25 : (Try.prog.info? 25).map (·.size) = some 3 := by kernel_rfl
  have H25 := Lib.hid hi25
  have HBW := Lib.hid hB
  have HB := Lib.hid (Below.refl W2.heap.size W2)
  have HH := Lib.hid (fun w' (hb : Below W2.heap.size W2 w') => heavy_any p w' ((hp.mono hB).mono hb))
  have HP := Lib.hid (fun w' (hb : Below W2.heap.size W2 w') (hn : heavyP p = false) => ((hp.mono hB).mono hb).light hn)
  have HWK := Lib.hid (fun w' => wakes_any w')
  clear hlater hi25 hB hgp hp
  cases q : heavyP p with
  | true =>
    clear HP
    subst hW2
    go_enter Try.func3, Try.ntmps3
    go_wp2_with (first | (refine wpList_load rfl (.tmp 1) 25 rfl (A := ⟨w.heap.size, 0, none⟩) rfl Try.underlying25 rfl (cs := [.string p.name, .slice p.ca p.conds.length p.cc, .slice p.aa p.acts.length p.ac]) H25.out (HL.out _ HB.out) ?_) | (go_at_call 11; refine (HH.out _ HB.out).mono ?_; rintro e w1 ⟨rfl, hh⟩; replace HB := Lib.hid (HB.out.trans (hh.mono HB.out.size)); clear hh; rw [q]) | (go_at_call 12; refine (HWK.out _).mono ?_; rintro e w4 ⟨rfl, hh⟩; replace HB := Lib.hid (HB.out.trans (hh.mono HB.out.size)); clear hh))
    go_ret
    exact ⟨rfl, HBW.out.trans (HB.out.mono HBW.out.size)⟩
  | false =>
    have hno := heavyP_no q
    have HSH := Lib.hid (fun w' (hb : Below W2.heap.size W2 w') => shape_any p w' (by have := hno.1; omega) (HP.out w' hb q))
    have HRS := Lib.hid (fun w' (hb : Below W2.heap.size W2 w') => rshape_any p w' (by have := hno.1; omega) (by have := hno.2.1; omega) (HP.out w' hb q))
    clear HP hno
    generalize shapeE p = r at HSH HRS
    subst hW2
    go_enter Try.func3, Try.ntmps3
    go_wp2_with (first | (refine wpList_load rfl (.tmp 1) 25 rfl (A := ⟨w.heap.size, 0, none⟩) rfl Try.underlying25 rfl (cs := [.string p.name, .slice p.ca p.conds.length p.cc, .slice p.aa p.acts.length p.ac]) H25.out (HL.out _ HB.out) ?_) | (go_at_call 11; refine (HH.out _ HB.out).mono ?_; rintro e w1 ⟨rfl, hh⟩; replace HB := Lib.hid (HB.out.trans (hh.mono HB.out.size)); clear hh; rw [q]) | (go_at_call 13; refine (HSH.out _ HB.out).mono ?_; rintro e w2 ⟨rfl, hh⟩; replace HB := Lib.hid (HB.out.trans (hh.mono HB.out.size)); clear hh) | (go_at_call 14; refine (HRS.out _ HB.out).mono ?_; rintro e w3 ⟨rfl, hh⟩; replace HB := Lib.hid (HB.out.trans (hh.mono HB.out.size)); clear hh) | (go_at_call 12; refine (HWK.out _).mono ?_; rintro e w4 ⟨rfl, hh⟩; replace HB := Lib.hid (HB.out.trans (hh.mono HB.out.size)); clear hh))
    go_ret
    exact ⟨rfl, HBW.out.trans (HB.out.mono HBW.out.size)⟩
end Go.Proofs.Ytccphigpobnjmaa
