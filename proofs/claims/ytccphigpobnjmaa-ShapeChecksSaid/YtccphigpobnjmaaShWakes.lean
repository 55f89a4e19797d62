/-
  The law's own example on the document's production. No condition.
-/
import Derived.Test.YtccphigpobnjmaaShCheck
namespace Go.Proofs.Ytccphigpobnjmaa
set_option linter.unusedVariables false
open Go.RowKit
theorem Check_any (p : Pr) (w : World) (hz : sizeL p.conds ≤ 300000) (hwt : wtL p.conds ≤ 600000) (hp : PrAt w p) : Calls Try.prog 16 #[.agg #[.string p.name, .slice p.ca p.conds.length p.cc, .slice p.aa p.acts.length p.ac]] w fun e w' => e = .returned (.tuple #[.int .i64 (checkE p).2.1, .int .i64 (checkE p).2.2]) ∧ Below w.heap.size w w' := by
  have hB : Below w.heap.size w (w.alloc (.cells #[.string p.name, .slice p.ca p.conds.length p.cc, .slice p.aa p.acts.length p.ac] 25)) := by go_grown
  have HCK := Lib.hid (check_any p (w.alloc (.cells #[.string p.name, .slice p.ca p.conds.length p.cc, .slice p.aa p.acts.length p.ac] 25)) hz hwt (hp.mono hB))
  have HB := Lib.hid hB
  clear hp hB
  go_enter Try.func16, Try.ntmps16
  go_wp2_with (go_at_call 48; refine HCK.out.mono ?_; rintro e w1 ⟨v, rfl, -, h1⟩)
  go_ret2
  exact ⟨rfl, HB.out.trans (h1.mono HB.out.size)⟩
theorem W_any (t : ByteArray) (w : World) : Calls Try.prog 35 #[.string t] w fun e w' => e = .returned (.agg #[.int .i64 3, .string t, .int .i64 0]) ∧ Below w.heap.size w w' := by
  go_enter Try.func35, Try.ntmps35
  go_wp2_with fail
  refine bodyPost_ret (results_cell_row rfl _ _ w.heap.size 47 #[.int .i64 3, .string t, .int .i64 0] (0, 0) _ rfl (new_at rfl) Try.underlying47 rfl (by kernel_rfl)) rfl ?_
  exact ⟨rfl, by go_grown⟩
theorem N_any (n : Int) (w : World) : Calls Try.prog 34 #[.int .i64 n] w fun e w' => e = .returned (.agg #[.int .i64 2, .string ⟨#[]⟩, .int .i64 n]) ∧ Below w.heap.size w w' := by
  go_enter Try.func34, Try.ntmps34
  go_wp2_with fail
  refine bodyPost_ret (results_cell_row rfl _ _ w.heap.size 47 #[.int .i64 2, .string ⟨#[]⟩, .int .i64 n] (0, 0) _ rfl (new_at rfl) Try.underlying47 rfl (by kernel_rfl)) rfl ?_
  exact ⟨rfl, by go_grown⟩
def tW (s : ByteArray) : Ts := ⟨1, ⟨#[]⟩, ⟨3, s, 0⟩, [], none, 0⟩
def tN (n : Int) : Ts := ⟨1, ⟨#[]⟩, ⟨2, ⟨#[]⟩, n⟩, [], none, 0⟩
def chOne (g : Bool) (b1 b2 : Nat) : Ch := ⟨1, g, ⟨#[115]⟩, [tW ⟨#[120]⟩], some ⟨b1, 0, none⟩, 1, [tN 1], some ⟨b2, 0, none⟩, 1, false, none, 0⟩
def acOne : Ac := ⟨⟨#[115]⟩, ⟨⟨#[]⟩, ⟨3, ⟨#[121]⟩, 0⟩⟩, ⟨0, ⟨⟨#[]⟩, ⟨2, ⟨#[]⟩, 2⟩⟩, ⟨⟨#[]⟩, ⟨0, ⟨#[]⟩, 0⟩⟩⟩, 1, ⟨⟨#[]⟩, ⟨0, ⟨#[]⟩, 0⟩⟩⟩
def prOne (g : Bool) (b1 b2 bc ba : Nat) : Pr := ⟨⟨#[97]⟩, [.mk (chOne g b1 b2) []], some ⟨bc, 0, none⟩, 1, [acOne], some ⟨ba, 0, none⟩, 1⟩
/-- Where the example lies. -/
structure OneAt (w : World) (g : Bool) (b1 b2 bc ba : Nat) : Prop where
  h1 : w.heap[b1]? = some (.cells (encT (tW ⟨#[120]⟩)).toArray 67 (0, 0))
  h2 : w.heap[b2]? = some (.cells (encT (tN 1)).toArray 67 (0, 0))
  hc : w.heap[bc]? = some (.cells (encH (chOne g b1 b2) 0).toArray 64 (0, 0))
  ha : w.heap[ba]? = some (.cells (encA acOne).toArray 59 (0, 0))
theorem OneAt.mono {w w' : World} {g : Bool} {b1 b2 bc ba : Nat} (h : OneAt w g b1 b2 bc ba) (hb : Below w.heap.size w w') : OneAt w' g b1 b2 bc ba :=
  ⟨(hb.block _ (heap_lt h.h1)).trans h.h1, (hb.block _ (heap_lt h.h2)).trans h.h2, (hb.block _ (heap_lt h.hc)).trans h.hc, (hb.block _ (heap_lt h.ha)).trans h.ha⟩
/-- A list that lies alone in a block of its own. -/
theorem elts_one {α : Type} {E : α → List Value} {K : Nat} {w : World} {b : Nat} {t : TypeId} {x : α} (h : w.heap[b]? = some (.cells (E x).toArray t (0, 0))) : EltsK E K w (some ⟨b, 0, none⟩) [x] := by
  intro k hk
  obtain rfl : k = 0 := by simpa using hk
  refine ⟨b, 0, rfl, heap_lt h, fun j c hc => ?_⟩
  simp only [Nat.zero_mul, Nat.zero_add, Nat.add_zero]
  rw [cells_of h]
  simpa using hc
theorem elts_nil {α : Type} {E : α → List Value} {K : Nat} {w : World} {a : Option Addr} : EltsK E K w a [] := fun k hk => by simp at hk
theorem tests_one {w : World} {b : Nat} {x : Ts} (h : w.heap[b]? = some (.cells (encT x).toArray 67 (0, 0))) (hl : x.list = []) : TestsAt w (some ⟨b, 0, none⟩) [x] :=
  ⟨elts_one h, fun y hy => by
    obtain rfl : y = x := by simpa using hy
    rw [hl]; exact ⟨elts_nil, by simp⟩⟩
theorem conds_nil {w : World} {a : Option Addr} : CondsAt w a [] := .mk a [] elts_nil (by simp) (by simp) (by simp)
theorem OneAt.pr {w : World} {g : Bool} {b1 b2 bc ba : Nat} (h : OneAt w g b1 b2 bc ba) : PrAt w (prOne g b1 b2 bc ba) := by
  refine ⟨.mk _ _ (elts_one (E := encC) (x := Co.mk (chOne g b1 b2) []) h.hc) ?_ ?_ ?_, elts_one h.ha⟩
  · intro c hc
    obtain rfl : c = Co.mk (chOne g b1 b2) [] := by simpa [prOne] using hc
    exact tests_one h.h1 rfl
  · intro c hc
    obtain rfl : c = Co.mk (chOne g b1 b2) [] := by simpa [prOne] using hc
    exact tests_one h.h2 rfl
  · intro c hc
    obtain rfl : c = Co.mk (chOne g b1 b2) [] := by simpa [prOne] using hc
    exact conds_nil
theorem size_one (g : Bool) (b1 b2 bc ba : Nat) : sizeL (prOne g b1 b2 bc ba).conds = 1 := by simp [prOne, sizeL]
theorem wt_one (g : Bool) (b1 b2 bc ba : Nat) : wtL (prOne g b1 b2 bc ba).conds = 3 := by simp [prOne, wtL, chOne]
theorem firstE_one (g : Bool) (b1 b2 bc ba : Nat) : firstE (prOne g b1 b2 bc ba).conds 0 0 = (-1, 0) := by
  simp only [prOne, firstE, sizeL]
  cases g <;> rfl
theorem shape_one (g : Bool) (b1 b2 bc ba : Nat) : shapeE (prOne g b1 b2 bc ba) = (-1, 0) := by
  have hw : wholeE (prOne g b1 b2 bc ba) = 0 := by unfold wholeE; rw [size_one]; rfl
  unfold shapeE
  rw [hw, firstE_one]; rfl
theorem cmp_ss : cmpS ⟨#[115]⟩ ⟨#[115]⟩ = 0 := by simp [cmpS, Op.bytesLess]
theorem check_one_true (b1 b2 bc ba : Nat) : (checkE (prOne true b1 b2 bc ba)).2 = (-1, 0) := by
  have h : stP (prOne true b1 b2 bc ba) = (-1, ([⟨#[115]⟩], [⟨#[115]⟩])) := by
    simp only [stP, prOne, badS, sizeL]
    simp [chOne, condS, idS, learnS, ins, has, knowsB, testsS, oneS, tW, tN, cmp_ss, ByteArray.size]
  unfold checkE
  rw [shape_one, h]; rfl
theorem check_one_false (b1 b2 bc ba : Nat) : (checkE (prOne false b1 b2 bc ba)).2 = (0, 6) := by
  have h : stP (prOne false b1 b2 bc ba) = (0, ([], [])) := by
    simp only [stP, prOne, badS, sizeL]; rfl
  unfold checkE
  rw [shape_one, h]; rfl
theorem one_facts {w w1 w2 w3 w4 : World} {c0 c1 c2 cc ca : Array Value} {tp t1 t2 tc ta : Nat} (h1 : Below (w.alloc (.cells c0 tp)).heap.size (w.alloc (.cells c0 tp)) w1) (h2 : Below (w1.alloc (.cells c1 t1)).heap.size (w1.alloc (.cells c1 t1)) w2)
    (h3 : Below ((w2.alloc (.cells c2 t2)).alloc (.cells cc tc)).heap.size ((w2.alloc (.cells c2 t2)).alloc (.cells cc tc)) w3) (h4 : Below w3.heap.size w3 w4) :
    (w4.alloc (.cells ca ta)).heap[w.heap.size]? = some (.cells c0 tp (0, 0)) ∧ (w4.alloc (.cells ca ta)).heap[w1.heap.size]? = some (.cells c1 t1 (0, 0)) ∧ (w4.alloc (.cells ca ta)).heap[w2.heap.size]? = some (.cells c2 t2 (0, 0)) ∧ (w4.alloc (.cells ca ta)).heap[w2.heap.size + 1]? = some (.cells cc tc (0, 0)) ∧ (w4.alloc (.cells ca ta)).heap[w4.heap.size]? = some (.cells ca ta (0, 0)) ∧
      Below w.heap.size w (w4.alloc (.cells ca ta)) ∧ w.heap.size < w1.heap.size ∧ w1.heap.size < w2.heap.size ∧ w2.heap.size + 1 < w4.heap.size := by
  have f4 : Below w4.heap.size w4 (w4.alloc (.cells ca ta)) := (Below.refl _ _).alloc (Nat.le_refl _) _
  have f3 := h4.trans (f4.mono h4.size)
  have fA2 := h3.trans (f3.mono h3.size)
  have fT2 : Below (w2.alloc (.cells c2 t2)).heap.size (w2.alloc (.cells c2 t2)) (w4.alloc (.cells ca ta)) := ((Below.refl _ (w2.alloc (.cells c2 t2))).alloc (Nat.le_refl _) (.cells cc tc)).trans (fA2.mono (by simp))
  have f2 : Below w2.heap.size w2 (w4.alloc (.cells ca ta)) := ((Below.refl _ w2).alloc (Nat.le_refl _) (.cells c2 t2)).trans (fT2.mono (by simp))
  have fA1 := h2.trans (f2.mono h2.size)
  have f1 : Below w1.heap.size w1 (w4.alloc (.cells ca ta)) := ((Below.refl _ w1).alloc (Nat.le_refl _) (.cells c1 t1)).trans (fA1.mono (by simp))
  have fW0 := h1.trans (f1.mono h1.size)
  have fw : Below w.heap.size w (w4.alloc (.cells ca ta)) := ((Below.refl _ w).alloc (Nat.le_refl _) (.cells c0 tp)).trans (fW0.mono (by simp))
  have n0 : (w.alloc (.cells c0 tp)).heap[w.heap.size]? = some (.cells c0 tp (0, 0)) := new_at rfl
  have n1 : (w1.alloc (.cells c1 t1)).heap[w1.heap.size]? = some (.cells c1 t1 (0, 0)) := new_at rfl
  have n2 : (w2.alloc (.cells c2 t2)).heap[w2.heap.size]? = some (.cells c2 t2 (0, 0)) := new_at rfl
  have n3 : ((w2.alloc (.cells c2 t2)).alloc (.cells cc tc)).heap[w2.heap.size + 1]? = some (.cells cc tc (0, 0)) := new_at (by simp)
  have s1 := h1.size; have s2 := h2.size; have s3 := h3.size; have s4 := h4.size
  simp only [World.size_alloc] at s1 s2 s3
  exact ⟨(fW0.block _ (heap_lt n0)).trans n0, (fA1.block _ (heap_lt n1)).trans n1, (fT2.block _ (heap_lt n2)).trans n2, (fA2.block _ (heap_lt n3)).trans n3, new_at rfl, fw, by omega, by omega, by omega⟩
set_option maxRecDepth 100000 in
set_option maxHeartbeats 8000000 in
theorem One_any (w : World) : Calls Try.prog 33 #[] w fun e w' => ∃ b1 b2 bc ba, e = .returned (.agg #[.string ⟨#[97]⟩, .slice (some ⟨bc, 0, none⟩) 1 1, .slice (some ⟨ba, 0, none⟩) 1 1]) ∧ Below w.heap.size w w' ∧ OneAt w' true b1 b2 bc ba ∧ w.heap.size ≤ b1 ∧ b1 < b2 ∧ b2 < bc ∧ bc < ba := by
  have t1 : Hid (0 = 0) := rfl
  have t2 : Hid (0 = 0) := rfl
  have hi : (Try.prog.info? 25).map (·.size) = some 3 := by kernel_rfl
  go_enter Try.func33, Try.ntmps33
  go_wp2_with (first
    | (have _t := t1; go_at_call 35; refine (W_any _ _).mono ?_; rintro e w1 ⟨rfl, h1⟩; clear _t t1; have tn1 : Hid (0 = 0) := rfl)
    | (have _t := tn1; go_at_call 34; refine (N_any _ _).mono ?_; rintro e w2 ⟨rfl, h2⟩; clear _t tn1)
    | (have _t := t2; go_at_call 35; refine (W_any _ _).mono ?_; rintro e w3 ⟨rfl, h3⟩; clear _t t2)
    | (go_at_call 34; refine (N_any _ _).mono ?_; rintro e w4 ⟨rfl, h4⟩)
    | (refine wpList_store_row rfl (.tmp 0) (.tmp 16) 25 rfl (g := w.heap.size) rfl (one_facts h1 h2 h3 h4).1 rfl hi rfl (by simp [Value.oneCell']) ?_))
  obtain ⟨f0, f1, f2, f3, f4, f5, f6⟩ := one_facts h1 h2 h3 h4
  refine bodyPost_ret (results_cell_row rfl _ _ w.heap.size 25 _ (0, 0) _ rfl (setRow_same f0) Try.underlying25 rfl (by kernel_rfl)) rfl ?_
  have hne : ∀ k, w.heap.size < k → k ≠ w.heap.size := by omega
  have e1 := f6.1; have e2 := f6.2.1; have e3 := f6.2.2
  exact ⟨w1.heap.size, w2.heap.size, w2.heap.size + 1, w4.heap.size, rfl, setRow_below f5 (Nat.le_refl _), ⟨(setRow_other (by omega)).trans f1, (setRow_other (by omega)).trans f2, (setRow_other (by omega)).trans f3, (setRow_other (by omega)).trans f4⟩, by omega, by omega, by omega, by omega⟩
open Go.RowKit
/-- Behind the store of another goal mark. -/
theorem OneAt.turn {w : World} {b1 b2 bc ba : Nat} (h : OneAt w true b1 b2 bc ba) : OneAt (w.setCell ⟨bc, 1, none⟩ (.bool false)) false b1 b2 bc ba := by
  have n1 : b1 ≠ bc := fun e => by
    have h1 := h.h1
    rw [e, h.hc] at h1; simp at h1
  have n2 : b2 ≠ bc := fun e => by
    have h1 := h.h2
    rw [e, h.hc] at h1; simp at h1
  have n3 : ba ≠ bc := fun e => by
    have h1 := h.ha
    rw [e, h.hc] at h1; simp at h1
  refine ⟨(Below.heap_setCell _ _ _ _ n1).trans h.h1, (Below.heap_setCell _ _ _ _ n2).trans h.h2, ?_, (Below.heap_setCell _ _ _ _ n3).trans h.ha⟩
  have hc := h.hc
  simp [World.setCell, Array.getElem?_modify, hc, encH, chOne]
set_option maxRecDepth 100000 in
set_option maxHeartbeats 8000000 in
theorem wakes_any (w : World) : Calls Try.prog 12 #[] w fun e w' => e = .returned (.bool true) ∧ Below w.heap.size w w' := by
  have tok : Hid (0 = 0) := rfl
  go_enter Try.func12, Try.ntmps12
  go_wp2_with (first
    | (go_at_call 33; refine (One_any _).mono ?_; rintro e w1 ⟨b1, b2, bc, ba, rfl, h1, ho, l1, l2, l3, l4⟩; have HO := Lib.hid (ho.mono (w' := w1.alloc (.cells #[.string ⟨#[97]⟩, .slice (some ⟨bc, 0, none⟩) 1 1, .slice (some ⟨ba, 0, none⟩) 1 1] 25)) (by go_grown)); have H1 := Lib.hid h1; have HL := Lib.hid (show w.heap.size ≤ bc by omega); have HP := Lib.hid (new_at rfl : (w1.alloc (.cells #[.string ⟨#[97]⟩, .slice (some ⟨bc, 0, none⟩) 1 1, .slice (some ⟨ba, 0, none⟩) 1 1] 25)).heap[w1.heap.size]? = _); have hlt := heap_lt ho.hc; clear h1 ho l1 l2 l3 l4)
    | (have _t := tok; go_at_call 16; refine (Check_any (prOne true b1 b2 bc ba) _ (by rw [size_one]; omega) (by rw [wt_one]; omega) HO.out.pr).mono ?_; rintro e w2 ⟨rfl, h2⟩; rw [check_one_true]; clear tok _t; have HO2 := Lib.hid (HO.out.mono h2); have HP2 := Lib.hid ((h2.block _ (heap_lt HP.out)).trans HP.out); have H2 := Lib.hid h2; clear h2; have p1 : w2.cell? ⟨w1.heap.size, 1, none⟩ = some (.slice (some ⟨bc, 0, none⟩) 1 1) := (by rw [cells_of HP2.out]; rfl); have cg : w2.cell? ⟨bc, 1, none⟩ = some (.bool true) := (by rw [cells_of HO2.out.hc]; rfl); have fg : w2.frozen? ⟨bc, 1, none⟩ = false := frozen_of HO2.out.hc; have HP3 := Lib.hid ((Below.heap_setCell w2 ⟨bc, 1, none⟩ (.bool false) w1.heap.size (by show w1.heap.size ≠ bc; omega)).trans HP2.out); have r0 : (w2.setCell ⟨bc, 1, none⟩ (.bool false)).cell? ⟨w1.heap.size, 0, none⟩ = some (.string ⟨#[97]⟩) := (by rw [cells_of HP3.out]; rfl); have r1 : (w2.setCell ⟨bc, 1, none⟩ (.bool false)).cell? ⟨w1.heap.size, 1, none⟩ = some (.slice (some ⟨bc, 0, none⟩) 1 1) := (by rw [cells_of HP3.out]; rfl); have r2 : (w2.setCell ⟨bc, 1, none⟩ (.bool false)).cell? ⟨w1.heap.size, 2, none⟩ = some (.slice (some ⟨ba, 0, none⟩) 1 1) := (by rw [cells_of HP3.out]; rfl))
    | (go_at_call 16; refine (Check_any (prOne false b1 b2 bc ba) _ (by rw [size_one]; omega) (by rw [wt_one]; omega) HO2.out.turn.pr).mono ?_; rintro e w3 ⟨rfl, h3⟩; rw [check_one_false]))
  go_ret
  have b1' : Below w.heap.size w (w1.alloc (.cells #[.string ⟨#[97]⟩, .slice (some ⟨bc, 0, none⟩) 1 1, .slice (some ⟨ba, 0, none⟩) 1 1] 25)) := H1.out.alloc H1.out.size _
  have b2' := b1'.trans (H2.out.mono b1'.size)
  have b3' : Below w.heap.size w (w2.setCell ⟨bc, 1, none⟩ (.bool false)) := b2'.setCell (by show w.heap.size ≤ bc; exact HL.out) _
  exact ⟨rfl, b3'.trans (h3.mono b3'.size)⟩
end Go.Proofs.Ytccphigpobnjmaa
