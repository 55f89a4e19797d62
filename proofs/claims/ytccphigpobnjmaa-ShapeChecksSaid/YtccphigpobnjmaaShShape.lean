/-
  Package shape: Shape, the first place of a production that is not of its form. No condition but bounds on how many conditions there are.
-/
import Derived.Test.YtccphigpobnjmaaShSizeB
import Derived.Test.YtccphigpobnjmaaShAct2
import Derived.Test.YtccphigpobnjmaaKitLoad
namespace Go.Proofs.Ytccphigpobnjmaa
set_option linter.unusedVariables false
open Go.RowKit
/-- A production: ca cc, aa ac tell where its conditions and actions lie. -/
structure Pr where
  name : ByteArray
  conds : List Co
  ca : Option Addr
  cc : Nat
  acts : List Ac
  aa : Option Addr
  ac : Nat
structure PrAt (w : World) (p : Pr) : Prop where
  conds : CondsAt w p.ca p.conds
  acts : EltsK encA 19 w p.aa p.acts
theorem PrAt.mono {w w' : World} {p : Pr} (h : PrAt w p) (hb : Below w.heap.size w w') : PrAt w' p := ⟨h.conds.mono hb, h.acts.mono hb⟩
def wholeE (p : Pr) : Int := if wordB p.name.data.toList = false then 2 else if p.conds.length = 0 then 7 else if 16 < sizeL p.conds then 7 else if p.acts.length = 0 then 7 else if 16 < p.acts.length then 7 else 0
set_option maxHeartbeats 2000000 in
theorem whole_any (p : Pr) (w : World) (hz : sizeL p.conds ≤ 500000) (hp : PrAt w p) : Calls Try.prog 38 #[.agg #[.string p.name, .slice p.ca p.conds.length p.cc, .slice p.aa p.acts.length p.ac]] w fun e w' => e = .returned (.int .i64 (wholeE p)) ∧ Below w.heap.size w w' := by
  obtain ⟨W2, hW2⟩ : ∃ W2, W2 = w.alloc (.cells #[.string p.name, .slice p.ca p.conds.length p.cc, .slice p.aa p.acts.length p.ac] 25) := ⟨_, rfl⟩
  have hB : Below w.heap.size w W2 := by rw [hW2]; go_grown
  have hc : ∀ w', Below W2.heap.size W2 w' → w'.cell? ⟨w.heap.size, 1, none⟩ = some (.slice p.ca p.conds.length p.cc) ∧ w'.cell? ⟨w.heap.size, 2, none⟩ = some (.slice p.aa p.acts.length p.ac) := by
    intro w' h
    have hx := cells_of (W := W2) (b := w.heap.size) (c := #[.string p.name, .slice p.ca p.conds.length p.cc, .slice p.aa p.acts.length p.ac]) (t := 25) (f := (0, 0)) (by rw [hW2]; exact new_at rfl)
    have hlt : w.heap.size < W2.heap.size := by rw [hW2]; simp
    refine ⟨?_, ?_⟩
    · exact (h.cell (p := ⟨w.heap.size, 1, none⟩) hlt).trans (by rw [hx]; rfl)
    · exact (h.cell (p := ⟨w.heap.size, 2, none⟩) hlt).trans (by rw [hx]; rfl)
  have HC := Lib.hid hc
  have HW := Lib.hid hW2
  have h1 := fun w' => word_all p.name w'
  have H1 := Lib.hid h1
  have h2 := fun w' (h : Below W2.heap.size W2 w') => exceeds_any p.conds hz p.ca p.cc 16 (by omega) w' (hp.conds.mono (hB.trans (h.mono hB.size)))
  have H2 := Lib.hid h2
  clear hc hW2 h1 h2 hp hz
  cases q1 : wordB p.name.data.toList with
  | false =>
    have HQ := Lib.hid (show wholeE p = 2 by unfold wholeE; rw [if_pos q1])
    go_enter Try.func38, Try.ntmps38
    go_wp2_with (go_at_call 62; rw [← HW.out]; refine (H1.out _).mono ?_; rintro e w1 ⟨rfl, hb1⟩; rw [q1]; obtain ⟨c1, c2⟩ := HC.out _ hb1)
    go_ret
    exact ⟨by rw [HQ.out]; rfl, hB.trans (hb1.mono hB.size)⟩
  | true =>
    have hs1 : wholeE p = (if p.conds.length = 0 then 7 else if 16 < sizeL p.conds then 7 else if p.acts.length = 0 then 7 else if 16 < p.acts.length then 7 else 0) := by
      unfold wholeE; rw [q1, if_neg (by decide)]
    have HS1 := Lib.hid hs1
    clear hs1
    by_cases n2 : p.conds.length = 0
    · have HQ := Lib.hid (show wholeE p = 7 by rw [HS1.out, if_pos n2])
      have d2 : ((p.conds.length : Int) == 0) = true := by simp [n2]
      clear n2
      go_enter Try.func38, Try.ntmps38
      go_wp2_with (go_at_call 62; rw [← HW.out]; refine (H1.out _).mono ?_; rintro e w1 ⟨rfl, hb1⟩; rw [q1]; obtain ⟨c1, c2⟩ := HC.out _ hb1)
      go_ret
      exact ⟨by rw [HQ.out]; rfl, hB.trans (hb1.mono hB.size)⟩
    have d2 : ((p.conds.length : Int) == 0) = false := by simp; intro h; exact n2 (by rw [h]; rfl)
    have HS2 := Lib.hid (show wholeE p = _ by rw [HS1.out, if_neg n2])
    clear n2 HS1
    by_cases n3 : 16 < sizeL p.conds
    · have HQ := Lib.hid (show wholeE p = 7 by rw [HS2.out, if_pos n3])
      have q3 : decide (16 < sizeL p.conds) = true := decide_eq_true n3
      clear n3
      go_enter Try.func38, Try.ntmps38
      go_wp2_with (first | (go_at_call 62; rw [← HW.out]; refine (H1.out _).mono ?_; rintro e w1 ⟨rfl, hb1⟩; rw [q1]; obtain ⟨c1, c2⟩ := HC.out _ hb1) | (go_at_call 63; refine (H2.out _ hb1).mono ?_; rintro e w2 ⟨rfl, hb2⟩; replace hb2 := hb1.trans (hb2.mono hb1.size); rw [q3]; clear c1 c2; obtain ⟨c1, c2⟩ := HC.out _ hb2))
      go_ret
      exact ⟨by rw [HQ.out]; rfl, hB.trans (hb2.mono hB.size)⟩
    have q3 : decide (16 < sizeL p.conds) = false := decide_eq_false n3
    have HS3 := Lib.hid (show wholeE p = _ by rw [HS2.out, if_neg n3])
    clear n3 HS2
    by_cases n4 : p.acts.length = 0
    · have HQ := Lib.hid (show wholeE p = 7 by rw [HS3.out, if_pos n4])
      have d4 : ((p.acts.length : Int) == 0) = true := by simp [n4]
      clear n4
      go_enter Try.func38, Try.ntmps38
      go_wp2_with (first | (go_at_call 62; rw [← HW.out]; refine (H1.out _).mono ?_; rintro e w1 ⟨rfl, hb1⟩; rw [q1]; obtain ⟨c1, c2⟩ := HC.out _ hb1) | (go_at_call 63; refine (H2.out _ hb1).mono ?_; rintro e w2 ⟨rfl, hb2⟩; replace hb2 := hb1.trans (hb2.mono hb1.size); rw [q3]; clear c1 c2; obtain ⟨c1, c2⟩ := HC.out _ hb2))
      go_ret
      exact ⟨by rw [HQ.out]; rfl, hB.trans (hb2.mono hB.size)⟩
    have d4 : ((p.acts.length : Int) == 0) = false := by simp; intro h; exact n4 (by rw [h]; rfl)
    have HS4 := Lib.hid (show wholeE p = _ by rw [HS3.out, if_neg n4])
    clear n4 HS3
    by_cases n5 : 16 < p.acts.length
    · have HQ := Lib.hid (show wholeE p = 7 by rw [HS4.out, if_pos n5])
      have d5 : decide ((16 : Int) < (p.acts.length : Int)) = true := decide_eq_true (by omega)
      clear n5
      go_enter Try.func38, Try.ntmps38
      go_wp2_with (first | (go_at_call 62; rw [← HW.out]; refine (H1.out _).mono ?_; rintro e w1 ⟨rfl, hb1⟩; rw [q1]; obtain ⟨c1, c2⟩ := HC.out _ hb1) | (go_at_call 63; refine (H2.out _ hb1).mono ?_; rintro e w2 ⟨rfl, hb2⟩; replace hb2 := hb1.trans (hb2.mono hb1.size); rw [q3]; clear c1 c2; obtain ⟨c1, c2⟩ := HC.out _ hb2))
      go_ret
      exact ⟨by rw [HQ.out]; rfl, hB.trans (hb2.mono hB.size)⟩
    have HQ := Lib.hid (show wholeE p = 0 by rw [HS4.out, if_neg n5])
    have d5 : decide ((16 : Int) < (p.acts.length : Int)) = false := decide_eq_false (by omega)
    clear n5 HS4
    go_enter Try.func38, Try.ntmps38
    go_wp2_with (first | (go_at_call 62; rw [← HW.out]; refine (H1.out _).mono ?_; rintro e w1 ⟨rfl, hb1⟩; rw [q1]; obtain ⟨c1, c2⟩ := HC.out _ hb1) | (go_at_call 63; refine (H2.out _ hb1).mono ?_; rintro e w2 ⟨rfl, hb2⟩; replace hb2 := hb1.trans (hb2.mono hb1.size); rw [q3]; clear c1 c2; obtain ⟨c1, c2⟩ := HC.out _ hb2))
    go_ret
    exact ⟨by rw [HQ.out]; rfl, hB.trans (hb2.mono hB.size)⟩
open Go.RowKit Go.Shelf
attribute [local go_sem] Oper.semAt_some
/-- What the body of a loop may write: some blocks, known beforehand. -/
def GFix (A : Nat → Prop) (B0 : Nat) (W : World) : Prop := B0 ≤ W.heap.size ∧ ∀ k, A k → k < W.heap.size
theorem owns_fix (A : Nat → Prop) (B0 : Nat) : Owns (fun _ k => A k) (GFix A B0) B0 :=
  ⟨fun _ k h ho => h.2 k ho, fun _ _ _ h hb _ => ⟨fun _ h => h, Nat.le_trans h.1 hb.size, fun k hk => Nat.lt_of_lt_of_le (h.2 k hk) hb.size⟩, fun _ _ _ h _ => ⟨fun _ h => h, by simpa using h.1, fun k hk => by simpa using h.2 k hk⟩, fun _ h => h.1⟩
theorem kv_fix_set {A : Nat → Prop} {B0 : Nat} {W : World} {a : Addr} {v : Value} (hA : A a.block) (hB : B0 ≤ a.block) : KV (fun _ k => A k) (GFix A B0) B0 W (W.setCell a v) :=
  ⟨by simp, fun g => ⟨by simpa using g.1, fun k hk => by simpa using g.2 k hk⟩, fun _ k c t f hk hn => (Below.heap_setCell _ _ _ _ (fun e => hn (by rw [e]; exact hA))).trans hk, fun _ k _ h => h, (Below.refl _ _).setCell hB _⟩
/-- A loop's words: all that lay at its beginning stays. -/
def StayI (W0 : World) (P : List Xc → Prop) (pre : List Xc) (W : World) : Prop := Below W0.heap.size W0 W ∧ P pre
theorem below_grown {B : Nat} {w X Y : World} {row : Option Nat} (h : Below B w X) (hB : B ≤ w.heap.size) (hg : X.grownBy Y row) (hr : ∀ r, row = some r → B ≤ r) : Below B w Y :=
  h.trans ⟨hg.os, hg.tape, hg.output, hg.size, fun k hk => hg.block k (by have := h.size; omega) (fun e => by have := hr k e.symm; omega)⟩
theorem stayI_loop {w W0 : World} {A : Nat → Prop} {P : List Xc → Prop} (hb : Below w.heap.size w W0) (hA : ∀ k, A k → k < W0.heap.size) : LoopI (fun _ k => A k) (GFix A w.heap.size) w W0.heap.size (StayI W0 P) where
  own := fun pre X Y row h hg hr => ⟨below_grown h.1 (Nat.le_refl _) hg (fun r e => (hr r e).1), h.2⟩
  set := fun pre X a v h ha hn => ⟨h.1.setCell ha _, h.2⟩
  good := fun pre X h => ⟨Nat.le_trans hb.size h.1.size, fun k hk => Nat.lt_of_lt_of_le (hA k hk) h.1.size⟩
  low := fun pre X h => hb.trans (h.1.mono hb.size)
  base := fun pre X h => h.1.size
/-- What is wrong with an element itself. -/
def xE (x : Xc) : Int := condE x.2.2.h x.2.2.l.length (x.2.1 : Int)
theorem flat_tests {w : World} : ∀ (cs : List Co) (n d : Nat), (∀ c ∈ cs, TestsAt w c.h.aa c.h.attr ∧ TestsAt w c.h.va c.h.value ∧ CondsAt w c.h.ca c.l) → ∀ x ∈ flatL cs n d, TestsAt w x.2.2.h.aa x.2.2.h.attr ∧ TestsAt w x.2.2.h.va x.2.2.h.value
  | [], _, _, _, _, hx => by simp [flatL] at hx
  | .mk h m :: l, n, d, hc, x, hx => by
    simp only [flatL, List.mem_cons, List.mem_append] at hx
    have h0 := hc (.mk h m) (by simp)
    rcases hx with rfl | hx | hx
    · exact ⟨h0.1, h0.2.1⟩
    · refine flat_tests m (n + 1) (d + 1) ?_ x hx
      have h2 := h0.2.2
      cases h2 with
      | mk _ _ he ha hv hi => exact fun c hc => ⟨ha c hc, hv c hc, hi c hc⟩
    · exact flat_tests l _ _ (fun c h => hc c (by simp [h])) x hx
theorem CondsAt.flat {w : World} {a : Option Addr} {cs : List Co} (h : CondsAt w a cs) : ∀ x ∈ flatL cs 0 0, TestsAt w x.2.2.h.aa x.2.2.h.attr ∧ TestsAt w x.2.2.h.va x.2.2.h.value := by
  cases h with
  | mk _ _ he ha hv hi => exact flat_tests cs 0 0 (fun c hc => ⟨ha c hc, hv c hc, hi c hc⟩)
theorem first_flat : ∀ (cs : List Co) (n d : Nat), firstE cs n (d : Int) = match (flatL cs n d).find? (fun x => decide (xE x ≠ 0)) with | some x => ((x.1 : Int), xE x) | none => (-1, 0)
  | [], _, _ => by simp [firstE, flatL]
  | .mk h m :: l, n, d => by
    have h1 := first_flat m (n + 1) (d + 1)
    have h2 := first_flat l (n + 1 + sizeL m) d
    rw [show ((d + 1 : Nat) : Int) = (d : Int) + 1 from rfl] at h1
    unfold firstE flatL
    rw [List.find?_cons, List.find?_append]
    by_cases hq : condE h m.length (d : Int) ≠ 0
    · rw [if_pos hq, show decide (xE (n, d, Co.mk h m) ≠ 0) = true from decide_eq_true hq]; rfl
    · rw [if_neg hq, show decide (xE (n, d, Co.mk h m) ≠ 0) = false from decide_eq_false hq]
      cases hf : (flatL m (n + 1) (d + 1)).find? (fun x => decide (xE x ≠ 0)) with
      | some x =>
        rw [hf] at h1
        have := List.find?_some hf
        rw [h1, if_pos (by simpa using this)]; rfl
      | none =>
        rw [hf] at h1
        rw [h1, if_neg (by simp), h2]; rfl
theorem first_none {cs : List Co} (h : ∀ x ∈ flatL cs 0 0, xE x = 0) : firstE cs 0 0 = (-1, 0) := by
  have h1 := first_flat cs 0 0
  rw [show (flatL cs 0 0).find? (fun x => decide (xE x ≠ 0)) = none from List.find?_eq_none.2 (fun x hx => by simp [h x hx])] at h1
  exact h1
theorem first_some {cs : List Co} {pre r : List Xc} {x : Xc} (h : flatL cs 0 0 = pre ++ x :: r) (hp : ∀ y ∈ pre, xE y = 0) (hx : xE x ≠ 0) : firstE cs 0 0 = ((x.1 : Int), xE x) := by
  have h1 := first_flat cs 0 0
  rw [h, List.find?_append, List.find?_eq_none.2 (fun y hy => by simp [hp y hy]), List.find?_cons, show decide (xE x ≠ 0) = true from decide_eq_true hx] at h1
  exact h1
theorem takeWhile_cut {α : Type} {p : α → Bool} : ∀ {xs : List α} {k : Nat} (h : k < xs.length), (xs.take k).all p = true → p xs[k] = false → (xs.takeWhile p).length = k
  | x :: xs, 0, _, _, h => by have h' : p x = false := h; simp [h']
  | x :: xs, k + 1, hl, ha, h => by
    rw [List.take_succ_cons, List.all_cons, Bool.and_eq_true] at ha
    rw [List.takeWhile_cons, ha.1]
    simp only [if_true, List.length_cons]
    rw [takeWhile_cut (by simpa using hl) ha.2 (by simpa using h)]
def shapeE (p : Pr) : Int × Int := if wholeE p ≠ 0 then (-1, wholeE p) else if (firstE p.conds 0 0).2 ≠ 0 then firstE p.conds 0 0 else if p.acts.all actB = true then (-1, 0) else ((sizeL p.conds : Int) + ((p.acts.takeWhile actB).length : Int), 9)
theorem results_twocells {fn : Func} {p q : Tmp} (h : fn.results = #[.cell p 3, .cell q 28]) (tmps : Array Value) (w : World) (g g' : Nat) (a b : Int)
    (hp : tmps.getD p undef = .pointer (some ⟨g, 0, none⟩)) (hq : tmps.getD q undef = .pointer (some ⟨g', 0, none⟩)) (hc : w.cell? ⟨g, 0, none⟩ = some (.int .i64 a)) (hd : w.cell? ⟨g', 0, none⟩ = some (.int .i64 b)) :
    (results fn tmps).run Try.prog w = .ok (.tuple #[.int .i64 a, .int .i64 b]) w := by
  have hp' : tmps[p]?.getD undef = .pointer (some ⟨g, 0, none⟩) := by simpa using hp
  have hq' : tmps[q]?.getD undef = .pointer (some ⟨g', 0, none⟩) := by simpa using hq
  simp [results, h, hp', hq', asAddr, loadVar, go_sem, hc, hd]
theorem set_pair {W : World} {x y : Nat} (hne : x ≠ y) {u v a b : Value} {T S : Nat} (g1 : W.heap[x]? = some (.cells #[u] T (0, 0))) (g2 : W.heap[y]? = some (.cells #[v] S (0, 0))) :
    ((W.setCell ⟨x, 0, none⟩ a).setCell ⟨y, 0, none⟩ b).heap[x]? = some (.cells #[a] T (0, 0)) ∧ ((W.setCell ⟨x, 0, none⟩ a).setCell ⟨y, 0, none⟩ b).heap[y]? = some (.cells #[b] S (0, 0)) :=
  ⟨(Below.heap_setCell _ _ _ _ hne).trans (set_heap g1), set_heap ((Below.heap_setCell _ _ _ _ (Ne.symm hne)).trans g2)⟩
set_option maxRecDepth 100000 in
set_option maxHeartbeats 8000000 in
theorem shape_any (p : Pr) (w : World) (hz : sizeL p.conds ≤ 500000) (hp : PrAt w p) : Calls Try.prog 13 #[.agg #[.string p.name, .slice p.ca p.conds.length p.cc, .slice p.aa p.acts.length p.ac]] w fun e w' => e = .returned (.tuple #[.int .i64 (shapeE p).1, .int .i64 (shapeE p).2]) ∧ Below w.heap.size w w' := by
  refine (callsIn_wide (n := 3)).1 ?_
  refine callsIn_of_wp_marks Try.func13 rfl trivial ?_ rfl
  simp only [Try.ntmps13, List.size_toArray, List.length_cons, List.length_nil, Nat.reduceAdd, Nat.reduceSub, Array.replicate_succ, Array.replicate_zero, List.push_toArray, List.append_toArray, List.nil_append, List.cons_append]
  obtain ⟨W1, hW1⟩ : ∃ W1, W1 = ((w.alloc (.cells #[.string p.name, .slice p.ca p.conds.length p.cc, .slice p.aa p.acts.length p.ac] 25)).alloc (.cells #[.int .i64 0] 3)).alloc (.cells #[.int .i64 0] 28) := ⟨_, rfl⟩
  have hB1 : Below w.heap.size w W1 := by rw [hW1]; go_grown
  have hsz1 : W1.heap.size = w.heap.size + 3 := by rw [hW1]; simp
  have hbp : W1.heap[w.heap.size]? = some (.cells #[.string p.name, .slice p.ca p.conds.length p.cc, .slice p.aa p.acts.length p.ac] 25 (0, 0)) := by rw [hW1]; exact (Below.heap_alloc _ _ _ (by simp; omega)).trans ((Below.heap_alloc _ _ _ (by simp)).trans (new_at rfl))
  have hb1 : W1.heap[w.heap.size + 1]? = some (.cells #[.int .i64 0] 3 (0, 0)) := by rw [hW1]; exact (Below.heap_alloc _ _ _ (by simp)).trans (new_at (by simp))
  have hb2 : W1.heap[w.heap.size + 2]? = some (.cells #[.int .i64 0] 28 (0, 0)) := by rw [hW1]; exact new_at (by simp)
  have hwh := callsIn_wide (n := 3 - 1).2 (whole_any p W1 hz (hp.mono hB1))
  have HW1 := Lib.hid hW1
  have HWH := Lib.hid hwh
  clear hwh
  gi_wp2_with fail
  rw [← HW1.out]
  refine ⟨trivial, ?_⟩
  refine HWH.out.mono ?_
  rintro e w2 ⟨rfl, hbw⟩
  have hB2 : Below w.heap.size w w2 := hB1.trans (hbw.mono hB1.size)
  have hsz2 : w.heap.size + 3 ≤ w2.heap.size := by have := hbw.size; omega
  have gp : w2.heap[w.heap.size]? = some (.cells #[.string p.name, .slice p.ca p.conds.length p.cc, .slice p.aa p.acts.length p.ac] 25 (0, 0)) := (hbw.block _ (heap_lt hbp)).trans hbp
  have g1 : w2.heap[w.heap.size + 1]? = some (.cells #[.int .i64 0] 3 (0, 0)) := (hbw.block _ (heap_lt hb1)).trans hb1
  have g2 : w2.heap[w.heap.size + 2]? = some (.cells #[.int .i64 0] 28 (0, 0)) := (hbw.block _ (heap_lt hb2)).trans hb2
  clear HWH HW1 hbp hb1 hb2 hbw hW1 hB1 hsz1
  by_cases n1 : wholeE p ≠ 0
  · have c1 : w2.cell? ⟨w.heap.size + 1, 0, none⟩ = some (.int .i64 0) := by rw [cells_of g1]; rfl
    have c2 : w2.cell? ⟨w.heap.size + 1 + 1, 0, none⟩ = some (.int .i64 0) := by rw [cells_of g2]; rfl
    have f1 : w2.frozen? ⟨w.heap.size + 1, 0, none⟩ = false := frozen_of g1
    have f2 : w2.frozen? ⟨w.heap.size + 1 + 1, 0, none⟩ = false := frozen_of g2
    have HQ := Lib.hid (show shapeE p = (-1, wholeE p) by unfold shapeE; rw [if_pos n1])
    have d1 : (wholeE p != 0) = true := by simpa using n1
    clear n1
    gi_wp2_with fail
    obtain ⟨s1, s2⟩ := set_pair (by omega) (a := .int .i64 (-1)) (b := .int .i64 (wholeE p)) g1 g2
    refine ⟨_, results_twocells rfl _ _ (w.heap.size + 1) (w.heap.size + 2) (-1) (wholeE p) rfl rfl (by rw [cells_of s1]; rfl) (by rw [cells_of s2]; rfl), ?_⟩
    exact ⟨by rw [HQ.out], (hB2.setCell (by show w.heap.size ≤ w.heap.size + 1; omega) _).setCell (by show w.heap.size ≤ w.heap.size + 2; omega) _⟩
  have d1 : (wholeE p != 0) = false := by simpa using n1
  have HS1 := Lib.hid (show shapeE p = _ by unfold shapeE; rw [if_neg n1])
  have cp0 : w2.cell? ⟨w.heap.size, 1, none⟩ = some (.slice p.ca p.conds.length p.cc) := by rw [cells_of gp]; rfl
  gi_wp2_with fail
  refine ⟨trivial, ?_⟩
  refine (callsIn_wide (n := 3 - 1).2 (walk_any _ _ _ _)).mono ?_
  rintro e w1 ⟨rfl, rfl⟩
  obtain ⟨W0, hW0⟩ : ∃ W0, W0 = w2.alloc (.cells #[.slice p.ca p.conds.length p.cc] 22) := ⟨_, rfl⟩
  have hb0 : Below w2.heap.size w2 W0 := by rw [hW0]; go_grown
  have hB0 : Below w.heap.size w W0 := hB2.trans (hb0.mono hB2.size)
  have hBt : W0.heap[w2.heap.size]? = some (.cells #[.slice p.ca p.conds.length p.cc] 22 (0, 0)) := by rw [hW0]; exact new_at rfl
  have gp0 : W0.heap[w.heap.size]? = some (.cells #[.string p.name, .slice p.ca p.conds.length p.cc, .slice p.aa p.acts.length p.ac] 25 (0, 0)) := (hb0.block _ (heap_lt gp)).trans gp
  have g10 : W0.heap[w.heap.size + 1]? = some (.cells #[.int .i64 0] 3 (0, 0)) := (hb0.block _ (heap_lt g1)).trans g1
  have g20 : W0.heap[w.heap.size + 2]? = some (.cells #[.int .i64 0] 28 (0, 0)) := (hb0.block _ (heap_lt g2)).trans g2
  gi_wp2_with fail
  rw [← hW0]
  clear hW0
  have hsz0 : w.heap.size + 3 ≤ W0.heap.size := by have := hb0.size; omega
  have hAlt : ∀ k, (k = w.heap.size + 1 ∨ k = w.heap.size + 2) → k < W0.heap.size := by omega
  refine wpIn_walk (w0 := w) (Bt := w2.heap.size) rfl (owns_fix (fun k => k = w.heap.size + 1 ∨ k = w.heap.size + 2) w.heap.size) hz hp.conds hBt rfl (StayI W0 (fun pre => ∀ y ∈ pre, xE y = 0))
    (fun c pre W => c = .ret ∧ Below w.heap.size w W ∧ ∃ pre' x, pre = pre' ++ [x] ∧ (∀ y ∈ pre', xE y = 0) ∧ xE x ≠ 0 ∧ W.heap[w.heap.size + 1]? = some (.cells #[.int .i64 (x.1 : Int)] 3 (0, 0)) ∧ W.heap[w.heap.size + 2]? = some (.cells #[.int .i64 (xE x)] 28 (0, 0)))
    (stayI_loop hB0 hAlt)
    (fun c s X Y row h hg hr => ⟨h.1, below_grown h.2.1 (Nat.le_refl _) hg (fun r e => by have := (hr r e).1; omega), let ⟨q, x, h1, h2, h3, h4, h5⟩ := h.2.2; ⟨q, x, h1, h2, h3, kept_block h4 hg (fun r e => (hr r e).2), kept_block h5 hg (fun r e => (hr r e).2)⟩⟩) ⟨Below.refl _ _, by simp⟩
    (fun x a' W => ∃ Bx Bc, W0.heap.size ≤ Bx ∧ W0.heap.size ≤ Bc ∧ W.heap[Bx]? = some (.cells #[.int .i64 (x.1 : Int), .int .i64 (x.2.1 : Int)] 77 (0, 0)) ∧ W.heap[Bc]? = some (.cells #[.int .i64 x.2.2.h.kind, .bool x.2.2.h.goal, .string x.2.2.h.id, .slice x.2.2.h.aa x.2.2.h.attr.length x.2.2.h.ac, .slice x.2.2.h.va x.2.2.h.value.length x.2.2.h.vc, .bool x.2.2.h.acc, .slice x.2.2.h.ca x.2.2.l.length x.2.2.h.cc] 64 (0, 0)) ∧ a' = { tmps := #[.agg #[.string p.name, .slice p.ca p.conds.length p.cc, .slice p.aa p.acts.length p.ac], .pointer (some ⟨w.heap.size, 0, none⟩), .pointer (some ⟨w.heap.size + 1, 0, none⟩), .pointer (some ⟨w.heap.size + 1 + 1, 0, none⟩), .int .i64 (wholeE p), .pointer (some ⟨Bx, 0, none⟩), .pointer (some ⟨Bc, 0, none⟩), undef, undef, undef, .agg #[.string p.name, .slice p.ca p.conds.length p.cc, .slice p.aa p.acts.length p.ac], .int .i64 (wholeE p), .int .i64 (wholeE p), .bool false, undef, .pointer (some ⟨w.heap.size, 1, none⟩), .slice p.ca p.conds.length p.cc, .func (.func 64) #[] #[.pointer (some ⟨w2.heap.size, 0, none⟩)], .agg #[.int .i64 (x.1 : Int), .int .i64 (x.2.1 : Int)], .agg #[.int .i64 x.2.2.h.kind, .bool x.2.2.h.goal, .string x.2.2.h.id, .slice x.2.2.h.aa x.2.2.h.attr.length x.2.2.h.ac, .slice x.2.2.h.va x.2.2.h.value.length x.2.2.h.vc, .bool x.2.2.h.acc, .slice x.2.2.h.ca x.2.2.l.length x.2.2.h.cc], undef, undef, undef, undef, undef, undef, undef, undef, undef, undef, undef, undef, undef, undef, undef, undef, undef, undef, undef, undef, undef, undef, undef, undef, undef, undef], defers := [] })
    (fun x a' s X Y row h hg hr => let ⟨Bx, Bc, h1, h2, h3, h4, h5⟩ := h; ⟨Bx, Bc, h1, h2, kept_block h3 hg (fun r e => (hr r e).2), kept_block h4 hg (fun r e => (hr r e).2), h5⟩) ?assign ?body ?done ?stop
  case assign =>
    rintro l pre r x W K hx hI hK
    unfold encX
    gi_wp2_with fail
    have hbs := hI.1.size
    refine hK _ _ (((KeepsOthers.alloc _ _).trans (KeepsOthers.alloc _ _)).from _) (((Below.refl _ _).alloc (Nat.le_refl _) _).alloc (by simp) _) ⟨W.heap.size, W.heap.size + 1, hbs, by omega, (Below.heap_alloc _ _ _ (by simp)).trans (new_at rfl), new_at (by simp), rfl⟩
  case body =>
    rintro l pre r x a' W hl hr hx hI ⟨Bx, Bc, hbx, hbc, hxc, hcc, rfl⟩
    have hlow : Below w.heap.size w W := hB0.trans (hI.1.mono hB0.size)
    have htt := hp.conds.flat x (by rw [hx]; simp)
    have hce := CallsIn.inRound l (callsIn_wide (n := 3 - 1 - 1 - 1).2 (cond_any x.2.2.h x.2.2.l.length (x.2.1 : Int) W (htt.1.mono hlow) (htt.2.mono hlow)))
    obtain ⟨ev, hev⟩ : ∃ ev, ev = condE x.2.2.h x.2.2.l.length (x.2.1 : Int) := ⟨_, rfl⟩
    have hxe : xE x = ev := hev.symm
    rw [← hev] at hce
    have x0 : W.cell? ⟨Bx, 1, none⟩ = some (.int .i64 (x.2.1 : Int)) := by rw [cells_of hxc]; rfl
    have b0 : W.cell? ⟨Bc, 0, none⟩ = some (.int .i64 x.2.2.h.kind) := by rw [cells_of hcc]; rfl
    have b1 : W.cell? ⟨Bc, 1, none⟩ = some (.bool x.2.2.h.goal) := by rw [cells_of hcc]; rfl
    have b2 : W.cell? ⟨Bc, 2, none⟩ = some (.string x.2.2.h.id) := by rw [cells_of hcc]; rfl
    have b3 : W.cell? ⟨Bc, 3, none⟩ = some (.slice x.2.2.h.aa x.2.2.h.attr.length x.2.2.h.ac) := by rw [cells_of hcc]; rfl
    have b4 : W.cell? ⟨Bc, 4, none⟩ = some (.slice x.2.2.h.va x.2.2.h.value.length x.2.2.h.vc) := by rw [cells_of hcc]; rfl
    have b5 : W.cell? ⟨Bc, 5, none⟩ = some (.bool x.2.2.h.acc) := by rw [cells_of hcc]; rfl
    have b6 : W.cell? ⟨Bc, 6, none⟩ = some (.slice x.2.2.h.ca x.2.2.l.length x.2.2.h.cc) := by rw [cells_of hcc]; rfl
    have HCE := Lib.hid hce
    clear hce hev
    gi_wp2_with fail
    refine ⟨trivial, ?_⟩
    refine HCE.out.mono ?_
    rintro e W3 ⟨rfl, hb3⟩
    have hI3 : Below W0.heap.size W0 W3 := hI.1.trans (hb3.mono hI.1.size)
    have g13 : W3.heap[w.heap.size + 1]? = some (.cells #[.int .i64 0] 3 (0, 0)) := (hI3.block _ (heap_lt g10)).trans g10
    have g23 : W3.heap[w.heap.size + 2]? = some (.cells #[.int .i64 0] 28 (0, 0)) := (hI3.block _ (heap_lt g20)).trans g20
    have c13 : W3.cell? ⟨w.heap.size + 1, 0, none⟩ = some (.int .i64 0) := by rw [cells_of g13]; rfl
    have c23 : W3.cell? ⟨w.heap.size + 1 + 1, 0, none⟩ = some (.int .i64 0) := by rw [cells_of g23]; rfl
    have f13 : W3.frozen? ⟨w.heap.size + 1, 0, none⟩ = false := frozen_of g13
    have f23 : W3.frozen? ⟨w.heap.size + 1 + 1, 0, none⟩ = false := frozen_of g23
    have x03 : W3.cell? ⟨Bx, 0, none⟩ = some (.int .i64 (x.1 : Int)) := by rw [cells_of ((hb3.block _ (heap_lt hxc)).trans hxc)]; rfl
    have hkv : KV (fun _ k => k = w.heap.size + 1 ∨ k = w.heap.size + 2) (GFix (fun k => k = w.heap.size + 1 ∨ k = w.heap.size + 2) w.heap.size) w.heap.size W W3 := KV.ofBelow (owns_fix _ _) ⟨hlow.size, fun k hk => Nat.lt_of_lt_of_le (hAlt k hk) hI.1.size⟩ hb3
    have hkk : KeepsOthers W W3 := ⟨hb3.size, fun k o hk _ => (hb3.block k (heap_lt hk)).trans hk⟩
    clear HCE b0 b1 b2 b3 b4 b5 b6 x0 hcc hxc
    by_cases hq : ev = 0
    · have d : (ev != 0) = false := by simp [hq]
      gi_wp2_with fail
      refine ⟨hkk.from _, hkv, hI3, ?_⟩
      intro y hy
      rcases List.mem_append.1 hy with hy | hy
      · exact hI.2 y hy
      · obtain rfl : y = x := by simpa using hy
        rw [hxe, hq]
    · have d : (ev != 0) = true := by simpa using hq
      gi_wp2_with fail
      obtain ⟨s1, s2⟩ := set_pair (by omega) (a := .int .i64 (x.1 : Int)) (b := .int .i64 ev) g13 g23
      refine ⟨(hkk.trans ((KeepsOthers.setCell _ _ _).trans (KeepsOthers.setCell _ _ _))).from _, ⟨rfl, ?_, pre, x, rfl, hI.2, by rw [hxe]; exact hq, s1, by rw [hxe]; exact s2⟩, hkv.trans ((kv_fix_set (.inl rfl) (by show w.heap.size ≤ w.heap.size + 1; omega)).trans (kv_fix_set (.inr rfl) (by show w.heap.size ≤ w.heap.size + 2; omega)))⟩
      exact ((hlow.trans (hb3.mono hlow.size)).setCell (by show w.heap.size ≤ w.heap.size + 1; omega) _).setCell (by show w.heap.size ≤ w.heap.size + 2; omega) _
  case done =>
    rintro D W hD hI hK
    have hlow : Below w.heap.size w W := hB0.trans (hI.1.mono hB0.size)
    have HF := first_none hI.2
    have gpW : W.heap[w.heap.size]? = some (.cells #[.string p.name, .slice p.ca p.conds.length p.cc, .slice p.aa p.acts.length p.ac] 25 (0, 0)) := (hI.1.block _ (heap_lt gp0)).trans gp0
    have g1W : W.heap[w.heap.size + 1]? = some (.cells #[.int .i64 0] 3 (0, 0)) := (hI.1.block _ (heap_lt g10)).trans g10
    have g2W : W.heap[w.heap.size + 2]? = some (.cells #[.int .i64 0] 28 (0, 0)) := (hI.1.block _ (heap_lt g20)).trans g20
    have cp2 : W.cell? ⟨w.heap.size, 2, none⟩ = some (.slice p.aa p.acts.length p.ac) := by rw [cells_of gpW]; rfl
    have hwa : wholeE p = 0 := by simpa using n1
    have hal : p.acts.length ≤ 16 := by
      unfold wholeE at hwa
      repeat' split at hwa
      all_goals first | omega | cases hwa
    have HS2 := Lib.hid (show shapeE p = if p.acts.all actB = true then (-1, 0) else ((sizeL p.conds : Int) + ((p.acts.takeWhile actB).length : Int), 9) by rw [HS1.out, HF, if_neg (by simp)])
    have Hel := Lib.hid hp.acts
    have HBt := Lib.hid (fun w' (h : Below W.heap.size W w') => size_any p.conds hz p.ca p.cc w' (hp.conds.mono (hlow.trans (h.mono hlow.size))))
    have HLOW := Lib.hid hlow
    have HK := Lib.hid hK
    have hws := hlow.size
    have hDlt := heap_lt hK
    clear hI HF gp g1 g2 gp0 g10 g20 hBt hb0 hB0 hB2 hp HS1 hlow hK d1 cp0 hwa n1
    gi_wp2_with fail
    gi_loopw [8, 32] (fun _ i wr => ∃ k : Nat, k ≤ p.acts.length ∧ i = .int .i64 k ∧ Below W.heap.size W wr ∧ (p.acts.take k).all actB = true) (fun _ i _ => p.acts.length - (intOf i).toNat)
    case atStart => exact ⟨0, Nat.zero_le _, rfl, Below.refl _ _, by simp⟩
    case round =>
      obtain ⟨k, hk, rfl, hbr, hall⟩ := hrel
      by_cases hlt : k < p.acts.length
      · obtain ⟨b, off, hab, hcell⟩ := Hel.out.at hlt
        have hsucc := all_take_succ actB p.acts hlt
        have hcut := fun h => all_cut (p := actB) hlt h
        have htw := fun h => takeWhile_cut (p := actB) hlt hall h
        have hc := hcell wr (HLOW.out.trans (hbr.mono hws))
        obtain ⟨x, hx⟩ : ∃ x, x = p.acts[k] := ⟨_, rfl⟩
        rw [← hx] at hc hsucc hcut htw
        rw [hall, Bool.true_and] at hsucc
        have hcl : ∀ (j : Nat) (v : Value), [.string x.id, .string x.at_.v, .int .i64 x.at_.s.k, .string x.at_.s.t, .int .i64 x.at_.s.n, .int .i64 x.v.op, .string x.v.l.v, .int .i64 x.v.l.s.k, .string x.v.l.s.t, .int .i64 x.v.l.s.n, .string x.v.r.v, .int .i64 x.v.r.s.k, .string x.v.r.s.t, .int .i64 x.v.r.s.n, .int .i64 x.pref, .string x.oth.v, .int .i64 x.oth.s.k, .string x.oth.s.t, .int .i64 x.oth.s.n][j]? = some v → wr.cell? ((⟨b, off + k * 19, none⟩ : Addr).add j) = some v := fun j v hv => by rw [Addr.add_lit]; exact hc j v hv
        have hac := callsIn_wide (n := 3 - 1).2 (actF_any x (wr.alloc (.cells #[.string x.id, .string x.at_.v, .int .i64 x.at_.s.k, .string x.at_.s.t, .int .i64 x.at_.s.n, .int .i64 x.v.op, .string x.v.l.v, .int .i64 x.v.l.s.k, .string x.v.l.s.t, .int .i64 x.v.l.s.n, .string x.v.r.v, .int .i64 x.v.r.s.k, .string x.v.r.s.t, .int .i64 x.v.r.s.n, .int .i64 x.pref, .string x.oth.v, .int .i64 x.oth.s.k, .string x.oth.s.t, .int .i64 x.oth.s.n] 59)))
        have hB2 : Below wr.heap.size wr (wr.alloc (.cells #[.string x.id, .string x.at_.v, .int .i64 x.at_.s.k, .string x.at_.s.t, .int .i64 x.at_.s.n, .int .i64 x.v.op, .string x.v.l.v, .int .i64 x.v.l.s.k, .string x.v.l.s.t, .int .i64 x.v.l.s.n, .string x.v.r.v, .int .i64 x.v.r.s.k, .string x.v.r.s.t, .int .i64 x.v.r.s.n, .int .i64 x.pref, .string x.oth.v, .int .i64 x.oth.s.k, .string x.oth.s.t, .int .i64 x.oth.s.n] 59)) := by go_grown
        have hcb : ∀ (j : Nat) (v : Value), [.string x.id, .string x.at_.v, .int .i64 x.at_.s.k, .string x.at_.s.t, .int .i64 x.at_.s.n, .int .i64 x.v.op, .string x.v.l.v, .int .i64 x.v.l.s.k, .string x.v.l.s.t, .int .i64 x.v.l.s.n, .string x.v.r.v, .int .i64 x.v.r.s.k, .string x.v.r.s.t, .int .i64 x.v.r.s.n, .int .i64 x.pref, .string x.oth.v, .int .i64 x.oth.s.k, .string x.oth.s.t, .int .i64 x.oth.s.n][j]? = some v → (wr.alloc (.cells #[.string x.id, .string x.at_.v, .int .i64 x.at_.s.k, .string x.at_.s.t, .int .i64 x.at_.s.n, .int .i64 x.v.op, .string x.v.l.v, .int .i64 x.v.l.s.k, .string x.v.l.s.t, .int .i64 x.v.l.s.n, .string x.v.r.v, .int .i64 x.v.r.s.k, .string x.v.r.s.t, .int .i64 x.v.r.s.n, .int .i64 x.pref, .string x.oth.v, .int .i64 x.oth.s.k, .string x.oth.s.t, .int .i64 x.oth.s.n] 59)).cell? ((⟨wr.heap.size, 0, none⟩ : Addr).add j) = some v := fun j v hv => by
          rw [Addr.add_lit, Nat.zero_add, cells_of (new_at rfl)]; simpa using hv
        have hi59 : (Try.prog.info? 59).map (·.size) = some 19 := by kernel_rfl
        have HCL := Lib.hid hcl
        have HCB := Lib.hid hcb
        have H59 := Lib.hid hi59
        clear hcl hcb hi59
        have HAC := Lib.hid hac
        have HS := Lib.hid hsucc
        have HCUT := Lib.hid hcut
        have HTW := Lib.hid htw
        have HBR := Lib.hid hbr
        have HB2 := Lib.hid hB2
        have hwr := hbr.size
        rw [hab]
        clear hac hsucc hcut htw hcell hc hx hall hbr hB2
        gi_wp2_with (first | (refine wpListIn_load rfl (.tmp 35) 59 rfl (A := ⟨b, off + k * 19, none⟩) rfl Try.underlying59 rfl (cs := [.string x.id, .string x.at_.v, .int .i64 x.at_.s.k, .string x.at_.s.t, .int .i64 x.at_.s.n, .int .i64 x.v.op, .string x.v.l.v, .int .i64 x.v.l.s.k, .string x.v.l.s.t, .int .i64 x.v.l.s.n, .string x.v.r.v, .int .i64 x.v.r.s.k, .string x.v.r.s.t, .int .i64 x.v.r.s.n, .int .i64 x.pref, .string x.oth.v, .int .i64 x.oth.s.k, .string x.oth.s.t, .int .i64 x.oth.s.n]) H59.out HCL.out ?_) | (refine wpListIn_store_new rfl (.tmp 9) (.tmp 36) 59 rfl rfl (c' := #[.string x.id, .string x.at_.v, .int .i64 x.at_.s.k, .string x.at_.s.t, .int .i64 x.at_.s.n, .int .i64 x.v.op, .string x.v.l.v, .int .i64 x.v.l.s.k, .string x.v.l.s.t, .int .i64 x.v.l.s.n, .string x.v.r.v, .int .i64 x.v.r.s.k, .string x.v.r.s.t, .int .i64 x.v.r.s.n, .int .i64 x.pref, .string x.oth.v, .int .i64 x.oth.s.k, .string x.oth.s.t, .int .i64 x.oth.s.n]) rfl H59.out rfl (by simp [Value.oneCell']) ?_) | (refine wpListIn_load rfl (.tmp 9) 59 rfl (A := ⟨wr.heap.size, 0, none⟩) rfl Try.underlying59 rfl (cs := [.string x.id, .string x.at_.v, .int .i64 x.at_.s.k, .string x.at_.s.t, .int .i64 x.at_.s.n, .int .i64 x.v.op, .string x.v.l.v, .int .i64 x.v.l.s.k, .string x.v.l.s.t, .int .i64 x.v.l.s.n, .string x.v.r.v, .int .i64 x.v.r.s.k, .string x.v.r.s.t, .int .i64 x.v.r.s.n, .int .i64 x.pref, .string x.oth.v, .int .i64 x.oth.s.k, .string x.oth.s.t, .int .i64 x.oth.s.n]) H59.out HCB.out ?_))
        refine ⟨trivial, ?_⟩
        refine HAC.out.mono ?_
        rintro e w3 ⟨rfl, hb3⟩
        have hb3' : Below W.heap.size W w3 := HBR.out.trans ((HB2.out.trans (hb3.mono HB2.out.size)).mono hwr)
        have HB3 := Lib.hid hb3'
        clear HCL HCB H59
        cases hq : actB x with
        | true =>
          have HS2 := Lib.hid (HS.out.trans hq)
          clear HAC hb3 hb3'
          gi_wp2_with fail
          go_roundw
          case rel => exact ⟨k + 1, by omega, by go_num, HB3.out, HS2.out⟩
          case measure => simp [intOf]; omega
        | false =>
          have HQ := Lib.hid (show shapeE p = ((sizeL p.conds : Int) + (k : Int), 9) by rw [HS2.out, HCUT.out hq, if_neg (by decide), HTW.out hq])
          have gp3 := (hb3'.block _ (heap_lt gpW)).trans gpW
          have cp1 : w3.cell? ⟨w.heap.size, 1, none⟩ = some (.slice p.ca p.conds.length p.cc) := by rw [cells_of gp3]; rfl
          have hsz3 := callsIn_wide (n := 3 - 1).2 (HBt.out w3 hb3')
          have HSZ := Lib.hid hsz3
          clear HAC hb3 hb3' hsz3
          gi_wp2_with fail
          refine ⟨trivial, ?_⟩
          refine HSZ.out.mono ?_
          rintro e w4 ⟨rfl, hb4⟩
          have hb4' : Below W.heap.size W w4 := HB3.out.trans (hb4.mono HB3.out.size)
          have g14 := (hb4'.block _ (heap_lt g1W)).trans g1W
          have g24 := (hb4'.block _ (heap_lt g2W)).trans g2W
          have c14 : w4.cell? ⟨w.heap.size + 1, 0, none⟩ = some (.int .i64 0) := by rw [cells_of g14]; rfl
          have c24 : w4.cell? ⟨w.heap.size + 1 + 1, 0, none⟩ = some (.int .i64 0) := by rw [cells_of g24]; rfl
          have f14 : w4.frozen? ⟨w.heap.size + 1, 0, none⟩ = false := frozen_of g14
          have f24 : w4.frozen? ⟨w.heap.size + 1 + 1, 0, none⟩ = false := frozen_of g24
          have hK4 := (hb4'.block _ hDlt).trans HK.out
          have HB4 := Lib.hid hb4'
          clear hb4 hb4' HSZ
          gi_wp2_with fail
          obtain ⟨s1, s2⟩ := set_pair (by omega) (a := .int .i64 ((sizeL p.conds : Int) + (k : Int))) (b := .int .i64 9) g14 g24
          have hKs : ((w4.setCell ⟨w.heap.size + 1, 0, none⟩ (.int .i64 ((sizeL p.conds : Int) + (k : Int)))).setCell ⟨w.heap.size + 2, 0, none⟩ (.int .i64 9)).heap[D]? = some (.deferred (some [])) := (Below.heap_setCell _ _ _ _ (by show D ≠ w.heap.size + 2; omega)).trans ((Below.heap_setCell _ _ _ _ (by show D ≠ w.heap.size + 1; omega)).trans hK4)
          refine ⟨by simp, .inl ⟨_, _, rfl, run_takeDeferred hKs, ?_⟩⟩
          refine ⟨_, results_twocells rfl _ _ (w.heap.size + 1) (w.heap.size + 2) ((sizeL p.conds : Int) + (k : Int)) 9 rfl rfl (by rw [cells_of (box_putObj s1 hKs rfl)]; rfl) (by rw [cells_of (box_putObj s2 hKs rfl)]; rfl), ?_⟩
          exact ⟨by rw [HQ.out], (((HLOW.out.trans (HB4.out.mono hws)).setCell (by show w.heap.size ≤ w.heap.size + 1; omega) _).setCell (by show w.heap.size ≤ w.heap.size + 2; omega) _).trans (belowK_b (w := w) (Nat.le_refl _) _ D _ _ (by omega) hKs rfl rfl)⟩
      · obtain rfl : k = p.acts.length := by omega
        rw [List.take_length] at hall
        have HQ := Lib.hid (show shapeE p = (-1, 0) by rw [HS2.out, if_pos hall])
        have g1r := (hbr.block _ (heap_lt g1W)).trans g1W
        have g2r := (hbr.block _ (heap_lt g2W)).trans g2W
        have cr1 : wr.cell? ⟨w.heap.size + 1, 0, none⟩ = some (.int .i64 0) := by rw [cells_of g1r]; rfl
        have cr2 : wr.cell? ⟨w.heap.size + 1 + 1, 0, none⟩ = some (.int .i64 0) := by rw [cells_of g2r]; rfl
        have fr1 : wr.frozen? ⟨w.heap.size + 1, 0, none⟩ = false := frozen_of g1r
        have fr2 : wr.frozen? ⟨w.heap.size + 1 + 1, 0, none⟩ = false := frozen_of g2r
        have hKr := (hbr.block _ hDlt).trans HK.out
        have HBR := Lib.hid hbr
        clear hall hbr
        gi_wp2_with fail
        obtain ⟨s1, s2⟩ := set_pair (by omega) (a := .int .i64 (-1)) (b := .int .i64 0) g1r g2r
        have hKs : ((wr.setCell ⟨w.heap.size + 1, 0, none⟩ (.int .i64 (-1))).setCell ⟨w.heap.size + 2, 0, none⟩ (.int .i64 0)).heap[D]? = some (.deferred (some [])) := (Below.heap_setCell _ _ _ _ (by show D ≠ w.heap.size + 2; omega)).trans ((Below.heap_setCell _ _ _ _ (by show D ≠ w.heap.size + 1; omega)).trans hKr)
        refine ⟨by simp, .inl ⟨_, _, rfl, run_takeDeferred hKs, ?_⟩⟩
        refine ⟨_, results_twocells rfl _ _ (w.heap.size + 1) (w.heap.size + 2) (-1) 0 rfl rfl (by rw [cells_of (box_putObj s1 hKs rfl)]; rfl) (by rw [cells_of (box_putObj s2 hKs rfl)]; rfl), ?_⟩
        exact ⟨by rw [HQ.out], (((HLOW.out.trans (HBR.out.mono hws)).setCell (by show w.heap.size ≤ w.heap.size + 1; omega) _).setCell (by show w.heap.size ≤ w.heap.size + 2; omega) _).trans (belowK_b (w := w) (Nat.le_refl _) _ D _ _ (by omega) hKs rfl rfl)⟩
  case stop =>
    rintro D c pre r x W hD hx ⟨rfl, hlow, q, y, hq, hq1, hq2, k1, k2⟩ hK
    have hqq := List.append_inj' hq rfl
    obtain ⟨rfl, hqy⟩ := hqq
    obtain rfl : x = y := by simpa using hqy
    have HF := first_some hx hq1 hq2
    have HQ := Lib.hid (show shapeE p = ((x.1 : Int), xE x) by rw [HS1.out, HF, if_pos hq2])
    gi_wp2_with fail
    refine ⟨by simp, .inl ⟨_, _, rfl, run_takeDeferred hK, ?_⟩⟩
    refine ⟨_, results_twocells rfl _ _ (w.heap.size + 1) (w.heap.size + 2) (x.1 : Int) (xE x) rfl rfl (by rw [cells_of (box_putObj k1 hK rfl)]; rfl) (by rw [cells_of (box_putObj k2 hK rfl)]; rfl), ?_⟩
    exact ⟨by rw [HQ.out], hlow.trans (belowK_b (w := w) (Nat.le_refl _) W D _ _ (by omega) hK rfl rfl)⟩
end Go.Proofs.Ytccphigpobnjmaa
