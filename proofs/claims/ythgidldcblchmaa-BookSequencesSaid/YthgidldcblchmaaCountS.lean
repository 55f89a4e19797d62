/-
  Count of a list of symbols. No condition but a bound on sizes.
-/
import Derived.RangeFuncNested
import Derived.RangeFuncBound
import Derived.RangeFuncCalls
import Derived.RangeFuncLeaves
import Derived.Shelf.Abstract
import Derived.Shelf.RegionOpen
import Derived.WalkKit
import Derived.OwnWalkIn
import Derived.TacticsInMore
import Derived.LoopNIn
import Derived.LoopIn
import Derived.BigGuardIn
import Derived.Test.YthgidldcblchmaaKit3
import Derived.Test.YthgidldcblchmaaOfS
import Derived.Test.YthgidldcblchmaaBookPutP
import Derived.Test.YthgidldcblchmaaKitOwn
import Derived.RangeFuncBox
import Derived.Test.YthgidldcblchmaaKit5
namespace Go.Proofs.Ythgidldcblchmaa
set_option linter.unusedVariables false
open Go.RowKit Go.Shelf
attribute [local go_sem] Oper.semAt_some

theorem ownFrom_grown {β : Type} {B r : Nat} {w₀ : World} (hB : w₀.heap.size ≤ B) : OwnFrom B (fun (_ : β) W => w₀.grownBy W (some r)) :=
  fun _ X Y row hs hg hr => ⟨hg.os.trans hs.os, hg.tape.trans hs.tape, hg.output.trans hs.output, Nat.le_trans hs.size hg.size, fun i hi hne =>
    (hg.block i (Nat.lt_of_lt_of_le hi hs.size) (fun e => by have := (hr i e.symm).1; omega)).trans (hs.block i hi hne)⟩

theorem put_mapP (w : World) (b s : Nat) (x : Pr) (xs : List Pr) (h : MapP w b s xs) (hz : xs.length ≤ 1000000) :
    Calls Try.prog 25 #[.pointer (some ⟨b, 0, none⟩), .agg #[.int .i64 x.k.k, .string x.k.t, .int .i64 x.k.n], .int .i64 x.v] w fun e w' => ∃ q, e = .returned (.bool q) ∧ w.grownBy w' (some s) ∧ MapP w' b s (putLP x xs) := by
  cases ho : look cmpP x xs with
  | none =>
    have hn : has cmpP x xs = false := by rw [has_look, ho]; rfl
    refine (put_newP w b s x xs h hz hn).mono ?_
    rintro e w' ⟨rfl, h1, h2⟩
    exact ⟨_, rfl, h1, by unfold putLP; rw [ho]; exact h2⟩
  | some o =>
    refine (put_oldP w b s x o xs h hz ho).mono ?_
    rintro e w' ⟨rfl, h1, h2⟩
    exact ⟨_, rfl, h1, by unfold putLP; rw [ho]; exact h2⟩
theorem map_own {β : Type} (b s : Nat) (f : β → List Pr) : Own (fun (x : β) W => MapP W b s (f x)) := by
  rintro x X Y row ⟨h1, h2⟩ hg hrow
  exact ⟨kept_block h1 hg hrow, set_own _ _ _ _ s f x X Y row h2 hg hrow⟩
/-- One more of x. -/
def cntStep (ps : List Pr) (x : Sy) : List Pr := putLP ⟨x, ((look cmpP ⟨x, 0⟩ ps).getD zeroP).v + 1⟩ ps
def countL (xs : List Sy) : List Pr := xs.foldl cntStep []
theorem count_snoc (xs : List Sy) (x : Sy) : countL (xs ++ [x]) = cntStep (countL xs) x := by unfold countL; rw [List.foldl_append]; rfl
theorem put_length (x : Pr) (ps : List Pr) : (putLP x ps).length ≤ ps.length + 1 := by
  unfold putLP
  cases look cmpP x ps with
  | none => exact ins_length (c := cmpP) x ps
  | some o =>
    have h1 := ins_length (c := cmpP) (⟨o.k, x.v⟩ : Pr) (del cmpP x ps)
    have h2 := List.length_filter_le (fun y => cmpP x y != 0) ps
    show (ins cmpP _ (del cmpP x ps)).length ≤ _
    have h3 : (del cmpP x ps).length ≤ ps.length := h2
    omega
theorem put_mem {x p : Pr} {ps : List Pr} (h : p ∈ putLP x ps) : p.v = x.v ∨ p ∈ ps := by
  unfold putLP at h
  cases ho : look cmpP x ps with
  | none =>
    rw [ho] at h
    rcases mem_ins h with rfl | h
    · exact .inl rfl
    · exact .inr h
  | some o =>
    rw [ho] at h
    rcases mem_ins h with rfl | h
    · exact .inl rfl
    · exact .inr (List.mem_filter.1 (show p ∈ List.filter _ _ from h)).1
theorem look_bound {x : Pr} {ps : List Pr} {n : Int} (hn : 0 ≤ n) (h : ∀ p ∈ ps, 0 ≤ p.v ∧ p.v ≤ n) : 0 ≤ ((look cmpP x ps).getD zeroP).v ∧ ((look cmpP x ps).getD zeroP).v ≤ n := by
  cases ho : look cmpP x ps with
  | none => exact ⟨by show (0 : Int) ≤ 0; omega, by show (0 : Int) ≤ n; omega⟩
  | some o => exact h o (List.mem_of_find?_eq_some ho)
theorem count_bounds : ∀ (xs : List Sy) (ps : List Pr) (n : Nat), (∀ p ∈ ps, 0 ≤ p.v ∧ p.v ≤ (n : Int)) → (∀ p ∈ xs.foldl cntStep ps, 0 ≤ p.v ∧ p.v ≤ ((n + xs.length : Nat) : Int)) ∧ (xs.foldl cntStep ps).length ≤ ps.length + xs.length
  | [], ps, n, h => ⟨h, by simp⟩
  | x :: xs, ps, n, h => by
    have hb := look_bound (x := ⟨x, 0⟩) (by omega : (0 : Int) ≤ (n : Int)) h
    have ih := count_bounds xs (cntStep ps x) (n + 1) (fun p hp => by
      rcases put_mem hp with e | hp
      · have e : p.v = ((look cmpP ⟨x, 0⟩ ps).getD zeroP).v + 1 := e
        omega
      · have := h p hp; omega)
    have hl := put_length ⟨x, ((look cmpP ⟨x, 0⟩ ps).getD zeroP).v + 1⟩ ps
    refine ⟨fun p hp => ?_, ?_⟩
    · have := ih.1 p hp
      simp only [List.length_cons]; omega
    · have h2 := ih.2
      have h3 : (cntStep ps x).length ≤ ps.length + 1 := hl
      simp only [List.foldl_cons, List.length_cons]; omega
theorem count_bound (xs : List Sy) : (∀ p ∈ countL xs, 0 ≤ p.v ∧ p.v ≤ (xs.length : Int)) ∧ (countL xs).length ≤ xs.length := by
  have h := count_bounds xs [] 0 (by simp)
  refine ⟨fun p hp => ?_, ?_⟩
  · have := h.1 p hp; rw [Nat.zero_add] at this; exact this
  · have h2 := h.2; unfold countL; simpa using h2
def CountOut (w : World) (xs : List Sy) (e : Ending) (w' : World) : Prop := ∃ b s, e = .returned (.pointer (some ⟨b, 0, none⟩)) ∧ Below w.heap.size w w' ∧ MapP w' b s (countL xs)
set_option maxRecDepth 100000 in
set_option maxHeartbeats 8000000 in
theorem count_any (w : World) (Bt cap : Nat) (a : Option Addr) (xs : List Sy) (hz : xs.length ≤ 1000) (hBt : w.heap[Bt]? = some (.cells #[.slice a xs.length cap] 44 (0, 0))) (he : ∀ s, w.heap.size ≤ s → ListAt w s a xs) :
    Calls Try.prog 48 #[.func (.func 80) #[] #[.pointer (some ⟨Bt, 0, none⟩)]] w (CountOut w xs) := by
  have HE := Lib.hid he
  have HBt := Lib.hid hBt
  have hBl := heap_lt hBt
  clear he hBt
  refine callsIn_wide.1 (callsIn_of_wp_marks (n := 3) Try.func48 rfl trivial (wpIn_wide.2 ?_) rfl)
  simp only [Try.ntmps48, List.size_toArray, List.length_cons, List.length_nil, Nat.reduceAdd, Nat.reduceSub, Array.replicate_succ, Array.replicate_zero, List.push_toArray, List.append_toArray, List.nil_append, List.cons_append]
  go_wp2_with fail
  refine (new_mapP _).mono ?_
  rintro e w1 ⟨bm, s, rfl, hs, hsb, ba, hm⟩
  obtain ⟨W0, hW0⟩ : ∃ W0, W0 = w1.alloc (.cells #[.pointer (some ⟨bm, 0, none⟩)] 41) := ⟨_, rfl⟩
  obtain ⟨B3, hB3⟩ : ∃ B3, B3 = w1.heap.size := ⟨_, rfl⟩
  have HW0 := Lib.hid hW0
  have HB3 := Lib.hid hB3
  go_wp2_with fail
  rw [← HW0.out, ← HB3.out]
  have hm := Lib.hid hm
  have ba := Lib.hid ba
  have b01 : Below w1.heap.size w1 W0 := by rw [hW0]; go_grown
  have hb3 : Hid (W0.heap[B3]? = some (.cells #[.pointer (some ⟨bm, 0, none⟩)] 41 (0, 0))) := Lib.hid (by rw [hW0, hB3]; exact new_at rfl)
  have hm0 := Lib.hid (MapP.mono hm.out b01)
  have hbl : bm < w1.heap.size := heap_lt hm.out.1
  have hs3 : s < B3 := by omega
  have hz0 : W0.heap.size = B3 + 1 := by rw [hW0, hB3]; simp
  have bb0 := Lib.hid (ba.out.trans (b01.mono ba.out.size))
  have hB0 := Lib.hid ((b01.block _ (Nat.lt_of_lt_of_le hBl ba.out.size)).trans ((ba.out.block _ hBl).trans HBt.out))
  have hL0 := Lib.hid ((HE.out s hs).kc (KC.below bb0.out))
  clear hW0 hB3 b01
  have hL0 : Hid (ListAt W0 s a xs) := Lib.hid (by
    have h1 := HE.out s hs
    exact h1.kc (fun p v hp hv => (bb0.out.cell (p := p) (World.block_lt_of_cell? w p hv)).trans hv))
  refine (wpIn_wide (n := 3)).1 ?_
  refine wpIn_rangeFunc_ownH rfl (by omega) (gf := 80) (lb := #[.pointer (some ⟨Bt, 0, none⟩)]) rfl trivial (enters_of Try.func80 (by kernel_rfl) rfl)
    (of_stopsS 2 Bt s cap a xs (by omega) W0 hB0.out (by omega) hL0.out) (fun h k => KC.trans h k) (fun W l o o' _ h hc _ => KC.put _ W l o o' h hc) (Below.refl _ _) (fun _ => rfl)
    (fun pre W => W0.grownBy W (some s) ∧ MapP W bm s (countL pre))
    (fun _ _ _ => False)
    (OwnFrom.and (ownFrom_grown (Nat.le_refl _)) (Own.from (map_own bm s countL) _))
    (fun _ _ _ _ _ hs _ _ => hs)
    ⟨gbelow (Below.refl _ _), hm0.out⟩
    (fun x a' W => ∃ Bx, W.heap[Bx]? = some (.cells #[.int .i64 x.k, .string x.t, .int .i64 x.n] 27 (0, 0)) ∧ a' = { tmps := #[.func (.func 80) #[] #[.pointer (some ⟨Bt, 0, none⟩)], undef, .pointer none, .pointer (some ⟨B3, 0, none⟩), .pointer (some ⟨Bx, 0, none⟩), undef, undef, .pointer (some ⟨bm, 0, none⟩), .func (.func 80) #[] #[.pointer (some ⟨Bt, 0, none⟩)], .agg #[.int .i64 x.k, .string x.t, .int .i64 x.n], undef, undef, undef, undef, undef, undef, undef, undef, undef, undef, undef, undef], defers := [] })
    (fun x a' => by
      rintro s X Y row ⟨Bx, h2, h3⟩ hg hrow
      exact ⟨Bx, kept_block h2 hg (fun r e => (hrow r e).2), h3⟩) ?assign ?body ?done ?stop
  case assign =>
    rintro l pre x W K ⟨hg, hM⟩ hK
    have hsz := hg.size
    gi_wp2
    have hA := (Below.refl W.heap.size W).alloc (Nat.le_refl _) (.cells #[.int .i64 x.k, .string x.t, .int .i64 x.n] 27)
    exact hK _ _ ((KeepsOthers.alloc _ _).from _) (KC.below hA) ⟨gtrans hg (gbelow hA), MapP.mono hM hA⟩ ⟨W.heap.size, new_at rfl, rfl⟩
  case body =>
    rintro l pre x a' W hl ⟨r, hr⟩ ⟨hg, hM⟩ ⟨Bx, hx, rfl⟩ hlt
    have hb3' := (hg.block _ (heap_lt hb3.out) (by simp; omega)).trans hb3.out
    obtain ⟨rp, rT, hroot, -, -, -⟩ := hM.2
    have hxs : Bx ≠ s := by
      rintro rfl
      rw [hroot] at hx
      simp at hx
    have c3 : W.cell? ⟨B3, 0, none⟩ = some (.pointer (some ⟨bm, 0, none⟩)) := by rw [cells_of hb3']; rfl
    have x0 : W.cell? ⟨Bx, 0, none⟩ = some (.int .i64 x.k) := by rw [cells_of hx]; rfl
    have x1 : W.cell? ⟨Bx, 1, none⟩ = some (.string x.t) := by rw [cells_of hx]; rfl
    have x2 : W.cell? ⟨Bx, 2, none⟩ = some (.int .i64 x.n) := by rw [cells_of hx]; rfl
    obtain ⟨hcb, hcl⟩ := count_bound pre
    obtain ⟨z, hzz⟩ : ∃ z, z = (look cmpP ⟨x, 0⟩ (countL pre)).getD zeroP := ⟨_, rfl⟩
    obtain ⟨ok, hok⟩ : ∃ ok, ok = (look cmpP (⟨x, 0⟩ : Pr) (countL pre)).isSome := ⟨_, rfl⟩
    obtain ⟨q1, q2⟩ := look_bound (x := ⟨x, 0⟩) (by omega) hcb
    rw [← hzz] at q1 q2
    have hstep : countL (pre ++ [x]) = putLP ⟨x, z.v + 1⟩ (countL pre) := by rw [count_snoc, hzz]; rfl
    have hget := CallsIn.inRound l (callsIn_wide (n := 3 - 1 - 1 - 1).2 (get_mapP W bm s x (countL pre) hM z ok hzz hok))
    have hput := fun w2 (hb : Below W.heap.size W w2) => CallsIn.inRound l (callsIn_wide (n := 3 - 1 - 1 - 1).2 (put_mapP w2 bm s ⟨x, z.v + 1⟩ (countL pre) (MapP.mono hM hb) (by omega)))
    have Hg := Lib.hid hg
    have Hget := Lib.hid hget
    have Hput := Lib.hid hput
    have Hst := Lib.hid hstep
    have Hx := Lib.hid hx
    have Hb3 := Lib.hid hb3'
    have Hr := Lib.hid hr
    have Hn := Lib.hid (⟨hxs, by omega⟩ : Bx ≠ s ∧ s < W0.heap.size)
    have hz1 : z.v + 1 ≤ 2000 := by omega
    clear hget hput hstep hx hb3' hg hM hroot hcb hcl hzz hok hr hxs
    gi_wp2_with (first
      | (refine ⟨trivial, ?_⟩; gi_at_call 29; refine Hget.out.mono ?_; rintro e w2 ⟨rfl, hb2⟩; have HB2 := Lib.hid hb2; have hx2 := (hb2.block _ (heap_lt Hx.out)).trans Hx.out; have y0 : w2.cell? ⟨Bx, 0, none⟩ = some (.int .i64 x.k) := (by rw [cells_of hx2]; rfl); have y1 : w2.cell? ⟨Bx, 1, none⟩ = some (.string x.t) := (by rw [cells_of hx2]; rfl); have y2 : w2.cell? ⟨Bx, 2, none⟩ = some (.int .i64 x.n) := (by rw [cells_of hx2]; rfl); clear hx2; have c32 : w2.cell? ⟨B3, 0, none⟩ = some (.pointer (some ⟨bm, 0, none⟩)) := (by rw [cells_of ((hb2.block _ (heap_lt Hb3.out)).trans Hb3.out)]; rfl); clear hb2)
      | (refine ⟨trivial, ?_⟩; gi_at_call 25; refine (Hput.out _ HB2.out).mono ?_; rintro e w3 ⟨q, rfl, hg3, hm3⟩))
    have hgW : W.grownBy w3 (some s) := gtrans (gbelow HB2.out) hg3
    exact ⟨KeepsFrom.of_grownBy hgW (fun j e => by cases e; have := Hn.out.2; omega), KC.grown hgW, gtrans Hg.out hgW, by rw [Hst.out]; exact hm3⟩
  case done =>
    rintro D ys W hD rfl ⟨hg, hM⟩ hK
    have c3 : W.cell? ⟨B3, 0, none⟩ = some (.pointer (some ⟨bm, 0, none⟩)) := by rw [cells_of ((hg.block _ (heap_lt hb3.out) (by simp; omega)).trans hb3.out)]; rfl
    go_wp2_with fail
    refine ⟨by simp, .inl ⟨_, _, rfl, run_takeDeferred hK, ?_⟩⟩
    refine ⟨_, results_tmp rfl _ _ _, bm, s, rfl, ?_, ?_⟩
    · exact (bb0.out.trans (belowg hg bb0.out.size (by omega))).trans (belowK_b (w := w) (Nat.le_refl _) W D _ _ (by have := bb0.out.size; omega) hK rfl rfl)
    · exact map_own bm s countL _ _ _ (some D) hM (grownBy_putObj' W D _) (fun r e => by cases e; exact ⟨_, hK, rfl⟩)
  case stop =>
    rintro D c pre W _ _ h _
    exact h.elim
end Go.Proofs.Ythgidldcblchmaa
