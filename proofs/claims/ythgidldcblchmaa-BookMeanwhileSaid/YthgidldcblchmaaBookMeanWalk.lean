/-
  The walk of the law BookMeanwhile. No condition.
-/
import Derived.RangeFuncNested
import Derived.RangeFuncBound
import Derived.RangeFuncCalls
import Derived.RangeFuncLeaves
import Derived.Shelf.Abstract
import Derived.Shelf.RegionOpen
import Derived.WalkKit
import Derived.OwnWalkIn
import Derived.TacticsInMore
import Derived.LoopNIn
import Derived.LoopIn
import Derived.BigGuardIn
import Derived.Test.YthgidldcblchmaaKit3
import Derived.Test.YthgidldcblchmaaBookFilled
import Derived.Test.YthgidldcblchmaaBookDropP
import Derived.Test.YthgidldcblchmaaFromMP
import Derived.Test.YthgidldcblchmaaKitApp
import Derived.RangeFuncBox
import Derived.Stop.RegionWithIn
import Derived.Deep.RegionHeld3
namespace Go.Proofs.Ythgidldcblchmaa
set_option linter.unusedVariables false
open Go.RowKit Go.Shelf
attribute [local go_sem] Oper.semAt_some

theorem MapP.two {w w' : World} {b s : Nat} {xs : List Pr} (h : MapP w b s xs) (hk : KN 162 w w') (hb : w'.heap[b]? = w.heap[b]?) (hs : w'.heap[s]? = w.heap[s]?) : MapP w' b s xs := by
  obtain ⟨h1, p, T, h2, h3, h4, h5⟩ := h
  exact ⟨hb.trans h1, p, T, hs.trans h2, hk.tree h3, h4, h5⟩
theorem grown_below {W5 w3 wf : World} {s n : Nat} (h : W5.grownBy w3 (some s)) (hb : Below n w3 wf) (hn : W5.heap.size ≤ n) : W5.grownBy wf (some s) :=
  ⟨hb.os.trans h.os, hb.tape.trans h.tape, hb.output.trans h.output, Nat.le_trans h.size hb.size, fun i hi hne => (hb.block i (by omega)).trans (h.block i hi hne)⟩
theorem results_boolcell {fn : Func} {p : Tmp} (h : fn.results = #[.cell p 4]) (tmps : Array Value) (w : World) (g : Nat) (b : Bool)
    (hp : tmps.getD p undef = .pointer (some ⟨g, 0, none⟩)) (hc : w.cell? ⟨g, 0, none⟩ = some (.bool b)) :
    (results fn tmps).run Try.prog w = .ok (.bool b) w := by
  have hp' : tmps[p]?.getD undef = .pointer (some ⟨g, 0, none⟩) := by simpa using hp
  simp [results, h, hp', asAddr, loadVar, go_sem, hc]

theorem MapP.touched {w w' : World} {b s : Nat} {xs ys : List Pr} (h : MapP w b s xs) : s < w.heap.size := IsSet.lt h.2
theorem mapEx_own (b s : Nat) (f : List Pr → Nat) : Own (fun (pre : List Pr) W => ∃ qs : List Pr, qs.length ≤ f pre ∧ MapP W b s qs) := by
  rintro pre X Y row ⟨qs, h, hM⟩ hg hrow
  exact ⟨qs, h, map_own b s (fun _ : Unit => qs) () X Y row hM hg hrow⟩
theorem mean_long (w : World) (a : Option Addr) (n cap : Nat) (hn : n ≤ maxLen) (h : 60 < n) : Calls Try.prog 6 #[.slice a n cap] w fun e w' => e = .returned (.bool true) ∧ Below w.heap.size w w' := by
  unfold maxLen at hn
  have hd : decide (60 < (n : Int)) = true := by simp; omega
  obtain ⟨W2, hW2⟩ : ∃ W2, W2 = (w.alloc (.cells #[.slice a n cap] 44)).alloc (.cells #[.bool false] 4) := ⟨_, rfl⟩
  have hB : Below w.heap.size w W2 := by rw [hW2]; go_grown
  have hr : W2.heap[w.heap.size + 1]? = some (.cells #[.bool false] 4 (0, 0)) := by rw [hW2]; exact new_at (by simp)
  have HW := Lib.hid hW2
  have HB := Lib.hid hB
  have HR := Lib.hid hr
  clear hW2 hB hr
  refine callsIn_wide.1 (callsIn_of_wp_marks (n := 3) Try.func6 rfl trivial (wpIn_wide.2 ?_) rfl)
  simp only [Try.ntmps6, List.size_toArray, List.length_cons, List.length_nil, Nat.reduceAdd, Nat.reduceSub, Array.replicate_succ, Array.replicate_zero, List.push_toArray, List.append_toArray, List.nil_append, List.cons_append]
  go_wp2_with fail
  rw [← HW.out]
  refine (bwakes_any _).mono ?_
  rintro e w2 ⟨rfl, hb2⟩
  have hr2 := (hb2.block _ (heap_lt HR.out)).trans HR.out
  have c0 : w2.cell? ⟨w.heap.size + 1, 0, none⟩ = some (.bool false) := by rw [cells_of hr2]; rfl
  have f0 : w2.frozen? ⟨w.heap.size + 1, 0, none⟩ = false := frozen_of hr2
  have HR2 := Lib.hid hr2
  have HB2 := Lib.hid (HB.out.trans (hb2.mono HB.out.size))
  clear hr2 hb2
  go_wp2_with fail
  refine ⟨_, results_boolcell rfl _ _ (w.heap.size + 1) true rfl (by rw [cells_of (set_heap HR2.out)]; rfl), rfl, HB2.out.trans (belowg (gset _ _ _ _) HB2.out.size (by omega))⟩
set_option maxRecDepth 100000 in
set_option maxHeartbeats 16000000 in
theorem mean_walk (w : World) (a : Option Addr) (cap : Nat) (xs : List Sy) (hz : xs.length ≤ 60) (he : ∀ s, w.heap.size ≤ s → ListAt w s a xs) :
    Calls Try.prog 6 #[.slice a xs.length cap] w fun e w' => e = .returned (.bool true) ∧ Below w.heap.size w w' := by
  have hd0 : decide (60 < (xs.length : Int)) = false := by simp; omega
  obtain ⟨i0, hi, hi0, hi1, hi2⟩ := info_parts infoSP
  obtain ⟨j0, hj, hj0, hj1, hj2⟩ := info_parts infoIP
  obtain ⟨W2, hW2⟩ : ∃ W2, W2 = (w.alloc (.cells #[.slice a xs.length cap] 44)).alloc (.cells #[.bool false] 4) := ⟨_, rfl⟩
  have hB2 : Below w.heap.size w W2 := by rw [hW2]; go_grown
  have hz2 : W2.heap.size = w.heap.size + 2 := by rw [hW2]; simp
  have h1 : W2.heap[w.heap.size]? = some (.cells #[.slice a xs.length cap] 44 (0, 0)) := by rw [hW2]; exact (Below.heap_alloc _ _ _ (by simp)).trans (new_at rfl)
  have h2 : W2.heap[w.heap.size + 1]? = some (.cells #[.bool false] 4 (0, 0)) := by rw [hW2]; exact new_at (by simp)
  have hL2 : ∀ s, W2.heap.size ≤ s → ListAt W2 s a xs := fun s hs => (he s (by omega)).kc (KC.below hB2)
  have hfill := filled_any W2 a cap xs (by omega) hL2
  have hfl := fill_length xs xs.length
  obtain ⟨ps, hps⟩ : ∃ ps, ps = fillTo xs xs.length := ⟨_, rfl⟩
  rw [← hps] at hfill hfl
  have hpl : ps.length ≤ 60 := by omega
  have HFill := Lib.hid hfill
  have HW := Lib.hid hW2
  have HB2 := Lib.hid hB2
  have HZ2 := Lib.hid hz2
  have H1 := Lib.hid h1
  have H2 := Lib.hid h2
  have HL2 := Lib.hid hL2
  clear hfill hfl hps hW2 hB2 hz2 h1 h2 hL2 he
  refine callsIn_wide.1 (callsIn_of_wp_marks (n := 3) Try.func6 rfl trivial (wpIn_wide.2 ?_) rfl)
  simp only [Try.ntmps6, List.size_toArray, List.length_cons, List.length_nil, Nat.reduceAdd, Nat.reduceSub, Array.replicate_succ, Array.replicate_zero, List.push_toArray, List.append_toArray, List.nil_append, List.cons_append]
  go_wp2_with fail
  rw [← HW.out]
  refine HFill.out.mono ?_
  rintro e w3 ⟨b, s, B, rfl, hb3, hbo⟩
  obtain ⟨W4, hW4⟩ : ∃ W4, W4 = w3.alloc (.cells #[.pointer (some ⟨b, 0, none⟩)] 41) := ⟨_, rfl⟩
  obtain ⟨B3, hB3⟩ : ∃ B3, B3 = w3.heap.size := ⟨_, rfl⟩
  have hb4 : Below w3.heap.size w3 W4 := by rw [hW4]; go_grown
  have h3 : W4.heap[B3]? = some (.cells #[.pointer (some ⟨b, 0, none⟩)] 41 (0, 0)) := by rw [hW4, hB3]; exact new_at rfl
  have hbs : s < B3 ∧ w.heap.size + 2 ≤ s := by
    have h1 := MapP.touched hbo.1 (w' := w3) (ys := ps)
    have h2 := hbo.2.1
    have h3 := HZ2.out
    omega
  have c3 : W4.cell? ⟨B3, 0, none⟩ = some (.pointer (some ⟨b, 0, none⟩)) := by rw [cells_of h3]; rfl
  have hall := all_mapP W4 b s ps (hbo.1.mono hb4)
  have HAll := Lib.hid hall
  have HW4 := Lib.hid hW4
  have HB3e := Lib.hid hB3
  have H3 := Lib.hid h3
  have HBS := Lib.hid hbs
  have HBo := Lib.hid (hbo.mono hb4)
  have HB4 := Lib.hid (hb3.trans (hb4.mono hb3.size))
  clear hall hW4 hB3 h3 hbs hbo hb3 hb4 HFill
  go_wp2_with fail
  rw [← HW4.out, ← HB3e.out]
  refine HAll.out.mono ?_
  rintro e w5 ⟨Bl, Bt, rfl, hBl, hb5, hq1, hq2⟩
  have hef := eql_func_nilMP (.func 94) #[] #[.pointer (some ⟨Bl, 0, none⟩)]
  obtain ⟨W0, hW0⟩ : ∃ W0, W0 = (w5.alloc (.cells #[.slice none 0 0] 44)).alloc (.cells #[.slice none 0 0] 45) := ⟨_, rfl⟩
  obtain ⟨B6, hB6⟩ : ∃ B6, B6 = w5.heap.size := ⟨_, rfl⟩
  have hb0 : Below w5.heap.size w5 W0 := by rw [hW0]; go_grown
  have h6 : Boxed W0 B6 44 (.slice none 0 0) := by rw [hW0, hB6]; exact (Below.heap_alloc _ _ _ (by simp)).trans (new_at rfl)
  have h7 : Boxed W0 (B6 + 1) 45 (.slice none 0 0) := by rw [hW0, hB6]; exact new_at (by simp)
  have hz0 : W0.heap.size = B6 + 2 := by rw [hW0, hB6]; simp
  have HQ1 := Lib.hid hq1
  have HQ2 := Lib.hid hq2
  have HW0 := Lib.hid hW0
  have HB6e := Lib.hid hB6
  have HB5 := Lib.hid hb5
  have HB0 := Lib.hid hb0
  have H6 := Lib.hid h6
  have H7 := Lib.hid h7
  have HZ0 := Lib.hid hz0
  have HBl := Lib.hid hBl
  clear hq1 hq2 hW0 hB6 hb5 hb0 h6 h7 hz0 c3 HAll hBl
  go_wp2_with fail
  rw [← HW0.out, ← HB6e.out]
  clear hef
  obtain ⟨rp, rT, hroot0, -, -, -⟩ := HBo.out.1.2
  have h50 := HB4.out
  have hb5w : Below w.heap.size w w5 := ((HB2.out.trans (h50.mono HB2.out.size)).trans (HB5.out.mono (HB2.out.trans (h50.mono HB2.out.size)).size))
  have hB56 : b < B6 ∧ s < B6 ∧ B3 < B6 ∧ w.heap.size + 2 ≤ B6 := by
    have h1 := heap_lt HBo.out.1.1
    have h2 := HBS.out
    have h3 := heap_lt H3.out
    have h4 := HB5.out.size
    have h5 := HB6e.out
    omega
  -- what every world of the loop tells
  have hcw : ∀ V, w5.grownBy V (some s) → (V.cell? ⟨w.heap.size, 0, none⟩ = some (.slice a xs.length cap) ∧ V.cell? ⟨B3, 0, none⟩ = some (.pointer (some ⟨b, 0, none⟩)) ∧ V.heap[w.heap.size + 1]? = some (.cells #[.bool false] 4 (0, 0)) ∧ ∃ v1 v2, PlainAt V W2.heap.size B v1 v2 ps) ∧ ListAt V s a xs := fun V hg => by
    have hh := HBS.out
    have he6 := HB6e.out
    have hb6 := hB56
    have h1 : V.heap[w.heap.size]? = some (.cells #[.slice a xs.length cap] 44 (0, 0)) := (hg.block _ (by omega) (by simp; omega)).trans ((HB5.out.block _ (by have := HB4.out.size; have := heap_lt H1.out; omega)).trans ((HB4.out.block _ (heap_lt H1.out)).trans H1.out))
    have h2 : V.heap[w.heap.size + 1]? = some (.cells #[.bool false] 4 (0, 0)) := (hg.block _ (by omega) (by simp; omega)).trans ((HB5.out.block _ (by have := HB4.out.size; have := heap_lt H2.out; omega)).trans ((HB4.out.block _ (heap_lt H2.out)).trans H2.out))
    have h3 : V.heap[B3]? = some (.cells #[.pointer (some ⟨b, 0, none⟩)] 41 (0, 0)) := (hg.block _ (by omega) (by simp; omega)).trans ((HB5.out.block _ (heap_lt H3.out)).trans H3.out)
    obtain ⟨v1, v2, hP⟩ := HBo.out.2.2
    have hP5 := hP.mono HB5.out
    refine ⟨⟨by rw [cells_of h1]; rfl, by rw [cells_of h3]; rfl, h2, v1, v2, hP5.but hg (HBo.out.1.mono HB5.out).2⟩, ?_⟩
    have hl := HL2.out s (by have := HZ2.out; omega)
    exact (hl.kc (KC.below (HB4.out.trans (HB5.out.mono HB4.out.size)))).kc (KC.grown hg)
  have HCW := Lib.hid hcw
  have HB56 := Lib.hid hB56
  have HB5w := Lib.hid hb5w
  have hM0 : MapP W0 b s ps := (HBo.out.1.mono HB5.out).mono HB0.out
  have HM0 := Lib.hid hM0
  have hg0 : w5.grownBy W0 (some s) := gbelow HB0.out
  have HG0 := Lib.hid hg0
  clear hcw hB56 hb5w hM0 hg0 hroot0 h50 H1 H2 H3
  refine (wpIn_wide (n := 3)).1 ?_
  refine wpIn_rangeFunc_over rfl rfl (gf := 94) (lb := #[.pointer (some ⟨Bl, 0, none⟩)]) rfl trivial (enters_of Try.func94 (by kernel_rfl) rfl)
    (seq_mapP 2 W0 s ps Bl Bt ((HB0.out.block _ (heap_lt HQ1.out)).trans HQ1.out) ((HB0.out.block _ (heap_lt HQ2.out)).trans HQ2.out) HM0.out.2 (fun pre x => ∃ post, ps = pre ++ x :: post) (fun a x b h => ⟨b, h⟩)) (fun h k => KPP.trans h k) (fun W l o o' _ h hc _ => KPP.put W l o o' h hc) (Below.refl _ _) (fun _ => rfl)
    (fun pre V => w5.grownBy V (some s) ∧ ((∃ qs : List Pr, qs.length ≤ 1000 * (pre.length + 1) ∧ MapP V b s qs) ∧ ((∃ v, Boxed V B6 44 v ∧ V.ownsRow B6 27 3 v pre.length (pre.flatMap fun p => encS p.k) ∧ True) ∧ (∃ v, Boxed V (B6 + 1) 45 v ∧ V.ownsRow B6 3 1 v pre.length (pre.map fun p => .int .i64 p.v) ∧ True))))
    (fun _ _ _ => False)
    (OwnFrom.and (ownFrom_grown (by rw [HZ0.out, HB6e.out]; omega)) (Own.from (own_and (mapEx_own b s (fun pre => 1000 * (pre.length + 1))) (own_and (holdsRow_own B6 B6 44 27 3 (fun pre : List Pr => pre.length) (fun pre => pre.flatMap fun p => encS p.k) (fun _ _ => True)) (holdsRow_own B6 (B6 + 1) 45 3 1 (fun pre : List Pr => pre.length) (fun pre => pre.map fun p => .int .i64 p.v) (fun _ _ => True)))) _))
    (fun _ _ _ _ _ hs _ _ => hs) ⟨HG0.out, ⟨ps, by simp; omega, HM0.out⟩, ⟨_, H6.out, World.ownsRow_nil _ _ _ _, trivial⟩, ⟨_, H7.out, World.ownsRow_nil _ _ _ _, trivial⟩⟩
    (fun x a' V => ∃ Bx, V.heap[Bx]? = some (.cells #[.int .i64 x.k.k, .string x.k.t, .int .i64 x.k.n] 27 (0, 0)) ∧ a' = { tmps := #[.slice a xs.length cap, .pointer (some ⟨w.heap.size, 0, none⟩), .pointer (some ⟨w.heap.size + 1, 0, none⟩), .pointer (some ⟨B3, 0, none⟩), .pointer (some ⟨B, 0, none⟩), .func (.func 94) #[] #[.pointer (some ⟨Bl, 0, none⟩)], .pointer (some ⟨B6, 0, none⟩), .pointer (some ⟨B6 + 1, 0, none⟩), .pointer (some ⟨Bx, 0, none⟩), .int .i64 x.v, undef, .slice a xs.length cap, .int .i64 xs.length, .bool false, undef, .tuple #[.pointer (some ⟨b, 0, none⟩), .pointer (some ⟨B, 0, none⟩)], .slice a xs.length cap, .tuple #[.pointer (some ⟨b, 0, none⟩), .pointer (some ⟨B, 0, none⟩)], .pointer (some ⟨b, 0, none⟩), .pointer (some ⟨B, 0, none⟩), .pointer (some ⟨b, 0, none⟩), .bool false, .pointer (some ⟨b, 0, none⟩), .func (.func 94) #[] #[.pointer (some ⟨Bl, 0, none⟩)], .func (.func 94) #[] #[.pointer (some ⟨Bl, 0, none⟩)], .bool false, .func (.func 94) #[] #[.pointer (some ⟨Bl, 0, none⟩)], .agg #[.int .i64 x.k.k, .string x.k.t, .int .i64 x.k.n], .int .i64 x.v, undef, undef, undef, undef, undef, undef, undef, undef, undef, undef, undef, undef, undef, undef, undef, undef, undef, undef, undef, undef, undef, undef, undef, undef, undef, undef, undef, undef, undef, undef, undef, undef, undef, undef, undef, undef, undef, undef, undef, undef, undef, undef, undef, undef, undef, undef, undef, undef], defers := [] })
    (fun x a' => by
      rintro s X Y row ⟨Bx, h2, h3⟩ hg hrow
      exact ⟨Bx, kept_block h2 hg (fun r e => (hrow r e).2), h3⟩) ?assign ?body ?done ?stop
  case assign =>
    rintro l pre x V K ⟨hg, ⟨qs, hq, hM⟩, ⟨v1, hv1, hr1, -⟩, ⟨v2, hv2, hr2, -⟩⟩ hK
    have hsz := hg.size
    gi_wp2
    have hA := (Below.refl V.heap.size V).alloc (Nat.le_refl _) (.cells #[.int .i64 x.k.k, .string x.k.t, .int .i64 x.k.n] 27)
    exact hK _ _ ((KeepsOthers.alloc _ _).from _) ⟨KN.below hA, KN.below hA⟩ ⟨gtrans hg (gbelow hA), ⟨qs, hq, hM.mono hA⟩, ⟨v1, hv1.alloc _, hr1.alloc _, trivial⟩, ⟨v2, hv2.alloc _, hr2.alloc _, trivial⟩⟩ ⟨V.heap.size, new_at rfl, rfl⟩
  case body =>
    rintro l pre x a' W hl ⟨r, hr⟩ ⟨hg, ⟨qs, hq, hM⟩, ⟨v1, hv1, hr1, -⟩, ⟨v2, hv2, hr2, -⟩⟩ ⟨Bx, hx, rfl⟩ ⟨post, hp⟩
    have hlt : pre.length < ps.length := by have := congrArg List.length hp; simp at this; omega
    obtain ⟨p1, q1, rfl⟩ := row_form hr1
    obtain ⟨p2, q2, rfl⟩ := row_form hr2
    obtain ⟨rp, rT, hroot, -, -, -⟩ := hM.2
    have hxs : Bx ≠ s := by
      rintro rfl
      rw [hroot] at hx
      simp at hx
    obtain ⟨hB5a, hB5b, hB5c, hB5d⟩ := HB56.out
    have hsz : B6 ≤ W.heap.size := by have := hg.size; have := HB6e.out; omega
    have hcx : ∀ V, W.grownBy V (some s) → V.cell? ⟨Bx, 0, none⟩ = some (.int .i64 x.k.k) ∧ V.cell? ⟨Bx, 1, none⟩ = some (.string x.k.t) ∧ V.cell? ⟨Bx, 2, none⟩ = some (.int .i64 x.k.n) ∧ Boxed V B6 44 (.slice p1 pre.length q1) ∧ V.ownsRow B6 27 3 (.slice p1 pre.length q1) pre.length (pre.flatMap fun p => encS p.k) ∧ Boxed V (B6 + 1) 45 (.slice p2 pre.length q2) ∧ V.ownsRow B6 3 1 (.slice p2 pre.length q2) pre.length (pre.map fun p => .int .i64 p.v) := fun V h => by
      have hx2 := (h.block _ (heap_lt hx) (by simpa using hxs)).trans hx
      exact ⟨by rw [cells_of hx2]; rfl, by rw [cells_of hx2]; rfl, by rw [cells_of hx2]; rfl, hv1.kept h (by simp; omega), ownsRow_kn (KN.but h hroot (by decide)) hr1, hv2.kept h (by simp; omega), ownsRow_kn (KN.but h hroot (by decide)) hr2⟩
    have HCX := Lib.hid hcx
    have Hg := Lib.hid hg
    have HM := Lib.hid hM
    have HR0 := Lib.hid hroot
    clear hp hx hr hv1 hv2 hr1 hr2 hcx hg hM hroot
    gi_wp2_with fail
    gi_loopw [10] (fun i wr => ∃ k : Nat, k ≤ xs.length ∧ i = .int .i64 k ∧ Hid (W.grownBy wr (some s)) ∧ Hid (∃ qs : List Pr, qs.length ≤ 1000 * (pre.length + 1) + k ∧ MapP wr b s qs)) (fun i _ => xs.length - (intOf i).toNat)
    case atStart => exact ⟨0, Nat.zero_le _, rfl, Lib.hid (gbelow (Below.refl _ _)), Lib.hid ⟨qs, by omega, HM.out⟩⟩
    case round =>
      obtain ⟨k, hk, rfl, hgr, hI⟩ := hrel
      obtain ⟨rs, hrs, hMr⟩ := hI.out
      obtain ⟨⟨c1, c3, -, -⟩, hli⟩ := HCW.out wr (gtrans Hg.out hgr.out)
      by_cases hlk : k < xs.length
      · obtain ⟨bo, off, rfl, -, d0, d1, d2⟩ := hli k hlk
        have hki : (k : Int) < (xs.length : Int) := by omega
        generalize xs[k] = y at d0 d1 d2
        have hput := CallsIn.inRound l (callsIn_wide (n := 3 - 1 - 1 - 1).2 (put_mapP wr.drew b s ⟨y, -1⟩ rs (hMr.mono (Below.refl _ _).drew) (by omega)))
        have HPut := Lib.hid hput
        have hpl2 := put_length ⟨y, -1⟩ rs
        clear hput hMr hI hli
        gi_wp2_with fail
        gi_region_with (refine ⟨trivial, ?_⟩; gi_at_call 25; refine HPut.out.mono ?_; rintro e w3 ⟨q, rfl, hg3, hM3⟩)
        all_goals
          have hN : Hid (∃ qs : List Pr, qs.length ≤ 1000 * (pre.length + 1) + (k + 1) ∧ MapP w3 b s qs) := Lib.hid ⟨_, by omega, hM3⟩
          have hG3 : Hid (W.grownBy w3 (some s)) := Lib.hid (gtrans hgr.out (gtrans (gbelow (Below.refl _ _).drew) hg3))
          clear hg3 hM3 d0 d1 d2 c1 c3
          gi_wp2_with fail
          go_roundw
          case rel => exact ⟨k + 1, by omega, by go_num, hG3, hN⟩
          case measure => simp [intOf]; omega
      · obtain rfl : k = xs.length := by omega
        obtain ⟨x0, x1, x2, -, -, -, -⟩ := HCX.out wr hgr.out
        have hdrop := CallsIn.inRound l (callsIn_wide (n := 3 - 1 - 1 - 1).2 (drop_mapP wr b s x.k rs hMr (by omega) _ _ rfl rfl))
        have HDrop := Lib.hid hdrop
        have hput := fun V qs (h : MapP V b s qs) (hz : qs.length ≤ 1000000) => CallsIn.inRound l (callsIn_wide (n := 3 - 1 - 1 - 1).2 (put_mapP V b s ⟨⟨7, ⟨#[]⟩, pre.length⟩, 5⟩ qs h hz))
        have HPut := Lib.hid hput
        have hdl := del_length (c := cmpP) (⟨x.k, 0⟩ : Pr) rs
        have hgt : decide ((100 : Int) < (pre.length : Int) + 1) = false := by simp; omega
        have hsW : s < W.heap.size := by omega
        clear hdrop hput hMr hI hli
        gi_wp2_with (first
          | (refine ⟨trivial, ?_⟩; gi_at_call 27; refine HDrop.out.mono ?_; rintro e w3 ⟨rfl, hg3, hM3⟩; have HG3 : Hid (W.grownBy w3 (some s)) := Lib.hid (gtrans hgr.out hg3); have HM3 := Lib.hid hM3; clear x0 x1 x2 c1 c3; obtain ⟨x0, x1, x2, b6, -, -, -⟩ := HCX.out w3 HG3.out; obtain ⟨⟨-, c3, -, -⟩, -⟩ := HCW.out w3 (gtrans Hg.out HG3.out); have c6 := b6.cell; clear b6 hg3 hM3)
          | (refine ⟨trivial, ?_⟩; gi_at_call 25; refine (HPut.out w3 _ HM3.out (by omega)).mono ?_; rintro e w4 ⟨q, rfl, hg4, hM4⟩; have HG4 : Hid (W.grownBy w4 (some s)) := Lib.hid (gtrans HG3.out hg4); have HM4 := Lib.hid hM4; have hsz4 : B6 ≤ w4.heap.size := (Nat.le_trans hsz HG4.out.size); clear x0 x1 x2 c3 c6; obtain ⟨x0, x1, x2, b6, r6, b7, r7⟩ := HCX.out w4 HG4.out; have c6 := b6.cell; have c7 := b7.cell; have V1 := Lib.hid b6; have R1 := Lib.hid r6; have V2 := Lib.hid b7; have R2 := Lib.hid r7; clear b6 r6 b7 r7 hg4 hM4)
          | (gi_at_builtin; refine wpListIn_append_own _ rfl _ _ 44 rfl (B6) 27 i0 (.agg #[.int .i64 0, .string ⟨#[]⟩, .int .i64 0]) 3 32 Try.underlying44 hi hi0 hi1 hi2 rfl (by decide) _ _ _ rfl (R1.out.alloc _) ⟨w4.heap.size, 0, none⟩ 1 1 (encS x.k) rfl rfl (cell3_new _ _ _) (by simp [encS, Value.oneCell']) (by unfold maxLen; omega) (by omega) (by simp; omega) ?_; intro v' w1 hown' hgrow _; obtain ⟨g', cap', rfl⟩ := ownsRow_succ hown'; have hkn1 := appended_KN (v' := .slice (some ⟨g', 0, none⟩) (pre.length + 1) cap') (nt := 162) V1.out (by decide) (by decide) (by decide) R1.out hgrow; have hkn2 := appended_KN (v' := .slice (some ⟨g', 0, none⟩) (pre.length + 1) cap') (nt := 52) V1.out (by decide) (by decide) (by decide) R1.out hgrow; have hkn3 := appended_KN (v' := .slice (some ⟨g', 0, none⟩) (pre.length + 1) cap') (nt := 45) V1.out (by decide) (by decide) (by decide) R1.out hgrow; have hkn4 := appended_KN (v' := .slice (some ⟨g', 0, none⟩) (pre.length + 1) cap') (nt := 3) V1.out (by decide) (by decide) (by decide) R1.out hgrow; obtain ⟨hb1, hb2, hr2, hk2, hbb2⟩ := V1.out.appended (by decide) R1.out (by omega) (Nat.le_refl _) hown' hgrow; have hc1 := hb1.cell; have hf1 := hb1.frozen; have V1' := Lib.hid hb2; have R1' := Lib.hid hr2; have K1 := Lib.hid hk2; have BB1 := Lib.hid hbb2; have V2' := Lib.hid (hkn3 _ _ _ V2.out); have R2' := Lib.hid (ownsRow_kn hkn4 R2.out); have KNa := Lib.hid (⟨hkn1, hkn2⟩ : KPP w4 _); have c11' := (show Boxed _ _ _ _ from V2'.out).cell; have hsz1 : w4.heap.size ≤ w1.heap.size := (by have h := hbb2.size; simpa using h); have Hco : Hid (∀ j u, [Value.int .i64 x.v][j]? = some u → ((w1.setCell ⟨B6, 0, none⟩ (.slice (some ⟨g', 0, none⟩) (pre.length + 1) cap')).alloc (.cells #[.int .i64 x.v] 3)).cell? ((⟨w1.heap.size, 0, none⟩ : Addr).add j) = some u) := Lib.hid (by have h := cell_one_new (w1.setCell ⟨B6, 0, none⟩ (.slice (some ⟨g', 0, none⟩) (pre.length + 1) cap')) (.int .i64 x.v) 3; rw [show (w1.setCell ⟨B6, 0, none⟩ (.slice (some ⟨g', 0, none⟩) (pre.length + 1) cap')).heap.size = w1.heap.size by simp] at h; exact h); clear hkn1 hkn2 hkn3 hkn4 hb1 hb2 hr2 hk2 hbb2 hown' hgrow c6 c7 x0 x1 x2)
          | (gi_at_builtin; refine wpListIn_append_own _ rfl _ _ 45 rfl (B6) 3 j0 (.int .i64 0) 1 8 Try.underlying45 hj hj0 hj1 hj2 rfl (by decide) _ _ _ rfl (R2'.out.alloc _) ⟨w1.heap.size, 0, none⟩ 1 1 [.int .i64 x.v] rfl rfl Hco.out (by simp [Value.oneCell']) (by unfold maxLen; omega) (by omega) (by simp; omega) ?_; intro v'' w2 hown'' hgrow2 _; obtain ⟨g'', cap'', rfl⟩ := ownsRow_succ hown''; have hkn1 := appended_KN (v' := .slice (some ⟨g'', 0, none⟩) (pre.length + 1) cap'') (nt := 162) V2'.out (by decide) (by decide) (by decide) R2'.out hgrow2; have hkn2 := appended_KN (v' := .slice (some ⟨g'', 0, none⟩) (pre.length + 1) cap'') (nt := 52) V2'.out (by decide) (by decide) (by decide) R2'.out hgrow2; have hkn3 := appended_KN (v' := .slice (some ⟨g'', 0, none⟩) (pre.length + 1) cap'') (nt := 44) V2'.out (by decide) (by decide) (by decide) R2'.out hgrow2; have hkn4 := appended_KN (v' := .slice (some ⟨g'', 0, none⟩) (pre.length + 1) cap'') (nt := 27) V2'.out (by decide) (by decide) (by decide) R2'.out hgrow2; obtain ⟨hb1, hb2, hr2, hk2, hbb2⟩ := (show Boxed _ _ _ _ from V2'.out).appended (by decide) R2'.out (by simp; omega) (by omega) hown'' hgrow2; have hc2 := hb1.cell; have hf2 := hb1.frozen; have V1e := Lib.hid (hkn3 _ _ _ V1'.out); have R1e := Lib.hid (ownsRow_kn hkn4 R1'.out); have KNb := Lib.hid (⟨hkn1, hkn2⟩ : KPP _ _); have V2e := Lib.hid hb2; have R2e := Lib.hid hr2; have K2 := Lib.hid hk2; have BB2 := Lib.hid hbb2; have c6e := (show Boxed _ _ _ _ from V1e.out).cell; clear hkn1 hkn2 hkn3 hkn4 hb1 hb2 hr2 hk2 hbb2 hown'' hgrow2))
        have hpq := put_length (⟨⟨7, ⟨#[]⟩, pre.length⟩, 5⟩ : Pr) (del cmpP (⟨x.k, 0⟩ : Pr) rs)
        have hKN : KN 162 w4 _ := KNa.out.1.trans KNb.out.1
        have hBB := BB1.out.trans BB2.out
        refine ⟨(KeepsFrom.of_grownBy HG4.out (fun j e => by cases e; have := HZ0.out; omega)).trans ((K1.out.from _).trans (K2.out.from _)), KPP.trans ⟨KN.but HG4.out HR0.out (by decide), KN.but HG4.out HR0.out (by decide)⟩ (KPP.trans KNa.out KNb.out), grown_below (gtrans Hg.out HG4.out) hBB (by rw [HB6e.out]; exact Nat.le_refl _), ⟨_, ?_, MapP.two HM4.out hKN (hBB.block b hB5a) (hBB.block s hB5b)⟩, ⟨_, V1e.out, by simpa [List.flatMap_append] using R1e.out, trivial⟩, ⟨_, V2e.out, by simpa using R2e.out, trivial⟩⟩
        simp only [List.length_append, List.length_cons, List.length_nil]
        omega
  case done =>
    rintro D zs V hD rfl ⟨hg, -, ⟨v1, hv1, hr1, -⟩, ⟨v2, hv2, hr2, -⟩⟩ hK
    obtain ⟨⟨-, -, hrb, u1, u2, hP⟩, -⟩ := HCW.out V hg
    obtain ⟨p1, q1, rfl⟩ := row_form hr1
    obtain ⟨p2, q2, rfl⟩ := row_form hr2
    obtain ⟨a1, c1, a2, c2, rfl, rfl⟩ := hP.form
    obtain ⟨hB5a, hB5b, hB5c, hB5d⟩ := HB56.out
    have hVs : B6 ≤ V.heap.size := by have := hg.size; have := HB6e.out; omega
    have hBV : Below w.heap.size w V := HB5w.out.trans (belowg hg HB5w.out.size (by have := HBS.out.2; omega))
    rw [keys_flat] at hr1
    have e2 : (List.map (fun p : Pr => Value.int .i64 p.v) zs) = (zs.map Pr.v).map VI := vals_int zs
    have hs1 : SliceAt encS 3 V (.slice p1 zs.length q1) (keysL zs) := slice_own hr1 (keys_length zs).symm rfl
    have hs2 : SliceAt encS 3 V (.slice a1 zs.length c1) (keysL zs) := slice_own hP.2.2.1 (keys_length zs).symm rfl
    have hd1 : Reads V (.slice p2 zs.length q2) ((zs.map Pr.v).map VI) := reads_own (e2 ▸ hr2)
    have hd2 : Reads V (.slice a2 zs.length c2) ((zs.map Pr.v).map VI) := reads_own (base := W2.heap.size) (n := zs.length) (e := 3) (zs := zs.map Pr.v) (by rw [← e2]; exact hP.2.2.2)
    have hsy := fun V' (h : Below V.heap.size V V') => syms_self V' _ _ (keysL zs) (by simp; omega) (hs1.mono h) (hs2.mono h)
    have hin := fun V' (h : Below V.heap.size V V') => ints_any V' _ _ (zs.map Pr.v) (zs.map Pr.v) (hd1.mono h) (hd2.mono h) true (by simp)
    have hk : ∀ V', Below V.heap.size V V' → V'.cell? ⟨B6, 0, none⟩ = some (.slice p1 zs.length q1) ∧ V'.cell? ⟨B6 + 1, 0, none⟩ = some (.slice p2 zs.length q2) ∧ V'.cell? ⟨B, 0, none⟩ = some (.slice a1 zs.length c1) ∧ V'.cell? ⟨B, 1, none⟩ = some (.slice a2 zs.length c2) ∧ V'.cell? ⟨w.heap.size + 1, 0, none⟩ = some (.bool false) ∧ V'.frozen? ⟨w.heap.size + 1, 0, none⟩ = false := fun V' h => by
      have h1 : V'.heap[B]? = _ := (h.block _ hP.lt).trans hP.1
      have h2 := (h.block _ (heap_lt hrb)).trans hrb
      have h3 : V'.heap[B6]? = _ := (h.block _ hv1.lt).trans hv1
      have h4 : V'.heap[B6 + 1]? = _ := (h.block _ hv2.lt).trans hv2
      exact ⟨by rw [cells_of h3]; rfl, by rw [cells_of h4]; rfl, by rw [cells_of h1]; rfl, by rw [cells_of h1]; rfl, by rw [cells_of h2]; rfl, frozen_of h2⟩
    have hfin : ∀ V', Below V.heap.size V V' → D ≠ w.heap.size + 1 ∧ V'.heap[w.heap.size + 1]? = some (.cells #[.bool false] 4 (0, 0)) ∧ V'.heap[D]? = some (.deferred (some [])) ∧ Below w.heap.size w V' := fun V' h =>
      ⟨by have := HZ0.out; omega, (h.block _ (heap_lt hrb)).trans hrb, (h.block _ (Array.getElem?_eq_some_iff.1 hK).1).trans hK, hBV.trans (h.mono hBV.size)⟩
    have HSy := Lib.hid hsy
    have HIn := Lib.hid hin
    have HK := Lib.hid hk
    have hne6 : B6 ≠ w.heap.size + 1 ∧ B6 + 1 ≠ w.heap.size + 1 ∧ B ≠ w.heap.size + 1 := ⟨by omega, by omega, by
      have h1 := hP.2.1
      have h2 := HZ2.out
      omega⟩
    have HK4 := Lib.hid (fun V' (h : Below V.heap.size V V') => (⟨(hk V' h).1, (hk V' h).2.1, (hk V' h).2.2.1, (hk V' h).2.2.2.1⟩ : V'.cell? ⟨B6, 0, none⟩ = some (.slice p1 zs.length q1) ∧ V'.cell? ⟨B6 + 1, 0, none⟩ = some (.slice p2 zs.length q2) ∧ V'.cell? ⟨B, 0, none⟩ = some (.slice a1 zs.length c1) ∧ V'.cell? ⟨B, 1, none⟩ = some (.slice a2 zs.length c2)))
    have HKS : Hid (∀ V', Below V.heap.size V V' → (V'.setCell ⟨w.heap.size + 1, 0, none⟩ (.bool true)).cell? ⟨B6, 0, none⟩ = some (.slice p1 zs.length q1) ∧ (V'.setCell ⟨w.heap.size + 1, 0, none⟩ (.bool true)).cell? ⟨B6 + 1, 0, none⟩ = some (.slice p2 zs.length q2) ∧ (V'.setCell ⟨w.heap.size + 1, 0, none⟩ (.bool true)).cell? ⟨B, 0, none⟩ = some (.slice a1 zs.length c1) ∧ (V'.setCell ⟨w.heap.size + 1, 0, none⟩ (.bool true)).cell? ⟨B, 1, none⟩ = some (.slice a2 zs.length c2)) := Lib.hid (fun V' h => by
      have hb : ∀ i, i ≠ w.heap.size + 1 → (V'.setCell ⟨w.heap.size + 1, 0, none⟩ (.bool true)).heap[i]? = V'.heap[i]? := fun i hi => Below.heap_setCell _ _ _ _ hi
      obtain ⟨g1, g2, g3, g4, -⟩ := hk V' h
      exact ⟨(World.cell?_of_block (a := ⟨B6, 0, none⟩) (hb _ hne6.1)).trans g1, (World.cell?_of_block (a := ⟨B6 + 1, 0, none⟩) (hb _ hne6.2.1)).trans g2, (World.cell?_of_block (a := ⟨B, 0, none⟩) (hb _ hne6.2.2)).trans g3, (World.cell?_of_block (a := ⟨B, 1, none⟩) (hb _ hne6.2.2)).trans g4⟩)
    clear hne6
    have HFin := Lib.hid hfin
    have hDw : w.heap.size ≤ D := by have := HZ0.out; omega
    have hcur : Hid (Below V.heap.size V V.drew) := Lib.hid (Below.refl _ _).drew
    obtain ⟨k1, k2, k3, k4, k5, k6⟩ := hk V (Below.refl _ _)
    have hlw : w.heap.size + 1 < V.heap.size := by omega
    clear hsy hin hk hfin hs1 hs2 hd1 hd2 e2 hr1 hr2 hv1 hv2 hP hrb hK hg hBV hVs
    go_wp2_with fail
    go_region_held3 (fun w' => w'.cell? ⟨B6, 0, none⟩ = some (.slice p1 zs.length q1) ∧ w'.cell? ⟨B6 + 1, 0, none⟩ = some (.slice p2 zs.length q2) ∧ w'.cell? ⟨B, 0, none⟩ = some (.slice a1 zs.length c1) ∧ w'.cell? ⟨B, 1, none⟩ = some (.slice a2 zs.length c2))
      (first | exact HK4.out _ hcur.out | exact HKS.out _ hcur.out | go_keep)
      (first
        | (go_at_call 33; refine (HSy.out _ hcur.out).mono ?_; rintro e w6 ⟨rfl, h6⟩; replace hcur : Hid (Below V.heap.size V w6) := Lib.hid (hcur.out.trans (h6.mono hcur.out.size)); clear h6)
        | (go_at_call 34; refine (HIn.out _ hcur.out).mono ?_; rintro e w7 ⟨rfl, h7⟩; replace hcur : Hid (Below V.heap.size V w7) := Lib.hid (hcur.out.trans (h7.mono hcur.out.size)); clear h7)
        | (go_at_call 22; refine (bwakes_any _).mono ?_; rintro e w8 ⟨rfl, h8⟩; replace hcur : Hid (Below V.heap.size V w8) := Lib.hid (hcur.out.trans (h8.mono hcur.out.size)); have k5' := (HK.out w8 hcur.out).2.2.2.2.1; have k6' := (HK.out w8 hcur.out).2.2.2.2.2; have hl8 : w.heap.size + 1 < w8.heap.size := (Nat.lt_of_lt_of_le hlw hcur.out.size); clear h8))
    obtain ⟨hE, hb4, hKe, hBf⟩ := HFin.out w8 hcur.out
    go_wp2_with fail
    refine ⟨by simp, .inl ⟨_, _, rfl, run_takeDeferred ((Below.heap_setCell w8 _ _ _ hE).trans hKe), ?_⟩⟩
    refine ⟨_, results_boolcell rfl _ _ (w.heap.size + 1) true rfl (by rw [cells_of ((cells_own (w.heap.size + 1) (fun _ : Unit => #[Value.bool true]) 4).putObj (s := ()) _ (set_heap hb4) ((Below.heap_setCell w8 _ _ _ hE).trans hKe) rfl)]; rfl), rfl, ?_⟩
    exact (hBf.trans (belowg (gset _ _ _ _) hBf.size (by omega))).trans (belowK_b (w := w) (Nat.le_refl _) _ D _ _ hDw ((Below.heap_setCell w8 _ _ _ hE).trans hKe) rfl rfl)
  case stop =>
    rintro D c pre W _ _ h _
    exact h.elim
end Go.Proofs.Ythgidldcblchmaa
