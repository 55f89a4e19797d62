/-
  Package shape: Size and exceeds, over walk. No condition but bounds on how many conditions there are.
-/
import Derived.Test.YtccphigpobnjmaaShWalk
import Derived.Test.YtccphigpobnjmaaKitOwn
namespace Go.Proofs.Ytccphigpobnjmaa
set_option linter.unusedVariables false
open Go.RowKit Go.Shelf
attribute [local go_sem] Oper.semAt_some
theorem flat_len0 (cs : List Co) : (flatL cs 0 0).length = sizeL cs := flat_len cs 0 0
/-- A loop's words about one boxed number. -/
def BoxI (w : World) (B base : Nat) (f : List Xc → Int) (pre : List Xc) (W : World) : Prop := W.heap[B]? = some (.cells #[.int .i64 (f pre)] 3 (0, 0)) ∧ Below w.heap.size w W ∧ base ≤ W.heap.size
theorem boxI_loop {w : World} {B base : Nat} {f : List Xc → Int} (hB : w.heap.size ≤ B) (hb : w.heap.size ≤ base) : LoopI (OBoxW B) (GBox B w.heap.size) w base (BoxI w B base f) where
  own := fun pre X Y row h hg hr => ⟨kept_block h.1 hg (fun r e => (hr r e).2), h.2.1.trans ⟨hg.os, hg.tape, hg.output, hg.size, fun k hk => hg.block k (by have := h.2.1.size; omega) (fun e => by have := (hr k e.symm).1; omega)⟩, Nat.le_trans h.2.2 hg.size⟩
  set := fun pre X a v h ha hn => ⟨(Below.heap_setCell _ _ _ _ (fun e => hn (.inl e.symm))).trans h.1, h.2.1.setCell (by omega) _, by simpa using h.2.2⟩
  good := fun pre X h => ⟨⟨_, by rw [cells_of h.1]; rfl⟩, h.2.1.size, fun k ho => by
    rcases ho with rfl | ⟨v, h1, h2⟩
    · exact heap_lt h.1
    · rw [cells_of h.1] at h1; cases h1; simp [Value.ownBlock] at h2⟩
  low := fun pre X h => h.2.1
  base := fun pre X h => h.2.2
theorem kv_box_set {B B0 : Nat} {W : World} {u v : Value} {T : TypeId} (hB : B0 ≤ B) (h : W.heap[B]? = some (.cells #[u] T (0, 0))) (hv : v.ownBlock = none) : KV (OBoxW B) (GBox B B0) B0 W (W.setCell ⟨B, 0, none⟩ v) := by
  have h1 := set_heap (u := v) h
  have ho : ∀ k, OBoxW B (W.setCell ⟨B, 0, none⟩ v) k → k = B := fun k ho => by
    rcases ho with ho | ⟨x, h2, h3⟩
    · exact ho
    · rw [cells_of h1] at h2; simp at h2; subst h2; rw [hv] at h3; cases h3
  refine ⟨by simp, fun g => ⟨⟨v, by rw [cells_of h1]; rfl⟩, by simpa using g.2.1, fun k hk => by rw [ho k hk]; exact heap_lt h1⟩, fun _ k c t f hk hn => (Below.heap_setCell _ _ _ _ (fun e => hn (.inl e))).trans hk, fun _ k _ hk => .inl (ho k hk), (Below.refl _ _).setCell hB _⟩
set_option maxRecDepth 100000 in
set_option maxHeartbeats 4000000 in
theorem size_any (cs : List Co) (hz : sizeL cs ≤ 500000) (A : Option Addr) (cap : Nat) (w : World) (hA : CondsAt w A cs) : Calls Try.prog 26 #[.slice A cs.length cap] w fun e w' => e = .returned (.int .i64 (sizeL cs)) ∧ Below w.heap.size w w' := by
  refine (callsIn_wide (n := 3)).1 ?_
  refine callsIn_of_wp_marks Try.func26 rfl trivial ?_ rfl
  simp only [Try.ntmps26, List.size_toArray, List.length_cons, List.length_nil, Nat.reduceAdd, Nat.reduceSub, Array.replicate_succ, Array.replicate_zero, List.push_toArray, List.append_toArray, List.nil_append, List.cons_append]
  gi_wp2_with fail
  refine ⟨trivial, ?_⟩
  refine (callsIn_wide (n := 3 - 1).2 (walk_any _ _ _ _)).mono ?_
  rintro e w1 ⟨rfl, rfl⟩
  obtain ⟨W0, hW0⟩ : ∃ W0, W0 = (w.alloc (.cells #[.int .i64 0] 3)).alloc (.cells #[.slice A cs.length cap] 22) := ⟨_, rfl⟩
  have hB1 : Below w.heap.size w W0 := by rw [hW0]; exact ((Below.refl _ w).alloc (Nat.le_refl _) _).alloc (by simp) _
  have hbox : W0.heap[w.heap.size]? = some (.cells #[.int .i64 0] 3 (0, 0)) := by rw [hW0]; exact (Below.heap_alloc _ _ _ (by simp)).trans (new_at rfl)
  have hBt : W0.heap[w.heap.size + 1]? = some (.cells #[.slice A cs.length cap] 22 (0, 0)) := by rw [hW0]; exact new_at (by simp)
  gi_wp2_with fail
  rw [← hW0]
  clear hW0
  refine wpIn_walk (w0 := w) (Bt := w.heap.size + 1) rfl (owns_box w.heap.size w.heap.size) hz hA hBt rfl (BoxI w w.heap.size W0.heap.size (fun pre => pre.length)) (fun _ _ _ => False) (boxI_loop (Nat.le_refl _) hB1.size) (fun _ _ _ _ _ h _ _ => h) ⟨hbox, hB1, Nat.le_refl _⟩
    (fun x a' _ => a' = { tmps := #[.slice A cs.length cap, undef, .int .i64 0, .pointer (some ⟨w.heap.size, 0, none⟩), .slice A cs.length cap, .func (.func 64) #[] #[.pointer (some ⟨w.heap.size + 1, 0, none⟩)], .agg #[.int .i64 (x.1 : Int), .int .i64 (x.2.1 : Int)], .agg #[.int .i64 x.2.2.h.kind, .bool x.2.2.h.goal, .string x.2.2.h.id, .slice x.2.2.h.aa x.2.2.h.attr.length x.2.2.h.ac, .slice x.2.2.h.va x.2.2.h.value.length x.2.2.h.vc, .bool x.2.2.h.acc, .slice x.2.2.h.ca x.2.2.l.length x.2.2.h.cc], undef, undef, undef], defers := [] }) (fun x a' s X Y row h _ _ => h) ?assign ?body ?done ?stop
  case assign =>
    rintro l pre r x W K hx hI hK
    unfold encX
    gi_wp2_with fail
    exact hK _ _ (KeepsFrom.refl _ _) (Below.refl _ _) (by simp)
  case body =>
    rintro l pre r x a' W hl hr hx hI rfl
    have hlen : pre.length ≤ 500000 := by have h1 := flat_len0 cs; rw [hx, List.length_append, List.length_cons] at h1; omega
    have c0 : W.cell? ⟨w.heap.size, 0, none⟩ = some (.int .i64 (pre.length : Int)) := by rw [cells_of hI.1]; rfl
    have f0 : W.frozen? ⟨w.heap.size, 0, none⟩ = false := frozen_of hI.1
    gi_wp2_with fail
    exact ⟨(KeepsOthers.setCell _ _ _).from _, kv_box_set (Nat.le_refl _) hI.1 rfl, by rw [set_heap hI.1]; simp, hI.2.1.setCell (Nat.le_refl _) _, by simpa using hI.2.2⟩
  case done =>
    rintro D W hD hI hK
    have c0 : W.cell? ⟨w.heap.size, 0, none⟩ = some (.int .i64 (sizeL cs : Int)) := by rw [cells_of hI.1]; simp [flat_len0]
    gi_wp2_with fail
    refine ⟨by simp, .inl ⟨_, _, rfl, run_takeDeferred hK, ?_⟩⟩
    exact ⟨_, results_tmp rfl _ _ _, rfl, hI.2.1.trans (belowK_b (w := w) (Nat.le_refl _) W D _ _ (by have := hB1.size; omega) hK rfl rfl)⟩
  case stop =>
    rintro D c pre r x W _ _ h _
    exact h.elim
/-- A loop's words about one box that holds no row of its own: what lay at the loop's beginning stays besides. -/
def BoxV (w W0 : World) (B T : Nat) (f : List Xc → Value) (P : List Xc → Prop) (pre : List Xc) (W : World) : Prop :=
  W.heap[B]? = some (.cells #[f pre] T (0, 0)) ∧ (∀ k, k < W0.heap.size → k ≠ B → W.heap[k]? = W0.heap[k]?) ∧ Below w.heap.size w W ∧ W0.heap.size ≤ W.heap.size ∧ P pre
theorem BoxV.own {w W0 : World} {B T : Nat} {f : List Xc → Value} {P : List Xc → Prop} (hb : w.heap.size ≤ W0.heap.size) : OwnFrom W0.heap.size (BoxV w W0 B T f P) := fun pre X Y row h hg hr =>
  ⟨kept_block h.1 hg (fun r e => (hr r e).2), fun k hk hn => (hg.block k (Nat.lt_of_lt_of_le hk h.2.2.2.1) (fun e => by have := (hr k e.symm).1; omega)).trans (h.2.1 k hk hn), h.2.2.1.trans ⟨hg.os, hg.tape, hg.output, hg.size, fun k hk => hg.block k (by have := h.2.2.1.size; omega) (fun e => by have := (hr k e.symm).1; omega)⟩, Nat.le_trans h.2.2.2.1 hg.size, h.2.2.2.2⟩
theorem boxV_loop {w W0 : World} {B T : Nat} {f : List Xc → Value} {P : List Xc → Prop} (hb : w.heap.size ≤ W0.heap.size) (hf : ∀ pre, (f pre).ownBlock = none) : LoopI (OBoxW B) (GBox B w.heap.size) w W0.heap.size (BoxV w W0 B T f P) where
  own := BoxV.own hb
  set := fun pre X a v h ha hn => ⟨(Below.heap_setCell _ _ _ _ (fun e => hn (.inl e.symm))).trans h.1, fun k hk hne => (Below.heap_setCell _ _ _ _ (by omega)).trans (h.2.1 k hk hne), h.2.2.1.setCell (by omega) _, by simpa using h.2.2.2.1, h.2.2.2.2⟩
  good := fun pre X h => ⟨⟨_, by rw [cells_of h.1]; rfl⟩, h.2.2.1.size, fun k ho => by
    rcases ho with rfl | ⟨v, h1, h2⟩
    · exact heap_lt h.1
    · rw [cells_of h.1] at h1; simp at h1; subst h1; rw [hf] at h2; cases h2⟩
  low := fun pre X h => h.2.2.1
  base := fun pre X h => h.2.2.2.1
theorem BoxV.grow {w W0 : World} {B T : Nat} {f : List Xc → Value} {P : List Xc → Prop} (hb : w.heap.size ≤ W0.heap.size) {pre : List Xc} {X Y : World} (h : BoxV w W0 B T f P pre X) (hg : Below X.heap.size X Y) : BoxV w W0 B T f P pre Y := BoxV.own hb pre X Y none h (Below.grownN hg) (by simp)
theorem flat_fst : ∀ (cs : List Co) (n d : Nat), (flatL cs n d).map (fun x => x.1) = List.range' n (sizeL cs)
  | [], _, _ => by simp [flatL, sizeL]
  | .mk h m :: l, n, d => by
    have h1 := flat_fst m (n + 1) (d + 1)
    have h2 := flat_fst l (n + 1 + sizeL m) d
    simp only [flatL, sizeL, List.map_cons, List.map_append, h1, h2]
    rw [show 1 + sizeL m + sizeL l = (sizeL m + sizeL l) + 1 by omega, List.range'_succ, ← List.range'_append_1]
theorem flat_count {cs : List Co} {pre r : List Xc} {x : Xc} (h : flatL cs 0 0 = pre ++ x :: r) : x.1 = pre.length := by
  have h1 := flat_fst cs 0 0
  have h2 : ((flatL cs 0 0).map (fun x => x.1))[pre.length]? = some x.1 := by rw [h]; simp
  rw [h1] at h2
  have h3 := flat_len0 cs
  rw [h, List.length_append, List.length_cons] at h3
  rw [List.getElem?_range' (by omega)] at h2
  simpa using h2.symm
theorem results_boolcell {fn : Func} {p : Tmp} (h : fn.results = #[.cell p 4]) (tmps : Array Value) (w : World) (g : Nat) (b : Bool)
    (hp : tmps.getD p undef = .pointer (some ⟨g, 0, none⟩)) (hc : w.cell? ⟨g, 0, none⟩ = some (.bool b)) :
    (results fn tmps).run Try.prog w = .ok (.bool b) w := by
  have hp' : tmps[p]?.getD undef = .pointer (some ⟨g, 0, none⟩) := by simpa using hp
  simp [results, h, hp', asAddr, loadVar, go_sem, hc]
theorem box_putObj {W : World} {B D : Nat} {c : Array Value} {T : TypeId} {f : Nat × Nat} {o o' : Obj} (h : W.heap[B]? = some (.cells c T f)) (hK : W.heap[D]? = some o) (ho : o.isCells = false) : (W.putObj D o').heap[B]? = some (.cells c T f) :=
  kept_block h (grownBy_putObj' W D _) (fun r e => by cases e; exact ⟨_, hK, ho⟩)
set_option maxRecDepth 100000 in
set_option maxHeartbeats 4000000 in
theorem exceeds_any (cs : List Co) (hz : sizeL cs ≤ 500000) (A : Option Addr) (cap most : Nat) (hm : most ≤ 1000000) (w : World) (hA : CondsAt w A cs) : Calls Try.prog 63 #[.slice A cs.length cap, .int .i64 most] w fun e w' => e = .returned (.bool (decide (most < sizeL cs))) ∧ Below w.heap.size w w' := by
  refine (callsIn_wide (n := 3)).1 ?_
  refine callsIn_of_wp_marks Try.func63 rfl trivial ?_ rfl
  simp only [Try.ntmps63, List.size_toArray, List.length_cons, List.length_nil, Nat.reduceAdd, Nat.reduceSub, Array.replicate_succ, Array.replicate_zero, List.push_toArray, List.append_toArray, List.nil_append, List.cons_append]
  gi_wp2_with fail
  refine ⟨trivial, ?_⟩
  refine (callsIn_wide (n := 3 - 1).2 (walk_any _ _ _ _)).mono ?_
  rintro e w1 ⟨rfl, rfl⟩
  obtain ⟨W0, hW0⟩ : ∃ W0, W0 = ((w.alloc (.cells #[.int .i64 most] 3)).alloc (.cells #[.bool false] 4)).alloc (.cells #[.slice A cs.length cap] 22) := ⟨_, rfl⟩
  have hB1 : Below w.heap.size w W0 := by rw [hW0]; go_grown
  have hsz : W0.heap.size = w.heap.size + 3 := by rw [hW0]; simp
  have hmo : W0.heap[w.heap.size]? = some (.cells #[.int .i64 most] 3 (0, 0)) := by rw [hW0]; exact (Below.heap_alloc _ _ _ (by simp; omega)).trans ((Below.heap_alloc _ _ _ (by simp)).trans (new_at rfl))
  have hbox : W0.heap[w.heap.size + 1]? = some (.cells #[.bool false] 4 (0, 0)) := by rw [hW0]; exact (Below.heap_alloc _ _ _ (by simp)).trans (new_at (by simp))
  have hBt : W0.heap[w.heap.size + 2]? = some (.cells #[.slice A cs.length cap] 22 (0, 0)) := by rw [hW0]; exact new_at (by simp)
  gi_wp2_with fail
  rw [← hW0]
  clear hW0
  refine wpIn_walk (w0 := w) (Bt := w.heap.size + 2) rfl (owns_box (w.heap.size + 1) w.heap.size) hz hA hBt rfl (BoxV w W0 (w.heap.size + 1) 4 (fun _ => .bool false) (fun pre => pre.length ≤ most)) (fun c pre W => c = .ret ∧ BoxV w W0 (w.heap.size + 1) 4 (fun _ => .bool true) (fun pre => most < pre.length) pre W) (boxV_loop hB1.size (fun _ => rfl))
    (fun c s X Y row h hg hr => ⟨h.1, BoxV.own hB1.size s X Y row h.2 hg hr⟩) ⟨hbox, fun _ _ _ => rfl, hB1, Nat.le_refl _, Nat.zero_le _⟩
    (fun x a' W => ∃ Bx, W0.heap.size ≤ Bx ∧ W.heap[Bx]? = some (.cells #[.int .i64 (x.1 : Int), .int .i64 (x.2.1 : Int)] 77 (0, 0)) ∧ a' = { tmps := #[.slice A cs.length cap, .int .i64 most, undef, .pointer (some ⟨w.heap.size, 0, none⟩), .pointer (some ⟨w.heap.size + 1, 0, none⟩), .pointer (some ⟨Bx, 0, none⟩), .slice A cs.length cap, .func (.func 64) #[] #[.pointer (some ⟨w.heap.size + 2, 0, none⟩)], .agg #[.int .i64 (x.1 : Int), .int .i64 (x.2.1 : Int)], .agg #[.int .i64 x.2.2.h.kind, .bool x.2.2.h.goal, .string x.2.2.h.id, .slice x.2.2.h.aa x.2.2.h.attr.length x.2.2.h.ac, .slice x.2.2.h.va x.2.2.h.value.length x.2.2.h.vc, .bool x.2.2.h.acc, .slice x.2.2.h.ca x.2.2.l.length x.2.2.h.cc], undef, undef, undef, undef], defers := [] })
    (fun x a' s X Y row h hg hr => let ⟨Bx, h1, h2, h3⟩ := h; ⟨Bx, h1, kept_block h2 hg (fun r e => (hr r e).2), h3⟩) ?assign ?body ?done ?stop
  case assign =>
    rintro l pre r x W K hx hI hK
    unfold encX
    gi_wp2_with fail
    have hbs := hI.2.2.2.1
    exact hK _ _ ((KeepsOthers.alloc _ _).from _) ((Below.refl _ _).alloc (Nat.le_refl _) _) ⟨W.heap.size, hbs, new_at rfl, rfl⟩
  case body =>
    rintro l pre r x a' W hl hr hx hI ⟨Bx, hbx, hxc, rfl⟩
    have hct := flat_count hx
    have hlen : pre.length ≤ 500000 := by have h1 := flat_len0 cs; rw [hx, List.length_append, List.length_cons] at h1; omega
    have m0 : W.cell? ⟨w.heap.size, 0, none⟩ = some (.int .i64 (most : Int)) := by rw [cells_of ((hI.2.1 w.heap.size (by omega) (by omega)).trans hmo)]; rfl
    have x0 : W.cell? ⟨Bx, 0, none⟩ = some (.int .i64 (x.1 : Int)) := by rw [cells_of hxc]; rfl
    have c0 : W.cell? ⟨w.heap.size + 1, 0, none⟩ = some (.bool false) := by rw [cells_of hI.1]; rfl
    have f0 : W.frozen? ⟨w.heap.size + 1, 0, none⟩ = false := frozen_of hI.1
    rw [hct] at x0
    by_cases hq : most ≤ pre.length
    · gi_wp2_with fail
      refine ⟨(KeepsOthers.setCell _ _ _).from _, ⟨rfl, set_heap hI.1, fun k hk hne => (Below.heap_setCell _ _ _ _ (fun e => hne e)).trans (hI.2.1 k hk hne), hI.2.2.1.setCell (by show w.heap.size ≤ w.heap.size + 1; omega) _, by simpa using hI.2.2.2.1, by simp; omega⟩, kv_box_set (by omega) hI.1 rfl⟩
    · gi_wp2_with fail
      exact ⟨KeepsFrom.refl _ _, KV.refl _ _ _ _, hI.1, hI.2.1, hI.2.2.1, hI.2.2.2.1, by simp; omega⟩
  case done =>
    rintro D W hD hI hK
    have c0 : W.cell? ⟨w.heap.size + 1, 0, none⟩ = some (.bool false) := by rw [cells_of hI.1]; rfl
    have f0 : W.frozen? ⟨w.heap.size + 1, 0, none⟩ = false := frozen_of hI.1
    gi_wp2_with fail
    have hKs := (Below.heap_setCell W ⟨w.heap.size + 1, 0, none⟩ (.bool false) D (by show D ≠ w.heap.size + 1; omega)).trans hK
    refine ⟨by simp, .inl ⟨_, _, rfl, run_takeDeferred hKs, ?_⟩⟩
    have hle : (flatL cs 0 0).length ≤ most := hI.2.2.2.2
    rw [flat_len0] at hle
    refine ⟨_, results_boolcell rfl _ _ (w.heap.size + 1) false rfl (by rw [cells_of (box_putObj (set_heap hI.1) hKs rfl)]; rfl), by simp; omega, ?_⟩
    exact (hI.2.2.1.setCell (p := ⟨w.heap.size + 1, 0, none⟩) (by show w.heap.size ≤ w.heap.size + 1; omega) _).trans (belowK_b (w := w) (Nat.le_refl _) _ D _ _ (by omega) hKs rfl rfl)
  case stop =>
    rintro D c pre r x W hD hx ⟨rfl, hI⟩ hK
    gi_wp2_with fail
    refine ⟨by simp, .inl ⟨_, _, rfl, run_takeDeferred hK, ?_⟩⟩
    have hlen : pre.length < sizeL cs := by have h1 := flat_len0 cs; rw [hx, List.length_append, List.length_cons] at h1; omega
    have hle : most < (pre ++ [x]).length := hI.2.2.2.2
    simp only [List.length_append, List.length_cons, List.length_nil] at hle
    refine ⟨_, results_boolcell rfl _ _ (w.heap.size + 1) true rfl (by rw [cells_of (box_putObj hI.1 hK rfl)]; rfl), by simp; omega, ?_⟩
    exact hI.2.2.1.trans (belowK_b (w := w) (Nat.le_refl _) _ D _ _ (by omega) hK rfl rfl)
end Go.Proofs.Ytccphigpobnjmaa
