/-
  ponderkeep.First at tokens; the walk of the law LexLeft. What the listed variables give is a premise.
-/
import Derived.Test.YtocdclcemebaeaaDoorLexRAll
import Derived.Test.YtocdclcemebaeaaDoorLexSame
import Derived.Deep.RegionHeld3
namespace Go.Proofs.YtocdclcemebaeaaDoor
set_option linter.unusedVariables false
open Go.RowKit Go.Shelf
attribute [local go_sem] Oper.semAt_some
theorem row_neF {W : World} {base : Nat} {e : TypeId} {size : Nat} {v : Value} {n : Nat} {xs : List Value} {s : Nat} {cs : Array Value} {t : TypeId} {f : Nat × Nat} (hrow : W.ownsRow base e size v n xs) (hs : W.heap[s]? = some (.cells cs t f)) (ht : t ≠ e) : v.ownBlock = none ∨ v.ownBlock ≠ some s := by
  rcases hrow.2 with ⟨rfl, -⟩ | ⟨g, cap, cur, rfl, -, hg, -⟩
  · exact .inl rfl
  · refine .inr fun h => ?_
    obtain rfl : g = s := by simpa [Value.ownBlock] using h
    rw [hs] at hg
    simp at hg
    exact ht hg.2.1
theorem heap_lt' {w : World} {b : Nat} {o : Obj} (h : w.heap[b]? = some o) : b < w.heap.size := (Array.getElem?_eq_some_iff.1 h).1
theorem boxN_kept {W w1 : World} {B b : Nat} {o tmp : Obj} {row : Option Nat} (hn : W.heap[b]? = some o) (hgrow : (W.alloc tmp).grownBy w1 row) (hne : ¬ row = some b) (hb : b ≠ B) (v' : Value) : (w1.setCell ⟨B, 0, none⟩ v').heap[b]? = some o :=
  (Below.heap_setCell w1 _ _ _ hb).trans ((hgrow.block b (by have := heap_lt' hn; simp; omega) (fun e => hne e.symm)).trans ((Below.heap_alloc W _ _ (heap_lt' hn)).trans hn))
set_option maxRecDepth 100000 in
set_option maxHeartbeats 4000000 in
theorem tfirst_any (t : ByteArray) (ht : t.size ≤ 1000000) (w : World) (hL : LexAt w) (Bt : Nat) (hBt : w.heap[Bt]? = some (.cells #[.string t] 9 (0, 0))) (xs : List Sy) (hxs : xs = lexL t.data.toList) (hlen : xs.length ≤ 1000000) (k : Nat) (hk : 1 ≤ k) (hk2 : k ≤ 1000000) :
    Calls Tryd.prog 16 #[.func (.func 21) #[] #[.pointer (some ⟨Bt, 0, none⟩)], .int .i64 k] w (ListOutT w (xs.take k)) := by
  refine (callsIn_wide (n := 3)).1 ?_
  obtain ⟨i0, hi, hz0, hz1, hz2⟩ := info_parts infoT
  have hk1 : decide ((k : Int) < 1) = false := by simp; omega
  refine callsIn_of_wp_marks Tryd.func16 rfl trivial ?_ rfl
  simp only [Tryd.ntmps16, List.size_toArray, List.length_cons, List.length_nil, Nat.reduceAdd, Nat.reduceSub, Array.replicate_succ, Array.replicate_zero, List.push_toArray, List.append_toArray, List.nil_append, List.cons_append]
  have hef := eql_func_nilT (.func 21) #[] #[.pointer (some ⟨Bt, 0, none⟩)]
  gi_wp2
  obtain ⟨W0, hW0⟩ : ∃ W0, W0 = (w.alloc (.cells #[.int .i64 k] 3)).alloc (.cells #[.slice none 0 0] 26) := ⟨_, rfl⟩
  have hB0 : Below w.heap.size w W0 := by rw [hW0]; go_grown
  have bO : Boxed W0 (w.heap.size + 1) 26 (.slice none 0 0) := by rw [hW0]; exact new_at (by simp)
  have bN : W0.heap[w.heap.size]? = some (.cells #[.int .i64 k] 3 (0, 0)) := by rw [hW0]; exact (Below.heap_alloc _ _ _ (by simp)).trans (new_at rfl)
  have z0 : W0.heap.size = w.heap.size + 2 := by rw [hW0]; simp
  have Z0 := Lib.hid z0
  have hA0 : AtTok (w.heap.size + 1) w.heap.size Bt t w W0 := by
    have hlt := heap_lt hBt
    have hO : ∀ k, OBox (w.heap.size + 1) W0 k → k = w.heap.size + 1 := fun k ho => by
      rcases ho with ho | ⟨v, h1, h2⟩
      · exact ho
      · rw [bO.cell] at h1; cases h1; simp [Value.ownBlock] at h2
    exact ⟨(hB0.block _ hlt).trans hBt, fun k ho => by rw [hO k ho]; omega, fun ho => by have := hO _ ho; omega, hB0, by omega, by omega⟩
  rw [← hW0]
  clear hW0 z0
  refine wpIn_rangeFunc_ownH rfl (by omega) (gf := 21) (lb := #[.pointer (some ⟨Bt, 0, none⟩)]) rfl trivial (enters_of Tryd.func21 (by kernel_rfl) rfl)
    (tok_stops 2 (w.heap.size + 1) w.heap.size Bt t ht w hL rfl xs hxs W0 hA0) (fun h k => KT.trans h k) (fun W l o o' hl h hc _ => KT.put (by have := Z0.out; omega) (by have := Z0.out; omega) h hc) (Below.refl _ _) (fun _ => rfl)
    (fun pre W => (∃ v, Boxed W (w.heap.size + 1) 26 v ∧ W.ownsRow w.heap.size 30 3 v pre.length (pre.flatMap encS) ∧ (v = .slice none 0 0 ↔ pre = [])) ∧ (Below w.heap.size w W ∧ (W.heap[w.heap.size]? = some (.cells #[.int .i64 k] 3 (0, 0)) ∧ pre.length < k)))
    (fun c pre W => (∃ v, Boxed W (w.heap.size + 1) 26 v ∧ W.ownsRow w.heap.size 30 3 v pre.length (pre.flatMap encS) ∧ (v = .slice none 0 0 ↔ pre = [])) ∧ (Below w.heap.size w W ∧ (c = .exit 0 ∧ pre.length = k)))
    (OwnFrom.and (Own.from (holdsRow_own w.heap.size (w.heap.size + 1) 26 30 3 (fun pre => pre.length) (fun pre => pre.flatMap encS) (fun pre v => v = .slice none 0 0 ↔ pre = [])) _) (OwnFrom.and (ownFrom_below (Nat.le_refl _) (by rw [Z0.out]; omega)) (Own.from (own_and (cells_own _ _ _) (fun _ _ _ _ h _ _ => h)) _)))
    (fun c => OwnFrom.and (Own.from (holdsRow_own w.heap.size (w.heap.size + 1) 26 30 3 (fun pre => pre.length) (fun pre => pre.flatMap encS) (fun pre v => v = .slice none 0 0 ↔ pre = [])) _) (OwnFrom.and (ownFrom_below (Nat.le_refl _) (by rw [Z0.out]; omega)) (fun _ _ _ _ h _ _ => h)))
    ⟨⟨_, bO, World.ownsRow_nil _ _ _ _, by simp⟩, hB0, bN, hk⟩
    (fun x a' W => ∃ Bx, W.heap[Bx]? = some (.cells #[.int .i64 x.k, .string x.t, .int .i64 x.n] 30 (0, 0)) ∧ a' = { tmps := #[.func (.func 21) #[] #[.pointer (some ⟨Bt, 0, none⟩)], .int .i64 k, undef, .pointer (some ⟨w.heap.size, 0, none⟩), .slice none 0 0, .pointer (some ⟨w.heap.size + 1, 0, none⟩), .pointer (some ⟨Bx, 0, none⟩), .func (.func 21) #[] #[.pointer (some ⟨Bt, 0, none⟩)], .bool false, .bool false, .int .i64 k, .bool false, .bool false, .func (.func 21) #[] #[.pointer (some ⟨Bt, 0, none⟩)], .agg #[.int .i64 x.k, .string x.t, .int .i64 x.n], undef, undef, undef, undef, undef, undef, undef, undef, undef], defers := [] })
    (fun x a' => by
      rintro s X Y row ⟨Bx, h2, h3⟩ hg hrow
      exact ⟨Bx, kept_block h2 hg (fun r e => (hrow r e).2), h3⟩) ?assign ?body ?done ?stop
  case assign =>
    rintro l pre x W K ⟨⟨v, hv, hrow, hnil⟩, hB, hn, hlt⟩ hK
    have hsz := hB.size
    have hvl := hv.lt
    gi_wp2
    have hA := (Below.refl W.heap.size W).alloc (Nat.le_refl _) (.cells #[.int .i64 x.k, .string x.t, .int .i64 x.n] 30)
    exact hK _ _ ((KeepsOthers.alloc _ _).from _) (KT.ofBelow hvl hsz hA) ⟨⟨v, hv.alloc _, hrow.alloc _, hnil⟩, hB.alloc hsz _, (hA.block _ (heap_lt hn)).trans hn, hlt⟩ ⟨W.heap.size, new_at rfl, rfl⟩
  case body =>
    rintro l pre x a' W hl ⟨r, hr⟩ ⟨⟨v, hv, hrow, hnil⟩, hB, hn, hkl⟩ ⟨Bx, hx, rfl⟩ hlt
    have hc := hv.cell
    have hnc : W.cell? ⟨w.heap.size, 0, none⟩ = some (.int .i64 k) := by rw [cells_of hn]; rfl
    have hlx : pre.length < 1000000 := by omega
    obtain ⟨x0, x1, x2, -, -, -, -⟩ := box_cells hx (Below.refl _ _)
    have hne := Lib.hid (fun h => (row_neF hrow hn (by decide)).elim (fun h2 => by rw [h2] at h; cases h) (fun h2 => h2 h) : ¬ v.ownBlock = some w.heap.size)
    have Hn := Lib.hid hn
    have Hx := Lib.hid hx
    clear hn hx
    by_cases hlast : pre.length + 1 = k
    · have hge : (k : Int) ≤ ((pre.length : Int) + 1) := by omega
      have Hlast := Lib.hid hlast
      clear hlast
      gi_wp2_with (gi_at_builtin; refine wpListIn_append_own_at _ rfl _ _ 26 rfl w.heap.size 30 i0 (.agg #[.int .i64 0, .string ⟨#[]⟩, .int .i64 0]) 3 32 Tryd.underlying26 hi hz0 hz1 hz2 rfl (by decide) _ _ _ rfl (hrow.alloc _) ⟨W.heap.size, 0, none⟩ 1 1 (encS x) rfl rfl (cell_three_new _ _ _) (by simp [encS, Value.oneCell']) (by unfold maxLen; omega) (by omega) (by have := hB.size; simp; omega) ?_; intro v' w1 hown' hgrow _ hor; obtain ⟨g', cap', rfl⟩ := ownsRow_succ hown'; obtain ⟨hv1, hv2, hr2, hk2, hb2⟩ := hv.appended (by decide) hrow hB.size (by omega) hown' hgrow; have hkt := Lib.hid (KT.append hv (by decide) hrow (Nat.le_refl _) hB.size (show w.heap.size ≤ w.heap.size + 1 by omega) hown' hgrow hor); clear hor; have hc1 := hv1.cell; have hf1 := hv1.frozen; have hc2 := hv2.cell; have hn2 := boxN_kept Hn.out hgrow hne.out (show w.heap.size ≠ w.heap.size + 1 by omega) (.slice (some ⟨g', 0, none⟩) (pre.length + 1) cap'); have hnc2 : (w1.setCell ⟨w.heap.size + 1, 0, none⟩ (.slice (some ⟨g', 0, none⟩) (pre.length + 1) cap')).cell? ⟨w.heap.size, 0, none⟩ = some (.int .i64 k) := (by simp [cells_of hn2]); have HN2 := Lib.hid hn2; clear hn2)
      exact ⟨hk2.from _, ⟨_, hv2, by simpa using hr2, by simp⟩, hB.trans hb2, rfl, by simpa using Hlast.out⟩
    · have hge : ¬ (k : Int) ≤ ((pre.length : Int) + 1) := by omega
      gi_wp2_with (gi_at_builtin; refine wpListIn_append_own_at _ rfl _ _ 26 rfl w.heap.size 30 i0 (.agg #[.int .i64 0, .string ⟨#[]⟩, .int .i64 0]) 3 32 Tryd.underlying26 hi hz0 hz1 hz2 rfl (by decide) _ _ _ rfl (hrow.alloc _) ⟨W.heap.size, 0, none⟩ 1 1 (encS x) rfl rfl (cell_three_new _ _ _) (by simp [encS, Value.oneCell']) (by unfold maxLen; omega) (by omega) (by have := hB.size; simp; omega) ?_; intro v' w1 hown' hgrow _ hor; obtain ⟨g', cap', rfl⟩ := ownsRow_succ hown'; obtain ⟨hv1, hv2, hr2, hk2, hb2⟩ := hv.appended (by decide) hrow hB.size (by omega) hown' hgrow; have hkt := Lib.hid (KT.append hv (by decide) hrow (Nat.le_refl _) hB.size (show w.heap.size ≤ w.heap.size + 1 by omega) hown' hgrow hor); clear hor; have hc1 := hv1.cell; have hf1 := hv1.frozen; have hc2 := hv2.cell; have hn2 := boxN_kept Hn.out hgrow hne.out (show w.heap.size ≠ w.heap.size + 1 by omega) (.slice (some ⟨g', 0, none⟩) (pre.length + 1) cap'); have hnc2 : (w1.setCell ⟨w.heap.size + 1, 0, none⟩ (.slice (some ⟨g', 0, none⟩) (pre.length + 1) cap')).cell? ⟨w.heap.size, 0, none⟩ = some (.int .i64 k) := (by simp [cells_of hn2]); have HN2 := Lib.hid hn2; clear hn2)
      exact ⟨hk2.from _, hkt.out, ⟨_, hv2, by simpa using hr2, by simp⟩, hB.trans hb2, HN2.out, by simp; omega⟩
  case done =>
    rintro D ys W hD rfl ⟨⟨v, hv, hrow, hnil⟩, hB, hn, hkl⟩ hK
    have hc := hv.cell
    gi_wp2
    refine ⟨by simp, .inl ⟨_, _, rfl, run_takeDeferred hK, ?_⟩⟩
    rw [List.take_of_length_le (by omega)]
    exact ⟨_, results_tmp rfl _ _ _, v, rfl, ownsRow_putObj hrow _ hK rfl, hnil, hB.trans (belowK_b (w := w) (Nat.le_refl _) W D _ _ (by have := Z0.out; omega) hK rfl rfl)⟩
  case stop =>
    rintro D c pre W hD hp ⟨⟨v, hv, hrow, hnil⟩, hB, rfl, hkl⟩ hK
    have hc := hv.cell
    have hpe : xs.take k = pre := by rw [← hkl]; exact (List.prefix_iff_eq_take.1 hp).symm
    gi_wp2
    refine ⟨by simp, .inl ⟨_, _, rfl, run_takeDeferred hK, ?_⟩⟩
    rw [hpe]
    exact ⟨_, results_tmp rfl _ _ _, v, rfl, ownsRow_putObj hrow _ hK rfl, hnil, hB.trans (belowK_b (w := w) (Nat.le_refl _) W D _ _ (by have := Z0.out; omega) hK rfl rfl)⟩

theorem tfirst_zero (w : World) (Bt : Nat) : Calls Tryd.prog 16 #[.func (.func 21) #[] #[.pointer (some ⟨Bt, 0, none⟩)], .int .i64 0] w (ListOutT w []) := by
  have hef := eql_func_nilT (.func 21) #[] #[.pointer (some ⟨Bt, 0, none⟩)]
  have hfin : ∀ w', Below w.heap.size w w' → ListOutT w [] (.returned (.slice none 0 0)) w' := fun w' h => ⟨_, rfl, World.ownsRow_nil _ _ _ _, by simp, h⟩
  have HF := Lib.hid hfin
  clear hfin
  refine (callsIn_wide (n := 3)).1 (callsIn_of_wp_marks Tryd.func16 rfl trivial ?_ rfl)
  simp only [Tryd.ntmps16, List.size_toArray, List.length_cons, List.length_nil, Nat.reduceAdd, Nat.reduceSub, Array.replicate_succ, Array.replicate_zero, List.push_toArray, List.append_toArray, List.nil_append, List.cons_append]
  gi_wp2
  refine ⟨_, results_tmp rfl _ _ _, ?_⟩
  exact HF.out _ (by go_grown)
end Go.Proofs.YtocdclcemebaeaaDoor
