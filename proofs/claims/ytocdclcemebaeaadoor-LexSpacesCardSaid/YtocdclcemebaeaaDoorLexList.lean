/-
  All of package lex; ponderkeep.List over Tokens. What the listed variables give is a premise.
-/
import Derived.RangeFuncBox
import Derived.RangeFuncLeaves
import Derived.Maps.AppendAt
import Derived.Maps.OwnIn
import Derived.Deep.AppendLies
import Derived.RegionIn
import Derived.Sort.QuietIn
import Derived.Test.YtocdclcemebaeaaDoorLexSeq
import Derived.Test.YtocdclcemebaeaaDoorKitOwn
namespace Go.Proofs.YtocdclcemebaeaaDoor
set_option linter.unusedVariables false
open Go.RowKit Go.Shelf
attribute [local go_sem] Oper.semAt_some
theorem tok_stops (n B B0 Bt : Nat) (t : ByteArray) (ht : t.size ≤ 1000000) (w0 : World) (hL : LexAt w0) (hB0 : B0 = w0.heap.size) (xs : List Sy) (hxs : xs = lexL t.data.toList) (w : World) (hA : AtTok B B0 Bt t w0 w) :
    SeqStopsK Fence.wide n Tryd.prog 21 #[.pointer (some ⟨Bt, 0, none⟩)] (fun x : Sy => #[.agg #[.int .i64 x.k, .string x.t, .int .i64 x.n]]) (KT B B0) (fun ys => ys = xs) (fun pre => pre <+: xs) xs.length w := fun l J Jx W hW hJ _ hY h0 =>
  tok1_in n l B B0 Bt t ht w0 hL hB0 xs hxs J Jx W hY hJ (hA.below hW) h0
theorem KT.append {B B0 n₀ : Nat} {W w1 : World} {T e : TypeId} {v v' : Value} {k m : Nat} {xs ys : List Value} {tmp : Obj} (hv : Boxed W B T v) (hTe : T ≠ e) (hrow : W.ownsRow n₀ e 3 v k xs) (hB0 : B0 ≤ n₀) (hn₀ : n₀ ≤ W.heap.size) (hB : n₀ ≤ B)
    (hown' : w1.ownsRow n₀ e 3 v' m ys) (hgrow : (W.alloc tmp).grownBy w1 v.ownBlock) (hor : v'.ownBlock = v.ownBlock ∨ v'.ownBlock = some (W.alloc tmp).heap.size) : KT B B0 W (w1.setCell ⟨B, 0, none⟩ v') := by
  obtain ⟨hv1, hv2, hr2, hk2, hb2⟩ := hv.appended hTe hrow hn₀ hB hown' hgrow
  have hsz : W.heap.size ≤ (w1.setCell ⟨B, 0, none⟩ v').heap.size := hb2.size
  refine ⟨hsz, fun i c t f hi hn => ?_, fun i hi ho => ?_, fun _ i ho => ?_, hb2.mono hB0⟩
  · have h1 : (W.alloc tmp).heap[i]? = some (.cells c t f) := (Below.heap_alloc _ _ _ (heap_lt hi)).trans hi
    have h2 := (hgrow.block i (heap_lt h1) (fun e => hn (.inr ⟨v, hv.cell, e.symm⟩))).trans h1
    exact (Below.heap_setCell _ _ _ _ (fun e => hn (.inl e))).trans h2
  · rcases ho with ho | ⟨v2, h1, h2⟩
    · exact .inl ho
    · rw [hv2.cell] at h1; cases h1
      rcases hor with h | h
      · exact .inr ⟨v, hv.cell, h ▸ h2⟩
      · rw [h] at h2; cases h2
        simp at hi
        omega
  · rcases ho with ho | ⟨v2, h1, h2⟩
    · subst ho; exact hv2.lt
    · rw [hv2.cell] at h1; cases h1
      exact (hr2.lt _ h2).2
theorem infoT : (Tryd.prog.info? 30).map (fun i => (i.zero, i.size, i.bytes)) = some (some (.agg #[.int .i64 0, .string ⟨#[]⟩, .int .i64 0]), 3, 32) := by kernel_rfl
def ListOutT (w : World) (xs : List Sy) (e : Ending) (W' : World) : Prop :=
  ∃ v, e = .returned v ∧ W'.ownsRow w.heap.size 30 3 v xs.length (xs.flatMap encS) ∧ (v = .slice none 0 0 ↔ xs = []) ∧ Below w.heap.size w W'
/-- The boxed row of a loop that lists. -/
def RowBox (base B : Nat) (W : World) (pre : List Sy) : Prop := ∃ v, Boxed W B 26 v ∧ W.ownsRow base 30 3 v pre.length (pre.flatMap encS) ∧ (v = .slice none 0 0 ↔ pre = [])
set_option maxRecDepth 100000 in
set_option maxHeartbeats 4000000 in
theorem lall_any (t : ByteArray) (ht : t.size ≤ 1000000) (w : World) (hL : LexAt w) : Calls Tryd.prog 12 #[.string t] w (ListOutT w (lexL t.data.toList)) := by
  obtain ⟨xs, hxs⟩ : ∃ xs, xs = lexL t.data.toList := ⟨_, rfl⟩
  rw [← hxs]
  have hlen : xs.length ≤ 1000001 := by
    have h1 := lex_len _ 0 t.data.toList (Nat.le_refl _)
    have h2 : t.data.toList.length = t.size := by simp
    rw [hxs, lexL_from]; omega
  refine (callsIn_wide (n := 3)).1 ?_
  obtain ⟨i0, hi, hz0, hz1, hz2⟩ := info_parts infoT
  refine callsIn_of_wp_marks Tryd.func12 rfl trivial ?_ rfl
  simp only [Tryd.ntmps12, List.size_toArray, List.length_cons, List.length_nil, Nat.reduceAdd, Nat.reduceSub, Array.replicate_succ, Array.replicate_zero, List.push_toArray, List.append_toArray, List.nil_append, List.cons_append]
  have hB0 : Below w.heap.size w (w.alloc (.cells #[.slice none 0 0] 26)) := (Below.refl _ w).alloc (Nat.le_refl _) _
  gi_wp2_with fail
  refine ⟨trivial, ?_⟩
  refine (callsIn_wide (n := 3 - 1).2 (ltokens_any t _)).mono ?_
  rintro e w1 ⟨rfl, rfl⟩
  obtain ⟨W0, hW0⟩ : ∃ W0, W0 = (w.alloc (.cells #[.slice none 0 0] 26)).alloc (.cells #[.string t] 9) := ⟨_, rfl⟩
  have hB1 : Below w.heap.size w W0 := by rw [hW0]; exact hB0.alloc hB0.size _
  have bO : Boxed W0 w.heap.size 26 (.slice none 0 0) := by rw [hW0]; exact (Boxed.new w 26 (.slice none 0 0)).alloc _
  have hA : AtTok w.heap.size w.heap.size (w.heap.size + 1) t w W0 := by
    have hx : W0.heap[w.heap.size + 1]? = some (.cells #[.string t] 9 (0, 0)) := by rw [hW0]; exact new_at (by simp)
    have hO : ∀ k, OBox w.heap.size W0 k → k = w.heap.size := fun k ho => by
      rcases ho with ho | ⟨v, h1, h2⟩
      · exact ho
      · rw [bO.cell] at h1; cases h1; simp [Value.ownBlock] at h2
    have hlt := heap_lt hx
    exact ⟨hx, fun k ho => by rw [hO k ho]; omega, fun ho => by have := hO _ ho; omega, hB1, by omega, hB1.size⟩
  have hsz0 : W0.heap.size = w.heap.size + 2 := by rw [hW0]; simp
  gi_wp2_with fail
  rw [← hW0]
  clear hW0
  refine wpIn_rangeFunc_ownH rfl (by omega) (gf := 21) (lb := #[.pointer (some ⟨w.heap.size + 1, 0, none⟩)]) rfl trivial (enters_of Tryd.func21 (by kernel_rfl) rfl)
    (tok_stops 2 w.heap.size w.heap.size (w.heap.size + 1) t ht w hL rfl xs hxs W0 hA) (fun h k => KT.trans h k) (fun W l o o' hl h hc _ => KT.put (by omega) (by omega) h hc) (Below.refl _ _) (fun _ => rfl)
    (fun pre W => RowBox w.heap.size w.heap.size W pre ∧ Below w.heap.size w W)
    (fun _ _ _ => False)
    (OwnFrom.and (Own.from (holdsRow_own w.heap.size w.heap.size 26 30 3 (fun pre => pre.length) (fun pre => pre.flatMap encS) (fun pre v => v = .slice none 0 0 ↔ pre = [])) _) (ownFrom_below (Nat.le_refl _) (by omega)))
    (fun _ _ _ _ _ hs _ _ => hs)
    ⟨⟨_, bO, World.ownsRow_nil _ _ _ _, by simp⟩, hB1⟩
    (fun x a' W => ∃ Bx, W.heap[Bx]? = some (.cells #[.int .i64 x.k, .string x.t, .int .i64 x.n] 30 (0, 0)) ∧ a' = { tmps := #[.string t, undef, .slice none 0 0, .pointer (some ⟨w.heap.size, 0, none⟩), .pointer (some ⟨Bx, 0, none⟩), .string t, .func (.func 21) #[] #[.pointer (some ⟨w.heap.size + 1, 0, none⟩)], .agg #[.int .i64 x.k, .string x.t, .int .i64 x.n], undef, undef, undef, undef, undef], defers := [] })
    (fun x a' => by
      rintro s X Y row ⟨Bx, h2, h3⟩ hg hrow
      exact ⟨Bx, kept_block h2 hg (fun r e => (hrow r e).2), h3⟩) ?assign ?body ?done ?stop
  case assign =>
    rintro l pre x W K ⟨⟨v, hv, hrow, hnil⟩, hB⟩ hK
    have hsz := hB.size
    have hlt := hv.lt
    gi_wp2
    have hA := (Below.refl W.heap.size W).alloc (Nat.le_refl _) (.cells #[.int .i64 x.k, .string x.t, .int .i64 x.n] 30)
    exact hK _ _ ((KeepsOthers.alloc _ _).from _) (KT.ofBelow hlt hsz hA) ⟨⟨v, hv.alloc _, hrow.alloc _, hnil⟩, hB.alloc hsz _⟩ ⟨W.heap.size, new_at rfl, rfl⟩
  case body =>
    rintro l pre x a' W hl ⟨r, hr⟩ ⟨⟨v, hv, hrow, hnil⟩, hB⟩ ⟨Bx, hx, rfl⟩ hlt
    have hc := hv.cell
    obtain ⟨x0, x1, x2, -, -, -, -⟩ := box_cells hx (Below.refl _ _)
    gi_wp2_with (gi_at_builtin; refine wpListIn_append_own_at _ rfl _ _ 26 rfl w.heap.size 30 i0 (.agg #[.int .i64 0, .string ⟨#[]⟩, .int .i64 0]) 3 32 Tryd.underlying26 hi hz0 hz1 hz2 rfl (by decide) _ _ _ rfl (hrow.alloc _) ⟨W.heap.size, 0, none⟩ 1 1 (encS x) rfl rfl (cell_three_new _ _ _) (by simp [encS, Value.oneCell']) (by unfold maxLen; omega) (by omega) (by have := hB.size; simp; omega) ?_; intro v' w1 hown' hgrow _ hor; obtain ⟨g', cap', rfl⟩ := ownsRow_succ hown'; obtain ⟨hv1, hv2, hr2, hk2, hb2⟩ := hv.appended (by decide) hrow hB.size (Nat.le_refl _) hown' hgrow; have hkt := Lib.hid (KT.append hv (by decide) hrow (Nat.le_refl _) hB.size (Nat.le_refl _) hown' hgrow hor); have hc1 := hv1.cell; have hf1 := hv1.frozen; clear hor)
    exact ⟨hk2.from _, hkt.out, ⟨_, hv2, by simpa using hr2, by simp⟩, hB.trans hb2⟩
  case done =>
    rintro D ys W hD rfl ⟨⟨v, hv, hrow, hnil⟩, hB⟩ hK
    have hc := hv.cell
    gi_wp2
    refine ⟨by simp, .inl ⟨_, _, rfl, run_takeDeferred hK, ?_⟩⟩
    exact ⟨_, results_tmp rfl _ _ _, v, rfl, ownsRow_putObj hrow _ hK rfl, hnil, hB.trans (belowK_b (w := w) (Nat.le_refl _) W D _ _ (by omega) hK rfl rfl)⟩
  case stop =>
    rintro D c pre W _ _ h _
    exact h.elim
end Go.Proofs.YtocdclcemebaeaaDoor
