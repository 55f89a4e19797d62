/-
  The walk of ponderkeep.List at ponder/api.Sym. No condition but a bound on the length.
-/
import Derived.RangeFuncBox
import Derived.RangeFuncLeaves
import Derived.Shelf.Abstract
import Derived.WalkKit
import Derived.OwnWalkIn
import Derived.TacticsInMore
import Derived.LoopNIn
import Derived.LoopIn
import Derived.Maps.AppendAt
import Derived.Deep.AppendLies
import Derived.Test.YthgidldcblchmaaKitSeq
import Derived.Test.YthgidldcblchmaaKitApp
import Derived.Test.YthgidldcblchmaaKitOwn
import Derived.Test.YthgidldcblchmaaOrdS
import Derived.RegionIn
import Derived.Sort.QuietIn
namespace Go.Proofs.Ythgidldcblchmaa
set_option linter.unusedVariables false
open Go.RowKit Go.Shelf
attribute [local go_sem] Oper.semAt_some
theorem box_cells {w0 w : World} {B : Nat} {v : Sy} {t : TypeId} (hc : w0.heap[B]? = some (.cells #[.int .i64 v.k, .string v.t, .int .i64 v.n] t (0, 0))) (hb : Below w0.heap.size w0 w) :
    w.cell? ⟨B, 0, none⟩ = some (.int .i64 v.k) ∧ w.cell? ⟨B, 1, none⟩ = some (.string v.t) ∧ w.cell? ⟨B, 2, none⟩ = some (.int .i64 v.n) ∧
      w.frozen? ⟨B, 0, none⟩ = false ∧ w.frozen? ⟨B, 1, none⟩ = false ∧ w.frozen? ⟨B, 2, none⟩ = false ∧ Hid (w.heap[B]? = some (.cells #[.int .i64 v.k, .string v.t, .int .i64 v.n] t (0, 0))) := by
  have h := (hb.block B (heap_lt hc)).trans hc
  exact ⟨by rw [cells_of h]; rfl, by rw [cells_of h]; rfl, by rw [cells_of h]; rfl, frozen_of h, frozen_of h, frozen_of h, h⟩
theorem eql_func_nilS (fn : Fn) (a b : Array Value) (w : World) : (binOp .eql 70 (.func fn a b) .nilFunc).run Try.prog w = .ok (.bool false) w := by kernel_rfl
theorem infoS : (Try.prog.info? 27).map (fun i => (i.zero, i.size, i.bytes)) = some (some (.agg #[.int .i64 0, .string ⟨#[]⟩, .int .i64 0]), 3, 32) := by kernel_rfl
def ListOutS (w : World) (xs : List Sy) (e : Ending) (W' : World) : Prop :=
  ∃ v, e = .returned v ∧ W'.ownsRow w.heap.size 27 3 v xs.length (xs.flatMap encS) ∧ (v = .slice none 0 0 ↔ xs = []) ∧ Below w.heap.size w W'
theorem cell_three_new (w : World) (x : Sy) (t : TypeId) : ∀ j u, (encS x)[j]? = some u → (w.alloc (.cells #[.int .i64 x.k, .string x.t, .int .i64 x.n] t)).cell? ((⟨w.heap.size, 0, none⟩ : Addr).add j) = some u := by
  intro j u hj
  rw [Go.WideShapes.add_plain, cells_of (new_at rfl)]
  simpa [encS] using hj
set_option maxRecDepth 100000 in
set_option maxHeartbeats 2000000 in
theorem list_inS (F : Fence) (n : Nat) (h3 : F.fn 37) (hro : F.round = none) (hn : 3 ≤ n) (gf : Nat) (lb : Array Value) (h5 : F.fn gf) (eg : ∀ args w, (callFunc gf args).run Try.prog w = .ok (.enter gf args) w)
    (xs : List Sy) (hlen : xs.length ≤ 1000000) (w0 w : World) (hb0 : Below w0.heap.size w0 w) (hseq : SeqStopsK F (n - 1) Try.prog gf lb (fun x : Sy => #[.agg #[.int .i64 x.k, .string x.t, .int .i64 x.n]]) (KN 156) (fun ys => ys = xs) (fun pre => pre <+: xs) xs.length w0) :
    CallsIn F n Try.prog 37 #[.func (.func gf) #[] lb] w (ListOutS w xs) := by
  have h1 : 1 ≤ n := by omega
  obtain ⟨i0, hi, hz0, hz1, hz2⟩ := info_parts infoS
  refine callsIn_of_wp_marks Try.func37 rfl h3 ?_ hro
  simp only [Try.ntmps37, List.size_toArray, List.length_cons, List.length_nil, Nat.reduceAdd, Nat.reduceSub, Array.replicate_succ, Array.replicate_zero, List.push_toArray, List.append_toArray, List.nil_append, List.cons_append]
  have hef := eql_func_nilS (.func gf) #[] lb
  gi_wp2
  have bO := Boxed.new w 44 (.slice none 0 0)
  have hB0 : Below w.heap.size w (w.alloc (.cells #[.slice none 0 0] 44)) := (Below.refl _ w).alloc (Nat.le_refl _) _
  refine wpIn_rangeFunc_ownH hro h1 (gf := gf) (lb := lb) rfl h5 eg
    hseq (fun h k => KN.trans h k) (fun W l o o' _ h hc _ => KN.put _ W l o o' h hc) (hb0.trans (hB0.mono hb0.size)) (fun _ => rfl)
    (fun pre W => (∃ v, Boxed W w.heap.size 44 v ∧ W.ownsRow w.heap.size 27 3 v pre.length (pre.flatMap encS) ∧ (v = .slice none 0 0 ↔ pre = [])) ∧ Below w.heap.size w W)
    (fun _ _ _ => False)
    (OwnFrom.and (Own.from (holdsRow_own w.heap.size w.heap.size 44 27 3 (fun pre => pre.length) (fun pre => pre.flatMap encS) (fun pre v => v = .slice none 0 0 ↔ pre = [])) _) (ownFrom_below (Nat.le_refl _) (by simp)))
    (fun _ _ _ _ _ hs _ _ => hs)
    ⟨⟨_, bO, World.ownsRow_nil _ _ _ _, by simp⟩, hB0⟩
    (fun x a' W => ∃ Bx, W.heap[Bx]? = some (.cells #[.int .i64 x.k, .string x.t, .int .i64 x.n] 27 (0, 0)) ∧ a' = { tmps := #[.func (.func gf) #[] lb, undef, .slice none 0 0, .pointer (some ⟨w.heap.size, 0, none⟩), .pointer (some ⟨Bx, 0, none⟩), .func (.func gf) #[] lb, .bool false, .func (.func gf) #[] lb, .agg #[.int .i64 x.k, .string x.t, .int .i64 x.n], undef, undef, undef, undef, undef], defers := [] })
    (fun x a' => by
      rintro s X Y row ⟨Bx, h2, h3⟩ hg hrow
      exact ⟨Bx, kept_block h2 hg (fun r e => (hrow r e).2), h3⟩) ?assign ?body ?done ?stop
  case assign =>
    rintro l pre x W K ⟨⟨v, hv, hrow, hnil⟩, hB⟩ hK
    have hsz := hB.size
    gi_wp2
    have hA := (Below.refl W.heap.size W).alloc (Nat.le_refl _) (.cells #[.int .i64 x.k, .string x.t, .int .i64 x.n] 27)
    exact hK _ _ ((KeepsOthers.alloc _ _).from _) (KN.below hA) ⟨⟨v, hv.alloc _, hrow.alloc _, hnil⟩, hB.alloc hsz _⟩ ⟨W.heap.size, new_at rfl, rfl⟩
  case body =>
    rintro l pre x a' W hl ⟨r, hr⟩ ⟨⟨v, hv, hrow, hnil⟩, hB⟩ ⟨Bx, hx, rfl⟩ hlt
    have hc := hv.cell
    obtain ⟨x0, x1, x2, -, -, -, -⟩ := box_cells hx (Below.refl _ _)
    gi_wp2_with (gi_at_builtin; refine wpListIn_append_own _ rfl _ _ 44 rfl w.heap.size 27 i0 (.agg #[.int .i64 0, .string ⟨#[]⟩, .int .i64 0]) 3 32 Try.underlying44 hi hz0 hz1 hz2 rfl (by decide) _ _ _ rfl (hrow.alloc _) ⟨W.heap.size, 0, none⟩ 1 1 (encS x) rfl rfl (cell_three_new _ _ _) (by simp [encS, Value.oneCell']) (by unfold maxLen; omega) (by omega) (by have := hB.size; simp; omega) ?_; intro v' w1 hown' hgrow _; obtain ⟨g', cap', rfl⟩ := ownsRow_succ hown'; obtain ⟨hv1, hv2, hr2, hk2, hb2⟩ := hv.appended (by decide) hrow hB.size (Nat.le_refl _) hown' hgrow; have hc1 := hv1.cell; have hf1 := hv1.frozen)
    exact ⟨hk2.from _, appended_KN hv (by decide) (by decide) (by decide) hrow hgrow, ⟨_, hv2, by simpa using hr2, by simp⟩, hB.trans hb2⟩
  case done =>
    rintro D ys W hD rfl ⟨⟨v, hv, hrow, hnil⟩, hB⟩ hK
    have hc := hv.cell
    gi_wp2
    refine ⟨by simp, .inl ⟨_, _, rfl, run_takeDeferred hK, ?_⟩⟩
    exact ⟨_, results_tmp rfl _ _ _, v, rfl, ownsRow_putObj hrow _ hK rfl, hnil, hB.trans (belowK_b (w := w) (Nat.le_refl _) W D _ _ (by simp at hD; omega) hK rfl rfl)⟩
  case stop =>
    rintro D c pre W _ _ h _
    exact h.elim
end Go.Proofs.Ythgidldcblchmaa
