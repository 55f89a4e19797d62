/-
  ponderkeep.List and First over the keys of a map. No condition but bounds on sizes.
-/
import Derived.RangeFuncNested
import Derived.RangeFuncBound
import Derived.RangeFuncCalls
import Derived.RangeFuncLeaves
import Derived.Shelf.Abstract
import Derived.Shelf.RegionOpen
import Derived.WalkKit
import Derived.OwnWalkIn
import Derived.TacticsInMore
import Derived.LoopNIn
import Derived.LoopIn
import Derived.BigGuardIn
import Derived.Test.YthgidldcblchmaaKit3
import Derived.Test.YthgidldcblchmaaBookAllP
import Derived.Test.YthgidldcblchmaaListB
import Derived.Test.YthgidldcblchmaaKitApp
namespace Go.Proofs.Ythgidldcblchmaa
set_option linter.unusedVariables false
open Go.RowKit Go.Shelf
attribute [local go_sem] Oper.semAt_some

/-- Nodes, and boxes of a yield of one symbol, stay. -/
def KPK (W W' : World) : Prop := KN 162 W W' ∧ KN 110 W W'
theorem KPK.trans {A B C : World} (h : KPK A B) (k : KPK B C) : KPK A C := ⟨h.1.trans k.1, h.2.trans k.2⟩
theorem KPK.put (W : World) (l : Nat) (o o' : Obj) (h : W.heap[l]? = some o) (hc : o.isCells = false) : KPK W (W.putObj l o') := ⟨KN.put _ W l o o' h hc, KN.put _ W l o o' h hc⟩
theorem keys_mapP (w : World) (b : Nat) : Calls Try.prog 38 #[.pointer (some ⟨b, 0, none⟩)] w fun e w' => e = .returned (.func (.func 68) #[] #[.pointer (some ⟨w.heap.size, 0, none⟩)]) ∧ w' = w.alloc (.cells #[.pointer (some ⟨b, 0, none⟩)] 41) := by
  go_enter Try.func38, Try.ntmps38
  go_wp2
  go_ret
  exact ⟨rfl, rfl⟩
set_option maxRecDepth 100000 in
set_option maxHeartbeats 4000000 in
theorem keys_over (n : Nat) (Bk b s : Nat) (xs : List Pr) (w : World) (hBk : w.heap[Bk]? = some (.cells #[.pointer (some ⟨b, 0, none⟩)] 41 (0, 0))) (hM : MapP w b s xs) (R : List Pr → Pr → Prop) (hR : ∀ a x q, xs = a ++ x :: q → R a x) :
    SeqOver Fence.wide n Try.prog 68 #[.pointer (some ⟨Bk, 0, none⟩)] (fun x : Pr => #[.agg #[.int .i64 x.k.k, .string x.k.t, .int .i64 x.k.n]]) KPK (fun ys => ys = xs) (fun pre => pre <+: xs) R w := by
  intro l J Jx W hW hJ hJx hY h0
  obtain ⟨W1, hW1⟩ : ∃ W1, W1 = W.alloc (.cells #[.func (.yield l) #[] #[]] 110) := ⟨_, rfl⟩
  have hB1 : Below W.heap.size W W1 := by rw [hW1]; go_grown
  have hby : W1.heap[W.heap.size]? = some (.cells #[.func (.yield l) #[] #[]] 110 (0, 0)) := by rw [hW1]; exact new_at rfl
  have hM1 : MapP W1 b s xs := (hM.mono hW).mono hB1
  have ck : (W.alloc (.cells #[.func (.yield l) #[] #[]] 110)).cell? ⟨Bk, 0, none⟩ = some (.pointer (some ⟨b, 0, none⟩)) := by rw [← hW1, cells_of (((hW.trans (hB1.mono hW.size)).block Bk (heap_lt hBk)).trans hBk)]; rfl
  have cb : (W.alloc (.cells #[.func (.yield l) #[] #[]] 110)).cell? ⟨b, 0, none⟩ = some (.pointer (some ⟨s, 0, none⟩)) := by rw [← hW1, cells_of hM1.1]; rfl
  have h01 : J [] W1 := by rw [hW1]; exact hJ.alloc _ h0
  have hz1 : W1.heap.size = W.heap.size + 1 := by rw [hW1]; simp
  obtain ⟨W2, hW2⟩ : ∃ W2, W2 = W1.alloc (.cells #[.pointer (some ⟨s, 0, none⟩)] 97) := ⟨_, rfl⟩
  have hB2 : Below W1.heap.size W1 W2 := by rw [hW2]; go_grown
  have hbt : W2.heap[W.heap.size + 1]? = some (.cells #[.pointer (some ⟨s, 0, none⟩)] 97 (0, 0)) := by rw [hW2]; exact new_at hz1.symm
  have h02 : J [] W2 := by rw [hW2]; exact OwnFrom.alloc hJ _ h01
  have hy2 := (hB2.block _ (heap_lt hby)).trans hby
  have hS2 : SetP W2 s xs := (hM1.mono hB2).2
  have hz2 : W2.heap.size = W.heap.size + 2 := by rw [hW2]; simp [hz1]
  have HW1 := Lib.hid hW1
  have HW2 := Lib.hid hW2
  have HZ1 := Lib.hid hz1
  have HBt := Lib.hid hbt
  have HS2 := Lib.hid hS2
  have HY2 := Lib.hid hy2
  have H02 := Lib.hid h02
  have HZ2 := Lib.hid hz2
  have HR := Lib.hid hR
  clear hW1 hW2 hM1 hB1 hB2 hby h01 hz1 hbt h02 hy2 hS2 hz2 hM hBk hR
  refine callsIn_of_wp_marks Try.func68 rfl trivial ?_ rfl
  simp only [Try.ntmps68, List.size_toArray, List.length_cons, List.length_nil, Nat.reduceAdd, Nat.reduceSub, Array.replicate_succ, Array.replicate_zero, List.push_toArray, List.append_toArray, List.nil_append, List.cons_append]
  gi_wp2_with ((first | (refine ⟨trivial, (fun h => by cases h), ?_⟩) | (refine ⟨trivial, ?_⟩)); gi_at_call 69; refine (callsIn_wide.2 (all_anyP _ s)).mono ?_; rintro e w2 ⟨rfl, rfl⟩)
  rw [← HW1.out]
  rw [← HW2.out]
  refine wpIn_rangeFunc_over rfl rfl (gf := 92) (lb := #[.pointer (some ⟨W.heap.size + 1, 0, none⟩)]) rfl trivial (enters_of Try.func92 (by kernel_rfl) rfl) (all_overP Fence.wide rfl (n - 1) trivial trivial rfl (W.heap.size + 1) s xs W2 HBt.out HS2.out R HR.out) (fun h k => KN.trans h k) (fun W l o o' _ h hc _ => KN.put _ W l o o' h hc) (Below.refl _ _) (fun _ => rfl)
    (fun pre V => J pre V ∧ V.heap[W.heap.size]? = some (.cells #[.func (.yield l) #[] #[]] 110 (0, 0))) (fun c pre V => c = .ret ∧ Jx pre V)
    (OwnFrom.and (OwnFrom.up hJ (by rw [HZ2.out]; omega)) (Own.from (cells_own _ _ _) _)) (fun c s X Y row h hg hr => ⟨h.1, OwnFrom.up hJx (show W.heap.size ≤ W2.heap.size by rw [HZ2.out]; omega) s X Y row h.2 hg hr⟩) ⟨H02.out, HY2.out⟩
    (fun x a' V => ∃ Bx, V.heap[Bx]? = some (.cells #[.int .i64 x.k.k, .string x.k.t, .int .i64 x.k.n, .int .i64 x.v] 100 (0, 0)) ∧ a' = { tmps := #[.func (.yield l) #[] #[], .pointer (some ⟨Bk, 0, none⟩), .pointer (some ⟨W.heap.size, 0, none⟩), .pointer (some ⟨Bx, 0, none⟩), .pointer (some ⟨b, 0, none⟩), .pointer (some ⟨b, 0, none⟩), .pointer (some ⟨b, 0, none⟩), .pointer (some ⟨s, 0, none⟩), .func (.func 92) #[] #[.pointer (some ⟨W.heap.size + 1, 0, none⟩)], .agg #[.int .i64 x.k.k, .string x.k.t, .int .i64 x.k.n, .int .i64 x.v], undef, undef, undef, undef, undef], defers := [] })
    (fun x a' => by
      rintro s X Y row ⟨Bx, h2, h3⟩ hg hrow
      exact ⟨Bx, kept_block h2 hg (fun r e => (hrow r e).2), h3⟩) ?assign ?body ?done ?stop
  case assign =>
    rintro l' pre x V K ⟨hj, hy⟩ hK
    gi_wp2
    have hA := (Below.refl V.heap.size V).alloc (Nat.le_refl _) (.cells #[.int .i64 x.k.k, .string x.k.t, .int .i64 x.k.n, .int .i64 x.v] 100)
    exact hK _ _ ((KeepsOthers.alloc _ _).from _) (KN.below hA) ⟨OwnFrom.alloc hJ _ hj, (hA.block _ (heap_lt hy)).trans hy⟩ ⟨V.heap.size, new_at rfl, rfl⟩
  case body =>
    rintro l' pre x a' V hl ⟨r, hr⟩ ⟨hj, hy⟩ ⟨Bx, hx, rfl⟩ hlt
    have cy : V.cell? ⟨W.heap.size, 0, none⟩ = some (.func (.yield l) #[] #[]) := by rw [cells_of hy]; rfl
    have cx := cells_of hx
    have x0 : V.cell? ⟨Bx, 0, none⟩ = some (.int .i64 x.k.k) := by rw [cx]; rfl
    have x1 : V.cell? ⟨Bx, 1, none⟩ = some (.string x.k.t) := by rw [cx]; rfl
    have x2 : V.cell? ⟨Bx, 2, none⟩ = some (.int .i64 x.k.n) := by rw [cx]; rfl
    obtain ⟨fn, tmps, assign, body, hyr, hR⟩ := hY (n - 1 - 1 - 1) pre x V hj hlt
    have HY := Lib.hid hy
    have hzl := HZ2.out
    clear hx cx hy
    gi_wp2_with fail
    refine ⟨(fun h => by cases h), ?_⟩
    refine hR.mono ?_
    clear hR hyr
    rintro e V2 ⟨hkf, (⟨rfl, hj2, hkp⟩ | ⟨rfl, hx2⟩)⟩
    · gi_wp2_with fail
      exact ⟨keepsFrom_up hkf (by omega), hkp.1, hj2, hkp.2 _ _ _ HY.out⟩
    · gi_wp2_with fail
      exact ⟨keepsFrom_up hkf (by omega), rfl, hx2⟩
  case done =>
    rintro D zs V hD hS ⟨hj, hy⟩ hK
    have hzl := HZ2.out
    gi_wp2
    refine ⟨by simp, .inl ⟨_, _, rfl, run_takeDeferred hK, ?_⟩⟩
    exact ⟨_, results_none rfl _ _ _, ⟨_, rfl⟩, .inl ⟨zs, hS, OwnFrom.putObj hJ _ hj (by omega) hK rfl⟩⟩
  case stop =>
    rintro D c pre V hD hSp hj hK
    obtain ⟨rfl, hj⟩ := hj
    have hzl := HZ2.out
    gi_wp2
    refine ⟨by simp, .inl ⟨_, _, rfl, run_takeDeferred hK, ?_⟩⟩
    exact ⟨_, results_none rfl _ _ _, ⟨_, rfl⟩, .inr ⟨pre, hSp, OwnFrom.putObj hJx _ hj (by omega) hK rfl⟩⟩
open Go.RowKit Go.Shelf
attribute [local go_sem] Oper.semAt_some
def ListOutK (w : World) (xs : List Pr) (e : Ending) (w' : World) : Prop := ∃ v, e = .returned v ∧ w'.ownsRow w.heap.size 27 3 v xs.length (xs.flatMap fun p => encS p.k) ∧ (v = .slice none 0 0 ↔ xs = []) ∧ Below w.heap.size w w'
set_option maxRecDepth 100000 in
set_option maxHeartbeats 2000000 in
theorem list_inK (F : Fence) (n : Nat) (h3 : F.fn 37) (hd : F.depth = none) (hro : F.round = none) (hn : 3 ≤ n) (gf : Nat) (lb : Array Value) (h5 : F.fn gf) (eg : ∀ args w, (callFunc gf args).run Try.prog w = .ok (.enter gf args) w)
    (xs : List Pr) (hlen : xs.length ≤ 1000000) (w0 w : World) (hb0 : Below w0.heap.size w0 w) (hseq : SeqOver F (n - 1) Try.prog gf lb (fun x : Pr => #[.agg #[.int .i64 x.k.k, .string x.k.t, .int .i64 x.k.n]]) KPK (fun ys => ys = xs) (fun pre => pre <+: xs) (fun pre x => ∃ post, xs = pre ++ x :: post) w0) :
    CallsIn F n Try.prog 37 #[.func (.func gf) #[] lb] w (ListOutK w xs) := by
  have h1 : 1 ≤ n := by omega
  obtain ⟨i0, hi, hz0, hz1, hz2⟩ := info_parts infoS
  refine callsIn_of_wp_marks Try.func37 rfl h3 ?_ hro
  simp only [Try.ntmps37, List.size_toArray, List.length_cons, List.length_nil, Nat.reduceAdd, Nat.reduceSub, Array.replicate_succ, Array.replicate_zero, List.push_toArray, List.append_toArray, List.nil_append, List.cons_append]
  have hef := eql_func_nilS (.func gf) #[] lb
  gi_wp2
  have bO := Boxed.new w 44 (.slice none 0 0)
  have hB0 : Below w.heap.size w (w.alloc (.cells #[.slice none 0 0] 44)) := (Below.refl _ w).alloc (Nat.le_refl _) _
  refine wpIn_rangeFunc_over hd hro (gf := gf) (lb := lb) rfl h5 eg
    hseq (fun h k => KPK.trans h k) (fun W l o o' _ h hc _ => KPK.put W l o o' h hc) (hb0.trans (hB0.mono hb0.size)) (fun _ => rfl)
    (fun pre W => (∃ v, Boxed W w.heap.size 44 v ∧ W.ownsRow w.heap.size 27 3 v pre.length (pre.flatMap fun p => encS p.k) ∧ (v = .slice none 0 0 ↔ pre = [])) ∧ Below w.heap.size w W)
    (fun _ _ _ => False)
    (OwnFrom.and (Own.from (holdsRow_own w.heap.size w.heap.size 44 27 3 (fun pre : List Pr => pre.length) (fun pre : List Pr => pre.flatMap fun p => encS p.k) (fun pre v => v = .slice none 0 0 ↔ pre = [])) _) (ownFrom_below (Nat.le_refl _) (by simp)))
    (fun _ _ _ _ _ hs _ _ => hs)
    ⟨⟨_, bO, World.ownsRow_nil _ _ _ _, by simp⟩, hB0⟩
    (fun x a' W => ∃ Bx, W.heap[Bx]? = some (.cells #[.int .i64 x.k.k, .string x.k.t, .int .i64 x.k.n] 27 (0, 0)) ∧ a' = { tmps := #[.func (.func gf) #[] lb, undef, .slice none 0 0, .pointer (some ⟨w.heap.size, 0, none⟩), .pointer (some ⟨Bx, 0, none⟩), .func (.func gf) #[] lb, .bool false, .func (.func gf) #[] lb, .agg #[.int .i64 x.k.k, .string x.k.t, .int .i64 x.k.n], undef, undef, undef, undef, undef], defers := [] })
    (fun x a' => by
      rintro s X Y row ⟨Bx, h2, h3⟩ hg hrow
      exact ⟨Bx, kept_block h2 hg (fun r e => (hrow r e).2), h3⟩) ?assign ?body ?done ?stop
  case assign =>
    rintro l pre x W K ⟨⟨v, hv, hrow, hnil⟩, hB⟩ hK
    have hsz := hB.size
    gi_wp2
    have hA := (Below.refl W.heap.size W).alloc (Nat.le_refl _) (.cells #[.int .i64 x.k.k, .string x.k.t, .int .i64 x.k.n] 27)
    exact hK _ _ ((KeepsOthers.alloc _ _).from _) ⟨KN.below hA, KN.below hA⟩ ⟨⟨v, hv.alloc _, hrow.alloc _, hnil⟩, hB.alloc hsz _⟩ ⟨W.heap.size, new_at rfl, rfl⟩
  case body =>
    rintro l pre x a' W hl ⟨r, hr⟩ ⟨⟨v, hv, hrow, hnil⟩, hB⟩ ⟨Bx, hx, rfl⟩ hlt
    have hlt : pre.length < xs.length := by obtain ⟨post, hp⟩ := hlt; have := congrArg List.length hp; simp at this; omega
    have hc := hv.cell
    obtain ⟨x0, x1, x2, -, -, -, -⟩ := box_cells hx (Below.refl _ _)
    gi_wp2_with (gi_at_builtin; refine wpListIn_append_own _ rfl _ _ 44 rfl w.heap.size 27 i0 (.agg #[.int .i64 0, .string ⟨#[]⟩, .int .i64 0]) 3 32 Try.underlying44 hi hz0 hz1 hz2 rfl (by decide) _ _ _ rfl (hrow.alloc _) ⟨W.heap.size, 0, none⟩ 1 1 (encS x.k) rfl rfl (cell_three_new _ _ _) (by simp [encS, Value.oneCell']) (by unfold maxLen; omega) (by omega) (by have := hB.size; simp; omega) ?_; intro v' w1 hown' hgrow _; obtain ⟨g', cap', rfl⟩ := ownsRow_succ hown'; obtain ⟨hv1, hv2, hr2, hk2, hb2⟩ := hv.appended (by decide) hrow hB.size (Nat.le_refl _) hown' hgrow; have hc1 := hv1.cell; have hf1 := hv1.frozen)
    exact ⟨hk2.from _, ⟨appended_KN hv (by decide) (by decide) (by decide) hrow hgrow, appended_KN hv (by decide) (by decide) (by decide) hrow hgrow⟩, ⟨_, hv2, by simpa using hr2, by simp⟩, hB.trans hb2⟩
  case done =>
    rintro D ys W hD rfl ⟨⟨v, hv, hrow, hnil⟩, hB⟩ hK
    have hc := hv.cell
    gi_wp2
    refine ⟨by simp, .inl ⟨_, _, rfl, run_takeDeferred hK, ?_⟩⟩
    exact ⟨_, results_tmp rfl _ _ _, v, rfl, ownsRow_putObj hrow _ hK rfl, hnil, hB.trans (belowK_b (w := w) (Nat.le_refl _) W D _ _ (by simp at hD; omega) hK rfl rfl)⟩
  case stop =>
    rintro D c pre W _ _ h _
    exact h.elim
theorem row_neK {W : World} {base : Nat} {e : TypeId} {size : Nat} {v : Value} {n : Nat} {xs : List Value} {s : Nat} {cs : Array Value} {t : TypeId} {f : Nat × Nat} (hrow : W.ownsRow base e size v n xs) (hs : W.heap[s]? = some (.cells cs t f)) (ht : t ≠ e) : v.ownBlock = none ∨ v.ownBlock ≠ some s := by
  rcases hrow.2 with ⟨rfl, -⟩ | ⟨g, cap, cur, rfl, -, hg, -⟩
  · exact .inl rfl
  · refine .inr fun h => ?_
    obtain rfl : g = s := by simpa [Value.ownBlock] using h
    rw [hs] at hg
    simp at hg
    exact ht hg.2.1
theorem heap_ltK {w : World} {b : Nat} {o : Obj} (h : w.heap[b]? = some o) : b < w.heap.size := (Array.getElem?_eq_some_iff.1 h).1
theorem boxN_keptK {W w1 : World} {B b : Nat} {o tmp : Obj} {row : Option Nat} (hn : W.heap[b]? = some o) (hgrow : (W.alloc tmp).grownBy w1 row) (hne : ¬ row = some b) (hb : b ≠ B) (v' : Value) : (w1.setCell ⟨B, 0, none⟩ v').heap[b]? = some o :=
  (Below.heap_setCell w1 _ _ _ hb).trans ((hgrow.block b (by have := heap_ltK hn; simp; omega) (fun e => hne e.symm)).trans ((Below.heap_alloc W _ _ (heap_ltK hn)).trans hn))
set_option maxRecDepth 100000 in
set_option maxHeartbeats 4000000 in
theorem first_inK (gf : Nat) (lb : Array Value) (eg : ∀ args w, (callFunc gf args).run Try.prog w = .ok (.enter gf args) w) (k : Nat) (hk : 1 ≤ k) (hk2 : k ≤ 1000000)
    (xs : List Pr) (hlen : xs.length ≤ 1000000) (w0 w : World) (hb0 : Below w0.heap.size w0 w) (hseq : SeqOver Fence.wide 2 Try.prog gf lb (fun x : Pr => #[.agg #[.int .i64 x.k.k, .string x.k.t, .int .i64 x.k.n]]) KPK (fun ys => ys = xs) (fun pre => pre <+: xs) (fun pre x => ∃ post, xs = pre ++ x :: post) w0) :
    CallsIn Fence.wide 3 Try.prog 39 #[.func (.func gf) #[] lb, .int .i64 k] w (ListOutK w (xs.take k)) := by
  obtain ⟨i0, hi, hz0, hz1, hz2⟩ := info_parts infoS
  have hk1 : decide ((k : Int) < 1) = false := by simp; omega
  refine callsIn_of_wp_marks Try.func39 rfl trivial ?_ rfl
  simp only [Try.ntmps39, List.size_toArray, List.length_cons, List.length_nil, Nat.reduceAdd, Nat.reduceSub, Array.replicate_succ, Array.replicate_zero, List.push_toArray, List.append_toArray, List.nil_append, List.cons_append]
  have hef := eql_func_nilS (.func gf) #[] lb
  gi_wp2
  obtain ⟨W0, hW0⟩ : ∃ W0, W0 = (w.alloc (.cells #[.int .i64 k] 3)).alloc (.cells #[.slice none 0 0] 44) := ⟨_, rfl⟩
  have hB0 : Below w.heap.size w W0 := by rw [hW0]; go_grown
  have bO : Boxed W0 (w.heap.size + 1) 44 (.slice none 0 0) := by rw [hW0]; exact new_at (by simp)
  have bN : W0.heap[w.heap.size]? = some (.cells #[.int .i64 k] 3 (0, 0)) := by rw [hW0]; exact (Below.heap_alloc _ _ _ (by simp)).trans (new_at rfl)
  have z0 : W0.heap.size = w.heap.size + 2 := by rw [hW0]; simp
  have Z0 := Lib.hid z0
  rw [← hW0]
  clear hW0 z0
  refine wpIn_rangeFunc_over rfl rfl (gf := gf) (lb := lb) rfl trivial eg
    hseq (fun h k => KPK.trans h k) (fun W l o o' _ h hc _ => KPK.put W l o o' h hc) (hb0.trans (hB0.mono hb0.size)) (fun _ => rfl)
    (fun pre W => (∃ v, Boxed W (w.heap.size + 1) 44 v ∧ W.ownsRow w.heap.size 27 3 v pre.length (pre.flatMap fun p => encS p.k) ∧ (v = .slice none 0 0 ↔ pre = [])) ∧ (Below w.heap.size w W ∧ (W.heap[w.heap.size]? = some (.cells #[.int .i64 k] 3 (0, 0)) ∧ pre.length < k)))
    (fun c pre W => (∃ v, Boxed W (w.heap.size + 1) 44 v ∧ W.ownsRow w.heap.size 27 3 v pre.length (pre.flatMap fun p => encS p.k) ∧ (v = .slice none 0 0 ↔ pre = [])) ∧ (Below w.heap.size w W ∧ (c = .exit 0 ∧ pre.length = k)))
    (OwnFrom.and (Own.from (holdsRow_own w.heap.size (w.heap.size + 1) 44 27 3 (fun pre : List Pr => pre.length) (fun pre : List Pr => pre.flatMap fun p => encS p.k) (fun pre v => v = .slice none 0 0 ↔ pre = [])) _) (OwnFrom.and (ownFrom_below (Nat.le_refl _) (by rw [Z0.out]; omega)) (Own.from (own_and (cells_own _ _ _) (fun _ _ _ _ h _ _ => h)) _)))
    (fun c => OwnFrom.and (Own.from (holdsRow_own w.heap.size (w.heap.size + 1) 44 27 3 (fun pre : List Pr => pre.length) (fun pre : List Pr => pre.flatMap fun p => encS p.k) (fun pre v => v = .slice none 0 0 ↔ pre = [])) _) (OwnFrom.and (ownFrom_below (Nat.le_refl _) (by rw [Z0.out]; omega)) (fun _ _ _ _ h _ _ => h)))
    ⟨⟨_, bO, World.ownsRow_nil _ _ _ _, by simp⟩, hB0, bN, hk⟩
    (fun x a' W => ∃ Bx, W.heap[Bx]? = some (.cells #[.int .i64 x.k.k, .string x.k.t, .int .i64 x.k.n] 27 (0, 0)) ∧ a' = { tmps := #[.func (.func gf) #[] lb, .int .i64 k, undef, .pointer (some ⟨w.heap.size, 0, none⟩), .slice none 0 0, .pointer (some ⟨w.heap.size + 1, 0, none⟩), .pointer (some ⟨Bx, 0, none⟩), .func (.func gf) #[] lb, .bool false, .bool false, .int .i64 k, .bool false, .bool false, .func (.func gf) #[] lb, .agg #[.int .i64 x.k.k, .string x.k.t, .int .i64 x.k.n], undef, undef, undef, undef, undef, undef, undef, undef, undef], defers := [] })
    (fun x a' => by
      rintro s X Y row ⟨Bx, h2, h3⟩ hg hrow
      exact ⟨Bx, kept_block h2 hg (fun r e => (hrow r e).2), h3⟩) ?assign ?body ?done ?stop
  case assign =>
    rintro l pre x W K ⟨⟨v, hv, hrow, hnil⟩, hB, hn, hlt⟩ hK
    have hsz := hB.size
    gi_wp2
    have hA := (Below.refl W.heap.size W).alloc (Nat.le_refl _) (.cells #[.int .i64 x.k.k, .string x.k.t, .int .i64 x.k.n] 27)
    exact hK _ _ ((KeepsOthers.alloc _ _).from _) ⟨KN.below hA, KN.below hA⟩ ⟨⟨v, hv.alloc _, hrow.alloc _, hnil⟩, hB.alloc hsz _, (hA.block _ (heap_lt hn)).trans hn, hlt⟩ ⟨W.heap.size, new_at rfl, rfl⟩
  case body =>
    rintro l pre x a' W hl ⟨r, hr⟩ ⟨⟨v, hv, hrow, hnil⟩, hB, hn, hkl⟩ ⟨Bx, hx, rfl⟩ hlt
    have hlt : pre.length < xs.length := by obtain ⟨post, hp⟩ := hlt; have := congrArg List.length hp; simp at this; omega
    have hc := hv.cell
    have hnc : W.cell? ⟨w.heap.size, 0, none⟩ = some (.int .i64 k) := by rw [cells_of hn]; rfl
    have hlx : pre.length < 1000000 := by omega
    obtain ⟨x0, x1, x2, -, -, -, -⟩ := box_cells hx (Below.refl _ _)
    have hne := Lib.hid (fun h => (row_neK hrow hn (by decide)).elim (fun h2 => by rw [h2] at h; cases h) (fun h2 => h2 h) : ¬ v.ownBlock = some w.heap.size)
    have Hn := Lib.hid hn
    have Hx := Lib.hid hx
    clear hn hx
    by_cases hlast : pre.length + 1 = k
    · have hge : (k : Int) ≤ ((pre.length : Int) + 1) := by omega
      have Hlast := Lib.hid hlast
      clear hlast
      gi_wp2_with (gi_at_builtin; refine wpListIn_append_own _ rfl _ _ 44 rfl w.heap.size 27 i0 (.agg #[.int .i64 0, .string ⟨#[]⟩, .int .i64 0]) 3 32 Try.underlying44 hi hz0 hz1 hz2 rfl (by decide) _ _ _ rfl (hrow.alloc _) ⟨W.heap.size, 0, none⟩ 1 1 (encS x.k) rfl rfl (cell_three_new _ _ _) (by simp [encS, Value.oneCell']) (by unfold maxLen; omega) (by omega) (by have := hB.size; simp; omega) ?_; intro v' w1 hown' hgrow _; obtain ⟨g', cap', rfl⟩ := ownsRow_succ hown'; obtain ⟨hv1, hv2, hr2, hk2, hb2⟩ := hv.appended (by decide) hrow hB.size (by omega) hown' hgrow; have hc1 := hv1.cell; have hf1 := hv1.frozen; have hc2 := hv2.cell; have hn2 := boxN_keptK Hn.out hgrow hne.out (show w.heap.size ≠ w.heap.size + 1 by omega) (.slice (some ⟨g', 0, none⟩) (pre.length + 1) cap'); have hnc2 : (w1.setCell ⟨w.heap.size + 1, 0, none⟩ (.slice (some ⟨g', 0, none⟩) (pre.length + 1) cap')).cell? ⟨w.heap.size, 0, none⟩ = some (.int .i64 k) := (by simp [cells_of hn2]); have HN2 := Lib.hid hn2; clear hn2)
      exact ⟨hk2.from _, ⟨_, hv2, by simpa using hr2, by simp⟩, hB.trans hb2, rfl, by simpa using Hlast.out⟩
    · have hge : ¬ (k : Int) ≤ ((pre.length : Int) + 1) := by omega
      gi_wp2_with (gi_at_builtin; refine wpListIn_append_own _ rfl _ _ 44 rfl w.heap.size 27 i0 (.agg #[.int .i64 0, .string ⟨#[]⟩, .int .i64 0]) 3 32 Try.underlying44 hi hz0 hz1 hz2 rfl (by decide) _ _ _ rfl (hrow.alloc _) ⟨W.heap.size, 0, none⟩ 1 1 (encS x.k) rfl rfl (cell_three_new _ _ _) (by simp [encS, Value.oneCell']) (by unfold maxLen; omega) (by omega) (by have := hB.size; simp; omega) ?_; intro v' w1 hown' hgrow _; obtain ⟨g', cap', rfl⟩ := ownsRow_succ hown'; obtain ⟨hv1, hv2, hr2, hk2, hb2⟩ := hv.appended (by decide) hrow hB.size (by omega) hown' hgrow; have hc1 := hv1.cell; have hf1 := hv1.frozen; have hc2 := hv2.cell; have hn2 := boxN_keptK Hn.out hgrow hne.out (show w.heap.size ≠ w.heap.size + 1 by omega) (.slice (some ⟨g', 0, none⟩) (pre.length + 1) cap'); have hnc2 : (w1.setCell ⟨w.heap.size + 1, 0, none⟩ (.slice (some ⟨g', 0, none⟩) (pre.length + 1) cap')).cell? ⟨w.heap.size, 0, none⟩ = some (.int .i64 k) := (by simp [cells_of hn2]); have HN2 := Lib.hid hn2; clear hn2)
      exact ⟨hk2.from _, ⟨appended_KN hv (by decide) (by decide) (by decide) hrow hgrow, appended_KN hv (by decide) (by decide) (by decide) hrow hgrow⟩, ⟨_, hv2, by simpa using hr2, by simp⟩, hB.trans hb2, HN2.out, by simp; omega⟩
  case done =>
    rintro D ys W hD rfl ⟨⟨v, hv, hrow, hnil⟩, hB, hn, hkl⟩ hK
    have hc := hv.cell
    gi_wp2
    refine ⟨by simp, .inl ⟨_, _, rfl, run_takeDeferred hK, ?_⟩⟩
    rw [List.take_of_length_le (by omega)]
    exact ⟨_, results_tmp rfl _ _ _, v, rfl, ownsRow_putObj hrow _ hK rfl, hnil, hB.trans (belowK_b (w := w) (Nat.le_refl _) W D _ _ (by have := Z0.out; omega) hK rfl rfl)⟩
  case stop =>
    rintro D c pre W hD hp ⟨⟨v, hv, hrow, hnil⟩, hB, rfl, hkl⟩ hK
    have hc := hv.cell
    have hpe : xs.take k = pre := by rw [← hkl]; exact (List.prefix_iff_eq_take.1 hp).symm
    gi_wp2
    refine ⟨by simp, .inl ⟨_, _, rfl, run_takeDeferred hK, ?_⟩⟩
    rw [hpe]
    exact ⟨_, results_tmp rfl _ _ _, v, rfl, ownsRow_putObj hrow _ hK rfl, hnil, hB.trans (belowK_b (w := w) (Nat.le_refl _) W D _ _ (by have := Z0.out; omega) hK rfl rfl)⟩
end Go.Proofs.Ythgidldcblchmaa
