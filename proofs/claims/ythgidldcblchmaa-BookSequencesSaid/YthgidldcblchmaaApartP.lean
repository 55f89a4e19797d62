/-
  An iterator over an iterator of pairs ponder/book.pair[ponder/api.Sym, int]: apart. No condition.
-/
import Derived.RangeFuncNested
import Derived.RangeFuncBound
import Derived.RangeFuncCalls
import Derived.RangeFuncLeaves
import Derived.Shelf.Abstract
import Derived.Shelf.RegionOpen
import Derived.WalkKit
import Derived.OwnWalkIn
import Derived.TacticsInMore
import Derived.LoopNIn
import Derived.LoopIn
import Derived.BigGuardIn
import Derived.Test.YthgidldcblchmaaKit3
import Derived.Test.YthgidldcblchmaaKitOver
import Derived.Test.YthgidldcblchmaaKitOwn
import Derived.Test.YthgidldcblchmaaBookP
namespace Go.Proofs.Ythgidldcblchmaa
set_option linter.unusedVariables false
open Go.RowKit Go.Shelf
attribute [local go_sem] Oper.semAt_some

attribute [local go_sem] Oper.semAt_some
/-- What a round of a loop over pairs keeps: the nodes, and the variables that hold a yield. -/
def KPP (W W' : World) : Prop := KN 162 W W' ∧ KN 52 W W'
theorem KPP.trans {A B C : World} (h : KPP A B) (k : KPP B C) : KPP A C := ⟨h.1.trans k.1, h.2.trans k.2⟩
theorem KPP.put (W : World) (l : Nat) (o o' : Obj) (h : W.heap[l]? = some o) (hc : o.isCells = false) : KPP W (W.putObj l o') := ⟨KN.put _ W l o o' h hc, KN.put _ W l o o' h hc⟩
theorem apart_anyP (w : World) (gf : Nat) (lb : Array Value) : Calls Try.prog 70 #[.func (.func gf) #[] lb] w fun e w' =>
    e = .returned (.func (.func 94) #[] #[.pointer (some ⟨w.heap.size, 0, none⟩)]) ∧ w' = w.alloc (.cells #[.func (.func gf) #[] lb] 112) := by
  go_enter Try.func70, Try.ntmps70
  go_wp2
  go_ret
  exact ⟨rfl, rfl⟩
set_option maxRecDepth 100000 in
set_option maxHeartbeats 4000000 in
theorem apart_overP (F : Fence) (hd : F.depth = none) (n : Nat) (h7 : F.fn 94) (hro : F.round = none) (gf : Nat) (hgf : F.fn gf) (lb : Array Value) (eg : ∀ args w, (callFunc gf args).run Try.prog w = .ok (.enter gf args) w)
    (Bl : Nat) (w : World) (hBl : w.heap[Bl]? = some (.cells #[.func (.func gf) #[] lb] 112 (0, 0))) (S Sp : List Pr → Prop) (R : List Pr → Pr → Prop) (hseq : SeqOver F (n - 1) Try.prog gf lb (fun x : Pr => #[.agg #[.int .i64 x.k.k, .string x.k.t, .int .i64 x.k.n, .int .i64 x.v]]) (KN 162) S Sp R w) :
    SeqOver F n Try.prog 94 #[.pointer (some ⟨Bl, 0, none⟩)] (fun x : Pr => #[.agg #[.int .i64 x.k.k, .string x.k.t, .int .i64 x.k.n], .int .i64 x.v]) KPP S Sp R w := by
  intro l J Jx W hW hJ hJx hY h0
  have hdd : ∀ k : Nat, (F.depth.isSome = true → 1 ≤ k) := fun k h => by rw [hd] at h; cases h
  obtain ⟨W1, hW1⟩ : ∃ W1, W1 = W.alloc (.cells #[.func (.yield l) #[] #[]] 52) := ⟨_, rfl⟩
  have hB1 : Below W.heap.size W W1 := by rw [hW1]; go_grown
  have hby : W1.heap[W.heap.size]? = some (.cells #[.func (.yield l) #[] #[]] 52 (0, 0)) := by rw [hW1]; exact new_at rfl
  have cl : (W.alloc (.cells #[.func (.yield l) #[] #[]] 52)).cell? ⟨Bl, 0, none⟩ = some (.func (.func gf) #[] lb) := by rw [← hW1, cells_of (((hW.trans (hB1.mono hW.size)).block Bl (heap_lt hBl)).trans hBl)]; rfl
  have h01 : J [] W1 := by rw [hW1]; exact hJ.alloc _ h0
  have hz1 : W1.heap.size = W.heap.size + 1 := by rw [hW1]; simp
  have HW1 := Lib.hid hW1
  clear hW1
  refine callsIn_of_wp_marks Try.func94 rfl h7 ?_ hro
  simp only [Try.ntmps94, List.size_toArray, List.length_cons, List.length_nil, Nat.reduceAdd, Nat.reduceSub, Array.replicate_succ, Array.replicate_zero, List.push_toArray, List.append_toArray, List.nil_append, List.cons_append]
  gi_wp2_with fail
  rw [← HW1.out]
  refine wpIn_rangeFunc_over hd hro (gf := gf) (lb := lb) rfl hgf eg hseq (fun h k => KN.trans h k) (fun W l o o' _ h hc _ => KN.put _ W l o o' h hc) (hW.trans (hB1.mono hW.size)) (fun _ => rfl)
    (fun pre V => J pre V ∧ V.heap[W.heap.size]? = some (.cells #[.func (.yield l) #[] #[]] 52 (0, 0))) (fun c pre V => c = .ret ∧ Jx pre V)
    (OwnFrom.and (OwnFrom.up hJ (by omega)) (Own.from (cells_own _ _ _) _)) (fun c s X Y row h hg hr => ⟨h.1, OwnFrom.up hJx (show W.heap.size ≤ W1.heap.size by omega) s X Y row h.2 hg hr⟩) ⟨h01, hby⟩
    (fun x a' V => ∃ Bx, V.heap[Bx]? = some (.cells #[.int .i64 x.k.k, .string x.k.t, .int .i64 x.k.n, .int .i64 x.v] 100 (0, 0)) ∧ a' = { tmps := #[.func (.yield l) #[] #[], .pointer (some ⟨Bl, 0, none⟩), .pointer (some ⟨W.heap.size, 0, none⟩), .pointer (some ⟨Bx, 0, none⟩), .func (.func gf) #[] lb, .agg #[.int .i64 x.k.k, .string x.k.t, .int .i64 x.k.n, .int .i64 x.v], undef, undef, undef, undef, undef, undef, undef], defers := [] })
    (fun x a' => by
      rintro s X Y row ⟨Bx, h2, h3⟩ hg hrow
      exact ⟨Bx, kept_block h2 hg (fun r e => (hrow r e).2), h3⟩) ?assign ?body ?done ?stop
  case assign =>
    rintro l' pre x V K ⟨hj, hy⟩ hK
    gi_wp2
    have hA := (Below.refl V.heap.size V).alloc (Nat.le_refl _) (.cells #[.int .i64 x.k.k, .string x.k.t, .int .i64 x.k.n, .int .i64 x.v] 100)
    exact hK _ _ ((KeepsOthers.alloc _ _).from _) (KN.below hA) ⟨OwnFrom.alloc hJ _ hj, (hA.block _ (heap_lt hy)).trans hy⟩ ⟨V.heap.size, new_at rfl, rfl⟩
  case body =>
    rintro l' pre x a' V hl ⟨r, hr⟩ ⟨hj, hy⟩ ⟨Bx, hx, rfl⟩ hlt
    have cy : V.cell? ⟨W.heap.size, 0, none⟩ = some (.func (.yield l) #[] #[]) := by rw [cells_of hy]; rfl
    have cx := cells_of hx
    have x0 : V.cell? ⟨Bx, 0, none⟩ = some (.int .i64 x.k.k) := by rw [cx]; rfl
    have x1 : V.cell? ⟨Bx, 1, none⟩ = some (.string x.k.t) := by rw [cx]; rfl
    have x2 : V.cell? ⟨Bx, 2, none⟩ = some (.int .i64 x.k.n) := by rw [cx]; rfl
    have x3 : V.cell? ⟨Bx, 3, none⟩ = some (.int .i64 x.v) := by rw [cx]; rfl
    obtain ⟨fn, tmps, assign, body, hyr, hR⟩ := hY (n - 1 - 1 - 1) pre x V hj hlt
    have HY := Lib.hid hy
    clear hx cx hy
    gi_wp2_with fail
    refine hR.mono ?_
    clear hR hyr
    rintro e V2 ⟨hkf, (⟨rfl, hj2, hkp⟩ | ⟨rfl, hx2⟩)⟩
    · gi_wp2_with fail
      exact ⟨keepsFrom_up hkf (by omega), hkp.1, hj2, hkp.2 _ _ _ HY.out⟩
    · gi_wp2_with fail
      exact ⟨keepsFrom_up hkf (by omega), rfl, hx2⟩
  case done =>
    rintro D zs V hD hS ⟨hj, hy⟩ hK
    gi_wp2
    refine ⟨by simp, .inl ⟨_, _, rfl, run_takeDeferred hK, ?_⟩⟩
    exact ⟨_, results_none rfl _ _ _, ⟨_, rfl⟩, .inl ⟨zs, hS, OwnFrom.putObj hJ _ hj (by omega) hK rfl⟩⟩
  case stop =>
    rintro D c pre V hD hSp hj hK
    obtain ⟨rfl, hj⟩ := hj
    gi_wp2
    refine ⟨by simp, .inl ⟨_, _, rfl, run_takeDeferred hK, ?_⟩⟩
    exact ⟨_, results_none rfl _ _ _, ⟨_, rfl⟩, .inr ⟨pre, hSp, OwnFrom.putObj hJx _ hj (by omega) hK rfl⟩⟩
end Go.Proofs.Ythgidldcblchmaa
