/-
  All of package order at ponder/book.pair[ponder/api.Sym, int], where each yield is told which element it is. No condition.
-/
import Derived.RangeFuncNested
import Derived.RangeFuncBound
import Derived.RangeFuncCalls
import Derived.RangeFuncLeaves
import Derived.Shelf.Abstract
import Derived.Shelf.RegionOpen
import Derived.WalkKit
import Derived.OwnWalkIn
import Derived.TacticsInMore
import Derived.LoopNIn
import Derived.LoopIn
import Derived.BigGuardIn
import Derived.Test.YthgidldcblchmaaKit3
import Derived.Test.YthgidldcblchmaaKitOver
import Derived.Test.YthgidldcblchmaaNewP
namespace Go.Proofs.Ythgidldcblchmaa
set_option linter.unusedVariables false
open Go.RowKit Go.Shelf
attribute [local go_sem] Oper.semAt_some

set_option maxRecDepth 100000 in
set_option maxHeartbeats 4000000 in
theorem fwdR_inP (F : Fence) (hd : F.depth = none) (h6 : F.fn 93) (hro : F.round = none) (l : Nat) (R : List Pr → Pr → Prop) (J Jx : List Pr → World → Prop)
    (hY : ∀ m pre x W, J pre W → R pre x → YieldAt F m Try.prog l #[.agg #[.int .i64 x.k.k, .string x.k.t, .int .i64 x.k.n, .int .i64 x.v]] W fun e W' =>
      (e = .returned (.bool true) ∧ J (pre ++ [x]) W' ∧ KN 162 W W') ∨ (e = .returned (.bool false) ∧ Jx (pre ++ [x]) W')) (T : BT Pr) :
    ∀ (n : Nat) (p : Option Addr) (pre : List Pr) (W : World), TreeP W p T → J pre W → (∀ a x b, T.toList = a ++ x :: b → R (pre ++ a) x) →
      CallsIn F n Try.prog 93 #[.pointer p, .func (.yield l) #[] #[]] W fun e W' =>
        (e = .returned (.bool true) ∧ J (pre ++ T.toList) W' ∧ KN 162 W W') ∨ (e = .returned (.bool false) ∧ ∃ q, q <+: T.toList ∧ Jx (pre ++ q) W') := by
  induction T with
  | leaf =>
    intro n p pre W ht hJ _
    obtain rfl : p = none := ht
    refine callsIn_of_wp Try.func93 rfl h6 ?_ hro
    simp only [Try.ntmps93, List.size_toArray, List.length_cons, List.length_nil, Nat.reduceAdd, Nat.reduceSub, Array.replicate_succ, Array.replicate_zero, List.push_toArray, List.append_toArray, List.nil_append, List.cons_append]
    gi_wp2_with fail
    any_goals (exfalso; apply undef_ne; assumption)
    refine ⟨fun _ h => (by cases h), ?_⟩
    gi_wp2_with fail
    go_ret
    exact .inl ⟨rfl, by simpa [BT.toList] using hJ, KN.refl _ _⟩
  | node tl v tr ihl ihr =>
    intro n p pre W ht hJ hN
    obtain ⟨b, pl, pr, rfl, hc, hl, hr⟩ := ht
    have hRl : ∀ a x b, tl.toList = a ++ x :: b → R (pre ++ a) x := fun a x b h => hN a x (b ++ v :: tr.toList) (by simp [BT.toList, h])
    have hRv : R (pre ++ tl.toList) v := hN _ _ tr.toList (by simp [BT.toList])
    have hRr : ∀ a x b, tr.toList = a ++ x :: b → R (pre ++ tl.toList ++ [v] ++ a) x := fun a x b h => by have := hN (tl.toList ++ v :: a) x b (by simp [BT.toList, h]); simpa using this
    have hRr := Lib.hid hRr
    have hcell : ∀ W', KN 162 W W' → W'.cell? ⟨b, 0, none⟩ = some (.pointer pl) ∧ W'.cell? ⟨b, 1, none⟩ = some (.pointer pr) ∧ W'.cell? ⟨b, 2, none⟩ = some (.int .i64 v.k.k) ∧ W'.cell? ⟨b, 3, none⟩ = some (.string v.k.t) ∧ W'.cell? ⟨b, 4, none⟩ = some (.int .i64 v.k.n) ∧ W'.cell? ⟨b, 5, none⟩ = some (.int .i64 v.v) := by
      intro W' h
      obtain ⟨d0, d1, d2, d3, d4, d5, -⟩ := node_cellsP (w := W') (h b _ _ hc) (Below.refl _ _)
      exact ⟨d0, d1, d2, d3, d4, d5⟩
    have hdd : ∀ k : Nat, (F.depth.isSome = true → 1 ≤ k) := fun k h => by rw [hd] at h; cases h
    clear hN
    have hy2 : ∀ W1, J (pre ++ tl.toList) W1 → KN 162 W W1 → YieldAt F (n - 1) Try.prog l #[.agg #[.int .i64 v.k.k, .string v.k.t, .int .i64 v.k.n, .int .i64 v.v]] W1 fun e W2 =>
        (e = .returned (.bool true) ∧ J (pre ++ tl.toList ++ [v]) W2 ∧ KN 162 W W2 ∧ W2.cell? ⟨b, 1, none⟩ = some (.pointer pr) ∧ TreeP W2 pr tr) ∨ (e = .returned (.bool false) ∧ Jx (pre ++ tl.toList ++ [v]) W2) := fun W1 hJ1 hb1 =>
      YieldAt.mono (hY (n - 1) _ v W1 hJ1 hRv) fun e W2 h => h.elim
        (fun ⟨he, hj, hb2⟩ => .inl ⟨he, hj, hb1.trans hb2, (hcell _ (hb1.trans hb2)).2.1, (hb1.trans hb2).tree hr⟩) .inr
    have ih1 := (ihl (n - 1) pl pre W hl hJ hRl).mono (R' := fun e W1 =>
        (e = .returned (.bool true) ∧ W1.cell? ⟨b, 2, none⟩ = some (.int .i64 v.k.k) ∧ W1.cell? ⟨b, 3, none⟩ = some (.string v.k.t) ∧ W1.cell? ⟨b, 4, none⟩ = some (.int .i64 v.k.n) ∧ W1.cell? ⟨b, 5, none⟩ = some (.int .i64 v.v) ∧ YieldAt F (n - 1) Try.prog l #[.agg #[.int .i64 v.k.k, .string v.k.t, .int .i64 v.k.n, .int .i64 v.v]] W1 fun e W2 =>
          (e = .returned (.bool true) ∧ J (pre ++ tl.toList ++ [v]) W2 ∧ KN 162 W W2 ∧ W2.cell? ⟨b, 1, none⟩ = some (.pointer pr) ∧ TreeP W2 pr tr) ∨ (e = .returned (.bool false) ∧ Jx (pre ++ tl.toList ++ [v]) W2)) ∨
        (e = .returned (.bool false) ∧ ∃ q, q <+: tl.toList ∧ Jx (pre ++ q) W1))
      (fun e W1 h => h.elim (fun ⟨he, hj, hb1⟩ => .inl ⟨he, (hcell _ hb1).2.2.1, (hcell _ hb1).2.2.2.1, (hcell _ hb1).2.2.2.2.1, (hcell _ hb1).2.2.2.2.2,  hy2 W1 hj hb1⟩) .inr)
    obtain ⟨c0, c1, -⟩ := hcell W (KN.refl _ _)
    clear hy2 ihl hcell hc hRl hRv
    refine callsIn_of_wp Try.func93 rfl h6 ?_ hro
    simp only [Try.ntmps93, List.size_toArray, List.length_cons, List.length_nil, Nat.reduceAdd, Nat.reduceSub, Array.replicate_succ, Array.replicate_zero, List.push_toArray, List.append_toArray, List.nil_append, List.cons_append]
    gi_wp2_with (first
      | ((try refine ⟨hdd _, ?_⟩); gi_at_call 93; refine ih1.mono ?_; clear ih1; rintro e W1 (⟨rfl, cv0, cv1, cv2, cv3, fn, tmps, assign, body, hy, hR⟩ | ⟨rfl, q, hq, hx1⟩))
      | ((try refine ⟨hdd _, ?_⟩); refine hR.mono ?_; clear hR; rintro e W2 (⟨rfl, hJ2, hb2, c2', hr2⟩ | ⟨rfl, hx2⟩))
      | ((try refine ⟨hdd _, ?_⟩); gi_at_call 93; refine (ihr (n - 1) pr _ _ hr2 hJ2 hRr.out).mono ?_; rintro e W3 (⟨rfl, hJ3, hb3⟩ | ⟨rfl, q, hq, hx3⟩)))
    · go_ret
      exact .inl ⟨rfl, by simpa [BT.toList, List.append_assoc] using hJ3, hb2.trans hb3⟩
    · go_ret
      obtain ⟨r, hr'⟩ := hq
      exact .inr ⟨rfl, tl.toList ++ v :: q, ⟨r, by simp [BT.toList, ← hr']⟩, by simpa [List.append_assoc] using hx3⟩
    · go_ret
      exact .inr ⟨rfl, tl.toList ++ [v], ⟨tr.toList, by simp [BT.toList]⟩, by simpa [List.append_assoc] using hx2⟩
    · refine ⟨fun _ h => (by cases h), ?_⟩
      gi_wp2
      go_ret
      exact .inr ⟨rfl, q, hq.trans (by simp [BT.toList]), hx1⟩
set_option maxHeartbeats 1000000 in
theorem allR1_inP (F : Fence) (hd : F.depth = none) (n : Nat) (h5 : F.fn 92) (h6 : F.fn 93) (hro : F.round = none) (l Bt b : Nat) (xs : List Pr) (R : List Pr → Pr → Prop) (hR : ∀ a x b, xs = a ++ x :: b → R a x) (J Jx : List Pr → World → Prop)
    (hY : ∀ m pre x W, J pre W → R pre x → YieldAt F m Try.prog l #[.agg #[.int .i64 x.k.k, .string x.k.t, .int .i64 x.k.n, .int .i64 x.v]] W fun e W' =>
      (e = .returned (.bool true) ∧ J (pre ++ [x]) W' ∧ KN 162 W W') ∨ (e = .returned (.bool false) ∧ Jx (pre ++ [x]) W'))
    (W : World) (hBt : W.cell? ⟨Bt, 0, none⟩ = some (.pointer (some ⟨b, 0, none⟩))) (hS : SetP W b xs) (h0 : J [] W) :
    CallsIn F n Try.prog 92 #[.func (.yield l) #[] #[], .pointer (some ⟨Bt, 0, none⟩)] W fun e W' => (∃ v, e = .returned v) ∧
      ((∃ ys, ys = xs ∧ J ys W') ∨ (∃ pre, pre <+: xs ∧ Jx pre W')) := by
  obtain ⟨p0, T, hroot, hT, hxs, -⟩ := hS
  obtain rfl : T.toList = xs := by exact hxs
  have c0 : W.cell? ⟨b, 0, none⟩ = some (.pointer p0) := by rw [cells_of hroot]; rfl
  have hdd : ∀ k : Nat, (F.depth.isSome = true → 1 ≤ k) := fun k h => by rw [hd] at h; cases h
  have hp := fwdR_inP F hd h6 hro l R J Jx hY T (n - 1) p0 [] W hT h0 (fun a x b h => by simpa using hR a x b h)
  clear hxs hroot
  refine callsIn_of_wp Try.func92 rfl h5 ?_ hro
  simp only [Try.ntmps92, List.size_toArray, List.length_cons, List.length_nil, Nat.reduceAdd, Nat.reduceSub, Array.replicate_succ, Array.replicate_zero, List.push_toArray, List.append_toArray, List.nil_append, List.cons_append]
  gi_wp2_with ((try refine ⟨hdd _, ?_⟩); gi_at_call 93; refine hp.mono ?_; clear hp; rintro e W1 (⟨rfl, hJ1, _⟩ | ⟨rfl, q, hq, hx⟩))
  · go_end0
    exact ⟨⟨_, rfl⟩, .inl ⟨_, rfl, by simpa using hJ1⟩⟩
  · go_end0
    exact ⟨⟨_, rfl⟩, .inr ⟨q, hq, by simpa using hx⟩⟩
theorem all_overP (F : Fence) (hd : F.depth = none) (n : Nat) (h5 : F.fn 92) (h6 : F.fn 93) (hro : F.round = none) (Bt b : Nat) (xs : List Pr) (w : World) (hc : w.heap[Bt]? = some (.cells #[.pointer (some ⟨b, 0, none⟩)] 97 (0, 0))) (hS : SetP w b xs) (R : List Pr → Pr → Prop) (hR : ∀ a x b, xs = a ++ x :: b → R a x) :
    SeqOver F n Try.prog 92 #[.pointer (some ⟨Bt, 0, none⟩)] (fun x : Pr => #[.agg #[.int .i64 x.k.k, .string x.k.t, .int .i64 x.k.n, .int .i64 x.v]]) (KN 162) (fun ys => ys = xs) (fun pre => pre <+: xs) R w := fun l J Jx W hW _ _ hY h0 =>
  allR1_inP F hd n h5 h6 hro l Bt b xs R hR J Jx (fun m pre x W1 h1 h2 => YieldAt.mono (hY m pre x W1 h1 h2) fun _ _ h => h.2) W (by rw [cells_of ((hW.block Bt (heap_lt hc)).trans hc)]; rfl) (IsSet.mono hS hW) h0
end Go.Proofs.Ythgidldcblchmaa
