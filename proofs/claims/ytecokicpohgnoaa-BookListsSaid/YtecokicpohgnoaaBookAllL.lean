/-
  All of a map of pairs ponder/book.pair[ponder/api.Sym, []int]. No condition.
-/
import Derived.RangeFuncNested
import Derived.RangeFuncBound
import Derived.RangeFuncCalls
import Derived.RangeFuncLeaves
import Derived.Shelf.Abstract
import Derived.Shelf.RegionOpen
import Derived.WalkKit
import Derived.OwnWalkIn
import Derived.TacticsInMore
import Derived.LoopNIn
import Derived.LoopIn
import Derived.BigGuardIn
import Derived.Test.YtecokicpohgnoaaKit3
import Derived.Test.YtecokicpohgnoaaAllL
import Derived.Test.YtecokicpohgnoaaAllRL
import Derived.Test.YtecokicpohgnoaaApartL
namespace Go.Proofs.Ytecokicpohgnoaa
set_option linter.unusedVariables false
open Go.RowKit Go.Shelf
attribute [local go_sem] Oper.semAt_some

attribute [local go_sem] Oper.semAt_some
theorem eql_func_nilML (fn : Fn) (a b : Array Value) (w : World) : (binOp .eql 91 (.func fn a b) .nilFunc).run Try.prog w = .ok (.bool false) w := by kernel_rfl
def AllMOutL (w : World) (s : Nat) (e : Ending) (w' : World) : Prop := ∃ Bl Bt, e = .returned (.func (.func 114) #[] #[.pointer (some ⟨Bl, 0, none⟩)]) ∧ w.heap.size ≤ Bl ∧ Below w.heap.size w w' ∧
  w'.heap[Bl]? = some (.cells #[.func (.func 115) #[] #[.pointer (some ⟨Bt, 0, none⟩)]] 148 (0, 0)) ∧ w'.heap[Bt]? = some (.cells #[.pointer (some ⟨s, 0, none⟩)] 137 (0, 0))
theorem all_mapL (w : World) (b s : Nat) (xs : List Pl) (h : MapL w b s xs) : Calls Try.prog 53 #[.pointer (some ⟨b, 0, none⟩)] w (AllMOutL w s) := by
  have c0 : w.cell? ⟨b, 0, none⟩ = some (.pointer (some ⟨s, 0, none⟩)) := by rw [cells_of h.1]; rfl
  clear h
  go_enter Try.func53, Try.ntmps53
  go_wp2_with (first | (go_at_call 90; refine (all_anyL _ s).mono ?_; rintro e w1 ⟨rfl, rfl⟩) | (go_at_call 89; refine (apart_anyL _ _ _).mono ?_; rintro e w2 ⟨rfl, rfl⟩))
  go_ret
  exact ⟨_, w.heap.size, rfl, by simp, by go_grown, new_at (by simp), (Below.heap_alloc _ _ _ (by simp)).trans (new_at rfl)⟩
theorem seq_mapL (n : Nat) (w : World) (s : Nat) (xs : List Pl) (Bl Bt : Nat) (h1 : w.heap[Bl]? = some (.cells #[.func (.func 115) #[] #[.pointer (some ⟨Bt, 0, none⟩)]] 148 (0, 0))) (h2 : w.heap[Bt]? = some (.cells #[.pointer (some ⟨s, 0, none⟩)] 137 (0, 0))) (hS : SetL w s xs)
    (R : List Pl → Pl → Prop) (hR : ∀ a x b, xs = a ++ x :: b → R a x) :
    SeqOver Fence.wide n Try.prog 114 #[.pointer (some ⟨Bl, 0, none⟩)] (fun x : Pl => #[.agg #[.int .i64 x.k.k, .string x.k.t, .int .i64 x.k.n], .slice x.a x.l x.c]) KPL (fun ys => ys = xs) (fun pre => pre <+: xs) R w :=
  apart_overL Fence.wide rfl n trivial rfl 115 trivial _ (enters_of Try.func115 (by kernel_rfl) rfl) Bl w h1 _ _ R (all_overL Fence.wide rfl (n - 1) trivial trivial rfl Bt s xs w h2 hS R hR)
end Go.Proofs.Ytecokicpohgnoaa
