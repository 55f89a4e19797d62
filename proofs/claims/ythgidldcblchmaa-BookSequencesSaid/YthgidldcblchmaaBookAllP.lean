/-
  All of a map of pairs ponder/book.pair[ponder/api.Sym, int]. No condition.
-/
import Derived.RangeFuncNested
import Derived.RangeFuncBound
import Derived.RangeFuncCalls
import Derived.RangeFuncLeaves
import Derived.Shelf.Abstract
import Derived.Shelf.RegionOpen
import Derived.WalkKit
import Derived.OwnWalkIn
import Derived.TacticsInMore
import Derived.LoopNIn
import Derived.LoopIn
import Derived.BigGuardIn
import Derived.Test.YthgidldcblchmaaKit3
import Derived.Test.YthgidldcblchmaaAllP
import Derived.Test.YthgidldcblchmaaAllRP
import Derived.Test.YthgidldcblchmaaApartP
namespace Go.Proofs.Ythgidldcblchmaa
set_option linter.unusedVariables false
open Go.RowKit Go.Shelf
attribute [local go_sem] Oper.semAt_some

attribute [local go_sem] Oper.semAt_some
theorem eql_func_nilMP (fn : Fn) (a b : Array Value) (w : World) : (binOp .eql 75 (.func fn a b) .nilFunc).run Try.prog w = .ok (.bool false) w := by kernel_rfl
def AllMOutP (w : World) (s : Nat) (e : Ending) (w' : World) : Prop := ∃ Bl Bt, e = .returned (.func (.func 94) #[] #[.pointer (some ⟨Bl, 0, none⟩)]) ∧ w.heap.size ≤ Bl ∧ Below w.heap.size w w' ∧
  w'.heap[Bl]? = some (.cells #[.func (.func 92) #[] #[.pointer (some ⟨Bt, 0, none⟩)]] 112 (0, 0)) ∧ w'.heap[Bt]? = some (.cells #[.pointer (some ⟨s, 0, none⟩)] 97 (0, 0))
theorem all_mapP (w : World) (b s : Nat) (xs : List Pr) (h : MapP w b s xs) : Calls Try.prog 40 #[.pointer (some ⟨b, 0, none⟩)] w (AllMOutP w s) := by
  have c0 : w.cell? ⟨b, 0, none⟩ = some (.pointer (some ⟨s, 0, none⟩)) := by rw [cells_of h.1]; rfl
  clear h
  go_enter Try.func40, Try.ntmps40
  go_wp2_with (first | (go_at_call 69; refine (all_anyP _ s).mono ?_; rintro e w1 ⟨rfl, rfl⟩) | (go_at_call 70; refine (apart_anyP _ _ _).mono ?_; rintro e w2 ⟨rfl, rfl⟩))
  go_ret
  exact ⟨_, w.heap.size, rfl, by simp, by go_grown, new_at (by simp), (Below.heap_alloc _ _ _ (by simp)).trans (new_at rfl)⟩
theorem seq_mapP (n : Nat) (w : World) (s : Nat) (xs : List Pr) (Bl Bt : Nat) (h1 : w.heap[Bl]? = some (.cells #[.func (.func 92) #[] #[.pointer (some ⟨Bt, 0, none⟩)]] 112 (0, 0))) (h2 : w.heap[Bt]? = some (.cells #[.pointer (some ⟨s, 0, none⟩)] 97 (0, 0))) (hS : SetP w s xs)
    (R : List Pr → Pr → Prop) (hR : ∀ a x b, xs = a ++ x :: b → R a x) :
    SeqOver Fence.wide n Try.prog 94 #[.pointer (some ⟨Bl, 0, none⟩)] (fun x : Pr => #[.agg #[.int .i64 x.k.k, .string x.k.t, .int .i64 x.k.n], .int .i64 x.v]) KPP (fun ys => ys = xs) (fun pre => pre <+: xs) R w :=
  apart_overP Fence.wide rfl n trivial rfl 92 trivial _ (enters_of Try.func92 (by kernel_rfl) rfl) Bl w h1 _ _ R (all_overP Fence.wide rfl (n - 1) trivial trivial rfl Bt s xs w h2 hS R hR)
end Go.Proofs.Ythgidldcblchmaa
