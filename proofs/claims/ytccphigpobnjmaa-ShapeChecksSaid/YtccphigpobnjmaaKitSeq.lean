/-
  What a loop over a set must keep. No condition.
-/
import Derived.RangeFuncNested
import Derived.RangeFuncBound
import Derived.RangeFuncCalls
import Derived.RangeFuncLeaves
import Derived.Shelf.Abstract
import Derived.Shelf.RegionOpen
import Derived.WalkKit
import Derived.OwnWalkIn
import Derived.TacticsInMore
import Derived.LoopNIn
import Derived.LoopIn
import Derived.BigGuardIn
import Derived.Test.YtccphigpobnjmaaKit3
namespace Go.Proofs.Ytccphigpobnjmaa
set_option linter.unusedVariables false
open Go.RowKit Go.Shelf
attribute [local go_sem] Oper.semAt_some

/-- Every block of cells of type t lies as it lay. -/
def KN (t : TypeId) (W W' : World) : Prop := ∀ (k : Nat) (c : Array Value) (f : Nat × Nat), W.heap[k]? = some (.cells c t f) → W'.heap[k]? = some (.cells c t f)
theorem KN.refl (t : TypeId) (W : World) : KN t W W := fun _ _ _ h => h
theorem KN.trans {t : TypeId} {A B C : World} (h : KN t A B) (k : KN t B C) : KN t A C := fun i c f hi => k i c f (h i c f hi)
theorem KN.tree {α : Type} {enc : α → List Value} {nt : Nat} {W W' : World} (h : KN nt W W') : ∀ {p : Option Addr} {T : BT α}, IsTree enc nt W p T → IsTree enc nt W' p T
  | _, .leaf, ht => ht
  | _, .node _ _ _, ⟨b, pl, pr, hp, hc, hl, hr⟩ => ⟨b, pl, pr, hp, h b _ _ hc, h.tree hl, h.tree hr⟩
theorem KN.put (t : TypeId) (W : World) (l : Nat) (o o' : Obj) (h : W.heap[l]? = some o) (hc : o.isCells = false) : KN t W (W.putObj l o') := by
  intro k c f hk
  by_cases e : k = l
  · subst e
    rw [h] at hk
    obtain rfl : o = .cells c t f := by simpa using hk
    simp [Obj.isCells] at hc
  · rw [World.putObj_heap_other e]; exact hk
theorem KN.below {t : TypeId} {W W' : World} (h : Below W.heap.size W W') : KN t W W' := fun k c f hk => (h.block k (heap_lt hk)).trans hk
theorem KN.but {t t' : TypeId} {W W' : World} {b : Nat} {c : Array Value} {f : Nat × Nat} (hg : W.grownBy W' (some b)) (hb : W.heap[b]? = some (.cells c t' f)) (hne : t' ≠ t) : KN t W W' := by
  intro k c' f' hk
  refine (hg.block k (heap_lt hk) ?_).trans hk
  intro e
  obtain rfl : k = b := by simpa using e
  rw [hb] at hk
  simp at hk
  exact hne hk.2.1
theorem undef_ne {b : Bool} (h : some undef = some (Value.bool b)) : False := by simp [undef] at h
theorem room_of_none {F : Fence} (hd : F.depth = none) (k : Nat) : F.room k := fun d h => by rw [hd] at h; cases h
theorem RoundIn.anyDepth {F : Fence} (hd : F.depth = none) {m m' : Nat} {P : Program} {l : Nat} {f : FuncId} {tmps : Array Value} {assign body : Code} {w : World} {R : Ending → World → Prop}
    (h : RoundIn F m P l f tmps assign body w R) : RoundIn F m' P l f tmps assign body w R := ⟨h.1, fun c cs _ => h.2 c cs (room_of_none hd _)⟩
theorem YieldAt.anyDepth {F : Fence} (hd : F.depth = none) {m : Nat} (m' : Nat) {P : Program} {l : Nat} {args : Array Value} {W : World} {R : Ending → World → Prop} (h : YieldAt F m P l args W R) : YieldAt F m' P l args W R := by
  obtain ⟨fn, tmps, assign, body, hy, hR⟩ := h
  exact ⟨fn, tmps, assign, body, hy, RoundIn.anyDepth hd hR⟩
end Go.Proofs.Ytccphigpobnjmaa
