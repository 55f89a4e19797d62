/-
  Plain lemmas: what a loop over an iterator keeps of sets. No condition.
-/
import Derived.RangeFuncNested
import Derived.RangeFuncBox
import Derived.Test.YtccphigpobnjmaaKitSeq
import Derived.Test.YtccphigpobnjmaaKit5
namespace Go.Proofs.Ytccphigpobnjmaa
set_option linter.unusedVariables false
open Go.RowKit
theorem kept_block {X Y : World} {row : Option Nat} {B : Nat} {c : Array Value} {t : TypeId} {f : Nat × Nat} (hs : X.heap[B]? = some (.cells c t f)) (hg : X.grownBy Y row)
    (hrow : ∀ r, row = some r → ∃ o : Obj, X.heap[r]? = some o ∧ o.isCells = false) : Y.heap[B]? = some (.cells c t f) := by
  refine (hg.block B (heap_lt hs) ?_).trans hs
  intro e
  obtain ⟨o, ho, hc⟩ := hrow B e.symm
  rw [hs] at ho; cases ho; cases hc
theorem kept_tree {α : Type} {enc : α → List Value} {nt : Nat} {X Y : World} {row : Option Nat} (hg : X.grownBy Y row)
    (hrow : ∀ r, row = some r → ∃ o : Obj, X.heap[r]? = some o ∧ o.isCells = false) : ∀ {p : Option Addr} {T : BT α}, IsTree enc nt X p T → IsTree enc nt Y p T
  | _, .leaf, h => h
  | _, .node _ _ _, ⟨b, pl, pr, hp, hc, hl, hr⟩ => ⟨b, pl, pr, hp, kept_block hc hg hrow, kept_tree hg hrow hl, kept_tree hg hrow hr⟩
theorem cells_own {β : Type} (B : Nat) (c : β → Array Value) (t : TypeId) : Own (fun (s : β) W => W.heap[B]? = some (.cells (c s) t (0, 0))) := fun _ _ _ _ hs hg hrow => kept_block hs hg hrow
theorem set_own {α β : Type} (enc : α → List Value) (nt st : Nat) (c : α → α → Int) (b : Nat) (f : β → List α) : Own (fun (s : β) W => IsSet enc nt st c W b (f s)) := by
  rintro s X Y row ⟨p, T, h1, h2, h3, h4⟩ hg hrow
  exact ⟨p, T, kept_block h1 hg hrow, kept_tree hg hrow h2, h3, h4⟩
theorem own_and {β : Type} {I I' : β → World → Prop} (h : Own I) (h' : Own I') : Own (fun s W => I s W ∧ I' s W) := fun s W W' row hs hg hr => ⟨h s W W' row hs.1 hg hr, h' s W W' row hs.2 hg hr⟩
end Go.Proofs.Ytccphigpobnjmaa
