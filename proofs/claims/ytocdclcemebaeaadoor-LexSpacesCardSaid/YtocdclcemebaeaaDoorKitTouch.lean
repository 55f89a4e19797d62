/-
  Plain lemmas: worlds that differ in some blocks alone. No condition. (A seat with KitRow has these there.)
-/
import Derived.Test.YtocdclcemebaeaaDoorKit2
namespace Go.Proofs.YtocdclcemebaeaaDoor
set_option linter.unusedVariables false
open Go.RowKit
/-- All blocks that were there are as they were, but those of A. -/
structure Touch (A : Nat → Prop) (w w' : World) : Prop where
  os : w'.os = w.os
  tape : w'.tape = w.tape
  output : w'.output = w.output
  size : w.heap.size ≤ w'.heap.size
  block : ∀ k, k < w.heap.size → ¬ A k → w'.heap[k]? = w.heap[k]?
theorem Touch.refl (A : Nat → Prop) (w : World) : Touch A w w := ⟨rfl, rfl, rfl, Nat.le_refl _, fun _ _ _ => rfl⟩
theorem Touch.trans {A : Nat → Prop} {a b c : World} (h : Touch A a b) (k : Touch A b c) : Touch A a c :=
  ⟨k.os.trans h.os, k.tape.trans h.tape, k.output.trans h.output, Nat.le_trans h.size k.size, fun i hi hn => (k.block i (Nat.lt_of_lt_of_le hi h.size) hn).trans (h.block i hi hn)⟩
theorem Touch.mono {A A' : Nat → Prop} {a b : World} (h : Touch A a b) (hA : ∀ k, k < a.heap.size → A k → A' k) : Touch A' a b :=
  ⟨h.os, h.tape, h.output, h.size, fun i hi hn => h.block i hi (fun ha => hn (hA i hi ha))⟩
theorem Touch.below {A : Nat → Prop} {a b : World} {B : Nat} (h : Touch A a b) (hB : B ≤ a.heap.size) (hA : ∀ k, k < a.heap.size → A k → B ≤ k) : Below B a b :=
  ⟨h.os, h.tape, h.output, h.size, fun i hi => h.block i (by omega) (fun ha => by have := hA i (by omega) ha; omega)⟩
theorem Touch.grown {a b : World} {r : Option Nat} (h : a.grownBy b r) : Touch (fun k => some k = r) a b :=
  ⟨h.os, h.tape, h.output, h.size, fun i hi hn => h.block i hi hn⟩
theorem Touch.ofBelow {A : Nat → Prop} {a b : World} (h : Below a.heap.size a b) : Touch A a b := ⟨h.os, h.tape, h.output, h.size, fun i hi _ => h.block i hi⟩
theorem Touch.set (w : World) (b o : Nat) (v : Value) : Touch (fun k => k = b) w (w.setCell ⟨b, o, none⟩ v) :=
  ⟨rfl, rfl, rfl, by simp [World.setCell], fun i _ hn => Below.heap_setCell _ _ _ _ (by simpa using hn)⟩
theorem Touch.drewN {A : Nat → Prop} {a b : World} (n : Nat) (h : Touch A a b) : Touch A a (b.drewN n) := ⟨h.os, h.tape, h.output, h.size, h.block⟩

theorem Touch.setNew {A : Nat → Prop} {w w' : World} {B : Nat} (h : Touch A w w') (hB : w.heap.size ≤ B) (o : Nat) (v : Value) : Touch A w (w'.setCell ⟨B, o, none⟩ v) :=
  ⟨h.os, h.tape, h.output, by simpa [World.setCell] using h.size, fun i hi hn => (Below.heap_setCell _ _ _ _ (by simp; omega)).trans (h.block i hi hn)⟩
theorem IsTree.touch {α : Type} {enc : α → List Value} {nt : Nat} {A : Nat → Prop} {W W' : World} (hg : Touch A W W') (hA : ∀ k, A k → ∀ c t f, W.heap[k]? = some (.cells c t f) → t ≠ nt) :
    ∀ {p : Option Addr} {T : BT α}, IsTree enc nt W p T → IsTree enc nt W' p T
  | _, .leaf, h => h
  | _, .node _ _ _, ⟨b', pl, pr, hp, hc, hl, hr⟩ => ⟨b', pl, pr, hp, (hg.block b' (heap_lt hc) (fun h => hA b' h _ _ _ hc rfl)).trans hc, hl.touch hg hA, hr.touch hg hA⟩
theorem IsSet.touch {α : Type} {enc : α → List Value} {nt st : Nat} {c : α → α → Int} {A : Nat → Prop} {w w' : World} {b : Nat} {xs : List α} (h : IsSet enc nt st c w b xs) (hg : Touch A w w') (hb : ¬ A b)
    (hA : ∀ k, A k → ∀ c t f, w.heap[k]? = some (.cells c t f) → t ≠ nt) : IsSet enc nt st c w' b xs := by
  obtain ⟨p, T, h1, h2, h3, h4⟩ := h
  exact ⟨p, T, (hg.block b (heap_lt h1) hb).trans h1, h2.touch hg hA, h3, h4⟩
end Go.Proofs.YtocdclcemebaeaaDoor
