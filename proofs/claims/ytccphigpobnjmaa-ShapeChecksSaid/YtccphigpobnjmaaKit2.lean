/-
  Plain lemmas: sets of package order in memory, slices that read as lists. No condition.
-/
import Derived.Test.YtccphigpobnjmaaKit
namespace Go.Proofs.Ytccphigpobnjmaa
set_option linter.unusedVariables false
open Go.RowKit
/-! sets in memory -/
theorem IsTree.but {α : Type} {enc : α → List Value} {nt : Nat} {W W' : World} {b : Nat} {c : Array Value} {t : TypeId} {f : Nat × Nat} (hg : W.grownBy W' (some b)) (hb : W.heap[b]? = some (.cells c t f)) (ht : t ≠ nt) :
    ∀ {p : Option Addr} {T : BT α}, IsTree enc nt W p T → IsTree enc nt W' p T
  | _, .leaf, h => h
  | _, .node _ _ _, ⟨b', pl, pr, hp, hc, hl, hr⟩ =>
    have hne : some b' ≠ some b := fun e => by
      obtain rfl : b' = b := by simpa using e
      rw [hb] at hc
      simp at hc
      exact ht hc.2.1
    ⟨b', pl, pr, hp, (hg.block b' (heap_lt hc) hne).trans hc, hl.but hg hb ht, hr.but hg hb ht⟩
theorem gtrans {a b c : World} {r : Nat} (h : a.grownBy b (some r)) (k : b.grownBy c (some r)) : a.grownBy c (some r) :=
  ⟨k.os.trans h.os, k.tape.trans h.tape, k.output.trans h.output, Nat.le_trans h.size k.size, fun i hi hn => (k.block i (Nat.lt_of_lt_of_le hi h.size) hn).trans (h.block i hi hn)⟩
theorem gbelow {a b : World} {r : Nat} (h : Below a.heap.size a b) : a.grownBy b (some r) :=
  ⟨h.os, h.tape, h.output, h.size, fun i hi _ => h.block i hi⟩
theorem belowg {a b : World} {B r : Nat} (h : a.grownBy b (some r)) (hB : B ≤ a.heap.size) (hr : B ≤ r) : Below B a b :=
  ⟨h.os, h.tape, h.output, h.size, fun i hi => h.block i (by omega) (by simp; omega)⟩
theorem gset (w : World) (b : Nat) (o : Nat) (v : Value) : w.grownBy (w.setCell ⟨b, o, none⟩ v) (some b) :=
  ⟨rfl, rfl, rfl, by simp [World.setCell], fun i _ hn => Below.heap_setCell _ _ _ _ (by simpa using hn)⟩
theorem set_heap {w : World} {b : Nat} {v u : Value} {t : TypeId} {f : Nat × Nat} (h : w.heap[b]? = some (.cells #[v] t f)) : (w.setCell ⟨b, 0, none⟩ u).heap[b]? = some (.cells #[u] t f) := by
  simp [World.setCell, Array.getElem?_modify, h]
theorem frozen_of {w : World} {b i : Nat} {c : Array Value} {t : TypeId} (h : w.heap[b]? = some (.cells c t (0, 0))) : w.frozen? ⟨b, i, none⟩ = false := by
  simp [World.frozen?, h]
def IsSet {α : Type} (enc : α → List Value) (nt st : Nat) (c : α → α → Int) (w : World) (b : Nat) (xs : List α) : Prop :=
  ∃ p T, w.heap[b]? = some (.cells #[.pointer p] st (0, 0)) ∧ IsTree enc nt w p T ∧ T.toList = xs ∧ Sorted c xs
theorem IsSet.lt {α : Type} {enc : α → List Value} {nt st : Nat} {c : α → α → Int} {w : World} {b : Nat} {xs : List α} (h : IsSet enc nt st c w b xs) : b < w.heap.size := by
  obtain ⟨p, T, h1, -⟩ := h
  exact heap_lt h1
theorem IsSet.mono {α : Type} {enc : α → List Value} {nt st : Nat} {c : α → α → Int} {w w' : World} {b : Nat} {xs : List α} (h : IsSet enc nt st c w b xs) (hb : Below w.heap.size w w') : IsSet enc nt st c w' b xs := by
  obtain ⟨p, T, h1, h2, h3, h4⟩ := h
  exact ⟨p, T, (hb.block b (heap_lt h1)).trans h1, h2.mono hb, h3, h4⟩
/-- A write to another set's root leaves this one. -/
theorem IsSet.but {α : Type} {enc : α → List Value} {nt st : Nat} {c : α → α → Int} {w w' : World} {b r : Nat} {xs : List α} (h : IsSet enc nt st c w b xs) (hg : w.grownBy w' (some r)) {cs : Array Value} {t : TypeId} {f : Nat × Nat}
    (hr : w.heap[r]? = some (.cells cs t f)) (ht : t ≠ nt) (hne : b ≠ r) : IsSet enc nt st c w' b xs := by
  obtain ⟨p, T, h1, h2, h3, h4⟩ := h
  exact ⟨p, T, (hg.block b (heap_lt h1) (by simpa using hne)).trans h1, h2.but hg hr ht, h3, h4⟩
def insAll {α : Type} (c : α → α → Int) (acc : List α) (xs : List α) : List α := xs.foldl (fun a x => ins c x a) acc
theorem insAll_length {α : Type} (c : α → α → Int) : ∀ (xs acc : List α), (insAll c acc xs).length ≤ acc.length + xs.length
  | [], acc => by simp [insAll]
  | x :: xs, acc => by
    have h1 := insAll_length c xs (ins c x acc)
    have h2 := ins_length (c := c) x acc
    simp only [insAll, List.foldl_cons, List.length_cons] at *; omega
theorem insAll_snoc {α : Type} (c : α → α → Int) (xs acc : List α) (x : α) : insAll c acc (xs ++ [x]) = ins c x (insAll c acc xs) := by simp [insAll]
theorem insAll_sorted {α : Type} {c : α → α → Int} (H : Cmp c) : ∀ (xs acc : List α), Sorted c acc → Sorted c (insAll c acc xs)
  | [], _, h => h
  | _ :: xs, _, h => insAll_sorted H xs _ (ins_sorted H h)
/-- A slice value that reads as the list xs: elements of k cells. -/
def SliceAt {α : Type} (enc : α → List Value) (k : Nat) (w : World) (v : Value) (xs : List α) : Prop :=
  (v = .slice none 0 0 ∧ xs = []) ∨ ∃ b off cap, v = .slice (some ⟨b, off, none⟩) xs.length cap ∧ b < w.heap.size ∧ (xs.length ≤ cap ∧ cap ≤ maxLen) ∧
    ∀ i (h : i < xs.length) j c, (enc xs[i])[j]? = some c → w.cell? ⟨b, off + i * k + j, none⟩ = some c
theorem SliceAt.mono {α : Type} {enc : α → List Value} {k : Nat} {w w' : World} {v : Value} {xs : List α} (h : SliceAt enc k w v xs) (hb : Below w.heap.size w w') : SliceAt enc k w' v xs := by
  rcases h with h | ⟨b, off, cap, h1, h2, h3, h4⟩
  · exact .inl h
  · exact .inr ⟨b, off, cap, h1, Nat.lt_of_lt_of_le h2 hb.size, h3, fun i hi j c hc => (hb.cell (p := ⟨b, off + i * k + j, none⟩) h2).trans (h4 i hi j c hc)⟩
end Go.Proofs.Ytccphigpobnjmaa
