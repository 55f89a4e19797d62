/-
  Three cells as a struct: symbols, tokens; lists of them. No condition.
-/
import Derived.Test.YtccphigpobnjmaaProg
import Derived.Test.YtccphigpobnjmaaKit5
import Derived.WalkKit
import Derived.WalkLawsBesides
import Derived.Handy
import Derived.Lib.Hide
import Derived.StillTailTactics
import Derived.BigQuiet
import Derived.Deep.QuietTactic
import Derived.Deep.RegionHeld3
namespace Go.Proofs.Ytccphigpobnjmaa
set_option linter.unusedVariables false
open Go.RowKit
structure Sy where
  k : Int
  t : ByteArray
  n : Int
  deriving DecidableEq
def encS (v : Sy) : List Value := [.int .i64 v.k, .string v.t, .int .i64 v.n]
theorem box_cells {w0 w : World} {B : Nat} {v : Sy} {t : TypeId} (hc : w0.heap[B]? = some (.cells #[.int .i64 v.k, .string v.t, .int .i64 v.n] t (0, 0))) (hb : Below w0.heap.size w0 w) :
    w.cell? ⟨B, 0, none⟩ = some (.int .i64 v.k) ∧ w.cell? ⟨B, 1, none⟩ = some (.string v.t) ∧ w.cell? ⟨B, 2, none⟩ = some (.int .i64 v.n) ∧
      w.frozen? ⟨B, 0, none⟩ = false ∧ w.frozen? ⟨B, 1, none⟩ = false ∧ w.frozen? ⟨B, 2, none⟩ = false ∧ Hid (w.heap[B]? = some (.cells #[.int .i64 v.k, .string v.t, .int .i64 v.n] t (0, 0))) := by
  have h := (hb.block B (heap_lt hc)).trans hc
  exact ⟨by rw [cells_of h]; rfl, by rw [cells_of h]; rfl, by rw [cells_of h]; rfl, frozen_of h, frozen_of h, frozen_of h, h⟩
theorem flat_encS : ∀ (ys : List Sy) (i : Nat) (h : i < ys.length) (j : Nat), j < 3 → (ys.flatMap encS)[i * 3 + j]? = (encS ys[i])[j]?
  | [], _, h, _, _ => by simp at h
  | y :: ys, 0, _, j, hj => by
    rw [List.flatMap_cons, List.getElem?_append_left (by simp [encS]; omega)]; simp
  | y :: ys, i + 1, h, j, hj => by
    rw [List.flatMap_cons, List.getElem?_append_right (by simp [encS]; omega)]
    have := flat_encS ys i (by simpa using h) j hj
    have e : (i + 1) * 3 + j - (encS y).length = i * 3 + j := by simp [encS]; omega
    rw [e, this]; simp
theorem slice_of_owns {w : World} {base : Nat} {e : TypeId} {v : Value} {ys : List Sy} (h : w.ownsRow base e 3 v ys.length (ys.flatMap encS)) : SliceAt encS 3 w v ys := by
  rcases owns_cells h with ⟨h1, h2⟩ | ⟨g, cap, h1, h2, h3, h4, h5⟩
  · exact .inl ⟨h1, List.eq_nil_of_length_eq_zero h2⟩
  · refine .inr ⟨g, 0, cap, h1, h3, h4, fun i hi j c hc => ?_⟩
    have hj : j < 3 := by
      have := (List.getElem?_eq_some_iff.1 hc).1
      simpa [encS] using this
    rw [Nat.zero_add]
    exact h5 _ c ((flat_encS ys i hi j hj).trans hc)
theorem cell_three_new (w : World) (x : Sy) (t : TypeId) : ∀ j u, (encS x)[j]? = some u → (w.alloc (.cells #[.int .i64 x.k, .string x.t, .int .i64 x.n] t)).cell? ((⟨w.heap.size, 0, none⟩ : Addr).add j) = some u := by
  intro j u hj
  rw [Go.WideShapes.add_plain, cells_of (new_at rfl)]
  simpa [encS] using hj
/-- The cells of a list at a place. -/
def CellsAt (w : World) (b off : Nat) (xs : List Sy) : Prop := ∀ i (h : i < xs.length) j c, (encS xs[i])[j]? = some c → w.cell? ⟨b, off + i * 3 + j, none⟩ = some c
theorem CellsAt.mono {w w' : World} {b off : Nat} {xs : List Sy} (h : CellsAt w b off xs) (hb : b < w.heap.size) (hB : Below w.heap.size w w') : CellsAt w' b off xs :=
  fun i hi j c hc => (hB.cell (p := ⟨b, off + i * 3 + j, none⟩) hb).trans (h i hi j c hc)
theorem CellsAt.three {w : World} {b off : Nat} {xs : List Sy} (h : CellsAt w b off xs) {k : Nat} (hk : k < xs.length) :
    w.cell? ⟨b, off + k * 3, none⟩ = some (.int .i64 xs[k].k) ∧ w.cell? ⟨b, off + k * 3 + 1, none⟩ = some (.string xs[k].t) ∧ w.cell? ⟨b, off + k * 3 + 2, none⟩ = some (.int .i64 xs[k].n) :=
  ⟨h k hk 0 _ rfl, h k hk 1 _ rfl, h k hk 2 _ rfl⟩
end Go.Proofs.Ytccphigpobnjmaa
