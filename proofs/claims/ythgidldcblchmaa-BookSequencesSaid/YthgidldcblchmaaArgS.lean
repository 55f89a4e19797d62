/-
  A slice of records that came in; New at it.
-/
import Derived.Test.YthgidldcblchmaaNewS
import Derived.Test.YthgidldcblchmaaZeroS
import Derived.Deep.Slices
import Derived.Deep.Fields
import Derived.ChangeSame
import Derived.OpenShut
namespace Go.Proofs.Ythgidldcblchmaa
set_option linter.unusedVariables false
open Go.RowKit
theorem new_emptyS (w : World) (a : Option Addr) (cap : Nat) : Calls Try.prog 50 #[.slice a 0 cap] w (NewOutS w []) := by
  have hfin : ∀ e, e = .returned (.pointer (some ⟨w.heap.size, 0, none⟩)) → NewOutS w [] e (w.alloc (.cells #[.pointer none] 131)) := fun e he =>
    ⟨w.heap.size, he, Nat.le_refl _, by go_grown, ⟨none, .leaf, new_at rfl, rfl, rfl, List.Pairwise.nil⟩⟩
  have Hfin := Lib.hid hfin
  clear hfin
  go_enter Try.func50, Try.ntmps50
  go_wp2_with fail
  go_loopw [10] (fun i wr => i = .int .i64 0 ∧ wr = w.alloc (.cells #[.pointer none] 131)) (fun _ _ => 0)
  case atStart => exact ⟨rfl, rfl⟩
  case round =>
    obtain ⟨rfl, rfl⟩ := hrel
    go_wp2_with fail
    go_ret
    exact Hfin.out _ rfl
/-- A slice of records that came in: empty wherever it leads, or its cells are the members'. -/
def ArgAt (w : World) (v : Value) (xs : List Sy) : Prop := (∃ a cap, v = .slice a 0 cap ∧ xs = []) ∨ SliceAt encS 3 w v xs
theorem ArgAt.mono {w w' : World} {v : Value} {xs : List Sy} (h : ArgAt w v xs) (hb : Below w.heap.size w w') : ArgAt w' v xs := by
  rcases h with h | h
  · exact .inl h
  · exact .inr (SliceAt.mono h hb)
theorem new_argS (w : World) (v : Value) (xs : List Sy) (h : ArgAt w v xs) (hz : xs.length ≤ 1000000) : Calls Try.prog 50 #[v] w (NewOutS w xs) := by
  rcases h with ⟨a, cap, rfl, rfl⟩ | h
  · exact new_emptyS w a cap
  · exact new_anyS w v xs h hz
theorem three {α : Type} {l : List α} (h : l.length = 3) : ∃ a b c, l = [a, b, c] := by
  match l, h with
  | [a, b, c], _ => exact ⟨a, b, c, rfl⟩
open Go.ChangeShapes Go.WideShapes Go.Deep in
theorem arg_syms {H : Type} {enc : TypeId × Value → H} {W : World} {base : Nat} {held : Bool} {a : Option Addr} {len cap : Nat} {d : DataW H} {p : List MemPlace}
    (h : DataW.Trod enc Try.prog W base (fun _ => true) held 44 (.slice a len cap) d p) : len ≤ maxLen ∧ ∃ xs : List Sy, xs.length = len ∧ ArgAt W (.slice a len cap) xs := by
  obtain ⟨fuel, hf⟩ := h
  rcases open_slice Try.underlying44 hf with ⟨hcs, _⟩ | ⟨x, l, c, m, n, D, Pl, hcs, _, hl, hm, hmm, _, hi⟩
  · simp [Value.cells] at hcs
    obtain ⟨rfl, rfl, rfl⟩ := hcs
    exact ⟨by simp, [], rfl, .inl ⟨_, _, rfl, rfl⟩⟩
  · simp [Value.cells] at hcs
    obtain ⟨rfl, rfl, rfl⟩ := hcs
    simp at hmm
    subst hmm
    refine ⟨by omega, ?_⟩
    have hC : Try.prog.cellsOf 27 = 3 := by kernel_rfl
    have one : ∀ i : Fin len, ∃ s : Sy, ∀ j c, (encS s)[j]? = some c → W.cell? (x.add (i.1 * 3 + j)) = some c := by
      intro i
      obtain ⟨cs', hc, ht'⟩ := hi i.1 (by omega)
      rw [hC] at hc
      obtain ⟨ys, n', hn', hy, hlen, hyl, hfl⟩ := DataW.trod_struct Try.underlying27 ht'
      obtain ⟨_, hcl, hat⟩ := World.cells?_some hc
      obtain ⟨u0, u1, u2, rfl⟩ := three hcl
      obtain ⟨y0, y1, y2, rfl⟩ := three (hyl.trans rfl)
      have h3 : Try.prog.cellsOf 3 = 1 := by kernel_rfl
      have h9 : Try.prog.cellsOf 9 = 1 := by kernel_rfl
      have f0 := hfl 0 _ rfl
      have f1 := hfl 1 _ rfl
      have f2 := hfl 2 _ rfl
      simp only [List.getElem_toArray, List.getElem_cons_zero, List.getElem_cons_succ] at f0 f1 f2
      rw [h3] at f0 f2
      rw [h9] at f1
      clear hfl hy hlen hyl hf
      simp only [List.drop_zero, List.drop_succ_cons, List.take_succ_cons, List.take_zero, List.getElem?_cons_zero, List.getElem?_cons_succ] at f0 f1 f2
      obtain ⟨k, e0, -, -⟩ := DataW.trod_int Try.underlying3 f0
      obtain ⟨s, e1, -, -⟩ := DataW.trod_string Try.underlying9 f1
      obtain ⟨n2, e2, -, -⟩ := DataW.trod_int Try.underlying3 f2
      cases e0; cases e1; cases e2
      refine ⟨⟨k, s, n2⟩, fun j c hj => ?_⟩
      rw [← Go.Deep.add_add]
      match j, hj with
      | 0, hj => exact (hat 0 (by omega)).trans hj
      | 1, hj => exact (hat 1 (by omega)).trans hj
      | 2, hj => exact (hat 2 (by omega)).trans hj
      | j + 3, hj => simp [encS] at hj
    obtain ⟨f, hf⟩ := Classical.axiomOfChoice one
    by_cases h0 : len = 0
    · subst h0
      exact ⟨[], rfl, .inl ⟨_, _, rfl, rfl⟩⟩
    · obtain ⟨b, off, spot⟩ := x
      have c0 := hf ⟨0, by omega⟩ 0 _ rfl
      have hspot : spot = none := by simpa [Addr.add] using World.cell?_spot c0
      subst hspot
      refine ⟨List.ofFn f, by simp, .inr (.inr ⟨b, off, m, by rw [List.length_ofFn], World.block_lt_of_cell? W _ c0, by simp; omega, fun i hi j c hj => ?_⟩)⟩
      rw [List.getElem_ofFn] at hj
      have := hf ⟨i, by simpa using hi⟩ j c hj
      rw [← this, Go.WideShapes.add_plain, Nat.add_assoc]
end Go.Proofs.Ythgidldcblchmaa
