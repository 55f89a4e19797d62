/-
  A slice of acts that came in: two numbers and a slice of numbers each.
-/
import Derived.Deep.Slices
import Derived.Deep.Fields
import Derived.ChangeSame
import Derived.Test.YthieabhemiikhaaRowArg
namespace Go.Proofs.Ythieabhemiikhaa
set_option linter.unusedVariables false
open Go.RowKit
structure Ac where
  d : Int
  n : Int
  l : Value
  zs : List Int
def encA (a : Ac) : List Value := [.int .i64 a.d, .int .i64 a.n, a.l]
def AcOk (W : World) (a : Ac) : Prop := InR a.d ∧ InR a.n ∧ Reads W a.l (a.zs.map VI)
/-- The cells of a list of acts, where the slice leads. -/
def ArgAc (W : World) (a : Option Addr) (xs : List Ac) : Prop :=
  0 < xs.length → ∃ b off, a = some ⟨b, off, none⟩ ∧ b < W.heap.size ∧ ∀ i (h : i < xs.length), W.cell? ⟨b, off + i * 3, none⟩ = some (.int .i64 xs[i].d) ∧ W.cell? ⟨b, off + i * 3 + 1, none⟩ = some (.int .i64 xs[i].n) ∧ W.cell? ⟨b, off + i * 3 + 2, none⟩ = some xs[i].l
theorem three {α : Type} {l : List α} (h : l.length = 3) : ∃ a b c, l = [a, b, c] := by
  match l, h with
  | [a, b, c], _ => exact ⟨a, b, c, rfl⟩
open Go.ChangeShapes Go.WideShapes Go.ChangeAt in
theorem ints_of_trod {H : Type} {enc : TypeId × Value → H} {w : World} {base n : Nat} {held : Bool} {cs : List Value} {x : DataW H × List MemPlace}
    (h : DataW.trod enc Try.prog w base (fun _ => true) held n 28 cs = some x) : ∃ (l : Value) (zs : List Int), cs = [l] ∧ Reads w l (zs.map VI) := by
  rcases open_ints Try.underlying28 Try.underlying3 (by kernel_rfl) h with ⟨rfl, _⟩ | ⟨y, l, c, zs, rfl, _, hl, hm, hz, _, hcell, hwz⟩
  · exact ⟨_, [], rfl, none, 0, rfl, by simp, by simp, .inl rfl⟩
  · simp only [if_true] at hz
    refine ⟨_, zs.take l, rfl, _, c, by rw [List.length_map, List.length_take]; congr 1; omega, by rw [List.length_map, List.length_take]; omega, hm, ?_⟩
    by_cases h0 : c = 0
    · exact .inl h0
    · obtain ⟨b, off, rfl, hc⟩ := ints_at hcell (by omega)
      refine .inr ⟨b, off, rfl, World.block_lt_of_cell? w _ (hc 0 (by omega)), fun j hj => ?_⟩
      simp only [List.length_map, List.length_take] at hj
      rw [hc j (by omega), List.getElem_map, List.getElem_take, List.getD_eq_getElem?_getD, List.getElem?_eq_getElem (by omega)]; rfl
open Go.ChangeShapes Go.WideShapes Go.ChangeAt Go.Deep in
theorem act_of_trod {H : Type} {enc : TypeId × Value → H} {W : World} {base n : Nat} {held : Bool} {cs : List Value} {x : DataW H × List MemPlace}
    (ht : DataW.trod enc Try.prog W base (fun _ => true) held n 30 cs = some x) : ∃ a : Ac, cs = encA a ∧ AcOk W a := by
  obtain ⟨ys, n', hn', hy, hcl, hyl, hfl⟩ := DataW.trod_struct Try.underlying30 ht
  have hC : Try.prog.cellsOf 30 = 3 := by kernel_rfl
  rw [hC] at hcl
  obtain ⟨u0, u1, u2, rfl⟩ := three hcl
  obtain ⟨y0, y1, y2, rfl⟩ := three (hyl.trans rfl)
  have h3 : Try.prog.cellsOf 3 = 1 := by kernel_rfl
  have hS : Try.prog.cellsOf 28 = 1 := by kernel_rfl
  have f0 := hfl 0 _ rfl
  have f1 := hfl 1 _ rfl
  have f2 := hfl 2 _ rfl
  simp only [List.getElem_toArray, List.getElem_cons_zero, List.getElem_cons_succ] at f0 f1 f2
  rw [h3] at f0 f1
  rw [hS] at f2
  clear hfl hy hcl hyl
  simp only [List.drop_zero, List.drop_succ_cons, List.take_succ_cons, List.take_zero, List.getElem?_cons_zero, List.getElem?_cons_succ] at f0 f1 f2
  obtain ⟨k, e0, -, hw0⟩ := DataW.trod_int Try.underlying3 f0
  obtain ⟨n2, e1, -, hw⟩ := DataW.trod_int Try.underlying3 f1
  obtain ⟨l, zs, e2, hr⟩ := ints_of_trod f2
  cases e0; cases e1; cases e2
  exact ⟨⟨k, n2, _, zs⟩, rfl, bounds_i64 hw0, bounds_i64 hw, hr⟩
open Go.ChangeShapes Go.WideShapes Go.ChangeAt Go.Deep in
theorem arg_acts {H : Type} {enc : TypeId × Value → H} {W : World} {base : Nat} {held : Bool} {a : Option Addr} {len cap : Nat} {d : DataW H} {p : List MemPlace}
    (h : DataW.Trod enc Try.prog W base (fun _ => true) held 22 (.slice a len cap) d p) : len ≤ maxLen ∧ ∃ xs : List Ac, xs.length = len ∧ ArgAc W a xs ∧ ∀ x ∈ xs, AcOk W x := by
  obtain ⟨fuel, hf⟩ := h
  rcases open_slice Try.underlying22 hf with ⟨hcs, _⟩ | ⟨x, l, c, m, n, D, Pl, hcs, _, hl, hm, hmm, _, hi⟩
  · simp [Value.cells] at hcs
    obtain ⟨rfl, rfl, rfl⟩ := hcs
    exact ⟨by simp, [], rfl, fun h => absurd h (by simp), by simp⟩
  · simp [Value.cells] at hcs
    obtain ⟨rfl, rfl, rfl⟩ := hcs
    simp at hmm
    subst hmm
    refine ⟨by omega, ?_⟩
    have hC : Try.prog.cellsOf 30 = 3 := by kernel_rfl
    have hone : ∀ i : Fin len, ∃ s : Ac, AcOk W s ∧ ∀ j c, (encA s)[j]? = some c → W.cell? (x.add (i.1 * 3 + j)) = some c := by
      intro i
      obtain ⟨cs', hc, ht'⟩ := hi i.1 (by omega)
      rw [hC] at hc
      obtain ⟨s, rfl, hok⟩ := act_of_trod ht'
      obtain ⟨_, hcl, hat⟩ := World.cells?_some hc
      refine ⟨s, hok, fun j c hj => ?_⟩
      rw [← Go.Deep.add_add]
      exact (hat j (List.getElem?_eq_some_iff.1 hj).1).trans hj
    obtain ⟨f, hf⟩ := Classical.axiomOfChoice hone
    by_cases h0 : len = 0
    · subst h0
      exact ⟨[], rfl, fun h => absurd h (by simp), by simp⟩
    · obtain ⟨b, off, spot⟩ := x
      have c0 := (hf ⟨0, by omega⟩).2 0 _ rfl
      have hspot : spot = none := by simpa [Addr.add] using World.cell?_spot c0
      subst hspot
      refine ⟨List.ofFn f, by simp, fun _ => ⟨b, off, rfl, by have := World.block_lt_of_cell? W _ c0; rw [Go.WideShapes.add_plain] at this; exact this, fun i hi => ?_⟩, fun y hy => ?_⟩
      · rw [List.getElem_ofFn]
        have hh := (hf ⟨i, by simpa using hi⟩).2
        refine ⟨?_, ?_, ?_⟩
        · have := hh 0 _ rfl; rwa [Go.WideShapes.add_plain] at this
        · have := hh 1 _ rfl; rwa [Go.WideShapes.add_plain, ← Nat.add_assoc] at this
        · have := hh 2 _ rfl; rwa [Go.WideShapes.add_plain, ← Nat.add_assoc] at this
      · obtain ⟨i, rfl⟩ := List.mem_ofFn.1 hy
        exact (hf i).1
end Go.Proofs.Ythieabhemiikhaa
