/-
  A symbol that came in.
-/
import Derived.Test.YthgidldcblchmaaArgS
namespace Go.Proofs.Ythgidldcblchmaa
set_option linter.unusedVariables false
open Go.RowKit
theorem wf_i64 {k : Int} (h : (Lit.int .i64 k).wf = true) : -9223372036854775808 ≤ k ∧ k ≤ 9223372036854775807 := by
  simp only [Lit.wf, Bool.and_eq_true, decide_eq_true_eq] at h
  have h1 : IntKind.min .i64 = -9223372036854775808 := by decide
  have h2 : IntKind.max .i64 = 9223372036854775807 := by decide
  omega
open Go.ChangeShapes Go.WideShapes Go.Deep in
theorem sym_of_trod {H : Type} {enc : TypeId × Value → H} {W : World} {base n : Nat} {spare : Nat → Bool} {held : Bool} {cs : List Value} {x : DataW H × List MemPlace}
    (ht : DataW.trod enc Try.prog W base spare held n 27 cs = some x) : ∃ s : Sy, cs = encS s := by
  obtain ⟨ys, n', hn', hy, hcl, hyl, hfl⟩ := DataW.trod_struct Try.underlying27 ht
  have hC : Try.prog.cellsOf 27 = 3 := by kernel_rfl
  rw [hC] at hcl
  obtain ⟨u0, u1, u2, rfl⟩ := three hcl
  obtain ⟨y0, y1, y2, rfl⟩ := three (hyl.trans rfl)
  have h3 : Try.prog.cellsOf 3 = 1 := by kernel_rfl
  have h9 : Try.prog.cellsOf 9 = 1 := by kernel_rfl
  have f0 := hfl 0 _ rfl
  have f1 := hfl 1 _ rfl
  have f2 := hfl 2 _ rfl
  simp only [List.getElem_toArray, List.getElem_cons_zero, List.getElem_cons_succ] at f0 f1 f2
  rw [h3] at f0 f2
  rw [h9] at f1
  clear hfl hy hcl hyl
  simp only [List.drop_zero, List.drop_succ_cons, List.take_succ_cons, List.take_zero, List.getElem?_cons_zero, List.getElem?_cons_succ] at f0 f1 f2
  obtain ⟨k, e0, -, -⟩ := DataW.trod_int Try.underlying3 f0
  obtain ⟨s, e1, -, -⟩ := DataW.trod_string Try.underlying9 f1
  obtain ⟨n2, e2, -, -⟩ := DataW.trod_int Try.underlying3 f2
  cases e0; cases e1; cases e2
  exact ⟨⟨k, s, n2⟩, rfl⟩
open Go.ChangeShapes Go.WideShapes Go.Deep in
theorem sym_of_arg {H : Type} {enc : TypeId × Value → H} {W : World} {base : Nat} {spare : Nat → Bool} {held : Bool} {cs : Array Value} {d : DataW H} {p : List MemPlace}
    (h : DataW.Trod enc Try.prog W base spare held 27 (.agg cs) d p) : ∃ s : Sy, cs = #[.int .i64 s.k, .string s.t, .int .i64 s.n] := by
  obtain ⟨m, hm⟩ := h
  obtain ⟨s, hs⟩ := sym_of_trod hm
  refine ⟨s, ?_⟩
  simp only [Value.cells] at hs
  apply Array.toList_inj.mp
  rw [hs]
end Go.Proofs.Ythgidldcblchmaa
