/-
  A slice of acts that came in.
-/
import Derived.Test.YtggijlblipmfaaaPlaysWalk
namespace Go.Proofs.Ytggijlblipmfaaa
set_option linter.unusedVariables false
open Go.RowKit
theorem wf_i64 {k : Int} (h : (Lit.int .i64 k).wf = true) : -9223372036854775808 ≤ k ∧ k ≤ 9223372036854775807 := by
  simp only [Lit.wf, Bool.and_eq_true, decide_eq_true_eq] at h
  have h1 : IntKind.min .i64 = -9223372036854775808 := by decide
  have h2 : IntKind.max .i64 = 9223372036854775807 := by decide
  omega
theorem five {α : Type} {l : List α} (h : l.length = 5) : ∃ a b c d e, l = [a, b, c, d, e] := by
  match l, h with
  | [a, b, c, d, e], _ => exact ⟨a, b, c, d, e, rfl⟩
open Go.ChangeShapes Go.WideShapes Go.Deep in
theorem sym_of_trod {H : Type} {enc : TypeId × Value → H} {W : World} {base n : Nat} {spare : Nat → Bool} {held : Bool} {cs : List Value} {x : DataW H × List MemPlace}
    (ht : DataW.trod enc Try.prog W base spare held n 26 cs = some x) : ∃ s : Sy, cs = encS s := by
  obtain ⟨ys, n', hn', hy, hcl, hyl, hfl⟩ := DataW.trod_struct Try.underlying26 ht
  have hC : Try.prog.cellsOf 26 = 3 := by kernel_rfl
  rw [hC] at hcl
  obtain ⟨u0, u1, u2, rfl⟩ := three hcl
  obtain ⟨y0, y1, y2, rfl⟩ := three (hyl.trans rfl)
  have h3 : Try.prog.cellsOf 3 = 1 := by kernel_rfl
  have h9 : Try.prog.cellsOf 9 = 1 := by kernel_rfl
  have f0 := hfl 0 _ rfl
  have f1 := hfl 1 _ rfl
  have f2 := hfl 2 _ rfl
  simp only [List.getElem_toArray, List.getElem_cons_zero, List.getElem_cons_succ] at f0 f1 f2
  rw [h3] at f0 f2
  rw [h9] at f1
  clear hfl hy hcl hyl
  simp only [List.drop_zero, List.drop_succ_cons, List.take_succ_cons, List.take_zero, List.getElem?_cons_zero, List.getElem?_cons_succ] at f0 f1 f2
  obtain ⟨k, e0, -, -⟩ := DataW.trod_int Try.underlying3 f0
  obtain ⟨s, e1, -, -⟩ := DataW.trod_string Try.underlying9 f1
  obtain ⟨n2, e2, -, -⟩ := DataW.trod_int Try.underlying3 f2
  cases e0; cases e1; cases e2
  exact ⟨⟨k, s, n2⟩, rfl⟩
open Go.ChangeShapes Go.WideShapes Go.Deep in
theorem act_of_trod {H : Type} {enc : TypeId × Value → H} {W : World} {base n : Nat} {spare : Nat → Bool} {held : Bool} {cs : List Value} {x : DataW H × List MemPlace}
    (ht : DataW.trod enc Try.prog W base spare held n 30 cs = some x) : ∃ a : Ac, cs = encA a ∧ -9223372036854775808 ≤ a.n ∧ a.n ≤ 9223372036854775807 := by
  obtain ⟨ys, n', hn', hy, hcl, hyl, hfl⟩ := DataW.trod_struct Try.underlying30 ht
  have hC : Try.prog.cellsOf 30 = 5 := by kernel_rfl
  rw [hC] at hcl
  obtain ⟨u0, u1, u2, u3, u4, rfl⟩ := five hcl
  obtain ⟨y0, y1, y2, rfl⟩ := three (hyl.trans rfl)
  have h3 : Try.prog.cellsOf 3 = 1 := by kernel_rfl
  have hS : Try.prog.cellsOf 26 = 3 := by kernel_rfl
  have f0 := hfl 0 _ rfl
  have f1 := hfl 1 _ rfl
  have f2 := hfl 2 _ rfl
  simp only [List.getElem_toArray, List.getElem_cons_zero, List.getElem_cons_succ] at f0 f1 f2
  rw [h3] at f0 f1
  rw [hS] at f2
  clear hfl hy hcl hyl
  simp only [List.drop_zero, List.drop_succ_cons, List.take_succ_cons, List.take_zero, List.getElem?_cons_zero, List.getElem?_cons_succ] at f0 f1 f2
  obtain ⟨k, e0, -, -⟩ := DataW.trod_int Try.underlying3 f0
  obtain ⟨n2, e1, -, hw⟩ := DataW.trod_int Try.underlying3 f1
  obtain ⟨s, e2⟩ := sym_of_trod f2
  cases e0; cases e1; cases e2
  exact ⟨⟨k, n2, s⟩, rfl, wf_i64 hw⟩
open Go.ChangeShapes Go.WideShapes Go.Deep in
/-- A slice of structs that came in, one element's cells by one lemma. -/
theorem arg_slice {H : Type} {enc : TypeId × Value → H} {W : World} {base : Nat} {held : Bool} {a : Option Addr} {len cap : Nat} {d : DataW H} {p : List MemPlace} {t e : TypeId} {α : Type} (E : α → List Value) (ok : α → Prop) (z : α) {K : Nat} (hK : 0 < K) (hE : ∀ x, (E x).length = K)
    (hu : Try.prog.underlying t = some (.slice e)) (hC : Try.prog.cellsOf e = K) (one : ∀ n cs x, DataW.trod enc Try.prog W base (fun _ => true) held n e cs = some x → ∃ a, cs = E a ∧ ok a)
    (h : DataW.Trod enc Try.prog W base (fun _ => true) held t (.slice a len cap) d p) : len ≤ maxLen ∧ ∃ xs : List α, xs.length = len ∧ ArgK E K W a xs ∧ ∀ x ∈ xs, ok x := by
  obtain ⟨fuel, hf⟩ := h
  rcases open_slice hu hf with ⟨hcs, _⟩ | ⟨x, l, c, m, n, D, Pl, hcs, _, hl, hm, hmm, _, hi⟩
  · simp [Value.cells] at hcs
    obtain ⟨rfl, rfl, rfl⟩ := hcs
    exact ⟨by simp, [], rfl, fun h => absurd h (by simp), by simp⟩
  · simp [Value.cells] at hcs
    obtain ⟨rfl, rfl, rfl⟩ := hcs
    simp at hmm
    subst hmm
    refine ⟨by omega, ?_⟩
    have hone : ∀ i : Fin len, ∃ s : α, ok s ∧ ∀ j c, (E s)[j]? = some c → W.cell? (x.add (i.1 * K + j)) = some c := by
      intro i
      obtain ⟨cs', hc, ht'⟩ := hi i.1 (by omega)
      rw [hC] at hc
      obtain ⟨s, rfl, hok⟩ := one _ _ _ ht'
      obtain ⟨_, hcl, hat⟩ := World.cells?_some hc
      refine ⟨s, hok, fun j c hj => ?_⟩
      rw [← Go.Deep.add_add]
      have hj' : j < K := by rw [← hE s]; exact (List.getElem?_eq_some_iff.1 hj).1
      exact (hat j hj').trans hj
    obtain ⟨f, hf⟩ := Classical.axiomOfChoice hone
    by_cases h0 : len = 0
    · subst h0
      exact ⟨[], rfl, fun h => absurd h (by simp), by simp⟩
    · obtain ⟨b, off, spot⟩ := x
      have hlen0 : 0 < (E (f ⟨0, by omega⟩)).length := by rw [hE]; exact hK
      obtain ⟨c, hc⟩ : ∃ c, (E (f ⟨0, by omega⟩))[0]? = some c := ⟨_, List.getElem?_eq_getElem hlen0⟩
      have c0 := (hf ⟨0, by omega⟩).2 0 _ hc
      have hspot : spot = none := by simpa [Addr.add] using World.cell?_spot c0
      subst hspot
      refine ⟨List.ofFn f, by simp, fun _ => ⟨b, off, rfl, by have := World.block_lt_of_cell? W _ c0; rw [Go.WideShapes.add_plain] at this; exact this, fun i hi j c hj => ?_⟩, fun y hy => ?_⟩
      · rw [List.getElem_ofFn] at hj
        have := (hf ⟨i, by simpa using hi⟩).2 j c hj
        rw [← this, Go.WideShapes.add_plain, Nat.add_assoc]
      · obtain ⟨i, rfl⟩ := List.mem_ofFn.1 hy
        exact (hf i).1
theorem arg_acts {H : Type} {enc : TypeId × Value → H} {W : World} {base : Nat} {held : Bool} {a : Option Addr} {len cap : Nat} {d : DataW H} {p : List MemPlace}
    (h : DataW.Trod enc Try.prog W base (fun _ => true) held 22 (.slice a len cap) d p) : len ≤ maxLen ∧ ∃ xs : List Ac, xs.length = len ∧ ArgK encA 5 W a xs ∧ ∀ x ∈ xs, -9223372036854775808 ≤ x.n ∧ x.n ≤ 9223372036854775807 :=
  arg_slice encA (fun a => -9223372036854775808 ≤ a.n ∧ a.n ≤ 9223372036854775807) ⟨0, 0, zeroS⟩ (by omega) (fun _ => rfl) Try.underlying22 (by kernel_rfl) (fun _ _ _ h => act_of_trod h) h
end Go.Proofs.Ytggijlblipmfaaa
