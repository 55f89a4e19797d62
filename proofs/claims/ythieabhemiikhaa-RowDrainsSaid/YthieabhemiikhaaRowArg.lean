/-
  What a law of package row is told of its arguments: numbers in their range, slices of numbers. No condition.
-/
import Derived.WalkKit
import Derived.ProofKit
import Derived.OpenShut
import Derived.Test.YthieabhemiikhaaKitRow
import Derived.Test.YthieabhemiikhaaProg
namespace Go.Proofs.Ythieabhemiikhaa
set_option linter.unusedVariables false
open Go.ChangeShapes Go.WideShapes Go.ChangeAt Go.RowKit
def InR (z : Int) : Prop := -9223372036854775808 ≤ z ∧ z ≤ 9223372036854775807
abbrev VI (z : Int) : Value := .int .i64 z
def ArgI (W : World) (a : Option Addr) (len cap : Nat) (zs : List Int) : Prop := zs.length = len ∧ Reads W (.slice a len cap) (zs.map VI) ∧ ∀ z ∈ zs, InR z
theorem arg_ints {H : Type} {enc : TypeId × Value → H} {w : World} {base : Nat} {spare : Nat → Bool} {held : Bool} {d : DataW H} {ps : List MemPlace} {a : Option Addr} {len cap : Nat}
    (hs : ∀ b, spare b = true) (h : DataW.Trod enc Try.prog w base spare held 28 (.slice a len cap) d ps) : ∃ zs, ArgI w a len cap zs := by
  obtain ⟨fuel, hf⟩ := h
  rcases open_ints Try.underlying28 Try.underlying3 (by kernel_rfl) hf with ⟨hcs, _⟩ | ⟨x, l, c, zs, hcs, _, hl, hm, hz, _, hcell, hwz⟩
  · simp [Value.cells] at hcs
    obtain ⟨rfl, rfl, rfl⟩ := hcs
    exact ⟨[], rfl, ⟨none, 0, rfl, by simp, by simp, .inl rfl⟩, by simp⟩
  · simp [Value.cells] at hcs
    obtain ⟨rfl, rfl, rfl⟩ := hcs
    rw [hs] at hz
    simp only [if_true] at hz
    refine ⟨zs.take len, by rw [List.length_take]; omega, ⟨_, cap, by rw [List.length_map, List.length_take]; congr 1; omega, by rw [List.length_map, List.length_take]; omega, hm, ?_⟩, fun z hz' => bounds_i64 (hwz z (List.mem_of_mem_take hz'))⟩
    by_cases h0 : cap = 0
    · exact .inl h0
    · obtain ⟨b, off, rfl, hc⟩ := ints_at hcell (by omega)
      refine .inr ⟨b, off, rfl, World.block_lt_of_cell? w _ (hc 0 (by omega)), fun j hj => ?_⟩
      simp only [List.length_map, List.length_take] at hj
      rw [hc j (by omega), List.getElem_map, List.getElem_take, List.getD_eq_getElem?_getD, List.getElem?_eq_getElem (by omega)]; rfl
end Go.Proofs.Ythieabhemiikhaa
