/-
  Ints that came in. No condition.
-/
import Derived.Test.YtocdclcemebaeaaDoorProg
import Derived.OpenShut
import Derived.ProofKit
import Derived.Lib.Hide
namespace Go.Proofs.YtocdclcemebaeaaDoor
set_option linter.unusedVariables false
open Go.RowKit
def IntsIn (w : World) (a : Option Addr) (zs : List Int) : Prop := ∀ k (h : k < zs.length), (∃ b off, a = some ⟨b, off, none⟩ ∧ b < w.heap.size ∧ w.cell? ⟨b, off + k, none⟩ = some (.int .i64 zs[k])) ∧ -9223372036854775808 ≤ zs[k] ∧ zs[k] ≤ 9223372036854775807
open Go.ChangeShapes Go.WideShapes Go.ChangeAt in
theorem arg_ints {H : Type} {enc : TypeId × Value → H} {w : World} {base : Nat} {held : Bool} {d : DataW H} {ps : List MemPlace} {a : Option Addr} {len cap : Nat}
    (h : DataW.Trod enc Tryd.prog w base (fun _ => true) held 38 (.slice a len cap) d ps) : len ≤ maxLen ∧ ∃ zs : List Int, zs.length = len ∧ IntsIn w a zs := by
  obtain ⟨fuel, hf⟩ := h
  rcases open_ints Tryd.underlying38 Tryd.underlying3 (by kernel_rfl) hf with ⟨hcs, _⟩ | ⟨x, l, c, zs, hcs, _, hl, hm, hz, _, hcell, hwz⟩
  · simp [Value.cells] at hcs
    obtain ⟨rfl, rfl, rfl⟩ := hcs
    exact ⟨by simp, [], rfl, fun k hk => absurd hk (by simp)⟩
  · simp [Value.cells] at hcs
    obtain ⟨rfl, rfl, rfl⟩ := hcs
    simp only [if_true] at hz
    refine ⟨Nat.le_trans hl hm, zs.take len, by rw [List.length_take]; omega, fun k hk => ?_⟩
    rw [List.length_take] at hk
    have hk2 : k < zs.length := by omega
    have hb := bounds_i64 (hwz zs[k] (List.getElem_mem hk2))
    obtain ⟨b, off, rfl, hc⟩ := ints_at hcell (by omega)
    rw [List.getElem_take]
    refine ⟨⟨b, off, rfl, World.block_lt_of_cell? w _ (hc 0 (by omega)), ?_⟩, hb⟩
    rw [hc k hk2, List.getD_eq_getElem?_getD, List.getElem?_eq_getElem hk2]; rfl
end Go.Proofs.YtocdclcemebaeaaDoor
