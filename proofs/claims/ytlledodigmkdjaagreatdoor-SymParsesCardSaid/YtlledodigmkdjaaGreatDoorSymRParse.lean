/-
  Walks over ponderref04: Parse. No condition.
-/
import Derived.Test.YtlledodigmkdjaaGreatDoorSymRPa
import Derived.Test.YtlledodigmkdjaaGreatDoorSymRPb
import Derived.Test.YtlledodigmkdjaaGreatDoorSymRPc
import Derived.Test.YtlledodigmkdjaaGreatDoorSymRPd
import Derived.Deep.RegionHeld3
import Derived.Deep.RegionWith
import Derived.BigRegion
namespace Go.Proofs.YtlledodigmkdjaaGreatDoor
set_option linter.unusedVariables false
open Go.RowKit

theorem rparse_word (t : ByteArray) (w : World) (ht : t.size ≤ 1000000) (hw : wordB t.data.toList = true) :
    Calls Tryz.prog 14 #[.string t] w fun e w' => e = .returned (.tuple #[.agg #[.int .i64 3, .string t, .int .i64 0], .bool true]) ∧ Below w.heap.size w w' := by
  have hrw := fun w' => rword_any t w' ht
  rw [hw] at hrw
  have Hrw := Lib.hid hrw
  clear hrw hw
  go_enter Tryz.func14, Tryz.ntmps14
  go_wp2_with (go_at_call 16; refine (Hrw.out _).mono ?_; rintro e w' ⟨rfl, rfl⟩)
  refine bodyPost_ret (by simp [results, Tryz.results14, go_sem]; rfl) rfl ?_
  exact ⟨rfl, by go_grown⟩
theorem rparse_any (t : ByteArray) (w : World) (ht : t.size ≤ 1000000) (z : Sy) (ok : Bool) (hz : (z, ok) = (symOf (refParseL t.data.toList).1, (refParseL t.data.toList).2)) :
    Calls Tryz.prog 14 #[.string t] w fun e w' => e = .returned (.tuple #[.agg #[.int .i64 z.k, .string z.t, .int .i64 z.n], .bool ok]) ∧ Below w.heap.size w w' := by
  cases hw : wordB t.data.toList with
  | true =>
    rw [refParse_word t hw] at hz
    cases hz
    have e : (symOf (3, t.data.toList, 0)) = ⟨3, t, 0⟩ := by show (⟨3, ⟨t.data.toList.toArray⟩, 0⟩ : Sy) = _; rw [str_self]
    rw [e]
    exact rparse_word t w ht hw
  | false =>
    by_cases hf : idForm t
    · rw [refParse_id t hw hf] at hz
      cases ho : readL (t.extract 1 t.size).data.toList with
      | none =>
        rw [ho] at hz
        cases hz
        exact rparse_id_none t w ht hw hf ho
      | some n =>
        rw [ho] at hz
        unfold onlyL at hz
        simp only at hz
        have e : (symOf (1, (t.extract 0 1).data.toList, n)) = ⟨1, t.extract 0 1, n⟩ := by show (⟨1, ⟨(t.extract 0 1).data.toList.toArray⟩, n⟩ : Sy) = _; rw [str_self]
        cases hv : validL 1 (t.extract 0 1).data.toList n with
        | true =>
          rw [hv] at hz
          cases hz
          simp only [if_true]
          rw [e]
          exact rparse_id_yes t w ht hw hf n ho hv
        | false =>
          rw [hv] at hz
          cases hz
          exact rparse_id_no t w ht hw hf n ho hv
    · rw [refParse_num t hw hf] at hz
      cases ho : readL t.data.toList with
      | none =>
        rw [ho] at hz
        cases hz
        exact rparse_num_none t w ht hw hf ho
      | some n =>
        rw [ho] at hz
        unfold onlyL at hz
        simp only at hz
        cases hv : validL 2 [] n with
        | true =>
          rw [hv] at hz
          cases hz
          exact rparse_num_yes t w ht hw hf n ho hv
        | false =>
          rw [hv] at hz
          cases hz
          exact rparse_num_no t w ht hw hf n ho hv
end Go.Proofs.YtlledodigmkdjaaGreatDoor
