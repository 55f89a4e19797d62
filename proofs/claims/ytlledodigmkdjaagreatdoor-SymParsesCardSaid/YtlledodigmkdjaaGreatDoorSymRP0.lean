/-
  Walks over ponderref04: only, Parse. No condition.
-/
import Derived.Test.YtlledodigmkdjaaGreatDoorSymRead
import Derived.Test.YtlledodigmkdjaaGreatDoorKitTouch
import Derived.Deep.RegionHeld3
import Derived.Deep.RegionWith
import Derived.BigRegion
namespace Go.Proofs.YtlledodigmkdjaaGreatDoor
set_option linter.unusedVariables false
open Go.RowKit
theorem only_yes (s : Sy) (w : World) : Calls Tryz.prog 38 #[.agg #[.int .i64 s.k, .string s.t, .int .i64 s.n], .bool true] w fun e w' => e = .returned (.tuple #[.agg #[.int .i64 s.k, .string s.t, .int .i64 s.n], .bool true]) ∧ Below w.heap.size w w' := by
  go_enter Tryz.func38, Tryz.ntmps38
  go_wp2_with fail
  refine bodyPost_ret (by simp [results, Tryz.results38, go_sem]; rfl) rfl ?_
  exact ⟨rfl, by go_grown⟩
theorem only_no (s : Sy) (w : World) : Calls Tryz.prog 38 #[.agg #[.int .i64 s.k, .string s.t, .int .i64 s.n], .bool false] w fun e w' => e = .returned (.tuple #[.agg #[.int .i64 0, .string ⟨#[]⟩, .int .i64 0], .bool false]) ∧ Below w.heap.size w w' := by
  go_enter Tryz.func38, Tryz.ntmps38
  go_wp2_with fail
  refine bodyPost_ret (by simp [results, Tryz.results38, go_sem]; rfl) rfl ?_
  exact ⟨rfl, by go_grown⟩
theorem refParse_word (t : ByteArray) (h : wordB t.data.toList = true) : refParseL t.data.toList = ((3, t.data.toList, 0), true) := by
  unfold refParseL; rw [if_pos h]
/-- An identifier's form: a capital, then no sign. -/
def idForm (t : ByteArray) : Prop := ∃ h : 1 < t.size, capB t[0] = true ∧ ¬ t[1].toNat = 45
theorem bytes_two (t : ByteArray) (h : 1 < t.size) : ∃ r, t.data.toList = t[0] :: t[1] :: r ∧ t.data.toList.drop 1 = t[1] :: r := by
  have h1 := bytes_cons t (by omega)
  have h2 := List.drop_eq_getElem_cons (l := t.data.toList) (i := 1) (by simpa using h)
  refine ⟨t.data.toList.drop 2, ?_, h2⟩
  rw [h2] at h1
  exact h1
theorem refParse_id (t : ByteArray) (hw : wordB t.data.toList = false) (h : idForm t) : refParseL t.data.toList = onlyL 1 (t.extract 0 1).data.toList (readL (t.extract 1 t.size).data.toList) := by
  obtain ⟨h1, h2, h3⟩ := h
  obtain ⟨r, e1, e2⟩ := bytes_two t h1
  rw [ext_one, e2, ext_head t (by omega)]
  unfold refParseL
  rw [hw, e1]
  have h4 : ¬ t[1] = 45 := fun e => h3 (by rw [e]; rfl)
  simp only [h2, ne_eq, h4, not_false_eq_true, decide_true, Bool.and_self, if_true, Bool.false_eq_true, if_false]
theorem refParse_num (t : ByteArray) (hw : wordB t.data.toList = false) (h : ¬ idForm t) : refParseL t.data.toList = onlyL 2 [] (readL t.data.toList) := by
  unfold refParseL
  rw [hw]
  simp only [Bool.false_eq_true, if_false]
  by_cases h1 : 1 < t.size
  · obtain ⟨r, e1, e2⟩ := bytes_two t h1
    rw [e1]
    simp only
    rw [if_neg]
    intro h2
    simp only [Bool.and_eq_true, decide_eq_true_eq, ne_eq] at h2
    exact h ⟨h1, h2.1, fun e => h2.2 (UInt8.toNat_inj.1 e)⟩
  · have hl : t.data.toList.length = t.size := by simp
    match hd : t.data.toList with
    | [] => rfl
    | [c] => rfl
    | c :: d :: r => rw [hd] at hl; simp at hl; omega
theorem retO_none : retO none = .tuple #[.int .i64 0, .bool false] := rfl
theorem retO_some (n : Int) : retO (some n) = .tuple #[.int .i64 n, .bool true] := rfl
end Go.Proofs.YtlledodigmkdjaaGreatDoor
