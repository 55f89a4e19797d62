/-
  Helps of the laws over package lex: Within; strings out of bytes. No condition.
-/
import Derived.Test.YtocdclcemebaeaaDoorLexWakes
import Derived.Laws.IdiomStrings
namespace Go.Proofs.YtocdclcemebaeaaDoor
set_option linter.unusedVariables false
open Go.RowKit
theorem emod_of_tmod (v n : Int) (hn : 0 < n) : v % n = if v.tmod n < 0 then v.tmod n + n else v.tmod n := by
  have h1 := Int.tmod_eq_emod (a := v) (b := n)
  have h2 := Int.emod_nonneg v (show n ≠ 0 by omega)
  have h3 := Int.emod_lt_of_pos v hn
  split at h1 <;> split <;> omega
theorem within_all (w : World) (v : Int) (n : Nat) (hv : -9223372036854775808 ≤ v) (hv2 : v ≤ 9223372036854775807) (h0 : 0 < n) (hn : n ≤ 1000000) :
    Calls Tryd.prog 15 #[.int .i64 v, .int .i64 n] w fun e w' => e = .returned (.int .i64 (v % n)) ∧ w = w' := by
  have hd : decide ((n : Int) < 1) = false := decide_eq_false (by omega)
  have hz : ((n : Int) == 0) = false := by simp; omega
  have he := emod_of_tmod v n (by omega)
  have h2 := Int.emod_nonneg v (show (n : Int) ≠ 0 by omega)
  have h3 := Int.emod_lt_of_pos v (show 0 < (n : Int) by omega)
  by_cases ht : v.tmod n < 0
  · rw [if_pos ht] at he
    have h4 : -(n : Int) ≤ v.tmod n := by omega
    have hd2 : decide (v.tmod n < 0) = true := decide_eq_true ht
    have he := Lib.hid he
    rename_i he0
    clear he0 h2 h3
    go_enter Tryd.func15, Tryd.ntmps15
    go_wp2_with fail
    go_ret
    exact ⟨ret_int he.out.symm, rfl⟩
  · rw [if_neg ht] at he
    have h4 : (n : Int) ≥ v.tmod n := by omega
    have hd2 : decide (v.tmod n < 0) = false := decide_eq_false ht
    have he := Lib.hid he
    rename_i he0
    clear he0 h2 h3
    go_enter Tryd.func15, Tryd.ntmps15
    go_wp2_with fail
    go_ret
    exact ⟨ret_int he.out.symm, rfl⟩

theorem conv_one (W : World) (z : Int) (d : UInt8) (h : z = d.toNat) : Sem.run Tryd.prog (convert 43 9 (.slice (some ⟨W.heap.size, 0, none⟩) 1 1)) (W.alloc (.cells #[.int .u8 z] 5)) = .ok (.string ⟨#[d]⟩) (W.alloc (.cells #[.int .u8 z] 5)) := by
  refine run_convert_bytes_back (P := Tryd.prog) _ 43 9 5 ⟨W.heap.size, 0, none⟩ 1 [d] Tryd.underlying43 Tryd.underlying5 Tryd.underlying9 (fun j hj => ?_)
  obtain rfl : j = 0 := by simp at hj; omega
  rw [Go.WideShapes.add_plain, cells_of (new_at rfl), h]
  rfl
theorem add_str (S T : ByteArray) (hS : S.size ≤ 1000000) (hT : T.size ≤ 1000000) : ∀ w' : World, (Op.stringOp .add S T).run Tryd.prog w' = .ok (.string (S ++ T)) w' := fun w' => run_string_add_sum w' S T (by omega)
theorem cat_data (S T : ByteArray) : (S ++ T).data.toList = S.data.toList ++ T.data.toList := by simp
theorem cat_size (S T : ByteArray) : (S ++ T).size = S.size + T.size := ByteArray.size_append
theorem str_list (S : ByteArray) (l : List UInt8) (h : S.data.toList = l) : S = ⟨l.toArray⟩ := by
  apply ByteArray.ext; apply Array.toList_inj.mp; simpa using h
theorem str_size (S : ByteArray) : S.data.toList.length = S.size := by simp
end Go.Proofs.YtocdclcemebaeaaDoor
