/-
  A valid symbol's text gives it back. No condition.
-/
import Derived.Test.YtlledodigmkdjaaDoorSymNums
namespace Go.Proofs.YtlledodigmkdjaaDoor
set_option linter.unusedVariables false
open Go.RowKit
theorem meant_text {k : Int} {t : List UInt8} {n : Int} (h : validL k t n = true) : meantL (textL k t n) = (k, t, n) := by
  unfold textL
  rw [if_pos h]
  unfold validL at h
  split at h
  · rename_i h1
    rw [if_pos h1]
    simp only [Bool.and_eq_true, decide_eq_true_eq] at h
    obtain ⟨hc, hn⟩ := h
    cases t with
    | nil => cases hc
    | cons c r =>
      cases r with
      | cons d r => cases hc
      | nil =>
        have hcap : capB c = true := hc
        rw [List.cons_append, List.nil_append, meantL_cons, hcap, if_pos rfl, atoiN_itoa n (by omega) (by omega), h1]
  · rename_i h1
    split at h
    · rename_i h2
      rw [if_neg h1, if_pos h2]
      simp only [Bool.and_eq_true, decide_eq_true_eq] at h
      obtain ⟨ht, hn⟩ := h
      have ht : t = [] := by simpa using ht
      have ha := atoiN_itoa n (by omega) (by omega)
      cases hi : Lib.itoa n with
      | nil => exact absurd hi (itoa_ne n)
      | cons c r =>
        rw [hi] at ha
        have hrd := read_itoa n (by omega) (by omega)
        rw [hi] at hrd
        have hlt : c.toNat < 58 := by
          apply Decidable.byContradiction
          intro hge
          rw [read_none c r (by omega)] at hrd
          cases hrd
        have hc1 : capB c = false := by unfold capB; simp; omega
        have hc2 : smallB c = false := by unfold smallB; simp; omega
        rw [meantL_cons, hc1, hc2, if_neg (by decide), if_neg (by decide), ha, ht, h2]
    · rename_i h2
      split at h
      · rename_i h3
        rw [if_neg h1, if_neg h2]
        simp only [Bool.and_eq_true, decide_eq_true_eq] at h
        obtain ⟨hn, hw⟩ := h
        cases t with
        | nil => cases hw
        | cons c r =>
          have hs : smallB c = true := by
            rw [wordB_cons] at hw
            simp only [Bool.and_eq_true, decide_eq_true_eq] at hw
            unfold smallB
            simp only [decide_eq_true_eq]
            exact hw.1.2
          have hc : capB c = false := by
            unfold smallB at hs
            simp only [decide_eq_true_eq] at hs
            unfold capB
            simp; omega
          rw [meantL_cons, hc, hs, if_neg (by decide), if_pos rfl, hn, h3]
      · cases h
theorem parse_text {k : Int} {t : List UInt8} {n : Int} (h : validL k t n = true) : parseL (textL k t n) = ((k, t, n), true) := by
  unfold parseL
  rw [meant_text h]
  simp
theorem textY_list (s : Sy) : (textY s).data.toList = textL s.k s.t.data.toList s.n := rfl
theorem symOf_self (s : Sy) : symOf (s.k, s.t.data.toList, s.n) = s := by
  cases s with
  | mk k t n => unfold symOf; simp only [str_self]
theorem back_of (s : Sy) (h : validY s = true) : ((s, true) : Sy × Bool) = (symOf (parseL (textY s).data.toList).1, (parseL (textY s).data.toList).2) := by
  rw [textY_list, parse_text h, symOf_self]
theorem meant_of (s : Sy) (h : validY s = true) : symOf (meantL (textY s).data.toList) = s := by
  rw [textY_list, meant_text h, symOf_self]
theorem textY_inj {a b : Sy} (ha : validY a = true) (hb : validY b = true) : textY a = textY b ↔ a = b :=
  ⟨fun h => by rw [← meant_of a ha, ← meant_of b hb, h], fun h => by rw [h]⟩
theorem textY_size (s : Sy) (h : validY s = true) (hs : s.t.size ≤ 1000) : (textY s).size ≤ 1000000 := by
  have e : (textY s).size = (textL s.k s.t.data.toList s.n).length := by rw [← textY_list]; simp
  have hl : s.t.data.toList.length = s.t.size := by simp
  rw [e]
  unfold textL
  unfold validY at h
  rw [if_pos h]
  by_cases h3 : s.k = 3
  · rw [if_neg (by omega), if_neg (by omega), hl]; omega
  · have hn := valid_num (s := s) h h3
    have hi := Lib.itoa_length_le s.n (by omega) (by omega)
    split
    · rw [List.length_append, hl]; omega
    · split
      · omega
      · rw [hl]; omega
end Go.Proofs.YtlledodigmkdjaaDoor
