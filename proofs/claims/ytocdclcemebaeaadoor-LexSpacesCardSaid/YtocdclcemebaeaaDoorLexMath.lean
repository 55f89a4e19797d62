/-
  Plain lemmas: tokens that stand alone. No condition.
-/
import Derived.Test.YtocdclcemebaeaaDoorLexPlain
namespace Go.Proofs.YtocdclcemebaeaaDoor
set_option linter.unusedVariables false
open Go.RowKit
theorem runL_all {p : UInt8 → Bool} : ∀ {l : List UInt8}, l.all p = true → runL p l = l.length
  | [], _ => rfl
  | c :: r, h => by
    simp only [List.all_cons, Bool.and_eq_true] at h
    rw [runL_cons_true r h.1, runL_all h.2, List.length_cons]; omega
theorem runL_stop {p : UInt8 → Bool} {c : UInt8} (r : List UInt8) (hc : p c = false) : ∀ {a : List UInt8}, a.all p = true → runL p (a ++ c :: r) = a.length
  | [], _ => runL_cons_false r hc
  | d :: a, h => by
    simp only [List.all_cons, Bool.and_eq_true] at h
    rw [List.cons_append, runL_cons_true _ h.1, runL_stop r hc h.2, List.length_cons]; omega
theorem part_small {c : UInt8} (h : smallB c = true) : partB c = true := by
  unfold smallB at h; unfold partB; simp only [decide_eq_true_eq] at h; simp [h]
theorem all_part {l : List UInt8} (h : l.all smallB = true) : l.all partB = true := by
  rw [List.all_eq_true] at *; exact fun c hc => part_small (h c hc)
theorem small_none {c : UInt8} (r : List UInt8) (h : smallB c = true) : gapL false (c :: r) = 0 := by
  unfold smallB at h; simp only [decide_eq_true_eq] at h
  exact gap_none r (by simp [blankB]; omega) (by omega)
theorem lex_nil (n : Nat) : lexFrom n [] = [⟨5, ⟨#[]⟩, n⟩] := by rw [lex_step]; rfl
/-- One token and the end. -/
theorem lex_two (l : List UInt8) (k : Int) (hg : gapL false l = 0) (hc : cutL l = (k, l.length)) (h5 : k ≠ 5) (h6 : k ≠ 6) :
    lexL l = if fitsL k (nameL k l) then [⟨k, ⟨(nameL k l).toArray⟩, 0⟩, ⟨5, ⟨#[]⟩, l.length⟩] else [⟨6, ⟨l.toArray⟩, 0⟩] := by
  rw [lexL_from, lex_step]
  simp only [hg, List.drop_zero, tokL, hc, List.take_length, List.drop_length, lex_nil, holdL]
  by_cases hf : fitsL k (nameL k l) = true
  · simp only [hf, if_true]
    rw [if_neg (by simp only [not_or]; exact ⟨h5, h6⟩)]
    simp
  · simp only [hf]
    simp
theorem wordN_all {c : UInt8} {r : List UInt8} (hs : smallB c = true) (hp : (c :: r).all partB = true) : wordN (c :: r) = r.length + 1 := by
  show (if smallB c then runL partB (c :: r) else 0) = _
  rw [if_pos hs, runL_all hp]; rfl
theorem lex_word (w : List UInt8) (hne : w ≠ []) (hw : w.all smallB = true) : lexL w = if w.length ≤ 32 then [⟨1, ⟨w.toArray⟩, 0⟩, ⟨5, ⟨#[]⟩, w.length⟩] else [⟨6, ⟨w.toArray⟩, 0⟩] := by
  cases w with
  | nil => exact absurd rfl hne
  | cons c r =>
    have hc : smallB c = true := by simp only [List.all_cons, Bool.and_eq_true] at hw; exact hw.1
    have hp := all_part hw
    have hn := wordN_all hc hp
    have hcut : cutL (c :: r) = (1, (c :: r).length) := by
      unfold cutL; rw [if_neg (by simp), if_pos (by rw [hn]; omega), hn]; rfl
    rw [lex_two _ 1 (small_none r hc) hcut (by omega) (by omega)]
    have hf : fitsL 1 (nameL 1 (c :: r)) = decide ((c :: r).length ≤ 32) := by
      show wordB (c :: r) = _
      rw [wordB_cons, hp]
      unfold smallB at hc
      rw [hc]; simp
    rw [hf]
    by_cases h : (c :: r).length ≤ 32
    · simp only [h, decide_true, if_true]; rfl
    · simp only [h, decide_false, if_false]; simp
theorem nameL_var (w : List UInt8) : nameL 3 (60 :: (w ++ [62])) = w := by
  unfold nameL
  rw [if_pos rfl, List.drop_succ_cons, List.drop_zero]
  simp
theorem lex_var (w : List UInt8) (hne : w ≠ []) (hw : w.all smallB = true) : lexL (60 :: (w ++ [62])) = if w.length ≤ 32 then [⟨3, ⟨w.toArray⟩, 0⟩, ⟨5, ⟨#[]⟩, w.length + 2⟩] else [⟨6, ⟨(60 :: (w ++ [62])).toArray⟩, 0⟩] := by
  cases w with
  | nil => exact absurd rfl hne
  | cons c r =>
    have hc : smallB c = true := by simp only [List.all_cons, Bool.and_eq_true] at hw; exact hw.1
    have hp := all_part hw
    have hn : wordN ((c :: r) ++ [62]) = r.length + 1 := by
      show (if smallB c then runL partB ((c :: r) ++ [62]) else 0) = _
      rw [if_pos hc, runL_stop [] (by decide) hp]; rfl
    have hv : varN (60 :: ((c :: r) ++ [62])) = r.length + 3 := by
      show (if (60 : UInt8).toNat = 60 then (if wordN ((c :: r) ++ [62]) = 0 then 0 else if (((c :: r) ++ [62]).drop (wordN ((c :: r) ++ [62]))).head? = some 62 then wordN ((c :: r) ++ [62]) + 2 else 0) else 0) = _
      rw [if_pos (by decide), hn, if_neg (by omega), if_pos]
      rw [show r.length + 1 = (c :: r).length from rfl, List.drop_left]; rfl
    have hnum : numN (60 :: ((c :: r) ++ [62])) = 0 := by
      unfold numN
      rw [List.head?_cons, if_neg (by decide)]
      exact runL_cons_false _ (by decide)
    have hcut : cutL (60 :: ((c :: r) ++ [62])) = (3, (60 :: ((c :: r) ++ [62])).length) := by
      unfold cutL
      rw [if_neg (by simp), if_neg (by rw [show wordN (60 :: ((c :: r) ++ [62])) = 0 from rfl]; simp), if_neg (by rw [hnum]; simp), if_pos (by rw [hv]; omega), hv]
      simp
    rw [lex_two _ 3 (gap_none _ (by decide) (by decide)) hcut (by omega) (by omega), nameL_var]
    have hf : fitsL 3 (c :: r) = decide ((c :: r).length ≤ 32) := by
      show wordB (c :: r) = _
      rw [wordB_cons, hp]
      unfold smallB at hc
      rw [hc]; simp
    rw [hf]
    by_cases h : (c :: r).length ≤ 32
    · simp only [h, decide_true, if_true]; simp; omega
    · simp only [h, decide_false, if_false]; simp
/-- Is a numeral that of a number that may be? -/
def numOk (l : List UInt8) : Bool := match readL l with
  | some n => decide (-2147483647 ≤ n ∧ n ≤ 2147483647)
  | none => false
theorem parse_num (c : UInt8) (r : List UInt8) (hs : smallB c = false) (hc : capB c = false) : (parseL (c :: r)).2 = numOk (c :: r) := by
  rw [parse_eq]
  unfold refParseL
  rw [word_small c r hs, if_neg (by decide)]
  have h1 : (onlyL 2 [] (readL (c :: r))).2 = numOk (c :: r) := by
    unfold onlyL numOk
    cases readL (c :: r) with
    | none => rfl
    | some n =>
      have hv : validL 2 [] n = decide (-2147483647 ≤ n ∧ n ≤ 2147483647) := rfl
      simp only [hv]
      cases decide (-2147483647 ≤ n ∧ n ≤ 2147483647) <;> rfl
  cases r with
  | nil => exact h1
  | cons d r => simp only [hc, Bool.false_and]; exact h1
theorem numOk_nines (n : Nat) : numOk (45 :: List.replicate n 57) = decide (1 ≤ n ∧ n ≤ 9) := by
  have h : readL (45 :: List.replicate n 57) = readU true (List.replicate n 57) := by unfold readL; rw [List.head?_cons, if_pos rfl, List.tail_cons]
  unfold numOk
  rw [h]
  match n with
  | 0 => rfl
  | 1 => decide
  | 2 => decide
  | 3 => decide
  | 4 => decide
  | 5 => decide
  | 6 => decide
  | 7 => decide
  | 8 => decide
  | 9 => decide
  | 10 => decide
  | n + 11 =>
    have : readU true (List.replicate (n + 11) 57) = none := by unfold readU; rw [if_pos (.inr (.inl (by simp)))]
    rw [this]; simp
theorem lex_num (n : Nat) (hn : 1 ≤ n) : lexL (45 :: List.replicate n 57) = if n ≤ 9 then [⟨2, ⟨(45 :: List.replicate n 57).toArray⟩, 0⟩, ⟨5, ⟨#[]⟩, n + 1⟩] else [⟨6, ⟨(45 :: List.replicate n 57).toArray⟩, 0⟩] := by
  have hd : (List.replicate n (57 : UInt8)).all digB = true := by rw [List.all_replicate]; simp [digB]
  have hnum : numN (45 :: List.replicate n 57) = n + 1 := by
    unfold numN
    rw [List.head?_cons, if_pos rfl, List.tail_cons, runL_all hd, List.length_replicate, if_neg (by omega)]
  have hcut : cutL (45 :: List.replicate n 57) = (2, ((45 : UInt8) :: List.replicate n 57).length) := by
    unfold cutL
    rw [if_neg (by simp), if_neg (by rw [show wordN (45 :: List.replicate n 57) = 0 from rfl]; simp), if_pos (by rw [hnum]; omega), hnum]
    simp
  rw [lex_two _ 2 (gap_none _ (by decide) (by decide)) hcut (by omega) (by omega)]
  have hf : fitsL 2 (nameL 2 (45 :: List.replicate n 57)) = decide (1 ≤ n ∧ n ≤ 9) := by
    show (parseL (45 :: List.replicate n 57)).2 = _
    rw [parse_num _ _ (by decide) (by decide), numOk_nines]
  rw [hf]
  by_cases h : n ≤ 9
  · simp only [h, hn, and_self, decide_true, if_true]; simp [nameL]
  · simp only [h, and_false, decide_false, if_false]; simp
end Go.Proofs.YtocdclcemebaeaaDoor
