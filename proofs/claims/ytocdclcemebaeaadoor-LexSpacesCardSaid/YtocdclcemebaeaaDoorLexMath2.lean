/-
  Plain lemmas: where tokens stand; texts one behind the other. No condition.
-/
import Derived.Test.YtocdclcemebaeaaDoorLexPlain
namespace Go.Proofs.YtocdclcemebaeaaDoor
set_option linter.unusedVariables false
open Go.RowKit
/-- A token as it is written, on bytes. -/
def textT (t : Sy) : List UInt8 := if t.k = 3 then 60 :: (t.t.data.toList ++ [62]) else t.t.data.toList
theorem var_form {l : List UInt8} (h : varN l ≠ 0) : ∃ r m, l = 60 :: r ∧ m ≠ 0 ∧ m = wordN r ∧ varN l = m + 2 ∧ r.take (m + 1) = r.take m ++ [62] ∧ m + 1 ≤ r.length := by
  cases l with
  | nil => exact absurd rfl h
  | cons c r =>
    have hv : varN (c :: r) = (if c.toNat = 60 then (if wordN r = 0 then 0 else if (r.drop (wordN r)).head? = some 62 then wordN r + 2 else 0) else 0) := rfl
    by_cases hc : c.toNat = 60
    · rw [hv, if_pos hc] at h
      by_cases h0 : wordN r = 0
      · rw [if_pos h0] at h; exact absurd rfl h
      · rw [if_neg h0] at h
        by_cases h2 : (r.drop (wordN r)).head? = some 62
        · have hcc : c = 60 := UInt8.toNat_inj.1 hc
          subst hcc
          have hd := head_pos h2
          rw [List.length_drop] at hd
          refine ⟨r, wordN r, rfl, h0, rfl, by rw [hv, if_pos hc, if_neg h0, if_pos h2], ?_, by omega⟩
          have hlt : wordN r < r.length := by omega
          rw [List.take_succ_eq_append_getElem hlt]
          rw [List.head?_drop, List.getElem?_eq_getElem hlt] at h2
          rw [Option.some.inj h2]
        · rw [if_neg h2] at h; exact absurd rfl h
    · rw [hv, if_neg hc] at h; exact absurd rfl h
theorem cut_var {l : List UInt8} (h : (cutL l).1 = 3) : varN l ≠ 0 ∧ (cutL l).2 = varN l := by
  unfold cutL at h ⊢
  split at h
  · simp at h
  · rename_i h0
    rw [if_neg h0]
    split at h
    · simp at h
    · rename_i h1
      rw [if_neg h1]
      split at h
      · simp at h
      · rename_i h2
        rw [if_neg h2]
        split at h
        · rename_i h3; rw [if_pos h3]; exact ⟨h3, rfl⟩
        · split at h <;> simp at h
theorem tok_text (n : Nat) (l : List UInt8) : textT (tokL n l) = l.take (cutL l).2 := by
  unfold tokL holdL
  by_cases h3 : (cutL l).1 = 3
  · obtain ⟨hv, h2⟩ := cut_var h3
    obtain ⟨r, m, rfl, hm, -, e, ht, hlen⟩ := var_form hv
    rw [h2, e]
    have hp : (60 :: r).take (m + 2) = 60 :: (r.take m ++ [62]) := by rw [List.take_succ_cons, ht]
    rw [hp, h3]
    have hn : nameL 3 (60 :: (r.take m ++ [62])) = r.take m := by
      unfold nameL
      rw [if_pos rfl, List.drop_succ_cons, List.drop_zero]
      simp
    rw [hn]
    split
    · unfold textT; rw [if_pos rfl]
    · unfold textT; rw [if_neg (by show ¬ (6 : Int) = 3; decide)]
  · have hn : nameL (cutL l).1 (l.take (cutL l).2) = l.take (cutL l).2 := by unfold nameL; rw [if_neg h3]
    rw [hn]
    split
    · unfold textT; rw [if_neg h3]
    · unfold textT; rw [if_neg (by show ¬ (6 : Int) = 3; decide)]
/-- Are there just blanks and remarks? -/
def emptyL : Bool → List UInt8 → Bool
  | _, [] => true
  | false, c :: r => if c.toNat = 35 then emptyL true r else if blankB c then emptyL false r else false
  | true, c :: r => if lineB c then emptyL true r else emptyL false r
theorem empty_gap : ∀ (b : Bool) (l : List UInt8), emptyL b (l.take (gapL b l)) = true
  | false, [] => rfl
  | true, [] => rfl
  | false, c :: r => by
    have h1 := empty_gap false r
    have h2 := empty_gap true r
    show emptyL false ((c :: r).take (if blankB c then 1 + gapL false r else if c.toNat = 35 then 1 + gapL true r else 0)) = true
    by_cases hb : blankB c = true
    · have hh : ¬ c.toNat = 35 := by simp [blankB] at hb; omega
      rw [if_pos hb, Nat.add_comm, List.take_succ_cons]
      show (if c.toNat = 35 then _ else if blankB c then emptyL false (r.take (gapL false r)) else false) = true
      rw [if_neg hh, if_pos hb, h1]
    · rw [if_neg hb]
      by_cases hh : c.toNat = 35
      · rw [if_pos hh, Nat.add_comm, List.take_succ_cons]
        show (if c.toNat = 35 then emptyL true (r.take (gapL true r)) else _) = true
        rw [if_pos hh, h2]
      · rw [if_neg hh, List.take_zero]; rfl
  | true, c :: r => by
    have h1 := empty_gap false r
    have h2 := empty_gap true r
    show emptyL true ((c :: r).take (if lineB c then 1 + gapL true r else 1 + gapL false r)) = true
    by_cases hb : lineB c = true
    · rw [if_pos hb, Nat.add_comm, List.take_succ_cons]
      show (if lineB c then emptyL true (r.take (gapL true r)) else _) = true
      rw [if_pos hb, h2]
    · rw [if_neg hb, Nat.add_comm, List.take_succ_cons]
      show (if lineB c then _ else emptyL false (r.take (gapL false r))) = true
      rw [if_neg hb, h1]
/-! a text behind a line's end -/
theorem runL_ten {p : UInt8 → Bool} (hp : p 10 = false) (b : List UInt8) : ∀ l : List UInt8, runL p (l ++ 10 :: b) = runL p l
  | [] => runL_cons_false b hp
  | c :: l => by
    cases h : p c with
    | true => rw [List.cons_append, runL_cons_true _ h, runL_cons_true _ h, runL_ten hp b l]
    | false => rw [List.cons_append, runL_cons_false _ h, runL_cons_false _ h]
theorem wordN_ten (b : List UInt8) : ∀ l : List UInt8, wordN (l ++ 10 :: b) = wordN l
  | [] => rfl
  | c :: l => by
    show (if smallB c then runL partB ((c :: l) ++ 10 :: b) else 0) = (if smallB c then runL partB (c :: l) else 0)
    rw [runL_ten (by decide)]
theorem numN_ten (b : List UInt8) : ∀ l : List UInt8, numN (l ++ 10 :: b) = numN l
  | [] => by unfold numN; rw [List.nil_append, List.head?_cons, if_neg (by decide)]; exact runL_cons_false b (by decide)
  | c :: l => by
    unfold numN
    rw [List.cons_append, List.head?_cons, List.head?_cons, List.tail_cons, List.tail_cons, runL_ten (by decide), ← List.cons_append, runL_ten (by decide)]
theorem varN_ten (b : List UInt8) : ∀ l : List UInt8, varN (l ++ 10 :: b) = varN l
  | [] => rfl
  | c :: r => by
    have hw := wordN_le r
    have hh : (((r ++ 10 :: b).drop (wordN r)).head? = some 62) ↔ ((r.drop (wordN r)).head? = some 62) := by
      rw [List.drop_append_of_le_length hw]
      cases r.drop (wordN r) with
      | nil => simp
      | cons => simp
    show (if c.toNat = 60 then (if wordN (r ++ 10 :: b) = 0 then 0 else if ((r ++ 10 :: b).drop (wordN (r ++ 10 :: b))).head? = some 62 then wordN (r ++ 10 :: b) + 2 else 0) else 0) =
      (if c.toNat = 60 then (if wordN r = 0 then 0 else if (r.drop (wordN r)).head? = some 62 then wordN r + 2 else 0) else 0)
    rw [wordN_ten]
    simp only [hh]
theorem prefix_ten (b : List UInt8) : ∀ (s l : List UInt8), s.all (fun c => c != 10) = true → s.isPrefixOf (l ++ 10 :: b) = s.isPrefixOf l
  | [], _, _ => by simp
  | c :: s, [], h => by
    simp only [List.all_cons, Bool.and_eq_true, bne_iff_ne] at h
    have : (c == 10) = false := by simpa using h.1
    simp [List.isPrefixOf, this]
  | c :: s, d :: l, h => by
    simp only [List.all_cons, Bool.and_eq_true] at h
    simp only [List.cons_append, List.isPrefixOf, prefix_ten b s l h.2]
theorem signs_no_ten : ∀ s ∈ signsL, s.all (fun c => c != 10) = true := by decide
theorem find_congr {α : Type} {p q : α → Bool} : ∀ {l : List α}, (∀ x ∈ l, p x = q x) → l.find? p = l.find? q
  | [], _ => rfl
  | x :: l, h => by
    rw [List.find?_cons, List.find?_cons, h x (by simp), find_congr (fun y hy => h y (by simp [hy]))]
theorem signN_ten (b l : List UInt8) : signN (l ++ 10 :: b) = signN l := by
  unfold signN
  rw [find_congr fun s hs => prefix_ten b s l (signs_no_ten s hs)]
theorem cut_ten (b : List UInt8) {l : List UInt8} (h : l ≠ []) : cutL (l ++ 10 :: b) = cutL l := by
  unfold cutL
  rw [wordN_ten, numN_ten, varN_ten, signN_ten, if_neg h, if_neg (by simp)]
theorem tok_ten (n : Nat) (b : List UInt8) {l : List UInt8} (h : l ≠ []) : tokL n (l ++ 10 :: b) = tokL n l := by
  unfold tokL
  rw [cut_ten b h, List.take_append_of_le_length (cut_le l)]
theorem gap_ten (b : List UInt8) : ∀ (st : Bool) (l : List UInt8), (gapL st (l ++ [10]) = l.length + 1 ∧ gapL st (l ++ 10 :: b) = l.length + 1 + gapL false b) ∨ (gapL st (l ++ [10]) < l.length ∧ gapL st (l ++ 10 :: b) = gapL st (l ++ [10]))
  | false, [] => .inl ⟨rfl, by rw [List.nil_append, gap_blank b (by decide)]; rfl⟩
  | true, [] => .inl ⟨rfl, rfl⟩
  | false, c :: l => by
    have e : ∀ r, gapL false (c :: r) = if blankB c then 1 + gapL false r else if c.toNat = 35 then 1 + gapL true r else 0 := fun _ => rfl
    rw [List.cons_append, List.cons_append, e, e, List.length_cons]
    by_cases hb : blankB c = true
    · rw [if_pos hb, if_pos hb]
      rcases gap_ten b false l with ⟨h1, h2⟩ | ⟨h1, h2⟩
      · exact .inl ⟨by omega, by omega⟩
      · exact .inr ⟨by omega, by omega⟩
    · rw [if_neg hb, if_neg hb]
      by_cases hh : c.toNat = 35
      · rw [if_pos hh, if_pos hh]
        rcases gap_ten b true l with ⟨h1, h2⟩ | ⟨h1, h2⟩
        · exact .inl ⟨by omega, by omega⟩
        · exact .inr ⟨by omega, by omega⟩
      · rw [if_neg hh, if_neg hh]; exact .inr ⟨by omega, rfl⟩
  | true, c :: l => by
    have e : ∀ r, gapL true (c :: r) = if lineB c then 1 + gapL true r else 1 + gapL false r := fun _ => rfl
    rw [List.cons_append, List.cons_append, e, e, List.length_cons]
    by_cases hb : lineB c = true
    · rw [if_pos hb, if_pos hb]
      rcases gap_ten b true l with ⟨h1, h2⟩ | ⟨h1, h2⟩
      · exact .inl ⟨by omega, by omega⟩
      · exact .inr ⟨by omega, by omega⟩
    · rw [if_neg hb, if_neg hb]
      rcases gap_ten b false l with ⟨h1, h2⟩ | ⟨h1, h2⟩
      · exact .inl ⟨by omega, by omega⟩
      · exact .inr ⟨by omega, by omega⟩
def badEnd (xs : List Sy) : Prop := ∃ t, xs.getLast? = some t ∧ t.k = 6
theorem badEnd_cons {t : Sy} {xs : List Sy} (h : xs ≠ []) : badEnd (t :: xs) ↔ badEnd xs := by
  unfold badEnd
  cases xs with
  | nil => exact absurd rfl h
  | cons x xs => rw [List.getLast?_cons_cons]
theorem lex_ne (n : Nat) (l : List UInt8) : lexFrom n l ≠ [] := by
  rw [lex_step]; simp only; split <;> simp
/-- A text behind another one that ends in a line's end. -/
theorem lex_ten (b : List UInt8) : ∀ (m n : Nat) (l : List UInt8), l.length ≤ m →
    (badEnd (lexFrom n (l ++ [10])) → lexFrom n (l ++ 10 :: b) = lexFrom n (l ++ [10])) ∧ (¬ badEnd (lexFrom n (l ++ [10])) → lexFrom n (l ++ 10 :: b) = (lexFrom n (l ++ [10])).dropLast ++ lexFrom (n + l.length + 1) b)
  | m, n, l, hm => by
    rcases gap_ten b false l with ⟨h1, h2⟩ | ⟨h1, h2⟩
    · have e1 : lexFrom n (l ++ [10]) = [⟨5, ⟨#[]⟩, n + (l.length + 1)⟩] := by
        rw [lex_step, h1]
        have : (l ++ [(10 : UInt8)]).drop (l.length + 1) = [] := List.drop_of_length_le (by simp)
        simp only [this, tok_end]
        rfl
      have e2 : lexFrom n (l ++ 10 :: b) = lexFrom (n + l.length + 1) b := by
        have hd : (l ++ 10 :: b).drop (l.length + 1 + gapL false b) = b.drop (gapL false b) := by
          rw [List.drop_append, List.drop_of_length_le (by omega : l.length ≤ _), List.nil_append, show l.length + 1 + gapL false b - l.length = gapL false b + 1 by omega, List.drop_succ_cons]
        rw [lex_step, lex_step (n + l.length + 1), h2, hd]
        have e3 : n + (l.length + 1 + gapL false b) = n + l.length + 1 + gapL false b := by omega
        rw [e3]
      refine ⟨fun h => ?_, fun _ => ?_⟩
      · rw [e1] at h
        obtain ⟨t, ht, hk⟩ := h
        simp at ht; subst ht; exact absurd hk (by show ¬ (5 : Int) = 6; decide)
      · rw [e1, e2]; rfl
    · obtain ⟨g, hg⟩ : ∃ g, g = gapL false (l ++ [10]) := ⟨_, rfl⟩
      rw [← hg] at h1 h2
      have hne : l.drop g ≠ [] := by
        intro e
        have := congrArg List.length e
        rw [List.length_drop, List.length_nil] at this
        omega
      have d1 : (l ++ [10]).drop g = l.drop g ++ 10 :: [] := List.drop_append_of_le_length (by omega)
      have d2 : (l ++ 10 :: b).drop g = l.drop g ++ 10 :: b := List.drop_append_of_le_length (by omega)
      have hcl := cut_le (l.drop g)
      have hcp := cut_pos _ hne
      have hgl : (l.drop g).length = l.length - g := List.length_drop
      have dd : ∀ q, (l.drop g ++ 10 :: q).drop (cutL (l.drop g)).2 = (l.drop g).drop (cutL (l.drop g)).2 ++ 10 :: q := fun q => List.drop_append_of_le_length hcl
      have e1 := lex_step n (l ++ [10])
      have e2 := lex_step n (l ++ 10 :: b)
      rw [h2, d2] at e2
      rw [← hg, d1] at e1
      simp only [cut_ten _ hne, tok_ten _ _ hne, dd] at e1 e2
      have hk5 := tok_five (n + g) _ hne
      by_cases hk : (tokL (n + g) (l.drop g)).k = 6
      · rw [if_pos (.inr hk)] at e1 e2
        refine ⟨fun _ => by rw [e1, e2], fun h => absurd ?_ h⟩
        rw [e1]
        exact ⟨_, rfl, hk⟩
      · rw [if_neg (by simp only [not_or]; exact ⟨hk5, hk⟩)] at e1 e2
        cases m with
        | zero => omega
        | succ m =>
          have hlen2 : ((l.drop g).drop (cutL (l.drop g)).2).length = l.length - g - (cutL (l.drop g)).2 := by rw [List.length_drop, List.length_drop]
          obtain ⟨i1, i2⟩ := lex_ten b m (n + g + (cutL (l.drop g)).2) ((l.drop g).drop (cutL (l.drop g)).2) (by omega)
          rw [e1, e2]
          have hne2 := lex_ne (n + g + (cutL (l.drop g)).2) ((l.drop g).drop (cutL (l.drop g)).2 ++ [10])
          rw [badEnd_cons hne2, List.dropLast_cons_of_ne_nil hne2]
          refine ⟨fun h => by rw [i1 h], fun h => ?_⟩
          rw [i2 h, List.cons_append, hlen2]
          have : n + g + (cutL (l.drop g)).2 + (l.length - g - (cutL (l.drop g)).2) + 1 = n + l.length + 1 := by omega
          rw [this]
/-- Where a text begins, its tokens stand by as much farther on. -/
def shiftT (d : Nat) (t : Sy) : Sy := ⟨t.k, t.t, t.n + d⟩
theorem tok_shift (n d : Nat) (l : List UInt8) : tokL (n + d) l = shiftT d (tokL n l) := by
  unfold tokL holdL shiftT
  split <;> simp
theorem lex_shift (d : Nat) : ∀ (m n : Nat) (l : List UInt8), l.length ≤ m → lexFrom (n + d) l = (lexFrom n l).map (shiftT d)
  | m, n, l, hm => by
    rw [lex_step, lex_step n]
    have e : n + d + gapL false l = n + gapL false l + d := by omega
    rw [e, tok_shift]
    simp only
    have hk : (shiftT d (tokL (n + gapL false l) (l.drop (gapL false l)))).k = (tokL (n + gapL false l) (l.drop (gapL false l))).k := rfl
    rw [hk]
    split
    · rfl
    · rename_i h5
      have hne : l.drop (gapL false l) ≠ [] := by
        intro h; rw [h] at h5; exact h5 (.inl rfl)
      have h1 := cut_pos _ hne
      have h2 : 1 ≤ (l.drop (gapL false l)).length := by
        cases hd : l.drop (gapL false l) with
        | nil => exact absurd hd hne
        | cons => simp
      rw [List.length_drop] at h2
      cases m with
      | zero => omega
      | succ m =>
        rw [List.map_cons, ← lex_shift d m _ _ (by rw [List.length_drop, List.length_drop]; omega)]
        congr 2
        omega
end Go.Proofs.YtocdclcemebaeaaDoor
