/-
  Plain lemmas: the tokens of a text, by the rules. No condition.
-/
import Derived.Test.YtocdclcemebaeaaDoorSymPlain
import Derived.Test.YtocdclcemebaeaaDoorSyS
namespace Go.Proofs.YtocdclcemebaeaaDoor
set_option linter.unusedVariables false
open Go.RowKit
def blankB (c : UInt8) : Bool := decide (c.toNat = 32 ∨ c.toNat = 9 ∨ c.toNat = 10 ∨ c.toNat = 13)
def lineB (c : UInt8) : Bool := decide (c.toNat ≠ 10)
def runL (p : UInt8 → Bool) (l : List UInt8) : Nat := (l.takeWhile p).length
theorem runL_nil (p : UInt8 → Bool) : runL p [] = 0 := rfl
theorem runL_cons_true {p : UInt8 → Bool} {c : UInt8} (r : List UInt8) (h : p c = true) : runL p (c :: r) = 1 + runL p r := by
  unfold runL; rw [List.takeWhile_cons, if_pos h, List.length_cons]; omega
theorem runL_cons_false {p : UInt8 → Bool} {c : UInt8} (r : List UInt8) (h : p c = false) : runL p (c :: r) = 0 := by
  unfold runL; rw [List.takeWhile_cons, if_neg (by rw [h]; decide)]; rfl
theorem runL_le (p : UInt8 → Bool) (l : List UInt8) : runL p l ≤ l.length := (List.takeWhile_sublist p).length_le
/-- What is counted byte by byte. -/
theorem runL_step (p : UInt8 → Bool) (l : List UInt8) (k : Nat) (h : k < l.length) : runL p (l.drop k) = if p l[k] then 1 + runL p (l.drop (k + 1)) else 0 := by
  rw [List.drop_eq_getElem_cons h]
  split
  · rename_i hp; exact runL_cons_true _ hp
  · rename_i hp; exact runL_cons_false _ (by simpa using hp)
theorem runL_end (p : UInt8 → Bool) (l : List UInt8) (k : Nat) (h : l.length ≤ k) : runL p (l.drop k) = 0 := by
  rw [List.drop_of_length_le h]; rfl
/-- Blanks and remarks at a text's beginning; within a remark or not. -/
def gapL : Bool → List UInt8 → Nat
  | _, [] => 0
  | false, c :: r => if blankB c then 1 + gapL false r else if c.toNat = 35 then 1 + gapL true r else 0
  | true, c :: r => if lineB c then 1 + gapL true r else 1 + gapL false r
theorem gap_remark : ∀ l : List UInt8, gapL true l = runL lineB l + gapL false (l.drop (runL lineB l))
  | [] => rfl
  | c :: r => by
    cases h : lineB c with
    | true =>
      rw [runL_cons_true r h]
      have ih := gap_remark r
      have e : gapL true (c :: r) = 1 + gapL true r := by show (if lineB c then _ else _) = _; rw [h]; rfl
      rw [e, ih, show 1 + runL lineB r = runL lineB r + 1 by omega, List.drop_succ_cons]
      omega
    | false =>
      rw [runL_cons_false r h, List.drop_zero]
      have e : gapL true (c :: r) = 1 + gapL false r := by show (if lineB c then _ else _) = _; rw [h]; rfl
      have hb : blankB c = true := by
        simp only [lineB, decide_eq_false_iff_not, ne_eq, Decidable.not_not] at h
        simp [blankB, h]
      have e2 : gapL false (c :: r) = 1 + gapL false r := by show (if blankB c then _ else _) = _; rw [hb]; rfl
      rw [e, e2]; omega
theorem gap_blank {c : UInt8} (r : List UInt8) (h : blankB c = true) : gapL false (c :: r) = 1 + gapL false r := by
  show (if blankB c then _ else _) = _; rw [h]; rfl
theorem gap_hash {c : UInt8} (r : List UInt8) (h : c.toNat = 35) : gapL false (c :: r) = runL lineB (c :: r) + gapL false ((c :: r).drop (runL lineB (c :: r))) := by
  have hb : blankB c = false := by simp [blankB, h]
  have hl : lineB c = true := by simp [lineB, h]
  have e : gapL false (c :: r) = 1 + gapL true r := by
    show (if blankB c then _ else if c.toNat = 35 then _ else _) = _
    rw [hb, if_pos h]; rfl
  rw [e, gap_remark r, runL_cons_true r hl, show 1 + runL lineB r = runL lineB r + 1 by omega, List.drop_succ_cons]
  omega
theorem gap_none {c : UInt8} (r : List UInt8) (hb : blankB c = false) (h : ¬ c.toNat = 35) : gapL false (c :: r) = 0 := by
  show (if blankB c then _ else if c.toNat = 35 then _ else _) = _
  rw [hb, if_neg h]; rfl
theorem gap_le : ∀ (b : Bool) (l : List UInt8), gapL b l ≤ l.length
  | false, [] => Nat.le_refl _
  | true, [] => Nat.le_refl _
  | false, c :: r => by
    have h1 := gap_le false r
    have h2 := gap_le true r
    show (if blankB c then 1 + gapL false r else if c.toNat = 35 then 1 + gapL true r else 0) ≤ r.length + 1
    split
    · omega
    · split <;> omega
  | true, c :: r => by
    have h1 := gap_le false r
    have h2 := gap_le true r
    show (if lineB c then 1 + gapL true r else 1 + gapL false r) ≤ r.length + 1
    split <;> omega
theorem gap_stops : ∀ (b : Bool) (l : List UInt8), gapL false (l.drop (gapL b l)) = 0
  | false, [] => rfl
  | true, [] => rfl
  | false, c :: r => by
    have h1 := gap_stops false r
    have h2 := gap_stops true r
    show gapL false ((c :: r).drop (if blankB c then 1 + gapL false r else if c.toNat = 35 then 1 + gapL true r else 0)) = 0
    split
    · rw [Nat.add_comm, List.drop_succ_cons]; exact h1
    · rename_i hb
      split
      · rw [Nat.add_comm, List.drop_succ_cons]; exact h2
      · rename_i hh
        rw [List.drop_zero]; exact gap_none r (by simpa using hb) hh
  | true, c :: r => by
    have h1 := gap_stops false r
    have h2 := gap_stops true r
    show gapL false ((c :: r).drop (if lineB c then 1 + gapL true r else 1 + gapL false r)) = 0
    split <;> rw [Nat.add_comm, List.drop_succ_cons] <;> assumption
def wordN : List UInt8 → Nat
  | [] => 0
  | c :: r => if smallB c then runL partB (c :: r) else 0
def numN (l : List UInt8) : Nat := if l.head? = some 45 then (if runL digB l.tail = 0 then 0 else runL digB l.tail + 1) else runL digB l
def varN : List UInt8 → Nat
  | [] => 0
  | c :: r => if c.toNat = 60 then (if wordN r = 0 then 0 else if (r.drop (wordN r)).head? = some 62 then wordN r + 2 else 0) else 0
def signsL : List (List UInt8) := [[45, 45, 62], [60, 61, 62], [60, 60], [62, 62], [60, 62], [60, 61], [62, 61], [40], [41], [123], [125], [94], [43], [45], [33], [126], [60], [62], [61], [42]]
def signN (l : List UInt8) : Nat := ((signsL.find? (fun s => s.isPrefixOf l)).map List.length).getD 0
/-- The first token's kind and how many bytes it takes; a Bad one by rule 5 alone. -/
def cutL (l : List UInt8) : Int × Nat :=
  if l = [] then (5, 0) else if wordN l ≠ 0 then (1, wordN l) else if numN l ≠ 0 then (2, numN l) else if varN l ≠ 0 then (3, varN l) else if signN l ≠ 0 then (4, signN l) else (6, 1)
def nameL (k : Int) (p : List UInt8) : List UInt8 := if k = 3 then (p.drop 1).take (p.length - 2) else p
def fitsL (k : Int) (nm : List UInt8) : Bool := if k = 1 ∨ k = 3 then wordB nm else if k = 2 then (parseL nm).2 else true
/-- The token of a kind and a piece: held to its bounds. -/
def holdL (k : Int) (p : List UInt8) (n : Nat) : Sy := if fitsL k (nameL k p) then ⟨k, ⟨(nameL k p).toArray⟩, n⟩ else ⟨6, ⟨p.toArray⟩, n⟩
def tokL (n : Nat) (l : List UInt8) : Sy := holdL (cutL l).1 (l.take (cutL l).2) n
def lexF : Nat → Nat → List UInt8 → List Sy
  | 0, _, _ => []
  | f + 1, n, l =>
    let g := gapL false l
    let t := tokL (n + g) (l.drop g)
    if t.k = 5 ∨ t.k = 6 then [t] else t :: lexF f (n + g + (cutL (l.drop g)).2) ((l.drop g).drop (cutL (l.drop g)).2)
def lexL (l : List UInt8) : List Sy := lexF (l.length + 1) 0 l
theorem wordN_le : ∀ l : List UInt8, wordN l ≤ l.length
  | [] => Nat.le_refl _
  | c :: r => by
    show (if smallB c then runL partB (c :: r) else 0) ≤ _
    split
    · exact runL_le _ _
    · omega
theorem head_pos {α : Type} {l : List α} {x : α} (h : l.head? = some x) : 1 ≤ l.length := by
  cases l with
  | nil => cases h
  | cons => simp
theorem numN_le (l : List UInt8) : numN l ≤ l.length := by
  unfold numN
  split
  · rename_i h
    have h1 := runL_le digB l.tail
    have h2 := head_pos h
    rw [List.length_tail] at h1
    by_cases h0 : runL digB l.tail = 0
    · rw [if_pos h0]; omega
    · rw [if_neg h0]; omega
  · exact runL_le _ _
theorem varN_le : ∀ l : List UInt8, varN l ≤ l.length
  | [] => Nat.le_refl _
  | c :: r => by
    show (if c.toNat = 60 then (if wordN r = 0 then 0 else if (r.drop (wordN r)).head? = some 62 then wordN r + 2 else 0) else 0) ≤ _
    split
    · split
      · omega
      · split
        · rename_i h
          have h1 := head_pos h
          rw [List.length_drop] at h1
          have := wordN_le r
          simp only [List.length_cons]; omega
        · omega
    · omega
theorem isPrefixOf_le {a b : List UInt8} (h : a.isPrefixOf b = true) : a.length ≤ b.length := (List.isPrefixOf_iff_prefix.1 h).length_le
theorem signN_le (l : List UInt8) : signN l ≤ l.length := by
  unfold signN
  cases h : signsL.find? (fun s => s.isPrefixOf l) with
  | none => exact Nat.zero_le _
  | some s => exact isPrefixOf_le (by have := List.find?_some h; simpa using this)
theorem cut_le (l : List UInt8) : (cutL l).2 ≤ l.length := by
  have h1 := wordN_le l; have h2 := numN_le l; have h3 := varN_le l; have h4 := signN_le l
  unfold cutL
  split
  · exact Nat.zero_le _
  · rename_i h
    have : 1 ≤ l.length := by
      cases l with
      | nil => exact absurd rfl h
      | cons => simp
    split
    · exact h1
    · split
      · exact h2
      · split
        · exact h3
        · split
          · exact h4
          · exact this
theorem cut_pos (l : List UInt8) (h : l ≠ []) : 1 ≤ (cutL l).2 := by
  unfold cutL
  rw [if_neg h]
  split
  · rename_i h; exact Nat.pos_of_ne_zero h
  · split
    · rename_i h; exact Nat.pos_of_ne_zero h
    · split
      · rename_i h; exact Nat.pos_of_ne_zero h
      · split
        · rename_i h; exact Nat.pos_of_ne_zero h
        · exact Nat.le_refl _
theorem cut_kind (l : List UInt8) : (cutL l).1 = 5 ∧ l = [] ∨ ((cutL l).1 = 1 ∨ (cutL l).1 = 2 ∨ (cutL l).1 = 3 ∨ (cutL l).1 = 4 ∨ (cutL l).1 = 6) ∧ l ≠ [] := by
  unfold cutL
  split
  · rename_i h; exact .inl ⟨rfl, h⟩
  · rename_i h
    refine .inr ⟨?_, h⟩
    split
    · exact .inl rfl
    · split
      · exact .inr (.inl rfl)
      · split
        · exact .inr (.inr (.inl rfl))
        · split
          · exact .inr (.inr (.inr (.inl rfl)))
          · exact .inr (.inr (.inr (.inr rfl)))
theorem hold_kind (k : Int) (p : List UInt8) (n : Nat) : (holdL k p n).k = k ∨ (holdL k p n).k = 6 := by
  unfold holdL; split
  · exact .inl rfl
  · exact .inr rfl
theorem tok_end (n : Nat) : tokL n [] = ⟨5, ⟨#[]⟩, n⟩ := rfl
theorem tok_five (n : Nat) (l : List UInt8) (h : l ≠ []) : (tokL n l).k ≠ 5 := by
  have h1 := hold_kind (cutL l).1 (l.take (cutL l).2) n
  have h2 := cut_kind l
  unfold tokL
  rcases h2 with h2 | ⟨h2, -⟩
  · exact absurd h2.2 h
  · omega
/-- More fuel changes nothing. -/
theorem lexF_fuel : ∀ (f g n : Nat) (l : List UInt8), l.length < f → l.length < g → lexF f n l = lexF g n l
  | 0, _, _, _, h, _ => by omega
  | _, 0, _, _, _, h => by omega
  | f + 1, g + 1, n, l, hf, hg => by
    unfold lexF
    simp only
    split
    · rfl
    · rename_i hk
      congr 1
      have hne : l.drop (gapL false l) ≠ [] := by
        intro h; rw [h] at hk; exact hk (.inl rfl)
      have h1 := cut_pos _ hne
      have h2 : 1 ≤ (l.drop (gapL false l)).length := by
        cases hd : l.drop (gapL false l) with
        | nil => exact absurd hd hne
        | cons => simp
      rw [List.length_drop] at h2
      exact lexF_fuel f g _ _ (by rw [List.length_drop, List.length_drop]; omega) (by rw [List.length_drop, List.length_drop]; omega)
/-- The tokens behind n bytes, the rest being l. -/
def lexFrom (n : Nat) (l : List UInt8) : List Sy := lexF (l.length + 1) n l
theorem lexL_from (l : List UInt8) : lexL l = lexFrom 0 l := rfl
/-- One step of the tokens, where the blanks are gone. -/
theorem lex_step (n : Nat) (l : List UInt8) : lexFrom n l = (let t := tokL (n + gapL false l) (l.drop (gapL false l)); if t.k = 5 ∨ t.k = 6 then [t] else
    t :: lexFrom (n + gapL false l + (cutL (l.drop (gapL false l))).2) ((l.drop (gapL false l)).drop (cutL (l.drop (gapL false l))).2)) := by
  unfold lexFrom
  show lexF (l.length + 1) n l = _
  rw [lexF]
  simp only
  split
  · rfl
  · rename_i hk
    congr 1
    have hne : l.drop (gapL false l) ≠ [] := by
      intro h; rw [h] at hk; exact hk (.inl rfl)
    have h1 := cut_pos _ hne
    have h2 : 1 ≤ (l.drop (gapL false l)).length := by
      cases hd : l.drop (gapL false l) with
      | nil => exact absurd hd hne
      | cons => simp
    rw [List.length_drop] at h2
    exact lexF_fuel _ _ _ _ (by rw [List.length_drop, List.length_drop]; omega) (by omega)
theorem lex_len : ∀ (m n : Nat) (l : List UInt8), l.length ≤ m → (lexFrom n l).length ≤ l.length + 1
  | m, n, l, hm => by
    rw [lex_step]
    simp only
    split
    · simp
    · rename_i hk
      have hne : l.drop (gapL false l) ≠ [] := by
        intro h; rw [h] at hk; exact hk (.inl rfl)
      have h1 := cut_pos _ hne
      have h2 : 1 ≤ (l.drop (gapL false l)).length := by
        cases hd : l.drop (gapL false l) with
        | nil => exact absurd hd hne
        | cons => simp
      rw [List.length_drop] at h2
      cases m with
      | zero => omega
      | succ m =>
        have ih := lex_len m (n + gapL false l + (cutL (l.drop (gapL false l))).2) ((l.drop (gapL false l)).drop (cutL (l.drop (gapL false l))).2) (by rw [List.length_drop, List.length_drop]; omega)
        rw [List.length_drop, List.length_drop] at ih
        simp only [List.length_cons]; omega
end Go.Proofs.YtocdclcemebaeaaDoor
