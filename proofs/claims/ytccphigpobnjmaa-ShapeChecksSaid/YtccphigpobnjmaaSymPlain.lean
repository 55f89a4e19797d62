/-
  Plain lemmas: words, numerals, texts of symbols. No condition.
-/
import Derived.Laws.RangeAny
import Derived.Laws.RangeString
import Derived.Shelf.GgClosure.StringsIndexFunc
import Derived.Lib.ItoaNum
import Derived.Lib.AtoiAll
namespace Go.Proofs.Ytccphigpobnjmaa
set_option linter.unusedVariables false
/-- A byte of a word. -/
def partB (c : UInt8) : Bool := decide (97 ≤ c.toNat ∧ c.toNat ≤ 122) || decide (48 ≤ c.toNat ∧ c.toNat ≤ 57) || decide (c.toNat = 45) || decide (c.toNat = 95)
/-- No rune of a word. -/
def notPart (r : Nat) : Bool := decide (r < 97 ∨ 122 < r) && decide (r < 48 ∨ 57 < r) && decide (r ≠ 45) && decide (r ≠ 95)
theorem notPart_byte (c : UInt8) : notPart c.toNat = !partB c := by
  unfold notPart partB
  rw [Bool.eq_iff_iff]
  simp only [Bool.and_eq_true, Bool.not_eq_true', Bool.or_eq_false_iff, decide_eq_true_eq, decide_eq_false_iff_not, ne_eq]
  omega
theorem notPart_high (r : Nat) (h : 128 ≤ r) : notPart r = true := by
  unfold notPart
  simp only [Bool.and_eq_true, decide_eq_true_eq, ne_eq]
  omega
theorem idx_from (s : ByteArray) : ∀ (f pos : Nat), s.size ≤ pos + f → decide (0 ≤ Lib.idxFuncFrom notPart true s f pos) = !((s.data.toList.drop pos).all partB)
  | 0, pos, h => by
    rw [List.drop_of_length_le (by simpa using h)]
    simp [Lib.idxFuncFrom]
  | f + 1, pos, h => by
    by_cases hp : pos < s.size
    · have hd : s.data.toList.drop pos = s[pos] :: s.data.toList.drop (pos + 1) := by
        rw [List.drop_eq_getElem_cons (by simpa using hp)]
        rfl
      unfold Lib.idxFuncFrom
      rw [if_pos hp, hd, List.all_cons]
      by_cases ha : (s[pos]'hp).toNat < 128
      · rw [decode_ascii s pos hp ha]
        simp only
        rw [notPart_byte]
        cases hq : partB s[pos]
        · simp
        · simp only [Bool.not_true, Bool.true_and, if_neg (by decide : ¬ false = true)]
          exact idx_from s f (pos + 1) (by omega)
      · have hh := decode_high s pos hp (by omega)
        have hq : partB s[pos] = false := by
          have := notPart_byte s[pos]
          rw [notPart_high _ (by omega)] at this
          simpa using this.symm
        rw [notPart_high _ hh.1, if_pos rfl, hq]
        simp
    · rw [List.drop_of_length_le (by simpa using hp), Lib.idxFuncFrom_end _ _ _ _ _ hp]
      simp
theorem idx_all (s : ByteArray) : decide (0 ≤ Lib.idxFunc notPart true s) = !(s.data.toList.all partB) := idx_from s s.size 0 (by omega)
theorem bytes_cons (s : ByteArray) (h : 0 < s.size) : s.data.toList = s[0] :: s.data.toList.drop 1 := by
  have := List.drop_eq_getElem_cons (l := s.data.toList) (i := 0) (by simpa using h)
  rw [List.drop_zero] at this
  exact this
theorem bytes_nil (s : ByteArray) (h : s.size = 0) : s.data.toList = [] := by
  have : s.data.toList.length = 0 := by simpa using h
  exact List.eq_nil_of_length_eq_zero this
/-- A word: 1 to 32 bytes, a small letter first. -/
def wordB : List UInt8 → Bool
  | [] => false
  | c :: r => decide ((c :: r).length ≤ 32) && decide (97 ≤ c.toNat ∧ c.toNat ≤ 122) && (c :: r).all partB

theorem wordB_cons (c : UInt8) (r : List UInt8) : wordB (c :: r) = (decide (r.length + 1 ≤ 32) && decide (97 ≤ c.toNat ∧ c.toNat ≤ 122) && (c :: r).all partB) := rfl
/-! numerals -/
def digB (c : UInt8) : Bool := decide (48 ≤ c.toNat ∧ c.toNat ≤ 57)
def valL (acc : Nat) : List UInt8 → Nat
  | [] => acc
  | c :: r => valL (10 * acc + (c.toNat - 48)) r
theorem valL_append (a : List UInt8) (c : UInt8) : ∀ acc, valL acc (a ++ [c]) = 10 * valL acc a + (c.toNat - 48) := by
  induction a with
  | nil => exact fun acc => rfl
  | cons x a ih => exact fun acc => ih (10 * acc + (x.toNat - 48))
theorem dig_toNat (k : Nat) (h : k < 10) : (UInt8.ofNat (48 + k)).toNat = 48 + k := by
  have : 48 + k < 256 := by omega
  simp [UInt8.toNat_ofNat', Nat.mod_eq_of_lt this]
theorem dig_of (c : UInt8) (h : digB c = true) : UInt8.ofNat (48 + (c.toNat - 48)) = c := by
  unfold digB at h
  simp at h
  rw [show 48 + (c.toNat - 48) = c.toNat by omega]
  simp
theorem dec_val (u : Nat) : valL 0 (Lib.decDigits u) = u := by
  induction u using Nat.strongRecOn with
  | _ u ih =>
    rw [Lib.decDigits]
    split
    · rename_i h
      have e3 := dig_toNat u h
      show 10 * 0 + ((UInt8.ofNat (48 + u)).toNat - 48) = u
      generalize (UInt8.ofNat (48 + u)).toNat = D at e3 ⊢
      omega
    · rename_i h
      have e1 := valL_append (Lib.decDigits (u / 10)) (UInt8.ofNat (48 + u % 10)) 0
      have e2 := ih (u / 10) (by omega)
      have e3 := dig_toNat (u % 10) (by omega)
      refine e1.trans ?_
      generalize valL 0 (Lib.decDigits (u / 10)) = V at e2
      generalize (UInt8.ofNat (48 + u % 10)).toNat = D at e3
      omega
theorem dec_all (u : Nat) : (Lib.decDigits u).all digB = true := by
  induction u using Nat.strongRecOn with
  | _ u ih =>
    rw [Lib.decDigits]
    split
    · rename_i h
      simp [digB]; omega
    · rename_i h
      rw [List.all_append, ih (u / 10) (by omega)]
      simp [digB]; omega
theorem dec_ne (u : Nat) : Lib.decDigits u ≠ [] := by
  rw [Lib.decDigits]; split <;> simp
theorem dec_head (u : Nat) (h : 1 ≤ u) : ∃ c r, Lib.decDigits u = c :: r ∧ 49 ≤ c.toNat ∧ c.toNat ≤ 57 := by
  induction u using Nat.strongRecOn with
  | _ u ih =>
    rw [Lib.decDigits]
    split
    · rename_i h1
      exact ⟨_, _, rfl, by rw [dig_toNat u h1]; omega, by rw [dig_toNat u h1]; omega⟩
    · rename_i h1
      obtain ⟨c, r, h2, h3, h4⟩ := ih (u / 10) (by omega) (by omega)
      exact ⟨c, r ++ [UInt8.ofNat (48 + u % 10)], by rw [h2]; rfl, h3, h4⟩
theorem dec_zero : Lib.decDigits 0 = [48] := by rw [Lib.decDigits]; rfl
theorem valL_pos (r : List UInt8) : ∀ acc, 1 ≤ acc → 1 ≤ valL acc r := by
  induction r with
  | nil => intro acc h; exact h
  | cons c r ih => intro acc h; exact ih _ (by omega)
theorem valL_ge (r : List UInt8) : ∀ acc, acc ≤ valL acc r := by
  induction r with
  | nil => intro acc; exact Nat.le_refl _
  | cons c r ih => intro acc; exact Nat.le_trans (by omega) (ih _)
theorem dec_snoc (V D : Nat) (hV : 1 ≤ V) (hD : D < 10) : Lib.decDigits (10 * V + D) = Lib.decDigits V ++ [UInt8.ofNat (48 + D)] := by
  obtain ⟨u, hu⟩ : ∃ u, u = 10 * V + D := ⟨_, rfl⟩
  rw [← hu]
  have h1 : u / 10 = V := by omega
  have h2 : u % 10 = D := by omega
  rw [Lib.decDigits, dif_neg (by omega), h1, h2]
/-- A row of digits that opens with no 0 is its number's numeral. -/
theorem dec_of_val (c : UInt8) (r : List UInt8) (hc : 49 ≤ c.toNat) (hd : (c :: r).all digB = true) : Lib.decDigits (valL 0 (c :: r)) = c :: r := by
  induction hn : r.length generalizing r with
  | zero =>
    obtain rfl := List.eq_nil_of_length_eq_zero hn
    have hd1 : digB c = true := by simpa using hd
    have hd2 := hd1
    simp [digB] at hd2
    have e1 : valL 0 [c] = c.toNat - 48 := by show 10 * 0 + (c.toNat - 48) = _; omega
    rw [e1, Lib.decDigits_one (by omega), dig_of c hd1]
  | succ k ih =>
    have hr : r ≠ [] := fun e => by rw [e] at hn; simp at hn
    obtain ⟨a, b, rfl⟩ : ∃ a b, r = a ++ [b] := ⟨r.dropLast, r.getLast hr, (List.dropLast_concat_getLast hr).symm⟩
    have hb : digB b = true := by simp at hd; exact hd.2.2
    have ha : (c :: a).all digB = true := by simp at hd ⊢; exact ⟨hd.1, hd.2.1⟩
    have hl : a.length = k := by simpa using hn
    have ih' := ih a ha hl
    rw [← List.cons_append, valL_append]
    have hp : 1 ≤ valL 0 (c :: a) := valL_pos a _ (by omega)
    have hb' : b.toNat - 48 < 10 := by simp [digB] at hb; omega
    rw [dec_snoc _ _ hp hb', ih', dig_of b hb]
theorem pow_step (acc P : Nat) : (acc + 1) * (P * 10) = (10 * acc + 10) * P := by
  rw [Nat.mul_comm P 10, ← Nat.mul_assoc, Nat.add_mul, Nat.one_mul, Nat.mul_comm acc 10]
theorem pow_step0 (acc P : Nat) : acc * (P * 10) = (10 * acc) * P := by
  rw [Nat.mul_comm P 10, ← Nat.mul_assoc, Nat.mul_comm acc 10]
theorem valL_lt (r : List UInt8) : ∀ acc, r.all digB = true → valL acc r < (acc + 1) * 10 ^ r.length := by
  induction r with
  | nil => intro acc _; rw [List.length_nil, Nat.pow_zero, Nat.mul_one]; exact Nat.lt_succ_self acc
  | cons c r ih =>
    intro acc h
    simp only [List.all_cons, Bool.and_eq_true] at h
    have hc := h.1
    simp only [digB, decide_eq_true_eq] at hc
    have h1 := ih (10 * acc + (c.toNat - 48)) h.2
    have h2 : valL acc (c :: r) = valL (10 * acc + (c.toNat - 48)) r := rfl
    have h3 : 10 ^ (c :: r).length = 10 ^ r.length * 10 := by rw [List.length_cons, Nat.pow_succ]
    rw [h2, h3, pow_step]
    have h4 : (10 * acc + (c.toNat - 48) + 1) * 10 ^ r.length ≤ (10 * acc + 10) * 10 ^ r.length := Nat.mul_le_mul_right _ (by omega)
    exact Nat.lt_of_lt_of_le h1 h4
theorem valL_pow (r : List UInt8) : ∀ acc, acc * 10 ^ r.length ≤ valL acc r := by
  induction r with
  | nil => intro acc; rw [List.length_nil, Nat.pow_zero, Nat.mul_one]; exact Nat.le_refl acc
  | cons c r ih =>
    intro acc
    have h2 : valL acc (c :: r) = valL (10 * acc + (c.toNat - 48)) r := rfl
    have h3 : 10 ^ (c :: r).length = 10 ^ r.length * 10 := by rw [List.length_cons, Nat.pow_succ]
    rw [h2, h3, pow_step0]
    exact Nat.le_trans (Nat.mul_le_mul_right _ (by omega)) (ih _)
theorem valL_cons0 (c : UInt8) (r : List UInt8) : valL 0 (c :: r) = valL (c.toNat - 48) r := by
  have : 10 * 0 + (c.toNat - 48) = c.toNat - 48 := by omega
  exact congrArg (fun x => valL x r) this
theorem dec_len (u : Nat) (h : u < 10000000000) : (Lib.decDigits u).length ≤ 10 := by
  rw [Lib.decDigits_length]
  by_cases h0 : u = 0
  · subst h0; rw [Lib.nDigits_small (by omega)]; omega
  · apply Decidable.byContradiction
    intro hn
    obtain ⟨c, r, h1, h2, h3⟩ := dec_head u (by omega)
    have hl := Lib.decDigits_length u
    have hv := dec_val u
    rw [h1] at hl hv
    have h5 := valL_pow r (c.toNat - 48)
    rw [← valL_cons0, hv] at h5
    have h7 : 10 ^ 10 ≤ 10 ^ r.length := Nat.pow_le_pow_right (by omega) (by rw [List.length_cons] at hl; omega)
    have h8 : 1 * 10 ^ r.length ≤ (c.toNat - 48) * 10 ^ r.length := Nat.mul_le_mul_right _ (by omega)
    have h9 : 10 ^ 10 = 10000000000 := by decide
    rw [h9] at h7
    rw [Nat.one_mul] at h8
    generalize 10 ^ r.length = P at *
    generalize (c.toNat - 48) * P = Q at *
    omega

/-- ponderref04.Read, on bytes. -/
def readU (neg : Bool) (r : List UInt8) : Option Int :=
  if r.length < 1 ∨ 10 < r.length ∨ (r.head? = some 48 ∧ (1 < r.length ∨ neg = true)) then none
  else if r.all digB then some (if neg then -(valL 0 r : Int) else valL 0 r) else none
def readL (l : List UInt8) : Option Int := if l.head? = some 45 then readU true l.tail else readU false l
theorem read_itoa (n : Int) (h0 : -10000000000 < n) (h1 : n < 10000000000) : readL (Lib.itoa n) = some n := by
  unfold Lib.itoa
  split
  · rename_i hn
    obtain ⟨c, r, e, hc, hc2⟩ := dec_head n.natAbs (by omega)
    have hl := dec_len n.natAbs (by omega)
    have ha := dec_all n.natAbs
    have hv := dec_val n.natAbs
    rw [e] at hl ha hv
    unfold readL
    rw [List.head?_cons, if_pos rfl, List.tail_cons, e]
    unfold readU
    have h48 : ¬ (c = 48) := fun h => by rw [h] at hc; exact absurd hc (by decide)
    rw [if_neg (by simp only [List.length_cons, List.head?_cons, Option.some.injEq, h48, false_and, or_false, not_or]; simp at hl; omega), if_pos ha, hv]
    simp; omega
  · rename_i hn
    by_cases hz : n = 0
    · subst hz; rw [show (0 : Int).toNat = 0 from rfl, dec_zero]; decide
    · obtain ⟨c, r, e, hc, hc2⟩ := dec_head n.toNat (by omega)
      have hl := dec_len n.toNat (by omega)
      have ha := dec_all n.toNat
      have hv := dec_val n.toNat
      rw [e] at hl ha hv
      unfold readL
      have h45 : ¬ (c = 45) := fun h => by rw [h] at hc; exact absurd hc (by decide)
      have h48 : ¬ (c = 48) := fun h => by rw [h] at hc; exact absurd hc (by decide)
      rw [e, if_neg (by simpa using h45)]
      unfold readU
      rw [if_neg (by simp only [List.length_cons, List.head?_cons, Option.some.injEq, h48, false_and, or_false, not_or]; simp at hl; omega), if_pos ha, hv]
      simp; omega
theorem itoa_read (l : List UInt8) (n : Int) (h : readL l = some n) : Lib.itoa n = l ∧ -10000000000 < n ∧ n < 10000000000 := by
  have key : ∀ (neg : Bool) (r : List UInt8), readU neg r = some n → r.all digB = true ∧ n = (if neg then -(valL 0 r : Int) else valL 0 r) ∧ Lib.decDigits (valL 0 r) = r ∧ valL 0 r < 10000000000 ∧ (neg = true → 1 ≤ valL 0 r) := by
    intro neg r hr
    unfold readU at hr
    split at hr
    · cases hr
    · rename_i hg
      split at hr
      · rename_i hd
        simp only [Option.some.injEq] at hr
        simp only [not_or, not_and] at hg
        obtain ⟨g1, g2, g3⟩ := hg
        have hlt := valL_lt r 0 hd
        have hp : 10 ^ r.length ≤ 10 ^ 10 := Nat.pow_le_pow_right (by omega) (by omega)
        cases r with
        | nil => simp at g1
        | cons c r =>
          have hdc := hd
          simp only [List.all_cons, Bool.and_eq_true] at hdc
          have hc := hdc.1
          simp [digB] at hc
          by_cases h48 : c = 48
          · have := g3 (by rw [h48]; rfl)
            have hr0 : r = [] := by
              cases r with
              | nil => rfl
              | cons _ _ => exact absurd (by simp) this.1
            subst hr0 h48
            refine ⟨hd, hr.symm, by rw [show valL 0 [48] = 0 from rfl, dec_zero], by decide, fun hn => absurd hn this.2⟩
          · have h49 : 49 ≤ c.toNat := by
              have : c.toNat ≠ 48 := fun e => h48 (UInt8.toNat_inj.1 e)
              omega
            exact ⟨hd, hr.symm, dec_of_val c r h49 hd, by omega, fun _ => valL_pos r _ (by omega)⟩
      · cases hr
  unfold readL at h
  split at h
  · rename_i h45
    obtain ⟨hd, hn, he, hlt, hpos⟩ := key true _ h
    have hpos := hpos rfl
    simp only [if_true] at hn
    subst hn
    refine ⟨?_, by omega, by omega⟩
    unfold Lib.itoa
    rw [if_pos (by omega), show (-(valL 0 l.tail : Int)).natAbs = valL 0 l.tail by omega, he]
    cases l with
    | nil => cases h45
    | cons c r => simp at h45; subst h45; rfl
  · obtain ⟨hd, hn, he, hlt, -⟩ := key false _ h
    simp only [Bool.false_eq_true, if_false] at hn
    subst hn
    refine ⟨?_, by omega, by omega⟩
    unfold Lib.itoa
    rw [if_neg (by omega), show ((valL 0 l : Int)).toNat = valL 0 l by omega, he]

/-! strconv.Atoi -/
def atoiN (l : List UInt8) : Int := match Lib.atoiAll l with
  | .ok v => v
  | .range => Lib.atoiSat l
  | _ => 0
theorem parseU_val (r : List UInt8) : ∀ acc, r.all digB = true → valL acc r < 100000000000 → Lib.parseUint10 acc r = .ok (valL acc r) := by
  induction r with
  | nil => exact fun acc _ _ => rfl
  | cons c r ih =>
    intro acc hd hv
    simp only [List.all_cons, Bool.and_eq_true] at hd
    have hc := hd.1
    simp [digB] at hc
    have hg := valL_ge r (10 * acc + (c.toNat - 48))
    have h2 : valL acc (c :: r) = valL (10 * acc + (c.toNat - 48)) r := rfl
    rw [h2] at hv ⊢
    have h3 := ih _ hd.2 hv
    rw [← h3]
    generalize valL (10 * acc + (c.toNat - 48)) r = V at hg hv
    rw [Lib.parseUint10, if_pos hc, if_neg (by omega), if_neg (by omega), Nat.mul_comm acc 10]
theorem atoi_itoa (n : Int) (h0 : -10000000000 < n) (h1 : n < 10000000000) : Lib.atoiAll (Lib.itoa n) = .ok n := by
  unfold Lib.itoa
  split
  · rename_i hn
    have hd := dec_all n.natAbs
    have hv := dec_val n.natAbs
    have hne := dec_ne n.natAbs
    unfold Lib.atoiAll
    simp only [show (45 : UInt8).toNat = 45 from rfl, or_true, if_true]
    unfold Lib.parseMag
    rw [if_neg hne, parseU_val _ 0 hd (by rw [hv]; omega), hv]
    simp only [not_true, false_and, if_false, true_and]
    rw [if_neg (by omega)]
    simp; omega
  · rename_i hn
    have hd := dec_all n.toNat
    have hv := dec_val n.toNat
    have hne := dec_ne n.toNat
    obtain ⟨c, r, e⟩ : ∃ c r, Lib.decDigits n.toNat = c :: r := by
      cases h : Lib.decDigits n.toNat with
      | nil => exact absurd h hne
      | cons c r => exact ⟨c, r, rfl⟩
    rw [e] at hd hv hne ⊢
    have hc := hd
    simp only [List.all_cons, Bool.and_eq_true] at hc
    have hc := hc.1
    simp [digB] at hc
    unfold Lib.atoiAll
    simp only
    rw [if_neg (by omega)]
    unfold Lib.parseMag
    rw [if_neg hne, parseU_val _ 0 hd (by rw [hv]; omega), hv]
    simp only
    rw [if_neg (by omega), if_neg (by omega), if_neg (by omega)]
    congr 1; omega
theorem atoiN_itoa (n : Int) (h0 : -10000000000 < n) (h1 : n < 10000000000) : atoiN (Lib.itoa n) = n := by
  unfold atoiN; rw [atoi_itoa n h0 h1]

/-! texts of symbols -/
def capB (c : UInt8) : Bool := decide (65 ≤ c.toNat ∧ c.toNat ≤ 90)
def smallB (c : UInt8) : Bool := decide (97 ≤ c.toNat ∧ c.toNat ≤ 122)
def capsL : List UInt8 → Bool
  | [c] => capB c
  | _ => false
def validL (k : Int) (t : List UInt8) (n : Int) : Bool :=
  if k = 1 then capsL t && decide (1 ≤ n ∧ n ≤ 1048576) else if k = 2 then t.isEmpty && decide (-2147483647 ≤ n ∧ n ≤ 2147483647) else if k = 3 then decide (n = 0) && wordB t else false
def textL (k : Int) (t : List UInt8) (n : Int) : List UInt8 := if validL k t n = true then (if k = 1 then t ++ Lib.itoa n else if k = 2 then Lib.itoa n else t) else []
/-- What sym.Parse holds a text for. -/
def meantL : List UInt8 → Int × List UInt8 × Int
  | [] => (2, [], atoiN [])
  | c :: r => if capB c then (1, [c], atoiN r) else if smallB c then (3, c :: r, 0) else (2, [], atoiN (c :: r))
def parseL (l : List UInt8) : (Int × List UInt8 × Int) × Bool := if textL (meantL l).1 (meantL l).2.1 (meantL l).2.2 = l then (meantL l, true) else ((0, [], 0), false)
def onlyL (k : Int) (t : List UInt8) (n : Option Int) : (Int × List UInt8 × Int) × Bool := match n with
  | some n => if validL k t n then ((k, t, n), true) else ((0, [], 0), false)
  | none => ((0, [], 0), false)
/-- ponderref04.Parse, on bytes. -/
def refParseL (l : List UInt8) : (Int × List UInt8 × Int) × Bool :=
  if wordB l then ((3, l, 0), true)
  else match l with
    | c :: d :: r => if capB c && decide (d ≠ 45) then onlyL 1 [c] (readL (d :: r)) else onlyL 2 [] (readL l)
    | _ => onlyL 2 [] (readL l)
theorem read_none (c : UInt8) (r : List UInt8) (h : 58 ≤ c.toNat) : readL (c :: r) = none := by
  unfold readL
  have h45 : ¬ (c = 45) := fun e => by rw [e] at h; exact absurd h (by decide)
  rw [if_neg (by simpa using h45)]
  unfold readU
  split
  · rfl
  · rw [if_neg]
    simp only [List.all_cons, Bool.and_eq_true, digB]
    simp; omega
theorem word_small (c : UInt8) (r : List UInt8) (h : smallB c = false) : wordB (c :: r) = false := by
  unfold smallB at h
  simp only [wordB, h, Bool.and_false, Bool.false_and]
theorem itoa_ne (n : Int) : Lib.itoa n ≠ [] := by
  unfold Lib.itoa
  split
  · simp
  · exact dec_ne _
theorem parse_number (l : List UInt8) : (if textL 2 [] (atoiN l) = l then ((2, [], atoiN l), true) else ((0, [], 0), false)) = onlyL 2 [] (readL l) := by
  cases hr : readL l with
  | none =>
    rw [if_neg]
    · rfl
    · intro e
      unfold textL at e
      split at e
      · rename_i hv
        simp only [if_neg (by omega : ¬ (2 : Int) = 1), if_true] at e
        have hb : -2147483647 ≤ atoiN l ∧ atoiN l ≤ 2147483647 := by simpa [validL] using hv
        have := read_itoa (atoiN l) (by omega) (by omega)
        rw [e, hr] at this
        cases this
      · subst e
        rename_i hv
        exact hv (by decide)
  | some n =>
    obtain ⟨h1, h2, h3⟩ := itoa_read l n hr
    have ha : atoiN l = n := by rw [← h1]; exact atoiN_itoa n h2 h3
    rw [ha]
    unfold onlyL textL
    by_cases hv : validL 2 [] n = true
    · simp only [hv, if_true, if_neg (by omega : ¬ (2 : Int) = 1), h1]
    · simp only [hv, if_false, Bool.false_eq_true]
      rw [if_neg]
      intro e
      rw [← e] at h1
      exact itoa_ne n h1
theorem parse_eq (l : List UInt8) : parseL l = refParseL l := by
  unfold parseL refParseL
  cases l with
  | nil =>
    simp only [meantL]
    rw [if_neg (by decide : ¬ wordB [] = true)]
    exact parse_number []
  | cons c r =>
    by_cases hc : capB c = true
    · have hcc := hc
      simp [capB] at hcc
      have hs : smallB c = false := by simp [smallB]; omega
      have hm : meantL (c :: r) = (1, [c], atoiN r) := by simp [meantL, hc]
      rw [hm, word_small c r hs, if_neg (by decide : ¬ false = true)]
      simp only
      have hrn : readL (c :: r) = none := read_none c r (by omega)
      have hbad : textL 1 [c] (atoiN r) = c :: r → (validL 1 [c] (atoiN r) = true ∧ Lib.itoa (atoiN r) = r) := by
        intro e
        unfold textL at e
        split at e
        · rename_i hv
          simp only [if_true] at e
          exact ⟨hv, by simpa using e⟩
        · cases e
      have hbn : validL 1 [c] (atoiN r) = true → 1 ≤ atoiN r ∧ atoiN r ≤ 1048576 := by
        intro hv
        simp [validL] at hv
        exact hv.2
      have hfirst : ∀ n : Int, 1 ≤ n → n ≤ 1048576 → ∃ d s, Lib.itoa n = d :: s ∧ d ≠ 45 := by
        intro n h1 h2
        unfold Lib.itoa
        rw [if_neg (by omega)]
        obtain ⟨d, s, e, hd, -⟩ := dec_head n.toNat (by omega)
        exact ⟨d, s, e, fun h => by rw [h] at hd; exact absurd hd (by decide)⟩
      by_cases hcond : ∃ d s, r = d :: s ∧ d ≠ 45
      · obtain ⟨d, s, rfl, hd⟩ := hcond
        simp only [hc, hd, ne_eq, not_false_eq_true, decide_true, Bool.and_self, if_true]
        cases hr : readL (d :: s) with
        | none =>
          rw [if_neg]
          · rfl
          · intro e
            obtain ⟨hv, hi⟩ := hbad e
            have hb := hbn hv
            have := read_itoa (atoiN (d :: s)) (by omega) (by omega)
            rw [hi, hr] at this
            cases this
        | some n =>
          obtain ⟨h1, h2, h3⟩ := itoa_read _ n hr
          have ha : atoiN (d :: s) = n := by rw [← h1]; exact atoiN_itoa n h2 h3
          rw [ha]
          unfold onlyL textL
          by_cases hv : validL 1 [c] n = true
          · simp only [hv, if_true, h1, List.cons_append, List.nil_append]
          · simp only [hv, if_false, Bool.false_eq_true]
            rw [if_neg (by simp)]
      · rw [if_neg]
        · cases r with
          | nil => simp only; rw [hrn]; rfl
          | cons d s =>
            have hd : d = 45 := Decidable.byContradiction fun h => hcond ⟨d, s, rfl, h⟩
            simp only [hd, ne_eq, not_true, decide_false, Bool.and_false, Bool.false_eq_true, if_false]
            rw [← hd, hrn]; rfl
        · intro e
          obtain ⟨hv, hi⟩ := hbad e
          have hb := hbn hv
          obtain ⟨d, s, h1, h2⟩ := hfirst _ hb.1 hb.2
          exact hcond ⟨d, s, by rw [← hi, h1], h2⟩
    · have hc' : capB c = false := by simpa using hc
      by_cases hs : smallB c = true
      · have hm : meantL (c :: r) = (3, c :: r, 0) := by simp [meantL, hc', hs]
        rw [hm]
        simp only
        by_cases hw : wordB (c :: r) = true
        · have hv : validL 3 (c :: r) 0 = true := by simp [validL, hw]
          rw [if_pos hw, if_pos]
          unfold textL
          rw [if_pos hv]; rfl
        · have hv : ¬ validL 3 (c :: r) 0 = true := by simpa [validL] using hw
          rw [if_neg hw, if_neg]
          · have hsm := hs
            simp [smallB] at hsm
            have hrn : readL (c :: r) = none := read_none c r (by omega)
            cases r with
            | nil => simp only; rw [hrn]; rfl
            | cons d s => simp only [hc', Bool.false_and, Bool.false_eq_true, if_false]; rw [hrn]; rfl
          · unfold textL
            rw [if_neg hv]; simp
      · have hs' : smallB c = false := by simpa using hs
        have hm : meantL (c :: r) = (2, [], atoiN (c :: r)) := by simp [meantL, hc', hs']
        rw [hm, word_small c r hs', if_neg (by decide : ¬ false = true)]
        simp only
        rw [parse_number]
        cases r with
        | nil => rfl
        | cons d s => simp only [hc', Bool.false_and, Bool.false_eq_true, if_false]
end Go.Proofs.Ytccphigpobnjmaa
