/-
  Plain lemmas: what a count tells. No condition.
-/
import Derived.Test.YthgidldcblchmaaCountS
namespace Go.Proofs.Ythgidldcblchmaa
set_option linter.unusedVariables false
open Go.RowKit
section
variable {α : Type} {c : α → α → Int} (H : Cmp c)
include H
theorem cmp_both {x y z : α} (h : c x y = 0) : c x z = 0 ↔ c y z = 0 := by
  have h2 := H.eq_symm h
  constructor
  · intro h3
    have a := H.trans y x z (by omega) (by omega)
    have b := H.trans z x y (by have := H.flip x z; omega) (by omega)
    have := H.flip z y; omega
  · intro h3
    have a := H.trans x y z (by omega) (by omega)
    have b := H.trans z y x (by have := H.flip y z; omega) (by omega)
    have := H.flip z x; omega
theorem look_same {x y : α} (h : c x y = 0) (xs : List α) : look c x xs = look c y xs := by
  unfold look
  refine congrArg (fun p => List.find? p xs) (funext fun z => ?_)
  have := cmp_both H (z := z) h
  show (c x z == 0) = (c y z == 0)
  rw [Bool.eq_iff_iff, beq_iff_eq, beq_iff_eq]
  exact this
omit H in
theorem look_ins_ne {x y : α} (h : ¬ c x y = 0) : ∀ (xs : List α), look c x (ins c y xs) = look c x xs
  | [] => by simp [look, ins, h]
  | z :: zs => by
    have ih := look_ins_ne h zs
    unfold ins
    split
    · have hb : (c x y == 0) = false := beq_eq_false_iff_ne.2 h
      unfold look; rw [List.find?_cons, hb]
    · split
      · rfl
      · unfold look at *; rw [List.find?_cons, List.find?_cons, ih]
theorem look_ins_new {y : α} : ∀ {xs : List α}, has c y xs = false → look c y (ins c y xs) = some y
  | [], _ => by simp [look, ins, H.refl]
  | z :: zs, h => by
    rw [has_cons] at h
    simp only [Bool.or_eq_false_iff, beq_eq_false_iff_ne] at h
    have ih := look_ins_new h.2
    unfold ins
    split
    · unfold look; rw [List.find?_cons]; simp [H.refl]
    · rw [if_neg h.1]
      unfold look at *
      rw [List.find?_cons, ih]
      have : (c y z == 0) = false := by simp [h.1]
      simp [this]
theorem look_del_ne {x y : α} (h : ¬ c x y = 0) (xs : List α) : look c x (del c y xs) = look c x xs := by
  unfold look del
  rw [List.find?_filter]
  refine congrArg (fun p => List.find? p xs) (funext fun z => ?_)
  by_cases h1 : c x z = 0
  · have h2 : ¬ c y z = 0 := fun h2 => h (by
      have a := H.trans x z y (by omega) (by have := H.flip y z; omega)
      have b := H.trans y z x (by omega) (by have := H.flip x z; omega)
      have := H.flip x y; omega)
    simp [h1, h2]
  · simp [h1]
omit H in
theorem has_del_self (y : α) (xs : List α) : has c y (del c y xs) = false := by
  unfold has del
  simp
omit H in
theorem ins_perm {y : α} : ∀ {xs : List α}, has c y xs = false → (ins c y xs).Perm (y :: xs)
  | [], _ => List.Perm.refl _
  | z :: zs, h => by
    rw [has_cons] at h
    simp only [Bool.or_eq_false_iff, beq_eq_false_iff_ne] at h
    unfold ins
    split
    · exact List.Perm.refl _
    · rw [if_neg h.1]
      exact (List.Perm.cons z (ins_perm h.2)).trans (List.Perm.swap y z zs)
omit H in
theorem del_lt {y : α} : ∀ {xs : List α}, has c y xs = true → (del c y xs).length + 1 ≤ xs.length
  | [], h => by simp [has] at h
  | z :: zs, h => by
    rw [has_cons] at h
    unfold del
    by_cases h1 : c y z = 0
    · have := List.length_filter_le (fun y' => c y y' != 0) zs
      simp [h1]; omega
    · have h2 : has c y zs = true := by simpa [h1] using h
      have := del_lt h2
      unfold del at this
      simp [h1]; omega
end

theorem cmpP_key (x y : Pr) : cmpP x y = 0 ↔ x.k = y.k := by
  unfold cmpP
  constructor
  · exact cmpY_eq
  · intro h; rw [h]; exact cmpY_cmp.refl _
def lookp (k : Sy) (ys : List Pr) : Int := ((look cmpP (⟨k, 0⟩ : Pr) ys).getD zeroP).v
theorem lookp_put (x : Pr) (ys : List Pr) (k : Sy) : lookp k (putLP x ys) = if k = x.k then x.v else lookp k ys := by
  unfold lookp putLP
  by_cases hk : k = x.k
  · rw [if_pos hk]
    have e : cmpP (⟨k, 0⟩ : Pr) x = 0 := (cmpP_key _ _).2 hk
    cases ho : look cmpP x ys with
    | none =>
      simp only
      rw [look_same cmpP_cmp e, look_ins_new cmpP_cmp (by rw [has_look, ho]; rfl)]
      rfl
    | some o =>
      simp only
      have hox : o.k = x.k := by
        have := List.find?_some ho
        simp at this
        exact ((cmpP_key _ _).1 this).symm
      have e2 : cmpP (⟨k, 0⟩ : Pr) ⟨o.k, x.v⟩ = 0 := (cmpP_key _ _).2 (by rw [hox, hk])
      have e3 : cmpP (⟨o.k, x.v⟩ : Pr) x = 0 := (cmpP_key _ _).2 hox
      rw [look_same cmpP_cmp e2, look_ins_new cmpP_cmp]
      · rfl
      · rw [has_look, look_same cmpP_cmp e3, ← has_look]; exact has_del_self x ys
  · rw [if_neg hk]
    have e : ¬ cmpP (⟨k, 0⟩ : Pr) x = 0 := fun h => hk ((cmpP_key _ _).1 h)
    cases ho : look cmpP x ys with
    | none => simp only; rw [look_ins_ne e]
    | some o =>
      simp only
      have hox : o.k = x.k := by
        have := List.find?_some ho
        simp at this
        exact ((cmpP_key _ _).1 this).symm
      have e2 : ¬ cmpP (⟨k, 0⟩ : Pr) ⟨o.k, x.v⟩ = 0 := fun h => hk (by have := (cmpP_key _ _).1 h; simpa [hox] using this)
      rw [look_ins_ne e2, look_del_ne cmpP_cmp e]

/-- How often does x stand in a list? -/
def often (x : Sy) : List Sy → Int
  | [] => 0
  | y :: ys => (if y = x then 1 else 0) + often x ys
theorem often_snoc (x y : Sy) : ∀ xs : List Sy, often x (xs ++ [y]) = often x xs + (if y = x then 1 else 0)
  | [] => by simp [often]
  | z :: zs => by
    show (if z = x then (1 : Int) else 0) + often x (zs ++ [y]) = (if z = x then 1 else 0) + often x zs + _
    rw [often_snoc x y zs]; omega
theorem often_bounds (x : Sy) : ∀ xs : List Sy, 0 ≤ often x xs ∧ often x xs ≤ xs.length
  | [] => ⟨Int.le_refl _, Int.le_refl _⟩
  | y :: ys => by
    have ih := often_bounds x ys
    show 0 ≤ (if y = x then (1 : Int) else 0) + often x ys ∧ (if y = x then (1 : Int) else 0) + often x ys ≤ ((ys.length + 1 : Nat) : Int)
    split <;> omega
theorem count_look (x : Sy) : ∀ (xs : List Sy) (ps : List Pr), lookp x (xs.foldl cntStep ps) = lookp x ps + often x xs
  | [], ps => by show lookp x ps = lookp x ps + 0; omega
  | y :: ys, ps => by
    have ih := count_look x ys (cntStep ps y)
    show lookp x (ys.foldl cntStep (cntStep ps y)) = lookp x ps + ((if y = x then 1 else 0) + often x ys)
    rw [ih]
    have h : lookp x (cntStep ps y) = if x = y then lookp y ps + 1 else lookp x ps := lookp_put ⟨y, lookp y ps + 1⟩ ps x
    rw [h]
    by_cases e : x = y
    · subst e; rw [if_pos rfl, if_pos rfl]; omega
    · rw [if_neg e, if_neg (fun h => e h.symm)]; omega
theorem countL_look (x : Sy) (xs : List Sy) : lookp x (countL xs) = often x xs := by
  have h := count_look x xs []
  have e : lookp x [] = 0 := rfl
  rw [e] at h
  show lookp x (xs.foldl cntStep []) = _
  omega
theorem often_pos {x : Sy} : ∀ {xs : List Sy}, x ∈ xs → 1 ≤ often x xs
  | y :: ys, h => by
    have hb := often_bounds x ys
    show 1 ≤ (if y = x then (1 : Int) else 0) + often x ys
    rcases List.mem_cons.1 h with rfl | h
    · rw [if_pos rfl]; omega
    · have := often_pos h
      split <;> omega
theorem look_is {x : Sy} {xs : List Sy} (h : x ∈ xs) : (look cmpP (⟨x, 0⟩ : Pr) (countL xs)).isSome = true := by
  have h1 := countL_look x xs
  have h2 := often_pos h
  cases ho : look cmpP (⟨x, 0⟩ : Pr) (countL xs) with
  | some o => rfl
  | none =>
    unfold lookp at h1
    rw [ho] at h1
    have : (0 : Int) = often x xs := h1
    omega
def sumV : List Pr → Int
  | [] => 0
  | p :: ps => p.v + sumV ps
theorem sum_ins {y : Pr} : ∀ {xs : List Pr}, has cmpP y xs = false → sumV (ins cmpP y xs) = y.v + sumV xs
  | [], _ => rfl
  | z :: zs, h => by
    rw [has_cons] at h
    simp only [Bool.or_eq_false_iff, beq_eq_false_iff_ne] at h
    unfold ins
    split
    · rfl
    · rw [if_neg h.1]
      show z.v + sumV (ins cmpP y zs) = y.v + (z.v + sumV zs)
      rw [sum_ins h.2]; omega
theorem sum_del {x o : Pr} : ∀ {xs : List Pr}, Sorted cmpP xs → look cmpP x xs = some o → sumV xs = o.v + sumV (del cmpP x xs)
  | z :: zs, hs, h => by
    have hz := List.pairwise_cons.1 hs
    by_cases e : cmpP x z = 0
    · have ho : o = z := by
        unfold look at h
        rw [List.find?_cons] at h
        simp [e] at h
        exact h.symm
      have hn : has cmpP x zs = false := by
        cases hh : has cmpP x zs with
        | false => rfl
        | true =>
          exfalso
          unfold has at hh
          rw [List.any_eq_true] at hh
          obtain ⟨q, hq, hq0⟩ := hh
          have h1 := hz.1 q hq
          have h2 := (cmp_both cmpP_cmp (z := q) e).1 (by simpa using hq0)
          omega
      subst ho
      have hd : del cmpP x (o :: zs) = zs := by
        have h1 : del cmpP x (o :: zs) = del cmpP x zs := by unfold del; rw [List.filter_cons]; simp [e]
        rw [h1, del_none hn]
      rw [hd]; rfl
    · have h2 : look cmpP x zs = some o := by
        unfold look at h ⊢
        rw [List.find?_cons] at h
        have : (cmpP x z == 0) = false := by simp [e]
        rw [this] at h
        exact h
      have ih := sum_del hz.2 h2
      have hd : del cmpP x (z :: zs) = z :: del cmpP x zs := by unfold del; rw [List.filter_cons]; simp [e]
      rw [hd]
      show z.v + sumV zs = o.v + (z.v + sumV (del cmpP x zs))
      omega
theorem put_sum (x : Sy) (ps : List Pr) (hs : Sorted cmpP ps) : sumV (cntStep ps x) = sumV ps + 1 ∧ Sorted cmpP (cntStep ps x) := by
  unfold cntStep putLP
  cases ho : look cmpP (⟨x, ((look cmpP ⟨x, 0⟩ ps).getD zeroP).v + 1⟩ : Pr) ps with
  | none =>
    have h0 : look cmpP (⟨x, 0⟩ : Pr) ps = none := ho
    simp only
    refine ⟨?_, ins_sorted cmpP_cmp hs⟩
    rw [sum_ins (by rw [has_look, ho]; rfl), h0]
    show (0 : Int) + 1 + sumV ps = _
    omega
  | some o =>
    have h0 : look cmpP (⟨x, 0⟩ : Pr) ps = some o := ho
    simp only
    have hox : o.k = x := by
      have := List.find?_some h0
      simp at this
      exact ((cmpP_key _ _).1 this).symm
    refine ⟨?_, ins_sorted cmpP_cmp (del_sorted hs)⟩
    have e3 : cmpP (⟨o.k, ((look cmpP ⟨x, 0⟩ ps).getD zeroP).v + 1⟩ : Pr) ⟨x, ((look cmpP ⟨x, 0⟩ ps).getD zeroP).v + 1⟩ = 0 := (cmpP_key _ _).2 hox
    rw [sum_ins (by rw [has_look, look_same cmpP_cmp e3, ← has_look]; exact has_del_self _ ps), sum_del hs ho, h0]
    show o.v + 1 + _ = _
    omega
theorem fold_sum : ∀ (xs : List Sy) (ps : List Pr), Sorted cmpP ps → sumV (xs.foldl cntStep ps) = sumV ps + xs.length
  | [], ps, _ => by show sumV ps = sumV ps + ((0 : Nat) : Int); omega
  | y :: ys, ps, hs => by
    obtain ⟨h1, h2⟩ := put_sum y ps hs
    have ih := fold_sum ys (cntStep ps y) h2
    show sumV (ys.foldl cntStep (cntStep ps y)) = sumV ps + ((ys.length + 1 : Nat) : Int)
    rw [ih, h1]; omega
theorem countL_sum (xs : List Sy) : sumV (countL xs) = xs.length := by
  have h := fold_sum xs [] List.Pairwise.nil
  have e : sumV [] = 0 := rfl
  rw [e] at h
  show sumV (xs.foldl cntStep []) = _
  omega
theorem sum_snoc (p : Pr) : ∀ ps : List Pr, sumV (ps ++ [p]) = sumV ps + p.v
  | [] => by show p.v + 0 = 0 + p.v; omega
  | q :: ps => by
    show q.v + sumV (ps ++ [p]) = q.v + sumV ps + p.v
    rw [sum_snoc p ps]; omega
theorem sum_bounds {n : Int} (hn : 0 ≤ n) : ∀ {ps : List Pr}, (∀ p ∈ ps, 0 ≤ p.v ∧ p.v ≤ n) → 0 ≤ sumV ps ∧ sumV ps ≤ n * ps.length
  | [], _ => ⟨Int.le_refl _, by show (0 : Int) ≤ n * ((0 : Nat) : Int); simp⟩
  | p :: ps, h => by
    have ih := sum_bounds hn (fun q hq => h q (List.mem_cons_of_mem _ hq))
    have h1 := h p (List.mem_cons_self ..)
    have e : n * ((ps.length + 1 : Nat) : Int) = n * ps.length + n := by rw [Int.natCast_add, Int.mul_add]; simp
    show 0 ≤ p.v + sumV ps ∧ p.v + sumV ps ≤ n * ((ps.length + 1 : Nat) : Int)
    omega
end Go.Proofs.Ythgidldcblchmaa
