/-
  Plain lemmas: what a map of greatest numbers tells, beside a set of symbols. No condition.
-/
import Derived.Test.YtlledodigmkdjaaGreatDoorBookPutC
import Derived.Test.YtlledodigmkdjaaGreatDoorKit4
import Derived.Test.YtlledodigmkdjaaGreatDoorSymV
namespace Go.Proofs.YtlledodigmkdjaaGreatDoor
set_option linter.unusedVariables false
open Go.RowKit
section
variable {α : Type} {c : α → α → Int} (H : Cmp c)
include H
theorem cmp_both {x y z : α} (h : c x y = 0) : c x z = 0 ↔ c y z = 0 := by
  have h2 := H.eq_symm h
  constructor
  · intro h3
    have a := H.trans y x z (by omega) (by omega)
    have b := H.trans z x y (by have := H.flip x z; omega) (by omega)
    have := H.flip z y; omega
  · intro h3
    have a := H.trans x y z (by omega) (by omega)
    have b := H.trans z y x (by have := H.flip y z; omega) (by omega)
    have := H.flip z x; omega
theorem look_same {x y : α} (h : c x y = 0) (xs : List α) : look c x xs = look c y xs := by
  unfold look
  refine congrArg (fun p => List.find? p xs) (funext fun z => ?_)
  have := cmp_both H (z := z) h
  show (c x z == 0) = (c y z == 0)
  rw [Bool.eq_iff_iff, beq_iff_eq, beq_iff_eq]
  exact this
omit H in
theorem look_ins_ne {x y : α} (h : ¬ c x y = 0) : ∀ (xs : List α), look c x (ins c y xs) = look c x xs
  | [] => by simp [look, ins, h]
  | z :: zs => by
    have ih := look_ins_ne h zs
    unfold ins
    split
    · have hb : (c x y == 0) = false := beq_eq_false_iff_ne.2 h
      unfold look; rw [List.find?_cons, hb]
    · split
      · rfl
      · unfold look at *; rw [List.find?_cons, List.find?_cons, ih]
theorem look_ins_new {y : α} : ∀ {xs : List α}, has c y xs = false → look c y (ins c y xs) = some y
  | [], _ => by simp [look, ins, H.refl]
  | z :: zs, h => by
    rw [has_cons] at h
    simp only [Bool.or_eq_false_iff, beq_eq_false_iff_ne] at h
    have ih := look_ins_new h.2
    unfold ins
    split
    · unfold look; rw [List.find?_cons]; simp [H.refl]
    · rw [if_neg h.1]
      unfold look at *
      rw [List.find?_cons, ih]
      have : (c y z == 0) = false := by simp [h.1]
      simp [this]
theorem look_del_ne {x y : α} (h : ¬ c x y = 0) (xs : List α) : look c x (del c y xs) = look c x xs := by
  unfold look del
  rw [List.find?_filter]
  refine congrArg (fun p => List.find? p xs) (funext fun z => ?_)
  by_cases h1 : c x z = 0
  · have h2 : ¬ c y z = 0 := fun h2 => h (by
      have a := H.trans x z y (by omega) (by have := H.flip y z; omega)
      have b := H.trans y z x (by omega) (by have := H.flip x z; omega)
      have := H.flip x y; omega)
    simp [h1, h2]
  · simp [h1]
omit H in
theorem has_del_self (y : α) (xs : List α) : has c y (del c y xs) = false := by
  unfold has del
  simp
omit H in
theorem ins_perm {y : α} : ∀ {xs : List α}, has c y xs = false → (ins c y xs).Perm (y :: xs)
  | [], _ => List.Perm.refl _
  | z :: zs, h => by
    rw [has_cons] at h
    simp only [Bool.or_eq_false_iff, beq_eq_false_iff_ne] at h
    unfold ins
    split
    · exact List.Perm.refl _
    · rw [if_neg h.1]
      exact (List.Perm.cons z (ins_perm h.2)).trans (List.Perm.swap y z zs)
omit H in
theorem del_lt {y : α} : ∀ {xs : List α}, has c y xs = true → (del c y xs).length + 1 ≤ xs.length
  | [], h => by simp [has] at h
  | z :: zs, h => by
    rw [has_cons] at h
    unfold del
    by_cases h1 : c y z = 0
    · have := List.length_filter_le (fun y' => c y y' != 0) zs
      simp [h1]; omega
    · have h2 : has c y zs = true := by simpa [h1] using h
      have := del_lt h2
      unfold del at this
      simp [h1]; omega
end
theorem cmpC_key (x y : Pc) : cmpC x y = 0 ↔ x.k = y.k := by
  unfold cmpC
  constructor
  · exact cmpI_eq
  · intro h; rw [h]; exact cmpI_cmp.refl _
/-- What the map tells of a letter: 0 if nothing. -/
def lookv (k : Int) (ys : List Pc) : Int := ((look cmpC (⟨k, 0⟩ : Pc) ys).getD zeroC).v
theorem lookv_put (x : Pc) (ys : List Pc) (k : Int) : lookv k (putLC x ys) = if k = x.k then x.v else lookv k ys := by
  unfold lookv putLC
  by_cases hk : k = x.k
  · rw [if_pos hk]
    have e : cmpC (⟨k, 0⟩ : Pc) x = 0 := (cmpC_key _ _).2 hk
    cases ho : look cmpC x ys with
    | none =>
      simp only
      rw [look_same cmpC_cmp e, look_ins_new cmpC_cmp (by rw [has_look, ho]; rfl)]
      rfl
    | some o =>
      simp only
      have hox : o.k = x.k := by
        have := List.find?_some ho
        simp at this
        exact ((cmpC_key _ _).1 this).symm
      have e2 : cmpC (⟨k, 0⟩ : Pc) ⟨o.k, x.v⟩ = 0 := (cmpC_key _ _).2 (by rw [hox, hk])
      have e3 : cmpC (⟨o.k, x.v⟩ : Pc) x = 0 := (cmpC_key _ _).2 hox
      rw [look_same cmpC_cmp e2, look_ins_new cmpC_cmp]
      · rfl
      · rw [has_look, look_same cmpC_cmp e3, ← has_look]; exact has_del_self x ys
  · rw [if_neg hk]
    have e : ¬ cmpC (⟨k, 0⟩ : Pc) x = 0 := fun h => hk ((cmpC_key _ _).1 h)
    cases ho : look cmpC x ys with
    | none => simp only; rw [look_ins_ne e]
    | some o =>
      simp only
      have hox : o.k = x.k := by
        have := List.find?_some ho
        simp at this
        exact ((cmpC_key _ _).1 this).symm
      have e2 : ¬ cmpC (⟨k, 0⟩ : Pc) ⟨o.k, x.v⟩ = 0 := fun h => hk (by have := (cmpC_key _ _).1 h; simpa [hox] using this)
      rw [look_ins_ne e2, look_del_ne cmpC_cmp e]
theorem putLC_length (x : Pc) (ys : List Pc) : (putLC x ys).length ≤ ys.length + 1 := by
  unfold putLC
  cases ho : look cmpC x ys with
  | none => exact ins_length _ _
  | some o =>
    simp only
    have h1 := ins_length (c := cmpC) ⟨o.k, x.v⟩ (del cmpC x ys)
    have h2 : (del cmpC x ys).length + 1 ≤ ys.length := del_lt (by rw [has_look, ho]; rfl)
    omega
def isL (c : UInt8) (s : Sy) : Bool := decide (s.k = 1) && decide (s.t.data.toList = [c])
def stepG (c : UInt8) (m : Int) (s : Sy) : Int := if isL c s = true then max m s.n else m
/-- The greatest number of a letter's identifiers: 0 if there is none. -/
def great (c : UInt8) (xs : List Sy) : Int := xs.foldl (stepG c) 0
theorem stepG_comm (c : UInt8) (m : Int) (a b : Sy) : stepG c (stepG c m a) b = stepG c (stepG c m b) a := by
  unfold stepG
  by_cases h1 : isL c a = true <;> by_cases h2 : isL c b = true <;> simp only [h1, h2, if_true, if_false, Bool.false_eq_true] <;> omega
theorem great_perm (c : UInt8) {xs ys : List Sy} (h : xs.Perm ys) : great c xs = great c ys := by
  unfold great
  exact h.foldl_eq' (fun x _ y _ z => stepG_comm c z x y) 0
theorem great_snoc (c : UInt8) (xs : List Sy) (s : Sy) : great c (xs ++ [s]) = stepG c (great c xs) s := by
  unfold great; rw [List.foldl_append]; rfl
theorem great_ins (c : UInt8) (s : Sy) (xs : List Sy) (h : has cmpY s xs = false) : great c (ins cmpY s xs) = stepG c (great c xs) s := by
  rw [great_perm c (ins_perm h), ← great_snoc]
  exact great_perm c (List.perm_append_comm (l₁ := [s]) (l₂ := xs))
theorem great_le (c : UInt8) (B : Int) (hB : 0 ≤ B) : ∀ (xs : List Sy) (m : Int), m ≤ B → (∀ s ∈ xs, isL c s = true → s.n ≤ B) → xs.foldl (stepG c) m ≤ B
  | [], m, h, _ => h
  | s :: xs, m, h, hs => by
    refine great_le c B hB xs _ ?_ (fun x hx => hs x (by simp [hx]))
    unfold stepG
    split
    · have := hs s (by simp) (by assumption); omega
    · exact h
theorem great_nonneg (c : UInt8) : ∀ (xs : List Sy) (m : Int), 0 ≤ m → 0 ≤ xs.foldl (stepG c) m
  | [], m, h => h
  | s :: xs, m, h => by
    refine great_nonneg c xs _ ?_
    unfold stepG
    split <;> omega
theorem great_ge (c : UInt8) : ∀ (xs : List Sy) (m : Int), m ≤ xs.foldl (stepG c) m ∧ ∀ s ∈ xs, isL c s = true → s.n ≤ xs.foldl (stepG c) m
  | [], m => ⟨Int.le_refl _, fun s hs => by cases hs⟩
  | a :: xs, m => by
    have ih := great_ge c xs (stepG c m a)
    have h1 : m ≤ stepG c m a := by unfold stepG; split <;> omega
    refine ⟨Int.le_trans h1 ih.1, fun s hs hl => ?_⟩
    rcases List.mem_cons.1 hs with rfl | hs
    · have : s.n ≤ stepG c m s := by unfold stepG; rw [if_pos hl]; omega
      exact Int.le_trans this ih.1
    · exact ih.2 s hs hl
theorem isL_valid {c : UInt8} {s : Sy} (h : isL c s = true) (hv : validY s = true) : 1 ≤ s.n ∧ s.n ≤ 1048576 ∧ capB c = true := by
  unfold isL at h
  simp only [Bool.and_eq_true, decide_eq_true_eq] at h
  unfold validY validL at hv
  rw [if_pos h.1, h.2] at hv
  simp only [capsL, Bool.and_eq_true, decide_eq_true_eq] at hv
  exact ⟨hv.2.1, hv.2.2, hv.1⟩
theorem great_bound (c : UInt8) (xs : List Sy) (h : ∀ s ∈ xs, validY s = true) : 0 ≤ great c xs ∧ great c xs ≤ 1048576 :=
  ⟨great_nonneg c xs 0 (by omega), great_le c 1048576 (by omega) xs 0 (by omega) fun s hs hl => (isL_valid hl (h s hs)).2.1⟩
theorem all_ins {s : Sy} {xs : List Sy} (hs : validY s = true) (h : ∀ x ∈ xs, validY x = true) : ∀ x ∈ ins cmpY s xs, validY x = true := fun x hx => by
  rcases mem_ins hx with rfl | hx
  · exact hs
  · exact h x hx
theorem ins_length_new {s : Sy} {xs : List Sy} (h : has cmpY s xs = false) : (ins cmpY s xs).length = xs.length + 1 := by
  rw [(ins_perm h).length_eq]; rfl
end Go.Proofs.YtlledodigmkdjaaGreatDoor
