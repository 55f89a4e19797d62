/-
  Plain lemmas for the walks over package order: three-way comparisons, sorted lists, search trees in memory. No condition.
-/
import Derived.WalkKit
import Derived.Handy
import Derived.Lib.Hide
import Derived.Lib.Strings
import Derived.StillTailTactics
import Derived.Deep.QuietTactic
namespace Go.Proofs.Ytccphigpobnjmaa
set_option linter.unusedVariables false
open Go.RowKit

/-! plain: an order by a three-way comparison; sorted lists -/
structure Cmp {α : Type} (c : α → α → Int) : Prop where
  val : ∀ a b, c a b = -1 ∨ c a b = 0 ∨ c a b = 1
  refl : ∀ a, c a a = 0
  flip : ∀ a b, c b a = - c a b
  trans : ∀ a b d, c a b ≤ 0 → c b d ≤ 0 → c a d ≤ 0
section
variable {α : Type} {c : α → α → Int} (H : Cmp c)
include H
theorem Cmp.lt_of_lt_of_le {a b d : α} (h1 : c a b < 0) (h2 : c b d ≤ 0) : c a d < 0 := by
  have h3 := H.trans a b d (by omega) h2
  have h4 := H.flip a d
  have h5 := H.flip a b
  by_cases h : c a d = 0
  · have := H.trans b d a h2 (by omega); omega
  · omega
theorem Cmp.lt_of_le_of_lt {a b d : α} (h1 : c a b ≤ 0) (h2 : c b d < 0) : c a d < 0 := by
  have h3 := H.trans a b d h1 (by omega)
  have h4 := H.flip a d
  have h5 := H.flip b d
  by_cases h : c a d = 0
  · have := H.trans d a b (by omega) h1; omega
  · omega
theorem Cmp.lt_trans {a b d : α} (h1 : c a b < 0) (h2 : c b d < 0) : c a d < 0 := H.lt_of_lt_of_le h1 (by omega)
theorem Cmp.gt {a b : α} (h : 0 < c a b) : c b a < 0 := by have := H.flip a b; omega
theorem Cmp.lt {a b : α} (h : c a b < 0) : 0 < c b a := by have := H.flip a b; omega
theorem Cmp.eq_symm {a b : α} (h : c a b = 0) : c b a = 0 := by have := H.flip a b; omega
end
section
variable {α : Type} (c : α → α → Int)
def Sorted (xs : List α) : Prop := xs.Pairwise fun a b => c a b < 0
def ins (x : α) : List α → List α
  | [] => [x]
  | y :: ys => if c x y < 0 then x :: y :: ys else if c x y = 0 then y :: ys else y :: ins x ys
def has (x : α) (xs : List α) : Bool := xs.any fun y => c x y == 0
def del (x : α) (xs : List α) : List α := xs.filter fun y => c x y != 0
def look (x : α) (xs : List α) : Option α := xs.find? fun y => c x y == 0
def place (x : α) (xs : List α) : Nat := (xs.filter fun y => decide (c y x < 0)).length
def since (x : α) (xs : List α) : List α := xs.filter fun y => decide (c x y ≤ 0)
end
section
variable {α : Type} {c : α → α → Int} (H : Cmp c)
theorem sorted_mid {a b : List α} {v : α} (h : Sorted c (a ++ v :: b)) : Sorted c a ∧ Sorted c b ∧ (∀ y ∈ a, c y v < 0) ∧ (∀ y ∈ b, c v y < 0) := by
  unfold Sorted at *
  rw [List.pairwise_append, List.pairwise_cons] at h
  obtain ⟨h1, ⟨h2, h3⟩, h4⟩ := h
  exact ⟨h1, h3, fun y hy => h4 y hy v (by simp), h2⟩
theorem has_append (x : α) (a b : List α) : has c x (a ++ b) = (has c x a || has c x b) := by simp [has]
theorem has_cons (x v : α) (b : List α) : has c x (v :: b) = ((c x v == 0) || has c x b) := by simp [has]
include H
theorem has_none_of_gt {x v : α} {b : List α} (h : c x v ≤ 0) (hb : ∀ y ∈ b, c v y < 0) : has c x b = false := by
  simp only [has, List.any_eq_false]
  intro y hy
  have := H.lt_of_le_of_lt h (hb y hy)
  simp; omega
theorem has_none_of_lt {x v : α} {a : List α} (h : 0 ≤ c x v) (ha : ∀ y ∈ a, c y v < 0) : has c x a = false := by
  simp only [has, List.any_eq_false]
  intro y hy
  have := H.flip x v
  have h2 := H.lt_of_lt_of_le (ha y hy) (show c v x ≤ 0 by omega)
  have := H.flip y x
  simp; omega
theorem has_mid_lt {x v : α} {a b : List α} (hs : Sorted c (a ++ v :: b)) (h : c x v < 0) : has c x (a ++ v :: b) = has c x a := by
  obtain ⟨-, -, -, hb⟩ := sorted_mid hs
  rw [has_append, has_cons, has_none_of_gt H (by omega) hb]
  have : (c x v == 0) = false := by simp; omega
  simp [this]
theorem has_mid_gt {x v : α} {a b : List α} (hs : Sorted c (a ++ v :: b)) (h : 0 < c x v) : has c x (a ++ v :: b) = has c x b := by
  obtain ⟨-, -, ha, -⟩ := sorted_mid hs
  rw [has_append, has_cons, has_none_of_lt H (by omega) ha]
  have : (c x v == 0) = false := by simp; omega
  simp [this]
omit H in
theorem has_mid_eq {x v : α} {a b : List α} (h : c x v = 0) : has c x (a ++ v :: b) = true := by
  rw [has_append, has_cons]; simp [h]
theorem ins_has {x : α} : ∀ {xs : List α}, Sorted c xs → has c x xs = true → ins c x xs = xs
  | [], _, h => by simp [has] at h
  | y :: ys, hs, h => by
    have hs' := List.pairwise_cons.1 hs
    rw [has_cons] at h
    unfold ins
    by_cases h1 : c x y < 0
    · rw [has_none_of_gt H (by omega) hs'.1] at h
      simp at h; omega
    · rw [if_neg h1]
      by_cases h2 : c x y = 0
      · rw [if_pos h2]
      · rw [if_neg h2, ins_has hs'.2 (by simpa [h2] using h)]
omit H in
theorem ins_mid_lt {x v : α} {b : List α} (h : c x v < 0) : ∀ {a : List α}, ins c x (a ++ v :: b) = ins c x a ++ v :: b
  | [] => by simp [ins, h]
  | y :: ys => by
    simp only [List.cons_append, ins]
    split
    · rfl
    · split
      · rfl
      · rw [ins_mid_lt h]; rfl
omit H in
theorem ins_skip {x : α} {b : List α} : ∀ {a : List α}, (∀ y ∈ a, 0 < c x y) → ins c x (a ++ b) = a ++ ins c x b
  | [], _ => rfl
  | y :: ys, h => by
    have h1 : 0 < c x y := h y (by simp)
    simp only [List.cons_append, ins]
    rw [if_neg (by omega), if_neg (by omega), ins_skip fun z hz => h z (by simp [hz])]
theorem gt_all {x v : α} {a : List α} (h : 0 ≤ c x v) (ha : ∀ y ∈ a, c y v < 0) : ∀ y ∈ a, 0 < c x y := by
  intro y hy
  have := H.flip x v
  have h2 := H.lt_of_lt_of_le (ha y hy) (show c v x ≤ 0 by omega)
  exact H.lt h2
theorem ins_mid_gt {x v : α} {a b : List α} (hs : Sorted c (a ++ v :: b)) (h : 0 < c x v) : ins c x (a ++ v :: b) = a ++ v :: ins c x b := by
  obtain ⟨-, -, ha, -⟩ := sorted_mid hs
  rw [ins_skip (gt_all H (by omega) ha)]
  simp only [ins]
  rw [if_neg (by omega), if_neg (by omega)]
omit H in
theorem mem_ins {x y : α} : ∀ {xs : List α}, y ∈ ins c x xs → y = x ∨ y ∈ xs
  | [], h => by simp [ins] at h; simp [h]
  | z :: zs, h => by
    unfold ins at h
    split at h
    · simpa using h
    · split at h
      · exact .inr h
      · rcases List.mem_cons.1 h with h | h
        · simp [h]
        · rcases mem_ins h with h | h <;> simp [h]
theorem ins_sorted {x : α} : ∀ {xs : List α}, Sorted c xs → Sorted c (ins c x xs)
  | [], _ => by simp [ins, Sorted]
  | y :: ys, hs => by
    have hs' := List.pairwise_cons.1 hs
    unfold ins
    split
    · rename_i h1
      exact List.pairwise_cons.2 ⟨fun z hz => by
        rcases List.mem_cons.1 hz with rfl | hz
        · exact h1
        · exact H.lt_trans h1 (hs'.1 z hz), hs⟩
    · split
      · exact hs
      · rename_i h1 h2
        exact List.pairwise_cons.2 ⟨fun z hz => by
          rcases mem_ins hz with rfl | hz
          · have := H.flip z y; omega
          · exact hs'.1 z hz, ins_sorted hs'.2⟩
omit H in
theorem ins_length (x : α) : ∀ (xs : List α), (ins c x xs).length ≤ xs.length + 1
  | [] => by simp [ins]
  | y :: ys => by
    unfold ins
    split
    · simp
    · split
      · simp
      · have := ins_length x ys
        simp; omega
end
def cmpI (a b : Int) : Int := if a < b then -1 else if b < a then 1 else 0
def cmpS (a b : ByteArray) : Int := if Op.bytesLess a.toList b.toList then -1 else if a.toList = b.toList then 0 else 1
theorem cmpI_le {a b : Int} : cmpI a b ≤ 0 ↔ a ≤ b := by unfold cmpI; split <;> (try split) <;> omega
theorem cmpI_cmp : Cmp cmpI where
  val a b := by unfold cmpI; split <;> (try split) <;> simp
  refl a := by simp [cmpI]
  flip a b := by unfold cmpI; split <;> split <;> (try split) <;> omega
  trans a b d h1 h2 := by rw [cmpI_le] at *; omega
theorem less_irrefl : ∀ a : List UInt8, Op.bytesLess a a = false
  | [] => rfl
  | x :: a => by simp [Op.bytesLess, less_irrefl a]
theorem less_asymm : ∀ a b : List UInt8, Op.bytesLess a b = true → Op.bytesLess b a = false
  | [], [], h => by simp [Op.bytesLess] at h
  | [], _ :: _, _ => by simp [Op.bytesLess]
  | _ :: _, [], h => by simp [Op.bytesLess] at h
  | x :: a, y :: b, h => by
    simp only [Op.bytesLess, Bool.or_eq_true, decide_eq_true_eq, Bool.and_eq_true, beq_iff_eq] at h
    simp only [Op.bytesLess, Bool.or_eq_false_iff, decide_eq_false_iff_not, Bool.and_eq_false_iff]
    rcases h with h | ⟨rfl, h⟩
    · exact ⟨fun h2 => by simp only [UInt8.lt_iff_toNat_lt] at *; omega, .inl (by simp only [UInt8.lt_iff_toNat_lt] at *; simp; intro e; subst e; omega)⟩
    · exact ⟨fun h2 => by simp only [UInt8.lt_iff_toNat_lt] at *; omega, .inr (less_asymm a b h)⟩
theorem less_total : ∀ a b : List UInt8, Op.bytesLess a b = false → a ≠ b → Op.bytesLess b a = true
  | [], [], _, h => absurd rfl h
  | [], _ :: _, h, _ => by simp [Op.bytesLess] at h
  | _ :: _, [], _, _ => by simp [Op.bytesLess]
  | x :: a, y :: b, h, hn => by
    simp only [Op.bytesLess, Bool.or_eq_false_iff, decide_eq_false_iff_not, Bool.and_eq_false_iff] at h
    simp only [Op.bytesLess, Bool.or_eq_true, decide_eq_true_eq, Bool.and_eq_true, beq_iff_eq]
    by_cases e : x = y
    · subst e
      exact .inr ⟨rfl, less_total a b (by simpa using h.2) (fun h => hn (by rw [h]))⟩
    · have := h.1
      simp only [UInt8.lt_iff_toNat_lt] at *
      have : x.toNat ≠ y.toNat := fun h => e (UInt8.toNat_inj.1 h)
      exact .inl (by omega)
theorem less_trans : ∀ a b d : List UInt8, Op.bytesLess a b = true → Op.bytesLess b d = true → Op.bytesLess a d = true
  | [], [], _, h, _ => by simp [Op.bytesLess] at h
  | _ :: _, [], _, h, _ => by simp [Op.bytesLess] at h
  | _, _ :: _, [], _, h => by simp [Op.bytesLess] at h
  | [], _ :: _, _ :: _, _, _ => by simp [Op.bytesLess]
  | x :: a, y :: b, z :: d, h, h' => by
    simp only [Op.bytesLess, Bool.or_eq_true, decide_eq_true_eq, Bool.and_eq_true, beq_iff_eq] at *
    simp only [UInt8.lt_iff_toNat_lt] at *
    rcases h with h | ⟨rfl, h⟩ <;> rcases h' with h' | ⟨rfl, h'⟩
    · exact .inl (by omega)
    · exact .inl (by omega)
    · exact .inl (by omega)
    · exact .inr ⟨rfl, less_trans a b d h h'⟩
theorem cmpS_cmp : Cmp cmpS where
  val a b := by unfold cmpS; split <;> (try split) <;> simp
  refl a := by simp [cmpS, less_irrefl]
  flip a b := by
    unfold cmpS
    by_cases h : Op.bytesLess a.toList b.toList = true
    · have hn : a.toList ≠ b.toList := fun e => by rw [e, less_irrefl] at h; cases h
      simp [h, less_asymm _ _ h, Ne.symm hn]
    · have h' : Op.bytesLess a.toList b.toList = false := by simpa using h
      by_cases e : a.toList = b.toList
      · simp [e, less_irrefl]
      · simp [h', less_total _ _ h' e, e]
  trans a b d := by
    unfold cmpS
    intro h1 h2
    by_cases e1 : a.toList = b.toList
    · simpa [e1] using h2
    by_cases e2 : b.toList = d.toList
    · simpa [← e2] using h1
    have l1 : Op.bytesLess a.toList b.toList = true := by
      cases h : Op.bytesLess a.toList b.toList <;> simp [h, e1] at h1 ⊢
    have l2 : Op.bytesLess b.toList d.toList = true := by
      cases h : Op.bytesLess b.toList d.toList <;> simp [h, e2] at h2 ⊢
    simp [less_trans _ _ _ l1 l2]
theorem cmpS_eq {a b : ByteArray} (h : cmpS a b = 0) : a = b := by
  unfold cmpS at h
  split at h
  · omega
  · split at h
    · rename_i e
      rw [Lib.toList_data, Lib.toList_data] at e
      exact ByteArray.ext (Array.toList_inj.mp e)
    · omega
theorem cmpI_eq {a b : Int} (h : cmpI a b = 0) : a = b := by
  unfold cmpI at h; split at h <;> (try split at h) <;> omega
/-- One comparison behind another. -/
theorem cmp_then {α β γ : Type} {c : β → β → Int} {d : γ → γ → Int} (hc : Cmp c) (hd : Cmp d) (f : α → β) (g : α → γ) (hf : ∀ x y, c x y = 0 → x = y) : Cmp fun a b : α => if c (f a) (f b) ≠ 0 then c (f a) (f b) else d (g a) (g b) where
  val a b := by have h1 := hc.val (f a) (f b); have h2 := hd.val (g a) (g b); split <;> assumption
  refl a := by simp [hc.refl, hd.refl]
  flip a b := by
    have h1 := hc.flip (f a) (f b); have h2 := hd.flip (g a) (g b)
    by_cases h : c (f a) (f b) = 0
    · have h3 : c (f b) (f a) = 0 := by omega
      simp [h, h3, h2]
    · have h3 : c (f b) (f a) ≠ 0 := by omega
      simp [h, h1]
  trans a b e h1 h2 := by
    by_cases e1 : c (f a) (f b) = 0
    · have e1' := hf _ _ e1
      by_cases e2 : c (f b) (f e) = 0
      · rw [e1']; simp [e1] at h1; simp [e2] at h2 ⊢; exact hd.trans _ _ _ h1 h2
      · rw [e1']; simp [e2] at h2 ⊢; exact h2
    · simp [e1] at h1
      by_cases e2 : c (f b) (f e) = 0
      · have e2' := hf _ _ e2
        rw [← e2']; simp [e1]; exact h1
      · simp [e2] at h2
        have : c (f a) (f e) < 0 := hc.lt_trans (b := f b) (by omega) (by omega)
        have h3 : c (f a) (f e) ≠ 0 := by omega
        simp [h3]; omega
inductive BT (α : Type) where
  | leaf
  | node (l : BT α) (v : α) (r : BT α)
namespace BT
variable {α : Type}
def toList : BT α → List α
  | .leaf => []
  | .node l v r => l.toList ++ v :: r.toList
def size : BT α → Nat
  | .leaf => 0
  | .node l _ r => l.size + 1 + r.size
theorem size_eq (T : BT α) : T.size = T.toList.length := by
  induction T with
  | leaf => rfl
  | node l v r ihl ihr => simp [size, toList, ihl, ihr]; omega
end BT

def IsTree {α : Type} (enc : α → List Value) (nt : Nat) (W : World) : Option Addr → BT α → Prop
  | p, .leaf => p = none
  | p, .node l v r => ∃ (b : Nat) (pl pr : Option Addr), p = some ⟨b, 0, none⟩ ∧
      W.heap[b]? = some (.cells ([Value.pointer pl, Value.pointer pr] ++ enc v ++ [Value.int .i64 (BT.node l v r).size]).toArray nt (0, 0)) ∧ IsTree enc nt W pl l ∧ IsTree enc nt W pr r
theorem heap_lt {W : World} {b : Nat} {o : Obj} (h : W.heap[b]? = some o) : b < W.heap.size := (Array.getElem?_eq_some_iff.1 h).1
theorem IsTree.mono {α : Type} {enc : α → List Value} {nt : Nat} {W W' : World} (hb : Below W.heap.size W W') : ∀ {p : Option Addr} {T : BT α}, IsTree enc nt W p T → IsTree enc nt W' p T
  | _, .leaf, h => h
  | _, .node _ _ _, ⟨b, pl, pr, hp, hc, hl, hr⟩ => ⟨b, pl, pr, hp, (hb.block b (heap_lt hc)).trans hc, hl.mono hb, hr.mono hb⟩
theorem cells_of {W : World} {b : Nat} {c : Array Value} {t : TypeId} {f : Nat × Nat} (h : W.heap[b]? = some (.cells c t f)) (i : Nat) : W.cell? ⟨b, i, none⟩ = c[i]? := by
  simp [World.cell?, h]
theorem bdN {B : Nat} {a w : World} (n : Nat) (h : Below B a w) : Below B a (w.drewN n) := ⟨h.os, h.tape, h.output, h.size, h.block⟩
theorem new_at {w : World} {o : Obj} {n : Nat} (h : n = w.heap.size) : (w.alloc o).heap[n]? = some o := by subst h; show (w.heap.push o)[w.heap.size]? = _; simp
theorem new_at_drew {w : World} {o : Obj} {n : Nat} (h : n = w.heap.size) : (w.alloc o).drew.heap[n]? = some o := new_at h
def TreeOut {α : Type} (enc : α → List Value) (nt : Nat) (w : World) (xs : List α) (e : Ending) (w' : World) : Prop :=
  ∃ p' T', e = .returned (.pointer p') ∧ Below w.heap.size w w' ∧ IsTree enc nt w' p' T' ∧ T'.toList = xs

theorem region_tail {P : Program} {id : Nat} {Q : Exit → Act → World → Prop} {a : Act} {w : World} {l : List Oper} (n : Nat) (hm : P.follows .mixedOrders = true) (hB : Region.lexTailB .any l.toArray n = true)
    (h : ∀ K : Act → World → Prop, (∀ a' w', wpList P l.toArray Q (l.drop n) a' w' → K a' w') → wpStill P l.toArray w.drew (fun a' => K a' w.drew) (l.take n) a) : (Code.region id l.toArray true).wp P Q a w :=
  wp_region_still_tail n hm hB (h _ (fun _ _ h => h))

theorem ret_int {k : IntKind} {a b : Int} (h : a = b) : Ending.returned (.int k a) = .returned (.int k b) := by rw [h]
end Go.Proofs.Ytccphigpobnjmaa
