/-
  A plain map of ponderlaw02: what its calls make of it, what they leave. No condition.
-/
import Derived.Test.YthgidldcblchmaaCountMath
import Derived.Test.YthgidldcblchmaaPairsP
import Derived.Test.YthgidldcblchmaaBookFind
import Derived.Test.YthgidldcblchmaaRefO
namespace Go.Proofs.Ythgidldcblchmaa
set_option linter.unusedVariables false
open Go.RowKit
abbrev keysL (ps : List Pr) : List Sy := ps.map Pr.k
abbrev valsL (ps : List Pr) : List Value := ps.map fun p => Value.int .i64 p.v
theorem put_mid {a b : List Pr} {o : Pr} (hs : Sorted cmpP (a ++ o :: b)) {x : Sy} (hx : o.k = x) (v : Int) : putLP ⟨x, v⟩ (a ++ o :: b) = a ++ ⟨x, v⟩ :: b := by
  subst hx
  have e0 : cmpP (⟨o.k, v⟩ : Pr) o = 0 := (cmpP_key _ _).2 rfl
  have h1 := look_mid_eq cmpP_cmp hs e0
  have h2 := del_mid_eq cmpP_cmp hs e0
  unfold putLP; rw [h1]; simp only; rw [h2]
  obtain ⟨-, -, ha, hb⟩ := sorted_mid hs
  have h3 : ∀ y ∈ a, 0 < cmpP (⟨o.k, v⟩ : Pr) y := fun y hy => cmpP_cmp.lt (a := y) (b := o) (ha y hy)
  rw [ins_skip h3]
  cases b with
  | nil => rfl
  | cons z zs =>
    have h4 : cmpP (⟨o.k, v⟩ : Pr) z < 0 := hb z (by simp)
    simp [ins, h4]
theorem ins_split {α : Type} {c : α → α → Int} {x : α} : ∀ {xs : List α}, has c x xs = false → ∃ a b, xs = a ++ b ∧ ins c x xs = a ++ x :: b
  | [], _ => ⟨[], [], rfl, rfl⟩
  | z :: zs, h => by
    rw [has_cons] at h
    simp only [Bool.or_eq_false_iff, beq_eq_false_iff_ne] at h
    unfold ins
    split
    · exact ⟨[], z :: zs, rfl, rfl⟩
    · rw [if_neg h.1]
      obtain ⟨a, b, e1, e2⟩ := ins_split h.2
      exact ⟨z :: a, b, by rw [e1]; rfl, by rw [e2]; rfl⟩
theorem ins_keys (x : Sy) (v : Int) : ∀ ps : List Pr, keysL (ins cmpP ⟨x, v⟩ ps) = ins cmpY x (keysL ps)
  | [] => rfl
  | z :: zs => by
    have ih := ins_keys x v zs
    have e : cmpP (⟨x, v⟩ : Pr) z = cmpY x z.k := rfl
    show keysL (ins cmpP ⟨x, v⟩ (z :: zs)) = ins cmpY x (z.k :: keysL zs)
    unfold ins
    rw [e]
    split
    · rfl
    · split
      · rfl
      · show z.k :: keysL (ins cmpP ⟨x, v⟩ zs) = _; rw [ih]
theorem put_new {ps : List Pr} {x : Sy} (h : x ∉ keysL ps) (v : Int) : putLP ⟨x, v⟩ ps = ins cmpP ⟨x, v⟩ ps ∧ has cmpP (⟨x, v⟩ : Pr) ps = false := by
  have hh : has cmpP (⟨x, v⟩ : Pr) ps = false := by
    unfold has
    rw [List.any_eq_false]
    intro p hp
    simp only [beq_iff_eq, cmpP_key]
    intro e
    exact h (List.mem_map.2 ⟨p, hp, e.symm⟩)
  refine ⟨?_, hh⟩
  unfold putLP
  rw [has_look] at hh
  cases ho : look cmpP (⟨x, v⟩ : Pr) ps with
  | none => rfl
  | some o => rw [ho] at hh; cases hh
theorem del_key {a b : List Pr} {o : Pr} (hs : Sorted cmpP (a ++ o :: b)) {x : Sy} (hx : o.k = x) (v : Int) : del cmpP ⟨x, v⟩ (a ++ o :: b) = a ++ b := del_mid_eq cmpP_cmp hs ((cmpP_key _ _).2 hx.symm)
theorem del_not {ps : List Pr} {x : Sy} (h : x ∉ keysL ps) (v : Int) : del cmpP ⟨x, v⟩ ps = ps := del_none (put_new h v).2
theorem put_sorted {x : Pr} {ps : List Pr} (hs : Sorted cmpP ps) : Sorted cmpP (putLP x ps) := by
  unfold putLP
  cases look cmpP x ps with
  | none => exact ins_sorted cmpP_cmp hs
  | some o => exact ins_sorted cmpP_cmp (del_sorted hs)
theorem vals_length (ps : List Pr) : (valsL ps).length = ps.length := by simp
theorem keys_length (ps : List Pr) : (keysL ps).length = ps.length := by simp
/-- A plain map at block B: its two rows are its own. -/
def PlainAt (w : World) (base B : Nat) (v1 v2 : Value) (ps : List Pr) : Prop :=
  w.heap[B]? = some (.cells #[v1, v2] 47 (0, 0)) ∧ base ≤ B ∧ w.ownsRow base 27 3 v1 ps.length ((keysL ps).flatMap encS) ∧ w.ownsRow base 3 1 v2 ps.length (valsL ps)
/-- What the plain map's calls leave. -/
structure PlT (base : Nat) (w w' : World) : Prop where
  below : Below base w w'
  kn : ∀ t, t ≠ 47 → t ≠ 3 → KN t w w'
theorem PlT.refl (base : Nat) (w : World) : PlT base w w := ⟨Below.refl _ _, fun t _ _ => KN.refl t w⟩
theorem PlT.trans {base : Nat} {a b c : World} (h : PlT base a b) (k : PlT base b c) : PlT base a c := ⟨h.below.trans k.below, fun t h1 h2 => (h.kn t h1 h2).trans (k.kn t h1 h2)⟩
theorem PlT.ofBelow {base : Nat} {w w' : World} (hb : base ≤ w.heap.size) (h : Below w.heap.size w w') : PlT base w w' := ⟨h.mono hb, fun t _ _ => KN.below h⟩
theorem PlT.grown {base : Nat} {w w' : World} {r : Nat} {c : Array Value} {t : TypeId} {f : Nat × Nat} (hg : w.grownBy w' (some r)) (hb : base ≤ w.heap.size) (hr : base ≤ r) (hc : w.heap[r]? = some (.cells c t f)) (ht : t = 47 ∨ t = 3) : PlT base w w' :=
  ⟨belowg hg hb hr, fun u h1 h2 => KN.but hg hc (fun e => by subst e; rcases ht with h | h; exact h1 h; exact h2 h)⟩
theorem PlT.set {base : Nat} {w : World} {r o : Nat} {v : Value} {c : Array Value} {t : TypeId} {f : Nat × Nat} (hr : base ≤ r) (hc : w.heap[r]? = some (.cells c t f)) (ht : t = 47 ∨ t = 3) : PlT base w (w.setCell ⟨r, o, none⟩ v) :=
  PlT.grown (gset w r o v) (Nat.le_of_lt (Nat.lt_of_le_of_lt hr (heap_lt hc))) hr hc ht
theorem MapP.kn {w w' : World} {b s : Nat} {xs : List Pr} (h : MapP w b s xs) (hk : ∀ t, t ≠ 47 → t ≠ 3 → KN t w w') : MapP w' b s xs := by
  obtain ⟨h1, p, T, h2, h3, h4, h5⟩ := h
  exact ⟨hk _ (by decide) (by decide) _ _ _ h1, p, T, hk _ (by decide) (by decide) _ _ _ h2, (hk _ (by decide) (by decide)).tree h3, h4, h5⟩
theorem PlainAt.lt {w : World} {base B : Nat} {v1 v2 : Value} {ps : List Pr} (h : PlainAt w base B v1 v2 ps) : B < w.heap.size := heap_lt h.1
theorem PlainAt.mono {w w' : World} {base B : Nat} {v1 v2 : Value} {ps : List Pr} (h : PlainAt w base B v1 v2 ps) (hb : Below w.heap.size w w') : PlainAt w' base B v1 v2 ps :=
  ⟨(hb.block B (heap_lt h.1)).trans h.1, h.2.1, ownsRow_kn (KN.below hb) h.2.2.1, ownsRow_kn (KN.below hb) h.2.2.2⟩
/-- A call of the map leaves the plain one. -/
theorem PlainAt.but {w w' : World} {base B s : Nat} {v1 v2 : Value} {ps xs : List Pr} (h : PlainAt w base B v1 v2 ps) (hg : w.grownBy w' (some s)) (hS : SetP w s xs) : PlainAt w' base B v1 v2 ps := by
  obtain ⟨p, T, hc, -⟩ := hS
  have k1 : KN 47 w w' := KN.but hg hc (by decide)
  have k2 : KN 27 w w' := KN.but hg hc (by decide)
  have k3 : KN 3 w w' := KN.but hg hc (by decide)
  exact ⟨k1 _ _ _ h.1, h.2.1, ownsRow_kn k2 h.2.2.1, ownsRow_kn k3 h.2.2.2⟩
theorem PlainAt.form {w : World} {base B : Nat} {v1 v2 : Value} {ps : List Pr} (h : PlainAt w base B v1 v2 ps) : ∃ a1 c1 a2 c2, v1 = .slice a1 ps.length c1 ∧ v2 = .slice a2 ps.length c2 := by
  obtain ⟨a1, c1, e1⟩ := row_form h.2.2.1
  obtain ⟨a2, c2, e2⟩ := row_form h.2.2.2
  exact ⟨a1, c1, a2, c2, e1, e2⟩
theorem list_at {w : World} {a : Option Addr} {n c : Nat} {ks : List Sy} (h : SliceAt encS 3 w (.slice a n c) ks) {s : Nat} (hs : w.heap.size ≤ s) : ListAt w s a ks := by
  intro k hk
  rcases h with ⟨h1, h2⟩ | ⟨b, off, cap, h1, hb, -, hc⟩
  · subst h2; exact absurd hk (by simp)
  · obtain ⟨rfl, -⟩ : a = some ⟨b, off, none⟩ ∧ True := by simp at h1; exact ⟨h1.1, trivial⟩
    exact ⟨b, off, rfl, by omega, hc k hk 0 _ rfl, hc k hk 1 _ rfl, hc k hk 2 _ rfl⟩
theorem PlainAt.list {w : World} {base B : Nat} {a1 : Option Addr} {n1 c1 : Nat} {v2 : Value} {ps : List Pr} (h : PlainAt w base B (.slice a1 n1 c1) v2 ps) : ListAt w w.heap.size a1 (keysL ps) := list_at (slice_own h.2.2.1 (by simp) rfl) (Nat.le_refl _)
theorem PlainAt.box {w : World} {base B : Nat} {a1 : Option Addr} {c1 : Nat} {a2 : Option Addr} {c2 n2 : Nat} {ps : List Pr} (h : PlainAt w base B (.slice a1 ps.length c1) (.slice a2 n2 c2) ps) : PlainBox w B a1 (keysL ps).length c1 a2 n2 c2 := by rw [keys_length]; exact h.1
/-- A value's cell. -/
theorem owns_int {w : World} {base : Nat} {v : Value} {ps : List Pr} (h : w.ownsRow base 3 1 v ps.length (valsL ps)) {k : Nat} (hk : k < ps.length) : ∃ g c cur, v = .slice (some ⟨g, 0, none⟩) ps.length c ∧ base ≤ g ∧ w.heap[g]? = some (.cells cur 3 (0, 0)) ∧ w.cell? ⟨g, k, none⟩ = some (.int .i64 ps[k].v) := by
  obtain ⟨hl, h | ⟨g, cap, cur, h1, h2, h3, h4, h5, h6, h7⟩⟩ := h
  · omega
  · refine ⟨g, cap, cur, h1, h2, h3, ?_⟩
    rw [cells_of h3]
    have := congrArg (fun l => l[k]?) h7
    simp only [List.getElem?_take] at this
    rw [if_pos (by omega)] at this
    simp [hk] at this
    simpa using this
theorem owns_set {w : World} {base : Nat} {a : List Pr} {o p : Pr} {b : List Pr} {g c n : Nat} (h : w.ownsRow base 3 1 (.slice (some ⟨g, 0, none⟩) n c) n (valsL (a ++ o :: b))) : (w.setCell ⟨g, a.length, none⟩ (.int .i64 p.v)).ownsRow base 3 1 (.slice (some ⟨g, 0, none⟩) n c) n (valsL (a ++ p :: b)) := by
  obtain ⟨hl, h | ⟨g', cap, cur, h1, h2, h3, h4, h5, h6, h7⟩⟩ := h
  · exact absurd h.1 (by simp)
  · simp at h1
    obtain ⟨rfl, rfl⟩ := h1
    refine ⟨by simpa using hl, .inr ⟨g, c, cur.setIfInBounds a.length (.int .i64 p.v), rfl, h2, ?_, h4, h5, by simpa using h6, ?_⟩⟩
    · simp [World.setCell, Array.getElem?_modify, h3]
    · rw [Array.toList_setIfInBounds, List.take_set, h7]
      simp
end Go.Proofs.Ythgidldcblchmaa
