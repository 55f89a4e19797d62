/-
  Plain lemmas for package row: a slice of one-cell elements that starts anywhere in its block, what is appended to it, what is cut off. No condition.
-/
import Derived.WalkKit
import Derived.Handy
import Derived.Lib.Hide
import Derived.Deep.Upon
import Derived.Below
import Derived.StillTailTactics
import Derived.Deep.QuietTactic
namespace Go.Proofs.Ythieabhemiikhaa
set_option linter.unusedVariables false
open Go.RowKit
theorem heap_lt {W : World} {b : Nat} {o : Obj} (h : W.heap[b]? = some o) : b < W.heap.size := (Array.getElem?_eq_some_iff.1 h).1
theorem cells_of {W : World} {b : Nat} {c : Array Value} {t : TypeId} {f : Nat × Nat} (h : W.heap[b]? = some (.cells c t f)) (i : Nat) : W.cell? ⟨b, i, none⟩ = c[i]? := by
  simp [World.cell?, h]
theorem frozen_of {w : World} {b i : Nat} {c : Array Value} {t : TypeId} (h : w.heap[b]? = some (.cells c t (0, 0))) : w.frozen? ⟨b, i, none⟩ = false := by
  simp [World.frozen?, h]
theorem new_at {w : World} {o : Obj} {n : Nat} (h : n = w.heap.size) : (w.alloc o).heap[n]? = some o := by subst h; show (w.heap.push o)[w.heap.size]? = _; simp
theorem bdN {B : Nat} {a w : World} (n : Nat) (h : Below B a w) : Below B a (w.drewN n) := ⟨h.os, h.tape, h.output, h.size, h.block⟩
theorem ret_int {k : IntKind} {a b : Int} (h : a = b) : Ending.returned (.int k a) = .returned (.int k b) := by rw [h]
/-- All blocks that were there are as they were, but those of A. -/
structure Touch (A : Nat → Prop) (w w' : World) : Prop where
  os : w'.os = w.os
  tape : w'.tape = w.tape
  output : w'.output = w.output
  size : w.heap.size ≤ w'.heap.size
  block : ∀ k, k < w.heap.size → ¬ A k → w'.heap[k]? = w.heap[k]?
theorem Touch.refl (A : Nat → Prop) (w : World) : Touch A w w := ⟨rfl, rfl, rfl, Nat.le_refl _, fun _ _ _ => rfl⟩
theorem Touch.trans {A : Nat → Prop} {a b c : World} (h : Touch A a b) (k : Touch A b c) : Touch A a c :=
  ⟨k.os.trans h.os, k.tape.trans h.tape, k.output.trans h.output, Nat.le_trans h.size k.size, fun i hi hn => (k.block i (Nat.lt_of_lt_of_le hi h.size) hn).trans (h.block i hi hn)⟩
theorem Touch.mono {A A' : Nat → Prop} {a b : World} (h : Touch A a b) (hA : ∀ k, k < a.heap.size → A k → A' k) : Touch A' a b :=
  ⟨h.os, h.tape, h.output, h.size, fun i hi hn => h.block i hi (fun ha => hn (hA i hi ha))⟩
theorem Touch.below {A : Nat → Prop} {a b : World} {B : Nat} (h : Touch A a b) (hB : B ≤ a.heap.size) (hA : ∀ k, k < a.heap.size → A k → B ≤ k) : Below B a b :=
  ⟨h.os, h.tape, h.output, h.size, fun i hi => h.block i (by omega) (fun ha => by have := hA i (by omega) ha; omega)⟩
theorem Touch.grown {a b : World} {r : Option Nat} (h : a.grownBy b r) : Touch (fun k => some k = r) a b :=
  ⟨h.os, h.tape, h.output, h.size, fun i hi hn => h.block i hi hn⟩
theorem Touch.ofBelow {A : Nat → Prop} {a b : World} (h : Below a.heap.size a b) : Touch A a b := ⟨h.os, h.tape, h.output, h.size, fun i hi _ => h.block i hi⟩
theorem Touch.set (w : World) (b o : Nat) (v : Value) : Touch (fun k => k = b) w (w.setCell ⟨b, o, none⟩ v) :=
  ⟨rfl, rfl, rfl, by simp [World.setCell], fun i _ hn => Below.heap_setCell _ _ _ _ (by simpa using hn)⟩
theorem Touch.drewN {A : Nat → Prop} {a b : World} (n : Nat) (h : Touch A a b) : Touch A a (b.drewN n) := ⟨h.os, h.tape, h.output, h.size, h.block⟩

/-- v reads as xs: elements of one cell. -/
def Reads (w : World) (v : Value) (xs : List Value) : Prop :=
  ∃ a cap, v = .slice a xs.length cap ∧ xs.length ≤ cap ∧ cap ≤ maxLen ∧ (cap = 0 ∨ ∃ b off, a = some ⟨b, off, none⟩ ∧ b < w.heap.size ∧ ∀ j (h : j < xs.length), w.cell? ⟨b, off + j, none⟩ = some xs[j])
/-- v is a slice of a block of type e, with room behind it that may be written. -/
def OffRow (w : World) (e : TypeId) (v : Value) (xs : List Value) : Prop :=
  (v = .slice none 0 0 ∧ xs = []) ∨ ∃ g off cap, v = .slice (some ⟨g, off, none⟩) xs.length cap ∧ xs.length ≤ cap ∧ cap ≤ maxLen ∧ (∃ cur, w.heap[g]? = some (.cells cur e (0, 0)) ∧ off + cap ≤ cur.size) ∧
    ∀ j (h : j < xs.length), w.cell? ⟨g, off + j, none⟩ = some xs[j]
theorem Reads.mono {w w' : World} {v : Value} {xs : List Value} (h : Reads w v xs) (hb : Below w.heap.size w w') : Reads w' v xs := by
  obtain ⟨a, cap, h1, h2, h3, h4⟩ := h
  refine ⟨a, cap, h1, h2, h3, ?_⟩
  rcases h4 with h4 | ⟨b, off, h4, h5, h6⟩
  · exact .inl h4
  · exact .inr ⟨b, off, h4, Nat.lt_of_lt_of_le h5 hb.size, fun j hj => (hb.cell (p := ⟨b, off + j, none⟩) h5).trans (h6 j hj)⟩
theorem Reads.but {A : Nat → Prop} {w w' : World} {v : Value} {xs : List Value} (h : Reads w v xs) (hb : Touch A w w') (hn : ∀ g, v.ownBlock = some g → ¬ A g) : Reads w' v xs := by
  obtain ⟨a, cap, h1, h2, h3, h4⟩ := h
  refine ⟨a, cap, h1, h2, h3, ?_⟩
  rcases h4 with h4 | ⟨b, off, h4, h5, h6⟩
  · exact .inl h4
  · refine .inr ⟨b, off, h4, Nat.lt_of_lt_of_le h5 hb.size, fun j hj => ?_⟩
    refine (World.cell?_of_block (w := w) (a := ⟨b, off + j, none⟩) (hb.block b h5 (hn b ?_))).trans (h6 j hj)
    rw [h1, h4]; rfl
theorem OffRow.reads {w : World} {e : TypeId} {v : Value} {xs : List Value} (h : OffRow w e v xs) : Reads w v xs := by
  rcases h with ⟨rfl, rfl⟩ | ⟨g, off, cap, rfl, h1, h2, ⟨cur, h3, _⟩, h4⟩
  · exact ⟨none, 0, rfl, by simp, by simp, .inl rfl⟩
  · exact ⟨_, cap, rfl, h1, h2, .inr ⟨g, off, rfl, heap_lt h3, h4⟩⟩
theorem OffRow.nil (w : World) (e : TypeId) : OffRow w e (.slice none 0 0) [] := .inl ⟨rfl, rfl⟩
theorem OffRow.lt {w : World} {e : TypeId} {v : Value} {xs : List Value} (h : OffRow w e v xs) {g : Nat} (hg : v.ownBlock = some g) : g < w.heap.size := by
  rcases h with ⟨rfl, _⟩ | ⟨g', off, cap, rfl, _, _, ⟨cur, h3, _⟩, _⟩
  · simp [Value.ownBlock] at hg
  · simp [Value.ownBlock] at hg; subst hg; exact heap_lt h3
theorem OffRow.typed {w : World} {e : TypeId} {v : Value} {xs : List Value} (h : OffRow w e v xs) {g : Nat} (hg : v.ownBlock = some g) : ∃ cur, w.heap[g]? = some (.cells cur e (0, 0)) := by
  rcases h with ⟨rfl, _⟩ | ⟨g', off, cap, rfl, _, _, ⟨cur, h3, _⟩, _⟩
  · simp [Value.ownBlock] at hg
  · simp [Value.ownBlock] at hg; subst hg; exact ⟨cur, h3⟩
theorem OffRow.ne {w : World} {e : TypeId} {v : Value} {xs : List Value} (h : OffRow w e v xs) {q : Nat} {c : Array Value} {t : TypeId} {f : Nat × Nat} (hq : w.heap[q]? = some (.cells c t f)) (ht : t ≠ e) {g : Nat} (hg : v.ownBlock = some g) : g ≠ q := by
  rintro rfl
  obtain ⟨cur, h3⟩ := h.typed hg
  rw [hq] at h3; simp at h3; exact ht h3.2.1
theorem OffRow.but {A : Nat → Prop} {w w' : World} {e : TypeId} {v : Value} {xs : List Value} (h : OffRow w e v xs) (hb : Touch A w w') (hn : ∀ g, v.ownBlock = some g → ¬ A g) : OffRow w' e v xs := by
  rcases h with h | ⟨g, off, cap, rfl, h1, h2, ⟨cur, h3, h5⟩, h4⟩
  · exact .inl h
  · have hk : w'.heap[g]? = w.heap[g]? := hb.block g (heap_lt h3) (hn g rfl)
    exact .inr ⟨g, off, cap, rfl, h1, h2, ⟨cur, hk.trans h3, h5⟩, fun j hj => (World.cell?_of_block (w := w) (a := ⟨g, off + j, none⟩) hk).trans (h4 j hj)⟩
theorem OffRow.mono {w w' : World} {e : TypeId} {v : Value} {xs : List Value} (h : OffRow w e v xs) (hb : Below w.heap.size w w') : OffRow w' e v xs := h.but (Touch.ofBelow (A := fun _ => False) hb) (fun _ _ h => h)
theorem setCells_block (g : Nat) : ∀ (vs : List Value) (o : Nat) (w : World) (cur : Array Value) (e : TypeId) (f : Nat × Nat), w.heap[g]? = some (.cells cur e f) → ∃ cur', (w.setCells g o vs).heap[g]? = some (.cells cur' e f) ∧ cur'.size = cur.size
  | [], _, w, cur, e, f, h => ⟨cur, h, rfl⟩
  | v :: r, o, w, cur, e, f, h => by
    have h1 : (w.setCell ⟨g, o, none⟩ v).heap[g]? = some (.cells (cur.setIfInBounds o v) e f) := by
      simp [World.setCell, Array.getElem?_modify, h]
    obtain ⟨cur', h2, h3⟩ := setCells_block g r (o + 1) _ _ _ _ h1
    exact ⟨cur', h2, by rw [h3]; simp⟩
theorem setCells_touch (w : World) (g o : Nat) (vs : List Value) : w.grownBy (w.setCells g o vs) (some g) :=
  ⟨World.os_setCells _ _ _ _, by
      have : ∀ (vs : List Value) (o : Nat) (w : World), (w.setCells g o vs).tape = w.tape := by
        intro vs; induction vs with
        | nil => intro o w; rfl
        | cons v r ih => intro o w; exact ih _ _
      exact this _ _ _, World.output_setCells _ _ _ _, (World.keptBut_setCells g (may := fun _ => True) vs o w (fun _ _ => trivial)).size, fun k hk hn => World.heap_setCells_other w g o vs hk (by simpa using hn)⟩
theorem cell_some {w : World} {g : Nat} {cur : Array Value} {e : TypeId} {f : Nat × Nat} (h : w.heap[g]? = some (.cells cur e f)) {j : Nat} (hj : j < cur.size) : (w.cell? ⟨g, j, none⟩).isSome = true := by
  rw [cells_of h, Array.getElem?_eq_getElem hj]; rfl
/-- What is appended stands behind what there was. -/
def Grew (w : World) (e : TypeId) (v : Value) (xs : List Value) (v' : Value) (w' : World) : Prop :=
  OffRow w' e v' xs ∧ w.grownBy w' v.ownBlock ∧ (v'.ownBlock = v.ownBlock ∨ ∃ g, v'.ownBlock = some g ∧ w.heap.size ≤ g) ∧ ∃ a n c, v' = .slice a n c
theorem run_append_off {P : Program} {w : World} {t tx ty e : TypeId} {i : TypeInfo} {z : Value} {bytes : Nat} (ht : P.underlying t = some (.slice e)) (hi : P.info? e = some i) (hz : i.zero = some z) (hsize : i.size = 1) (hby : i.bytes = bytes) (hzs : z.cells.size = 1)
    {v : Value} {xs : List Value} (h : OffRow w e v xs) {x : Value} {news : List Value} (hs : Src P 1 tx x news.length news w) (h63 : xs.length + news.length ≤ maxLen) (hbytes : (xs.length + news.length) * bytes ≤ 140737488355328) :
    ∃ v' w', (Builtin.append_ #[t, tx] ty #[v, x]).run P w = .ok v' w' ∧ Grew w e v (xs ++ news) v' w' := by
  unfold Grew
  have h63' := h63
  unfold maxLen at h63'
  have grow : ∀ (bs : Option Addr) (sc : Nat), v = .slice bs xs.length sc → sc < xs.length + news.length →
      (Builtin.firstCells i.size xs.length (.slice bs xs.length sc)).run P w.drew = .ok xs.toArray w.drew →
      ∃ v' w', (Builtin.append_ #[t, tx] ty #[v, x]).run P w = .ok v' w' ∧ OffRow w' e v' (xs ++ news) ∧ w.grownBy w' v.ownBlock ∧ (v'.ownBlock = v.ownBlock ∨ ∃ g, v'.ownBlock = some g ∧ w.heap.size ≤ g) ∧ ∃ a n c, v' = .slice a n c := by
    rintro bs sc rfl hg hold
    have hs' : Src P i.size tx x news.length news w := by rw [hsize]; exact hs
    have hrun := run_append_grow_src (P := P) w t tx ty e i z ht hi hz bs xs.length sc xs hold x news.length news hs' hg (by omega) (growslice_fits hg (by rw [hby]; exact hbytes))
    have hge := grownCap_ge w (xs.length + news.length) sc e
    have hcm := grownCap_le_maxLen w (xs.length + news.length) sc e h63
    refine ⟨_, _, hrun, .inr ⟨w.heap.size, 0, _, by rw [List.length_append], by rw [List.length_append]; exact hge, hcm, ⟨_, new_at rfl, ?_⟩, fun j hj => ?_⟩, ⟨rfl, rfl, rfl, by simp, fun k hk _ => Below.heap_alloc w.drew _ k hk⟩, .inr ⟨w.heap.size, rfl, Nat.le_refl _⟩, _, _, _, rfl⟩
    · rw [Array.size_append, List.size_toArray, size_zeroCells, hzs, List.length_append]; omega
    · rw [Nat.zero_add, cells_of (new_at (w := w.drew) (n := w.heap.size) rfl), Array.getElem?_append_left (by simp at hj ⊢; omega), List.getElem?_toArray, List.getElem?_eq_getElem hj]
  rcases h with ⟨rfl, rfl⟩ | ⟨g, off, cap, rfl, h1, h2, ⟨cur, h3, h5⟩, h4⟩
  · by_cases hn : news = []
    · subst hn
      have hs' : Src P i.size tx x 0 [] w := by rw [hsize]; exact hs
      refine ⟨_, _, run_append_nothing (P := P) w t tx ty e i ht hi none 0 0 (Nat.le_refl _) x hs', OffRow.nil _ _, ⟨rfl, rfl, rfl, Nat.le_refl _, fun _ _ _ => rfl⟩, .inl rfl, _, _, _, rfl⟩
    · exact grow none 0 rfl (by have := List.length_pos_iff.2 hn; simp; omega) (by rw [hsize]; exact run_firstCells_none w.drew 1 0 0 0)
  · by_cases hfit : xs.length + news.length ≤ cap
    · have hs' : Src P i.size tx x news.length news w := by rw [hsize]; exact hs
      have hc : ∀ j, j < news.length → (w.cell? ⟨g, off + xs.length * i.size + j, none⟩).isSome = true := fun j hj => cell_some h3 (by rw [hsize]; omega)
      have hrun := run_append_room_src (P := P) w t tx ty e i ht hi g off xs.length cap x news.length news hs' hfit hc (fun j _ => frozen_of h3)
      rw [hsize, Nat.mul_one] at hrun hc
      obtain ⟨cur', h6, h7⟩ := setCells_block g news (off + xs.length) w cur e _ h3
      refine ⟨_, _, hrun, .inr ⟨g, off, cap, by rw [List.length_append], by rw [List.length_append]; exact hfit, h2, ⟨cur', h6, by omega⟩, fun j hj => ?_⟩, setCells_touch _ _ _ _, .inl rfl, _, _, _, rfl⟩
      by_cases hjx : j < xs.length
      · rw [World.cell?_setCells_out g _ _ _ _ (fun _ _ => Or.inl (by show off + j < off + xs.length; omega)), List.getElem_append_left hjx]
        exact h4 j hjx
      · have := World.cell?_setCells_in g news (off + xs.length) w hc (j - xs.length) (by rw [List.length_append] at hj; omega)
        rw [show off + xs.length + (j - xs.length) = off + j by omega] at this
        rw [this, List.getElem_append_right (by omega)]
    · refine grow _ cap rfl (by omega) ?_
      rw [hsize]
      refine run_firstCells_some w.drew 1 xs.length ⟨g, off, none⟩ xs.length cap xs (by simp) (fun j u hu => ?_)
      rw [Addr.add_lit]
      obtain ⟨hj, rfl⟩ := List.getElem?_eq_some_iff.1 hu
      exact h4 j hj
theorem wpList_append_off {P : Program} (w : World) {ops : Array Oper} {rest : List Oper} {o : Oper} {a : Act} {Q : Exit → Act → World → Prop} (hgd : o.guard = none) (s x : Operand) (t tx : TypeId)
    (ho : o.op = .call { callee := .builtin .append, args := #[s, x], argTypes := #[t, tx] })
    {e : TypeId} {i : TypeInfo} {z : Value} {bytes : Nat} (ht : P.underlying t = some (.slice e)) (hi : P.info? e = some i) (hz : i.zero = some z) (hsize : i.size = 1) (hby : i.bytes = bytes) (hzs : z.cells.size = 1)
    {v : Value} {xs : List Value} (hv : a.eval s = v) (h : OffRow w e v xs) (xv : Value) (news : List Value) (hx : a.eval x = xv) (hs : Src P 1 tx xv news.length news w) (h63 : xs.length + news.length ≤ maxLen) (hbytes : (xs.length + news.length) * bytes ≤ 140737488355328)
    (hK : ∀ v' w', Grew w e v (xs ++ news) v' w' → wpList P ops Q rest (a.put o.dst v') w') : wpList P ops Q (o :: rest) a w := by
  refine wpList_plain hgd fun K hK' => ?_
  obtain ⟨v', w', hrun, r'⟩ := run_append_off (P := P) (ty := o.type) ht hi hz hsize hby hzs h hs h63 hbytes
  unfold Oper.wp
  simp [execOp, ho, resolve, invoke, builtin, hv, hx, hrun, Result.andThen]
  exact hK' _ _ (hK v' w' r')
theorem Reads.src {P : Program} {w : World} {tx e : TypeId} (hk : P.underlying tx = some (.slice e)) {v : Value} {xs : List Value} (h : Reads w v xs) (h1 : ∀ u ∈ xs, u.oneCell' = true) : Src P 1 tx v xs.length xs w := by
  obtain ⟨a, cap, rfl, h2, h3, rfl | ⟨b, off, rfl, h5, h6⟩⟩ := h
  · obtain rfl : xs = [] := List.eq_nil_of_length_eq_zero (by omega)
    cases a with
    | none => exact Src.ofNil w hk 0
    | some a => exact Src.ofSlice w hk a 0 0 [] (by simp) (fun j u hu => by simp at hu) (by simp)
  · refine Src.ofSlice w hk ⟨b, off, none⟩ xs.length cap xs (by simp) (fun j u hu => ?_) h1
    rw [Addr.add_lit]
    obtain ⟨hj, rfl⟩ := List.getElem?_eq_some_iff.1 hu
    exact h6 j hj
/-- A queue: its values, its room. -/
def QAt (w : World) (qt e : TypeId) (q : Nat) (v : Value) (room : Nat) (xs : List Value) : Prop :=
  w.heap[q]? = some (.cells #[v, .int .i64 room] qt (0, 0)) ∧ OffRow w e v xs
theorem QAt.lt {w : World} {qt e : TypeId} {q : Nat} {v : Value} {room : Nat} {xs : List Value} (h : QAt w qt e q v room xs) : q < w.heap.size := heap_lt h.1
theorem QAt.but {A : Nat → Prop} {w w' : World} {qt e : TypeId} {q : Nat} {v : Value} {room : Nat} {xs : List Value} (h : QAt w qt e q v room xs) (hb : Touch A w w') (hq : ¬ A q) (hn : ∀ g, v.ownBlock = some g → ¬ A g) : QAt w' qt e q v room xs :=
  ⟨(hb.block q h.lt hq).trans h.1, h.2.but hb hn⟩
theorem QAt.mono {w w' : World} {qt e : TypeId} {q : Nat} {v : Value} {room : Nat} {xs : List Value} (h : QAt w qt e q v room xs) (hb : Below w.heap.size w w') : QAt w' qt e q v room xs :=
  h.but (Touch.ofBelow (A := fun _ => False) hb) (fun h => h) (fun _ _ h => h)
theorem QAt.form {w : World} {qt e : TypeId} {q : Nat} {v : Value} {room : Nat} {xs : List Value} (h : QAt w qt e q v room xs) : ∃ a c, v = .slice a xs.length c ∧ xs.length ≤ c ∧ c ≤ maxLen := by
  rcases h.2 with ⟨rfl, rfl⟩ | ⟨g, off, cap, rfl, h1, h2, -⟩
  · exact ⟨_, _, rfl, by simp, by simp⟩
  · exact ⟨_, _, rfl, h1, h2⟩
theorem QAt.cells {w : World} {qt e : TypeId} {q : Nat} {v : Value} {room : Nat} {xs : List Value} (h : QAt w qt e q v room xs) : w.cell? ⟨q, 0, none⟩ = some v ∧ w.cell? ⟨q, 1, none⟩ = some (.int .i64 room) ∧ (∀ i, w.frozen? ⟨q, i, none⟩ = false) :=
  ⟨by rw [cells_of h.1]; rfl, by rw [cells_of h.1]; rfl, fun i => frozen_of h.1⟩
/-- What a queue's own call may write: its two cells, its values' block; a new block of values is new. -/
def Own2 (q : Nat) (v : Value) (k : Nat) : Prop := k = q ∨ v.ownBlock = some k
def Kin (w : World) (v v' : Value) : Prop := v'.ownBlock = v.ownBlock ∨ v'.ownBlock = none ∨ ∃ g, v'.ownBlock = some g ∧ w.heap.size ≤ g
theorem set_heap2 {w : World} {b : Nat} {v r u : Value} {t : TypeId} {f : Nat × Nat} (h : w.heap[b]? = some (.cells #[v, r] t f)) : (w.setCell ⟨b, 0, none⟩ u).heap[b]? = some (.cells #[u, r] t f) := by
  simp [World.setCell, Array.getElem?_modify, h]
/-- Behind an append to the values and the store of the new slice. -/
theorem QAt.pushed {w w1 : World} {qt e : TypeId} {q : Nat} {v v' : Value} {room : Nat} {xs ys : List Value} (h : QAt w qt e q v room xs) (hte : qt ≠ e) (hg : Grew w e v ys v' w1) :
    QAt (w1.setCell ⟨q, 0, none⟩ v') qt e q v' room ys ∧ Touch (Own2 q v) w (w1.setCell ⟨q, 0, none⟩ v') ∧ Kin w v v' := by
  obtain ⟨h1, h2, h3, -⟩ := hg
  have hnq : v.ownBlock ≠ some q := fun e' => h.2.ne h.1 hte e' rfl
  have hq1 : w1.heap[q]? = some (.cells #[v, .int .i64 room] qt (0, 0)) := (h2.block q h.lt (fun e' => hnq e'.symm)).trans h.1
  refine ⟨⟨set_heap2 hq1, h1.but (Touch.set w1 q 0 v') (fun g hg' e' => ?_)⟩, ?_, ?_⟩
  · exact h1.ne hq1 hte hg' e'
  · exact ((Touch.grown h2).mono (fun k _ hk => .inr hk.symm)).trans ((Touch.set w1 q 0 v').mono (fun k _ hk => .inl hk))
  · rcases h3 with h3 | h3
    · exact .inl h3
    · exact .inr (.inr h3)
end Go.Proofs.Ythieabhemiikhaa
