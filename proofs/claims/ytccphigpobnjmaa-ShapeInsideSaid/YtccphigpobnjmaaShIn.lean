/-
  ShapeInside: what lies where while the law builds its production; the three conditions, told plainly. No condition.
-/
import Derived.Test.YtccphigpobnjmaaShWakes
namespace Go.Proofs.Ytccphigpobnjmaa
set_option linter.unusedVariables false
open Go.RowKit
/-- What lies where: a block, its cells, their type. -/
def Has (w : World) (L : List (Nat × List Value × Nat)) : Prop := (∀ x ∈ L, w.heap[x.1]? = some (.cells x.2.1.toArray x.2.2 (0, 0))) ∧ (L.map (fun x => x.1)).Nodup
theorem Has.nil (w : World) : Has w [] := ⟨by simp, by simp⟩
theorem Has.at {w : World} {L : List (Nat × List Value × Nat)} (h : Has w L) (k : Nat) {x : Nat × List Value × Nat} (hx : L[k]? = some x) : w.heap[x.1]? = some (.cells x.2.1.toArray x.2.2 (0, 0)) := h.1 x (List.mem_of_getElem? hx)
theorem Has.cell {w : World} {L : List (Nat × List Value × Nat)} (h : Has w L) (k j : Nat) {x : Nat × List Value × Nat} (hx : L[k]? = some x) {v : Value} (hv : x.2.1[j]? = some v) : w.cell? ⟨x.1, j, none⟩ = some v := by
  rw [cells_of (h.at k hx)]; simpa using hv
theorem Has.froz {w : World} {L : List (Nat × List Value × Nat)} (h : Has w L) (k j : Nat) {x : Nat × List Value × Nat} (hx : L[k]? = some x) : w.frozen? ⟨x.1, j, none⟩ = false := frozen_of (h.at k hx)
theorem Has.grown {w w' : World} {L : List (Nat × List Value × Nat)} {row : Option Nat} (h : Has w L) (hg : w.grownBy w' row) (hr : ∀ x ∈ L, some x.1 ≠ row) : Has w' L := ⟨fun x hx => (hg.block _ (heap_lt (h.1 x hx)) (hr x hx)).trans (h.1 x hx), h.2⟩
theorem Has.below {w w' : World} {L : List (Nat × List Value × Nat)} (h : Has w L) (hb : Below w.heap.size w w') : Has w' L := ⟨fun x hx => (hb.block _ (heap_lt (h.1 x hx))).trans (h.1 x hx), h.2⟩
theorem Has.put {w : World} {L : List (Nat × List Value × Nat)} (h : Has w L) {b : Nat} {c : List Value} {t : Nat} (hb : w.heap[b]? = some (.cells c.toArray t (0, 0))) (hn : ∀ x ∈ L, x.1 ≠ b) : Has w ((b, c, t) :: L) :=
  ⟨fun x hx => by
    rcases List.mem_cons.1 hx with rfl | hx
    · exact hb
    · exact h.1 x hx, by
    rw [List.map_cons, List.nodup_cons]
    exact ⟨fun hm => by obtain ⟨x, hx, he⟩ := List.mem_map.1 hm; exact hn x hx he, h.2⟩⟩
theorem Has.new {w : World} {L : List (Nat × List Value × Nat)} (h : Has w L) (c : List Value) (t : Nat) : Has (w.alloc (.cells c.toArray t)) ((w.heap.size, c, t) :: L) :=
  (h.below ((Below.refl _ w).alloc (Nat.le_refl _) _)).put (new_at rfl) (fun x hx e => by have := heap_lt (h.1 x hx); omega)
/-- The rest, without one. -/
theorem Has.drop {w : World} {L : List (Nat × List Value × Nat)} (h : Has w L) (k : Nat) : Has w (L.eraseIdx k) := ⟨fun x hx => h.1 x (List.mem_of_mem_eraseIdx hx), by
  have := h.2.sublist (List.Sublist.map (fun x => x.1) (List.eraseIdx_sublist L k))
  exact this⟩
/-- Of two that lie apart. -/
theorem Has.ne {w : World} {L : List (Nat × List Value × Nat)} (h : Has w L) {i j : Nat} {x y : Nat × List Value × Nat} (hx : L[i]? = some x) (hy : L[j]? = some y) (hij : i ≠ j) : x.1 ≠ y.1 := by
  intro e
  have hn := h.2
  have hi : (L.map (fun x => x.1))[i]? = some x.1 := by simp [hx]
  have hj : (L.map (fun x => x.1))[j]? = some y.1 := by simp [hy]
  have h1 : i < (L.map (fun x => x.1)).length := (List.getElem?_eq_some_iff.1 hi).1
  exact hij ((List.getElem?_inj h1 hn).1 (by rw [hi, hj, e]))
/-- A store into one cell. -/
theorem Has.set {w : World} {L : List (Nat × List Value × Nat)} (h : Has w L) (k i : Nat) {x : Nat × List Value × Nat} (hx : L[k]? = some x) (v : Value) : Has (w.setCell ⟨x.1, i, none⟩ v) (L.set k (x.1, x.2.1.set i v, x.2.2)) := by
  refine ⟨fun y hy => ?_, ?_⟩
  · obtain ⟨j, hj⟩ := List.mem_iff_getElem?.1 hy
    rw [List.getElem?_set] at hj
    by_cases e : k = j
    · subst e
      rw [if_pos rfl] at hj
      have hk : k < L.length := (List.getElem?_eq_some_iff.1 hx).1
      rw [if_pos hk] at hj
      cases hj
      have hb := h.at k hx
      simp [World.setCell, Array.getElem?_modify, hb]
    · rw [if_neg e] at hj
      have hne := h.ne hj hx (Ne.symm e)
      rw [Below.heap_setCell _ _ _ _ hne]
      exact h.at j hj
  · rw [List.map_set]
    have : (L.map (fun x => x.1)).set k x.1 = L.map (fun x => x.1) := by
      apply List.ext_getElem?
      intro j
      rw [List.getElem?_set]
      by_cases e : k = j
      · subst e
        have hk : k < L.length := (List.getElem?_eq_some_iff.1 hx).1
        have hxx : L[k] = x := by have h1 := List.getElem?_eq_getElem hk; rw [hx] at h1; exact (Option.some.inj h1).symm
        simp [hk, hxx]
      · rw [if_neg e]
    show ((L.map (fun x => x.1)).set k x.1).Nodup
    rw [this]; exact h.2
theorem Has.row {w : World} {L : List (Nat × List Value × Nat)} (h : Has w L) (k : Nat) {x : Nat × List Value × Nat} (hx : L[k]? = some x) (c : List Value) : Has (w.setRow x.1 c.toArray) (L.set k (x.1, c, x.2.2)) := by
  refine ⟨fun y hy => ?_, ?_⟩
  · obtain ⟨j, hj⟩ := List.mem_iff_getElem?.1 hy
    rw [List.getElem?_set] at hj
    by_cases e : k = j
    · subst e
      rw [if_pos rfl] at hj
      have hk : k < L.length := (List.getElem?_eq_some_iff.1 hx).1
      rw [if_pos hk] at hj
      cases hj
      exact setRow_same (h.at k hx)
    · rw [if_neg e] at hj
      have hne := h.ne hj hx (Ne.symm e)
      rw [setRow_other hne]
      exact h.at j hj
  · rw [List.map_set]
    have : (L.map (fun x => x.1)).set k x.1 = L.map (fun x => x.1) := by
      apply List.ext_getElem?
      intro j
      rw [List.getElem?_set]
      by_cases e : k = j
      · subst e
        have hk : k < L.length := (List.getElem?_eq_some_iff.1 hx).1
        have hxx : L[k] = x := by have h1 := List.getElem?_eq_getElem hk; rw [hx] at h1; exact (Option.some.inj h1).symm
        simp [hk, hxx]
      · rw [if_neg e]
    show ((L.map (fun x => x.1)).set k x.1).Nodup
    rw [this]; exact h.2
theorem emod_of_tmod (v n : Int) (hn : 0 < n) : v % n = if v.tmod n < 0 then v.tmod n + n else v.tmod n := by
  have h1 := Int.tmod_eq_emod (a := v) (b := n)
  have h2 := Int.emod_nonneg v (show n ≠ 0 by omega)
  have h3 := Int.emod_lt_of_pos v hn
  split at h1 <;> split <;> omega
theorem within_all (w : World) (v : Int) (n : Nat) (hv : -9223372036854775808 ≤ v) (hv2 : v ≤ 9223372036854775807) (h0 : 0 < n) (hn : n ≤ 1000000) :
    Calls Try.prog 23 #[.int .i64 v, .int .i64 n] w fun e w' => e = .returned (.int .i64 (v % n)) ∧ w = w' := by
  have hd : decide ((n : Int) < 1) = false := decide_eq_false (by omega)
  have hz : ((n : Int) == 0) = false := by simp; omega
  have he := emod_of_tmod v n (by omega)
  have h2 := Int.emod_nonneg v (show (n : Int) ≠ 0 by omega)
  have h3 := Int.emod_lt_of_pos v (show 0 < (n : Int) by omega)
  by_cases ht : v.tmod n < 0
  · rw [if_pos ht] at he
    have h4 : -(n : Int) ≤ v.tmod n := by omega
    have hd2 : decide (v.tmod n < 0) = true := decide_eq_true ht
    have he := Lib.hid he
    rename_i he0
    clear he0 h2 h3
    go_enter Try.func23, Try.ntmps23
    go_wp2_with fail
    go_ret
    exact ⟨ret_int he.out.symm, rfl⟩
  · rw [if_neg ht] at he
    have h4 : (n : Int) ≥ v.tmod n := by omega
    have hd2 : decide (v.tmod n < 0) = false := decide_eq_false ht
    have he := Lib.hid he
    rename_i he0
    clear he0 h2 h3
    go_enter Try.func23, Try.ntmps23
    go_wp2_with fail
    go_ret
    exact ⟨ret_int he.out.symm, rfl⟩
open Go.RowKit
theorem wpList_load1 {P : Program} {w : World} {ops : Array Oper} {rest : List Oper} {o : Oper} {a : Act} {Q : Exit → Act → World → Prop} (hg : o.guard = none) (p : Operand) (t : TypeId) (ho : o.op = .load t p) {A : Addr} (hv : a.eval p = .pointer (some A))
    {d : TypeDesc} (hu : P.underlying t = some d) (hd : (match d with | .struct _ | .array _ _ => true | _ => false) = false) {v : Value} (hc : w.cell? A = some v)
    (h : wpList P ops Q rest (a.put o.dst v) w) : wpList P ops Q (o :: rest) a w := by
  have ha : (isAgg t).run P w = .ok false w := by
    unfold isAgg
    rw [Sem.run_bind, run_underlying hu w]
    cases d <;> simp_all
  have hl : (loadVar t A).run P w = .ok v w := by
    simp [loadVar, Sem.run_bind, ha, go_sem, hc]
  refine wpList_plain hg fun K hK => ?_
  unfold Oper.wp execOp
  simp only [ho, hv, Instr.loadAt, Instr.sureAddr, Sem.run_bind, Sem.run_pure, Result.andThen_ok, hl]
  exact hK _ _ h
theorem infoCOND : (Try.prog.info? 64).map (fun i => (i.zero, i.size, i.bytes)) = some (some (.agg #[.int .i64 0, .bool false, .string ⟨#[]⟩, .slice none 0 0, .slice none 0 0, .bool false, .slice none 0 0]), 7, 112) := by kernel_rfl
theorem own_lit {w : World} {base g n : Nat} {c : List Value} {t sz : Nat} (hb : base ≤ g) (h : w.heap[g]? = some (.cells c.toArray t (0, 0))) (hl : c.length = n * sz) (hn : n ≤ maxLen) : w.ownsRow base t sz (.slice (some ⟨g, 0, none⟩) n n) n c :=
  ⟨hl, .inr ⟨g, n, c.toArray, rfl, hb, h, Nat.le_refl _, hn, by simpa using hl, by simp [← hl]⟩⟩
theorem has_news {w : World} {L : List (Nat × List Value × Nat)} {x : Nat × List Value × Nat} {b : Nat} (h : Has w (x :: L)) (hb : x.1 = b) : ∀ (j : Nat) (u : Value), x.2.1[j]? = some u → w.cell? ((⟨b, 0, none⟩ : Addr).add j) = some u := fun j u hu => by
  rw [Addr.add_lit, Nat.zero_add, ← hb]; exact h.cell 0 j rfl hu
theorem Has.grownRow {w w' : World} {L : List (Nat × List Value × Nat)} (h : Has w L) (k : Nat) {x : Nat × List Value × Nat} (hx : L[k]? = some x) (hg : w.grownBy w' (some x.1)) : Has w' (L.eraseIdx k) := by
  refine (h.drop k).grown hg fun y hy e => ?_
  obtain ⟨j, hj, hjk⟩ := List.mem_eraseIdx_iff_getElem?.1 hy
  exact h.ne hjk hx hj (Option.some.inj e)
theorem below_row {base b : Nat} {w0 w w' : World} (h : Below base w0 w) (hs : base ≤ w.heap.size) (hg : w.grownBy w' (some b)) (hb : base ≤ b) : Below base w0 w' :=
  h.trans ⟨hg.os, hg.tape, hg.output, hg.size, fun k hk => hg.block k (by omega) (by simp; omega)⟩
theorem own_set {w : World} {base n t sz : Nat} {v : Value} {xs : List Value} (h : w.ownsRow base t sz v n xs) {P i : Nat} {c : Array Value} {t' : Nat} (hP : w.heap[P]? = some (.cells c t' (0, 0))) (hne : t' ≠ t) (u : Value) : (w.setCell ⟨P, i, none⟩ u).ownsRow base t sz v n xs := by
  refine World.ownsRow.kept h (gset w P i u) ?_
  cases hv : v.ownBlock with
  | none => exact .inl rfl
  | some g =>
    refine .inr fun e => ?_
    cases e
    obtain ⟨-, ⟨hv', -⟩ | ⟨g', cap, cur, hv', -, hgb, -⟩⟩ := h
    · rw [hv'] at hv; cases hv
    · rw [hv'] at hv; cases hv; rw [hgb] at hP; simp at hP; exact hne hP.2.symm
theorem own_below {w w' : World} {base n t sz : Nat} {v : Value} {xs : List Value} (h : w.ownsRow base t sz v n xs) (hb : Below w.heap.size w w') : w'.ownsRow base t sz v n xs :=
  h.kept (row := none) ⟨hb.os, hb.tape, hb.output, hb.size, fun k hk _ => hb.block k hk⟩ (by cases h' : v.ownBlock <;> simp)
/-- What was laid since w0. -/
structure Lay (w0 w : World) (L : List (Nat × List Value × Nat)) : Prop where
  low : Below w0.heap.size w0 w
  has : Has w L
  ge : ∀ x ∈ L, w0.heap.size ≤ x.1
theorem Lay.new {w0 w : World} {L : List (Nat × List Value × Nat)} (h : Lay w0 w L) (c : List Value) (t : Nat) : Lay w0 (w.alloc (.cells c.toArray t)) ((w.heap.size, c, t) :: L) :=
  ⟨h.low.alloc h.low.size _, h.has.new c t, fun x hx => by
    rcases List.mem_cons.1 hx with rfl | hx
    · exact h.low.size
    · exact h.ge x hx⟩
theorem Lay.below {w0 w w' : World} {L : List (Nat × List Value × Nat)} (h : Lay w0 w L) (hb : Below w.heap.size w w') : Lay w0 w' L := ⟨h.low.trans (hb.mono h.low.size), h.has.below hb, h.ge⟩
theorem Lay.at {w0 w : World} {L : List (Nat × List Value × Nat)} (h : Lay w0 w L) (k : Nat) {x : Nat × List Value × Nat} (hx : L[k]? = some x) : w.heap[x.1]? = some (.cells x.2.1.toArray x.2.2 (0, 0)) := h.has.at k hx
theorem Lay.cell {w0 w : World} {L : List (Nat × List Value × Nat)} (h : Lay w0 w L) (k j : Nat) {x : Nat × List Value × Nat} (hx : L[k]? = some x) {v : Value} (hv : x.2.1[j]? = some v) : w.cell? ⟨x.1, j, none⟩ = some v := h.has.cell k j hx hv
theorem Lay.froz {w0 w : World} {L : List (Nat × List Value × Nat)} (h : Lay w0 w L) (k j : Nat) {x : Nat × List Value × Nat} (hx : L[k]? = some x) : w.frozen? ⟨x.1, j, none⟩ = false := h.has.froz k j hx
theorem Lay.set {w0 w : World} {L : List (Nat × List Value × Nat)} (h : Lay w0 w L) (k i : Nat) {x : Nat × List Value × Nat} (hx : L[k]? = some x) (v : Value) : Lay w0 (w.setCell ⟨x.1, i, none⟩ v) (L.set k (x.1, x.2.1.set i v, x.2.2)) :=
  ⟨h.low.setCell (h.ge x (List.mem_of_getElem? hx)) _, h.has.set k i hx v, fun y hy => by
    rcases List.mem_or_eq_of_mem_set hy with hy | rfl
    · exact h.ge y hy
    · exact h.ge x (List.mem_of_getElem? hx)⟩
theorem Lay.grownRow {w0 w w' : World} {L : List (Nat × List Value × Nat)} (h : Lay w0 w L) (k : Nat) {x : Nat × List Value × Nat} (hx : L[k]? = some x) (hg : w.grownBy w' (some x.1)) : Lay w0 w' (L.eraseIdx k) :=
  ⟨below_row h.low h.low.size hg (h.ge x (List.mem_of_getElem? hx)), h.has.grownRow k hx hg, fun y hy => h.ge y (List.mem_of_mem_eraseIdx hy)⟩
/-- Behind an append to a row that is not among these. -/
theorem Lay.grownOwn {w0 w w' : World} {L : List (Nat × List Value × Nat)} {t sz n : Nat} {v : Value} {xs : List Value} (h : Lay w0 w L) (hown : w.ownsRow w0.heap.size t sz v n xs) (hn : ∀ x ∈ L, v.ownBlock ≠ some x.1) (hg : w.grownBy w' v.ownBlock) : Lay w0 w' L :=
  ⟨h.low.trans ⟨hg.os, hg.tape, hg.output, hg.size, fun k hk => hg.block k (by have := h.low.size; omega) (fun e => by have := (hown.lt k e.symm).1; omega)⟩, h.has.grown hg (fun x hx e => hn x hx e.symm), h.ge⟩
theorem own_cap {w : World} {base t sz n g cap m : Nat} {xs : List Value} (h : w.ownsRow base t sz (.slice (some ⟨g, 0, none⟩) m cap) n xs) : m = n ∧ n ≤ cap ∧ cap ≤ maxLen := by
  obtain ⟨-, ⟨hv, -⟩ | ⟨g', cap', cur, hv, -, -, h1, h2, -⟩⟩ := h
  · cases hv
  · cases hv; exact ⟨rfl, h1, h2⟩
theorem has_one {w : World} {b1 b2 bc ba : Nat} (h : OneAt w true b1 b2 bc ba) (l2 : b1 < b2) (l3 : b2 < bc) (l4 : bc < ba) : Has w [(ba, encA acOne, 59), (bc, encH (chOne true b1 b2) 0, 64), (b2, encT (tN 1), 67), (b1, encT (tW ⟨#[120]⟩), 67)] := by
  refine ((((Has.nil w).put h.h1 (by simp)).put h.h2 ?_).put h.hc ?_).put h.ha ?_
  · intro x hx; simp at hx; subst hx; show b1 ≠ b2; omega
  · intro x hx; simp at hx; rcases hx with rfl | rfl
    · show b2 ≠ bc; omega
    · show b1 ≠ bc; omega
  · intro x hx; simp at hx; rcases hx with rfl | rfl | rfl
    · show bc ≠ ba; omega
    · show b2 ≠ ba; omega
    · show b1 ≠ ba; omega

theorem wpList_store1 {P : Program} {w : World} {ops : Array Oper} {rest : List Oper} {o : Oper} {a : Act} {Q : Exit → Act → World → Prop} (hg : o.guard = none) (p x : Operand) (t : TypeId) (ho : o.op = .store t p x) {A : Addr} (hv : a.eval p = .pointer (some A)) {v u : Value} (hx : a.eval x = v)
    (hi : (P.info? t).map (·.size) = some 1) (h1 : (∃ s, v = .string s) ∨ (∃ b n c, v = .slice b n c)) (hc : w.cell? A = some u) (hf : w.frozen? A = false) (hA : A.add 0 = A)
    (h : wpList P ops Q rest (a.put o.dst undef) (w.setCell A v)) : wpList P ops Q (o :: rest) a w := by
  have hl : (storeVar t A v).run P w = .ok () (w.setCell A v) := by
    cases hq : P.info? t with
    | none => rw [hq] at hi; cases hi
    | some i =>
      rw [hq] at hi
      have hs : i.size = 1 := by simpa using hi
      rcases h1 with ⟨s, rfl⟩ | ⟨b, n, c, rfl⟩ <;> simp [storeVar, sizeOf, typeInfo, hq, hs, storeCells, go_sem, hA, hc, hf]
  refine wpList_plain hg fun K hK => ?_
  unfold Oper.wp execOp
  simp only [ho, hv, hx, Instr.storeAt, Instr.sureAddr, Sem.run_bind, Sem.run_pure, Result.andThen_ok, hl]
  exact hK _ _ h
theorem Lay.grownOwn2 {w0 w w' : World} {L : List (Nat × List Value × Nat)} {t sz n m c g : Nat} {xs : List Value} (h : Lay w0 w L) (hown : w.ownsRow w0.heap.size t sz (.slice (some ⟨g, 0, none⟩) m c) n xs) (hn : (L.map (fun x => x.1)).all (fun b => decide (g ≠ b)) = true) (hg : w.grownBy w' (Value.slice (some ⟨g, 0, none⟩) m c).ownBlock) : Lay w0 w' L :=
  h.grownOwn hown (fun x hx e => by
    have h1 := List.all_eq_true.1 hn x.1 (List.mem_map.2 ⟨x, hx, rfl⟩)
    cases e
    simp at h1) hg
theorem Lay.row' {w0 w : World} {L : List (Nat × List Value × Nat)} (h : Lay w0 w L) (k : Nat) {x : Nat × List Value × Nat} (hx : L[k]? = some x) {g : Nat} (hg : x.1 = g) (c : List Value) : Lay w0 (w.setRow g c.toArray) (L.set k (x.1, c, x.2.2)) := by
  subst hg
  exact ⟨setRow_below h.low (h.ge x (List.mem_of_getElem? hx)), h.has.row k hx c, fun y hy => by
    rcases List.mem_or_eq_of_mem_set hy with hy | rfl
    · exact h.ge y hy
    · exact h.ge x (List.mem_of_getElem? hx)⟩
theorem own_row {w : World} {base n t sz P : Nat} {v : Value} {xs : List Value} (h : w.ownsRow base t sz v n xs) (hne : v.ownBlock ≠ some P) (c : Array Value) : (w.setRow P c).ownsRow base t sz v n xs :=
  World.ownsRow.kept h (row := some P) ⟨rfl, rfl, rfl, by simp [World.setRow], fun i _ hn => setRow_other (by simpa using hn)⟩ (.inr hne)
/-- Several cells written into the middle of a row. -/
def writeAt (cur : Array Value) : Nat → List Value → Array Value
  | _, [] => cur
  | k, v :: vs => writeAt (cur.setIfInBounds k v) (k + 1) vs
theorem run_storeCells_mid {P : Program} (g off : Nat) (t : TypeId) : ∀ (vs : List Value) (i : Nat) (cur : Array Value) (w : World), w.heap[g]? = some (.cells cur t (0, 0)) → off + i + vs.length ≤ cur.size → (∀ v ∈ vs, v.oneCell' = true) →
    (storeCells ⟨g, off, none⟩ vs i).run P w = .ok () (w.setRow g (writeAt cur (off + i) vs))
  | [], i, cur, w, hg, hl, _ => by
    have h := run_storeCells_from (P := P) g t [] cur.size cur w hg (by simp) (by simp)
    have e : (cur.toList.take cur.size ++ []).toArray = cur := by
      rw [List.append_nil, List.take_of_length_le (Nat.le_of_eq (by simp))]
    rw [e] at h
    simpa [storeCells, writeAt] using h
  | v :: rest, i, cur, w, hg, hl, h1 => by
    have hi : off + i < cur.size := by simp at hl; omega
    have hadd : (⟨g, off, none⟩ : Addr).add i = ⟨g, off + i, none⟩ := by unfold Addr.add; split <;> simp_all
    have hcell : w.cell? ⟨g, off + i, none⟩ = some cur[off + i] := by simp [World.cell?, hg, hi]
    have hfro : w.frozen? ⟨g, off + i, none⟩ = false := by simp [World.frozen?, hg]
    have hst : (store ((⟨g, off, none⟩ : Addr).add i) v).run P w = .ok () (w.setRow g (cur.setIfInBounds (off + i) v)) := by
      rw [hadd, run_store P w _ v _ (h1 v (by simp)), hcell]
      simp [hfro, setCell_eq_setRow w g (off + i) cur t (0, 0) v hg]
    have ih := run_storeCells_mid (P := P) g off t rest (i + 1) (cur.setIfInBounds (off + i) v) (w.setRow g (cur.setIfInBounds (off + i) v)) (setRow_heap w g cur _ t _ hg) (by simp at hl ⊢; omega) (fun x hx => h1 x (by simp [hx]))
    simp only [storeCells, Sem.run_bind, hst, Result.andThen_ok, ih, setRow_setRow]
    rfl
theorem wpList_store_mid {P : Program} {w : World} {ops : Array Oper} {rest : List Oper} {o : Oper} {a : Act} {Q : Exit → Act → World → Prop} (hg : o.guard = none) (p x : Operand) (t : TypeId) (ho : o.op = .store t p x) {g off : Nat} (hv : a.eval p = .pointer (some ⟨g, off, none⟩))
    {c c' : Array Value} {ty : TypeId} (hb : w.heap[g]? = some (.cells c ty (0, 0))) (hx : a.eval x = .agg c') (hi : (P.info? t).map (·.size) = some c'.size) (hs : off + c'.size ≤ c.size) (h1 : c'.all (·.oneCell') = true) {c2 : Array Value} (h2 : writeAt c off c'.toList = c2)
    (h : wpList P ops Q rest (a.put o.dst undef) (w.setRow g c2)) : wpList P ops Q (o :: rest) a w := by
  have hl : (Instr.storeAt t (.pointer (some ⟨g, off, none⟩)) (.agg c')).run P w = .ok () (w.setRow g c2) := by
    have hm := run_storeCells_mid (P := P) g off ty c'.toList 0 c w hb (by simpa using hs) (fun v hv => (Array.all_eq_true_iff_forall_mem.1 h1) v (by simpa using hv))
    rw [Nat.add_zero, h2] at hm
    cases hq : P.info? t with
    | none => simp [hq] at hi
    | some i =>
      have hsz : c'.size = i.size := by simp [hq] at hi; omega
      simp only [Instr.storeAt, Instr.sureAddr, Sem.run_bind, Sem.run_pure, Result.andThen]
      simpa [storeVar, sizeOf, typeInfo, hq, Value.cells, hsz] using hm
  refine wpList_plain hg fun K hK => ?_
  unfold Oper.wp execOp
  simp only [ho, hv, hx, Sem.run_bind, Sem.run_pure, Result.andThen_ok, hl]
  exact hK _ _ h
theorem own_ne {w : World} {base n t sz P i : Nat} {v : Value} {xs : List Value} (h : w.ownsRow base t sz v n xs) (hne : v.ownBlock ≠ some P) (u : Value) : (w.setCell ⟨P, i, none⟩ u).ownsRow base t sz v n xs := World.ownsRow.kept h (gset w P i u) (.inr hne)
theorem Lay.at' {w0 w : World} {L : List (Nat × List Value × Nat)} (h : Lay w0 w L) (k : Nat) {x : Nat × List Value × Nat} (hx : L[k]? = some x) {b : Nat} (hb : x.1 = b) : w.heap[b]? = some (.cells x.2.1.toArray x.2.2 (0, 0)) := hb ▸ h.has.at k hx
theorem size_setRow {w : World} {g : Nat} {c : Array Value} : (w.setRow g c).heap.size = w.heap.size := by simp [World.setRow]
theorem cell_at {w : World} {b : Nat} {c : Array Value} {t : TypeId} {f : Nat × Nat} (h : w.heap[b]? = some (.cells c t f)) (j : Nat) {v : Value} (hv : c[j]? = some v) : w.cell? ⟨b, j, none⟩ = some v := by rw [cells_of h]; exact hv
theorem Lay.cells {w0 w : World} {L : List (Nat × List Value × Nat)} (h : Lay w0 w L) (k : Nat) {x : Nat × List Value × Nat} (hx : L[k]? = some x) {b : Nat} (hb : x.1 = b) : ∀ (j : Nat) (u : Value), x.2.1[j]? = some u → w.cell? ((⟨b, 0, none⟩ : Addr).add j) = some u := fun j u hu => by
  rw [Addr.add_lit, Nat.zero_add, ← hb]; exact h.cell k j hx hu
/-- A condition whose tests and inner conditions lie. -/
def ElemOK (w : World) (c : Co) : Prop := TestsAt w c.h.aa c.h.attr ∧ TestsAt w c.h.va c.h.value ∧ CondsAt w c.h.ca c.l
theorem conds_of {w : World} {a : Option Addr} {l : List Co} (he : EltsK encC 7 w a l) (h : ∀ c ∈ l, ElemOK w c) : CondsAt w a l := .mk a l he (fun c hc => (h c hc).1) (fun c hc => (h c hc).2.1) (fun c hc => (h c hc).2.2)
theorem tests_nil {w : World} {a : Option Addr} : TestsAt w a [] := ⟨elts_nil, by simp⟩
theorem flat_seven : ∀ (l : List Co) (i j : Nat) (hi : i < l.length), j < 7 → (l.flatMap encC)[i * 7 + j]? = (encC l[i])[j]?
  | [], _, _, hi, _ => by simp at hi
  | c :: l, 0, j, _, hj => by
    have hl : (encC c).length = 7 := rfl
    rw [List.flatMap_cons, Nat.zero_mul, Nat.zero_add, List.getElem?_append_left (by omega)]; rfl
  | c :: l, i + 1, j, hi, hj => by
    have hl : (encC c).length = 7 := rfl
    rw [List.flatMap_cons, List.getElem?_append_right (by omega), hl, show (i + 1) * 7 + j - 7 = i * 7 + j by omega]
    exact flat_seven l i j (by simpa using hi) hj
theorem elts_row {w : World} {base g n cap : Nat} {l : List Co} (h : w.ownsRow base 64 7 (.slice (some ⟨g, 0, none⟩) n cap) n (l.flatMap encC)) (d : Nat) : EltsK encC 7 w (some ⟨g, d * 7, none⟩) (l.drop d) := by
  intro k hk
  have hlen : (l.flatMap encC).length = n * 7 := h.1
  have hll : (l.flatMap encC).length = l.length * 7 := by
    clear h hlen hk
    induction l with
    | nil => rfl
    | cons c l ih => rw [List.flatMap_cons, List.length_append, ih, List.length_cons]; have hl : (encC c).length = 7 := rfl; omega
  rw [List.length_drop] at hk
  refine ⟨g, d * 7, rfl, (h.lt g rfl).2, fun j c hc => ?_⟩
  have hj : j < 7 := by
    have := (List.getElem?_eq_some_iff.1 hc).1
    exact this
  rw [List.getElem_drop] at hc
  rw [show d * 7 + k * 7 + j = (d + k) * 7 + j by omega, h.cellAt _ (by omega), flat_seven l (d + k) j (by omega) hj]
  exact hc
def tV (rel : Int) (x : ByteArray) : Ts := ⟨rel, x, ⟨0, ⟨#[]⟩, 0⟩, [], none, 0⟩
def chIn (kd : Int) (t1 t2 : Nat) : Ch := ⟨kd, false, ⟨#[115]⟩, [tW ⟨#[112]⟩], some ⟨t1, 0, none⟩, 1, [tV 1 ⟨#[118]⟩], some ⟨t2, 0, none⟩, 1, false, none, 0⟩
def chAll (R : Nat) : Ch := ⟨3, false, ⟨#[]⟩, [], none, 0, [], none, 0, false, some ⟨R, 0, none⟩, 1⟩
def chLast (id : ByteArray) (q : Nat) (vl : List Ts) (va : Option Addr) (vc : Nat) : Ch := ⟨1, false, id, [tW ⟨#[113]⟩], some ⟨q, 0, none⟩, 1, vl, va, vc, false, none, 0⟩
theorem ok_one {w : World} {b1 b2 : Nat} (h1 : w.heap[b1]? = some (.cells (encT (tW ⟨#[120]⟩)).toArray 67 (0, 0))) (h2 : w.heap[b2]? = some (.cells (encT (tN 1)).toArray 67 (0, 0))) : ElemOK w (Co.mk (chOne true b1 b2) []) := ⟨tests_one h1 rfl, tests_one h2 rfl, conds_nil⟩
theorem ok_in {w : World} {kd : Int} {t1 t2 : Nat} (h1 : w.heap[t1]? = some (.cells (encT (tW ⟨#[112]⟩)).toArray 67 (0, 0))) (h2 : w.heap[t2]? = some (.cells (encT (tV 1 ⟨#[118]⟩)).toArray 67 (0, 0))) : ElemOK w (Co.mk (chIn kd t1 t2) []) := ⟨tests_one h1 rfl, tests_one h2 rfl, conds_nil⟩
theorem ok_last {w : World} {id : ByteArray} {q vc : Nat} {vl : List Ts} {va : Option Addr} (h1 : w.heap[q]? = some (.cells (encT (tW ⟨#[113]⟩)).toArray 67 (0, 0))) (h2 : TestsAt w va vl) : ElemOK w (Co.mk (chLast id q vl va vc) []) := ⟨tests_one h1 rfl, h2, conds_nil⟩
def acV : Ac := { acOne with at_ := ⟨⟨#[118]⟩, ⟨0, ⟨#[]⟩, 0⟩⟩ }
def prIn (g cap ba : Nat) (l : List Co) (x : Ac) : Pr := ⟨⟨#[97]⟩, l, some ⟨g, 0, none⟩, cap, [x], some ⟨ba, 0, none⟩, 1⟩
theorem cmp_sv : cmpS ⟨#[115]⟩ ⟨#[118]⟩ = -1 := by simp [cmpS, Op.bytesLess]
theorem cmp_vs : cmpS ⟨#[118]⟩ ⟨#[115]⟩ = 1 := by simp [cmpS, Op.bytesLess]
theorem cmp_vv : cmpS ⟨#[118]⟩ ⟨#[118]⟩ = 0 := by simp [cmpS, Op.bytesLess]
theorem okin_three {w : World} {a b c : Co} (h1 : ElemOK w a) (h2 : ElemOK w b) (h3 : ElemOK w c) : ∀ x ∈ [a, b, c], ElemOK w x := fun x hx => by
  simp only [List.mem_cons, List.not_mem_nil, or_false] at hx
  rcases hx with rfl | rfl | rfl
  · exact h1
  · exact h2
  · exact h3
theorem ok_all {w : World} {t1 t2 R : Nat} (hR : w.heap[R]? = some (.cells (encC (Co.mk (chIn 1 t1 t2) [])).toArray 64 (0, 0))) (h1 : w.heap[t1]? = some (.cells (encT (tW ⟨#[112]⟩)).toArray 67 (0, 0))) (h2 : w.heap[t2]? = some (.cells (encT (tV 1 ⟨#[118]⟩)).toArray 67 (0, 0))) : ElemOK w (Co.mk (chAll R) [Co.mk (chIn 1 t1 t2) []]) :=
  ⟨tests_nil, tests_nil, conds_of (elts_one (E := encC) (x := Co.mk (chIn 1 t1 t2) []) hR) (by
    intro c hc
    obtain rfl : c = Co.mk (chIn 1 t1 t2) [] := by simpa [Co.l] using hc
    exact ok_in h1 h2)⟩
end Go.Proofs.Ytccphigpobnjmaa
