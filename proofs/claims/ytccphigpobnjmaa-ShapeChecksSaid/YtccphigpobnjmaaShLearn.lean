/-
  The scopes of package shape: learn. No condition but a bound on sizes.
-/
import Derived.Maps.AppendAt
import Derived.Deep.AppendLies
import Derived.Test.YtccphigpobnjmaaShScope
import Derived.Test.YtccphigpobnjmaaShShape
namespace Go.Proofs.Ytccphigpobnjmaa
set_option linter.unusedVariables false
open Go.RowKit
/-- A scope with the row of its own: ow is what became known in it, in order. -/
structure ScOwn (w : World) (base b s : Nat) (xs : List ByteArray) (v : Value) (ow : List ByteArray) : Prop where
  sc : ScopeAt w b s xs v
  row : w.ownsRow base 9 1 v ow.length (ow.map .string)
  hb : base ≤ b
  hs : base ≤ s
  le : ow.length ≤ xs.length
abbrev Stt := List ByteArray × List ByteArray
def learnS (st : Stt) (x : ByteArray) : Stt := (ins cmpS x st.1, if has cmpS x st.1 = true then st.2 else st.2 ++ [x])
theorem infoSTR : (Try.prog.info? 9).map (fun i => (i.zero, i.size, i.bytes)) = some (some (.string ⟨#[]⟩), 1, 16) := by kernel_rfl
theorem ScOwn.mono {w w' : World} {base b s : Nat} {xs : List ByteArray} {v : Value} {ow : List ByteArray} (h : ScOwn w base b s xs v ow) (hb : Below w.heap.size w w') : ScOwn w' base b s xs v ow :=
  ⟨⟨(hb.block _ (heap_lt h.sc.1)).trans h.sc.1, IsSet.mono h.sc.2 hb⟩, h.row.kept (row := none) (Below.grownN hb) (by cases h' : v.ownBlock <;> simp), h.hb, h.hs, h.le⟩
theorem ScOwn.apart {w : World} {base b s : Nat} {xs : List ByteArray} {v : Value} {ow : List ByteArray} (h : ScOwn w base b s xs v ow) : b ≠ s ∧ (∀ g, v.ownBlock = some g → g ≠ b ∧ g ≠ s ∧ ∃ cur, w.heap[g]? = some (.cells cur 9 (0, 0))) := by
  obtain ⟨p, T, hs, -⟩ := h.sc.2
  have hb := h.sc.1
  refine ⟨fun e => ?_, fun g hg => ?_⟩
  · subst e; rw [hs] at hb; simp at hb
  · obtain ⟨-, ⟨hv, -⟩ | ⟨g', cap, cur, hv, -, hgb, -⟩⟩ := h.row
    · rw [hv] at hg; cases hg
    · rw [hv] at hg; cases hg
      refine ⟨fun e => ?_, fun e => ?_, cur, hgb⟩
      · subst e; rw [hgb] at hb; simp at hb
      · subst e; rw [hgb] at hs; simp at hs
/-- Behind the set's Put. -/
theorem ScOwn.put {w w' : World} {base b s : Nat} {xs xs' : List ByteArray} {v : Value} {ow : List ByteArray} (h : ScOwn w base b s xs v ow) (hg : w.grownBy w' (some s)) (hs : SetV w' s xs') (hle : xs.length ≤ xs'.length) : ScOwn w' base b s xs' v ow := by
  obtain ⟨h1, h2⟩ := h.apart
  refine ⟨⟨(hg.block b (heap_lt h.sc.1) (by simpa using h1)).trans h.sc.1, hs⟩, h.row.kept hg ?_, h.hb, h.hs, Nat.le_trans h.le hle⟩
  cases hv : v.ownBlock with
  | none => exact .inl rfl
  | some g => exact .inr (by have := (h2 g hv).2.1; simpa using this)
/-- What a scope's own changes touch: its block, its set, its row. -/
structure ScTouch (b s : Nat) (v v' : Value) (w w' : World) : Prop where
  size : w.heap.size ≤ w'.heap.size
  keep : ∀ k, k < w.heap.size → k ≠ b → k ≠ s → v.ownBlock ≠ some k → w'.heap[k]? = w.heap[k]?
  own : ∀ g, v'.ownBlock = some g → v.ownBlock = some g ∨ w.heap.size ≤ g
theorem ScTouch.trans {b s : Nat} {v v' v2 : Value} {w w' w2 : World} (h : ScTouch b s v v' w w') (k : ScTouch b s v' v2 w' w2) : ScTouch b s v v2 w w2 := by
  refine ⟨Nat.le_trans h.size k.size, fun i hi h1 h2 h3 => (k.keep i (Nat.lt_of_lt_of_le hi h.size) h1 h2 (fun e => ?_)).trans (h.keep i hi h1 h2 h3), fun g hg => ?_⟩
  · rcases h.own i e with h | h
    · exact h3 h
    · omega
  · rcases k.own g hg with h4 | h4
    · exact h.own g h4
    · exact .inr (Nat.le_trans h.size h4)
theorem ScTouch.ofBelow {b s : Nat} {v : Value} {w w' : World} (h : Below w.heap.size w w') : ScTouch b s v v w w' := ⟨h.size, fun k hk _ _ _ => h.block k hk, fun _ h => .inl h⟩
theorem ScTouch.ofPut {b s : Nat} {v : Value} {w w' : World} (h : w.grownBy w' (some s)) : ScTouch b s v v w w' := ⟨h.size, fun k hk _ h2 _ => h.block k hk (by simpa using h2), fun _ h => .inl h⟩
theorem set_snd {w : World} {b : Nat} {v r u : Value} {t : TypeId} {f : Nat × Nat} (h : w.heap[b]? = some (.cells #[v, r] t f)) : (w.setCell ⟨b, 1, none⟩ u).heap[b]? = some (.cells #[v, u] t f) := by
  simp [World.setCell, Array.getElem?_modify, h]
/-- Behind the append and the store of the new slice. -/
theorem ScOwn.grew {w w1 : World} {base b s : Nat} {xs : List ByteArray} {v v' : Value} {ow : List ByteArray} {x : ByteArray} {tmp : Obj} (h : ScOwn w base b s xs v ow) (hl : ow.length + 1 ≤ xs.length)
    (hown : w1.ownsRow base 9 1 v' (ow.length + 1) (ow.map .string ++ [.string x])) (hg : (w.alloc tmp).grownBy w1 v.ownBlock) (hor : v'.ownBlock = v.ownBlock ∨ v'.ownBlock = some (w.alloc tmp).heap.size) : ScOwn (w1.setCell ⟨b, 1, none⟩ v') base b s xs v' (ow ++ [x]) ∧ Below base w (w1.setCell ⟨b, 1, none⟩ v') ∧ ScTouch b s v v' w (w1.setCell ⟨b, 1, none⟩ v') := by
  have hA := h.mono (w' := w.alloc tmp) (by go_grown)
  obtain ⟨h1, h2⟩ := hA.apart
  have hbb : w1.heap[b]? = some (.cells #[.pointer (some ⟨s, 0, none⟩), v] 115 (0, 0)) := (hg.block b (heap_lt hA.sc.1) (fun e => (h2 b e.symm).1 rfl)).trans hA.sc.1
  have hset : SetV w1 s xs := by
    cases hv : v.ownBlock with
    | none => rw [hv] at hg; exact IsSet.mono hA.sc.2 ⟨hg.os, hg.tape, hg.output, hg.size, fun k hk => hg.block k hk (by simp)⟩
    | some g =>
      rw [hv] at hg
      obtain ⟨-, n2, cur, hc⟩ := h2 g hv
      exact IsSet.but hA.sc.2 hg hc (by decide) (Ne.symm n2)
  have hbase : base ≤ w.heap.size := Nat.le_trans h.hb (Nat.le_of_lt (heap_lt h.sc.1))
  refine ⟨⟨⟨set_snd hbb, IsSet.but hset (gset w1 b 1 v') hbb (by decide) (Ne.symm h1)⟩, ?_, h.hb, h.hs, by simpa using hl⟩, ?_, ?_⟩
  · refine World.ownsRow.kept (w := w1) (by simpa using hown) (gset w1 b 1 v') ?_
    cases hv : v'.ownBlock with
    | none => exact .inl rfl
    | some g =>
      refine .inr fun e => ?_
      cases e
      obtain ⟨-, ⟨hv', -⟩ | ⟨g', cap, cur, hv', -, hgb, -⟩⟩ := hown
      · rw [hv'] at hv; cases hv
      · rw [hv'] at hv; cases hv; rw [hgb] at hbb; simp at hbb
  · have hB1 : Below base w (w.alloc tmp) := (Below.refl _ _).alloc hbase _
    have hB2 : Below base (w.alloc tmp) w1 := ⟨hg.os, hg.tape, hg.output, hg.size, fun k hk => hg.block k (by simp; omega) (fun e => by have := (hA.row.lt k e.symm).1; omega)⟩
    exact (hB1.trans hB2).setCell (by show base ≤ b; exact h.hb) _
  · refine ⟨by have := hg.size; simp at this ⊢; omega, fun k hk n1 n2 n3 => ?_, fun g hg' => ?_⟩
    · rw [Below.heap_setCell _ _ _ _ (by show k ≠ b; exact n1), hg.block k (by simp; omega) (fun e => n3 e.symm), Below.heap_alloc _ _ _ hk]
    · rcases hor with h3 | h3
      · exact .inl (h3 ▸ hg')
      · rw [h3] at hg'; simp at hg'; exact .inr (by omega)
theorem insV_le (x : ByteArray) : ∀ xs : List ByteArray, xs.length ≤ (ins cmpS x xs).length
  | [] => by simp [ins]
  | y :: ys => by
    have := insV_le x ys
    unfold ins
    split
    · simp
    · split
      · simp
      · simpa using this
theorem insV_new {x : ByteArray} : ∀ {xs : List ByteArray}, has cmpS x xs = false → (ins cmpS x xs).length = xs.length + 1
  | [], _ => by simp [ins]
  | y :: ys, h => by
    rw [has_cons] at h
    simp only [Bool.or_eq_false_iff, beq_eq_false_iff_ne] at h
    have := insV_new h.2
    unfold ins
    split
    · simp
    · rw [if_neg h.1]; simpa using this
set_option maxRecDepth 100000 in
set_option maxHeartbeats 2000000 in
theorem learn_any (w : World) (base b s : Nat) (xs : List ByteArray) (v : Value) (ow : List ByteArray) (x : ByteArray) (h : ScOwn w base b s xs v ow) (hz : xs.length ≤ 900000) :
    Calls Try.prog 118 #[.pointer (some ⟨b, 0, none⟩), .string x] w fun e w' => e = .returned (.tuple #[]) ∧ Below base w w' ∧ ∃ v', ScOwn w' base b s (learnS (xs, ow) x).1 v' (learnS (xs, ow) x).2 ∧ ScTouch b s v v' w w' := by
  have h0 : w.cell? ⟨b, 0, none⟩ = some (.pointer (some ⟨s, 0, none⟩)) := by rw [cells_of h.sc.1]; rfl
  have hput := put_anyV w s x xs h.sc.2 (by omega)
  have HP := Lib.hid hput
  have HH := Lib.hid h
  have hbs := h.hb
  have hss := h.hs
  clear hput h
  obtain ⟨i0, hi, hz0, hz1, hz2⟩ := info_parts infoSTR
  cases hq : has cmpS x xs with
  | true =>
    have HL := Lib.hid (show learnS (xs, ow) x = (ins cmpS x xs, ow) by simp [learnS, hq])
    go_enter Try.func118, Try.ntmps118
    go_wp2_with (go_at_call 107; refine HP.out.mono ?_; rintro e w1 ⟨rfl, hg, hset⟩; rw [hq])
    go_end0
    refine ⟨rfl, ⟨hg.os, hg.tape, hg.output, hg.size, fun k hk => hg.block k (by have := heap_lt HH.out.sc.1; omega) (by simp; omega)⟩, v, ?_⟩
    rw [HL.out]
    exact ⟨HH.out.put hg hset (insV_le x xs), ScTouch.ofPut hg⟩
  | false =>
    have HL := Lib.hid (show learnS (xs, ow) x = (ins cmpS x xs, ow ++ [x]) by simp [learnS, hq])
    have hle := HH.out.le
    have hlen := insV_new hq
    have hbl := heap_lt HH.out.sc.1
    go_enter Try.func118, Try.ntmps118
    go_wp2_with (first
      | (go_at_call 107; refine HP.out.mono ?_; rintro e w1 ⟨rfl, hg, hset⟩; rw [hq]; have H1 := Lib.hid (HH.out.put hg hset (insV_le x xs)); have HG := Lib.hid hg; have d1 : w1.cell? ⟨b, 1, none⟩ = some v := (by rw [cells_of H1.out.sc.1]; rfl); have hz3 := hg.size; clear hset hg)
      | (at_builtin; refine wpList_append_own_at _ rfl (.tmp 14) (.tmp 16) 33 rfl base 9 i0 (.string ⟨#[]⟩) 1 16 Try.underlying33 hi hz0 hz1 hz2 rfl (by decide) v _ _ rfl (H1.out.row.alloc _) ⟨w1.heap.size, 0, none⟩ 1 1 [.string x] rfl rfl (by intro j u hj; rw [Addr.add_lit, Nat.zero_add, cells_of (new_at rfl)]; simpa using hj) (by simp [Value.oneCell']) (by unfold maxLen; omega) (by omega) (by simp; omega) ?_; intro v' w2 hown hg2 _ hor; obtain ⟨g', cap', rfl⟩ := ownsRow_succ hown; have H2 := Lib.hid (H1.out.grew (x := x) (by omega) hown hg2 hor); have hbb : w2.heap[b]? = some (.cells #[.pointer (some ⟨s, 0, none⟩), v] 115 (0, 0)) := ((hg2.block b (by simp; omega) (fun e => ((H1.out.mono (w' := w1.alloc (.cells #[.string x] 9)) (by go_grown)).apart.2 b e.symm).1 rfl)).trans (H1.out.mono (w' := w1.alloc (.cells #[.string x] 9)) (by go_grown)).sc.1); have c21 : w2.cell? ⟨b, 1, none⟩ = some v := (by rw [cells_of hbb]; rfl); have f21 : w2.frozen? ⟨b, 1, none⟩ = false := frozen_of hbb; clear hown hg2 hor hbb))
    go_end0
    have hg := HG.out
    have hb1 : Below base w w1 := ⟨hg.os, hg.tape, hg.output, hg.size, fun k hk => hg.block k (by omega) (by simp; omega)⟩
    exact ⟨rfl, hb1.trans H2.out.2.1, _, by rw [HL.out]; exact H2.out.1, (ScTouch.ofPut hg).trans H2.out.2.2⟩
end Go.Proofs.Ytccphigpobnjmaa
