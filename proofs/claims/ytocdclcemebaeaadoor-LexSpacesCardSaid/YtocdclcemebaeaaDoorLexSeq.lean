/-
  Tokens of a text as an iterator. What the listed variables give is a premise.
-/
import Derived.RangeFuncNested
import Derived.RangeFuncBound
import Derived.RangeFuncCalls
import Derived.RangeFuncLeaves
import Derived.RangeFuncBox
import Derived.Shelf.Abstract
import Derived.Shelf.RegionOpen
import Derived.WalkKit
import Derived.WalkSpells
import Derived.OwnWalkIn
import Derived.TacticsInMore
import Derived.LoopNIn
import Derived.LoopIn
import Derived.BigGuardIn
import Derived.Test.YtocdclcemebaeaaDoorLexTok
import Derived.Test.YtocdclcemebaeaaDoorLexMath2
import Derived.Test.YtocdclcemebaeaaDoorKitSeq
namespace Go.Proofs.YtocdclcemebaeaaDoor
set_option linter.unusedVariables false
open Go.RowKit Go.Shelf
attribute [local go_sem] Oper.semAt_some
/-- What a loop's body may write: the variable's box at B and the row that it holds. -/
def OBox (B : Nat) (W : World) (k : Nat) : Prop := k = B ∨ ∃ v, W.cell? ⟨B, 0, none⟩ = some v ∧ v.ownBlock = some k
structure KT (B B0 : Nat) (W W' : World) : Prop where
  size : W.heap.size ≤ W'.heap.size
  block : ∀ k c t f, W.heap[k]? = some (.cells c t f) → ¬ OBox B W k → W'.heap[k]? = some (.cells c t f)
  own : ∀ k, k < W.heap.size → OBox B W' k → OBox B W k
  inn : (∀ k, OBox B W k → k < W.heap.size) → ∀ k, OBox B W' k → k < W'.heap.size
  below : Below B0 W W'
theorem KT.trans {B B0 : Nat} {X Y Z : World} (h : KT B B0 X Y) (k : KT B B0 Y Z) : KT B B0 X Z :=
  ⟨Nat.le_trans h.size k.size, fun i c t f hi hn => k.block i c t f (h.block i c t f hi hn) (fun ho => hn (h.own i (heap_lt hi) ho)), fun i hi ho => h.own i hi (k.own i (Nat.lt_of_lt_of_le hi h.size) ho), fun hi => k.inn (h.inn hi), h.below.trans k.below⟩
theorem OBox.below {B : Nat} {W W' : World} (hB : B < W.heap.size) (h : Below W.heap.size W W') {k : Nat} (ho : OBox B W' k) : OBox B W k := by
  rcases ho with ho | ⟨v, h1, h2⟩
  · exact .inl ho
  · exact .inr ⟨v, (h.cell (p := ⟨B, 0, none⟩) hB).symm.trans h1, h2⟩
theorem KT.ofBelow {B B0 : Nat} {W W' : World} (hB : B < W.heap.size) (hB0 : B0 ≤ W.heap.size) (h : Below W.heap.size W W') : KT B B0 W W' :=
  ⟨h.size, fun k c t f hk _ => (h.block k (heap_lt hk)).trans hk, fun k _ ho => ho.below hB h, fun hi k ho => Nat.lt_of_lt_of_le (hi k (ho.below hB h)) h.size, h.mono hB0⟩
theorem KT.put {B B0 : Nat} {W : World} {l : Nat} {o o' : Obj} (hB : B < l) (hB0 : B0 ≤ l) (h : W.heap[l]? = some o) (hc : o.isCells = false) : KT B B0 W (W.putObj l o') := by
  have hcell : (W.putObj l o').cell? ⟨B, 0, none⟩ = W.cell? ⟨B, 0, none⟩ := World.cell?_of_block (w := W) (a := ⟨B, 0, none⟩) (World.putObj_heap_other (show B ≠ l by omega) : (W.putObj l o').heap[B]? = W.heap[B]?)
  have ho : ∀ k, OBox B (W.putObj l o') k → OBox B W k := fun k ho => by
    rcases ho with ho | ⟨v, h1, h2⟩
    · exact .inl ho
    · exact .inr ⟨v, hcell ▸ h1, h2⟩
  refine ⟨by simp, fun k c t f hk _ => ?_, fun k _ => ho k, fun hi k hk => by have := hi k (ho k hk); simpa using this, ?_⟩
  · rw [World.putObj_heap_other (by rintro rfl; rw [hk] at h; cases h; cases hc)]; exact hk
  · exact ⟨rfl, rfl, rfl, by simp, fun i hi => World.putObj_heap_other (by omega)⟩
/-- What the iterator holds between two yields. -/
structure AtTok (B B0 Bt : Nat) (t : ByteArray) (w0 wr : World) : Prop where
  txt : wr.heap[Bt]? = some (.cells #[.string t] 9 (0, 0))
  inn : ∀ k, OBox B wr k → k < wr.heap.size
  not : ¬ OBox B wr Bt
  low : Below B0 w0 wr
  b : B < wr.heap.size
  b0 : B0 ≤ wr.heap.size
theorem AtTok.below {B B0 Bt : Nat} {t : ByteArray} {w0 wr w' : World} (h : AtTok B B0 Bt t w0 wr) (hb : Below wr.heap.size wr w') : AtTok B B0 Bt t w0 w' :=
  ⟨(hb.block _ (heap_lt h.txt)).trans h.txt, fun k ho => Nat.lt_of_lt_of_le (h.inn k (ho.below h.b hb)) hb.size, fun ho => h.not (ho.below h.b hb), h.low.trans (hb.mono h.b0), Nat.lt_of_lt_of_le h.b hb.size, Nat.le_trans h.b0 hb.size⟩
theorem AtTok.step {B B0 Bt : Nat} {t : ByteArray} {w0 wr w' : World} (h : AtTok B B0 Bt t w0 wr) (k : KT B B0 wr w') : AtTok B B0 Bt t w0 w' :=
  ⟨k.block _ _ _ _ h.txt h.not, k.inn h.inn, fun ho => h.not (k.own _ (heap_lt h.txt) ho), h.low.trans k.below, Nat.lt_of_lt_of_le h.b k.size, Nat.le_trans h.b0 k.size⟩
theorem ltokens_any (t : ByteArray) (w : World) : Calls Tryd.prog 14 #[.string t] w fun e w' => e = .returned (.func (.func 21) #[] #[.pointer (some ⟨w.heap.size, 0, none⟩)]) ∧ w' = w.alloc (.cells #[.string t] 9) := by
  go_enter Tryd.func14, Tryd.ntmps14
  go_wp2
  go_ret
  exact ⟨rfl, rfl⟩
/-- One token: where it begins, its piece, itself. -/
theorem tok_step (t : ByteArray) (k : Nat) (hk : k ≤ t.size) : ∃ (a sz : Nat) (kd : Int) (r r2 p : ByteArray) (z : Sy), a = k + gapL false (t.data.toList.drop k) ∧ a ≤ t.size ∧ r = t.extract k t.size ∧ r2 = t.extract a t.size ∧ p = r2.extract 0 sz ∧
    gapL false r.data.toList = a - k ∧ r.size ≤ t.size ∧ r2.size ≤ t.size ∧ kd = (cutL r2.data.toList).1 ∧ sz = (cutL r2.data.toList).2 ∧ p.size = sz ∧ a + sz ≤ t.size ∧ z = holdL kd p.data.toList a ∧ (kd = 3 → 2 ≤ p.size) ∧
    lexFrom k (t.data.toList.drop k) = (if z.k = 5 ∨ z.k = 6 then [z] else z :: lexFrom (a + sz) (t.data.toList.drop (a + sz))) ∧ (z.k ≠ 5 → 1 ≤ sz) := by
  have hlen : t.data.toList.length = t.size := by simp
  obtain ⟨g, hg⟩ : ∃ g, g = gapL false (t.data.toList.drop k) := ⟨_, rfl⟩
  have hgl := gap_le false (t.data.toList.drop k)
  rw [← hg, List.length_drop, hlen] at hgl
  obtain ⟨r2, hr2⟩ : ∃ r2, r2 = t.extract (k + g) t.size := ⟨_, rfl⟩
  have hr2l : r2.data.toList = t.data.toList.drop (k + g) := by rw [hr2, Lib.extract_to_end]
  have hr2s : r2.size = t.size - (k + g) := by rw [hr2]; simp
  obtain ⟨sz, hsz⟩ : ∃ sz, sz = (cutL r2.data.toList).2 := ⟨_, rfl⟩
  have hcl := cut_le r2.data.toList
  rw [← hsz] at hcl
  have hcl2 : sz ≤ r2.size := by have : r2.data.toList.length = r2.size := (by simp); omega
  obtain ⟨p, hp⟩ : ∃ p, p = r2.extract 0 sz := ⟨_, rfl⟩
  have hpl : p.data.toList = r2.data.toList.take sz := by rw [hp, Lib.extract_data, List.drop_zero, Nat.sub_zero]
  have hps : p.size = sz := by rw [hp]; simp; omega
  have htk : tokL (k + g) (t.data.toList.drop (k + g)) = holdL (cutL r2.data.toList).1 p.data.toList (k + g : Nat) := by
    unfold tokL; rw [hpl, hsz, ← hr2l]
  refine ⟨k + g, sz, _, _, r2, p, holdL (cutL r2.data.toList).1 p.data.toList (k + g : Nat), by rw [hg], by omega, rfl, hr2, hp, ?_, ?_, by omega, rfl, hsz, hps, by omega, rfl, fun h3 => ?_, ?_, fun h5 => ?_⟩
  · rw [Lib.extract_to_end, ← hg]; omega
  · simp
  · obtain ⟨h4, h6⟩ := cut_var h3
    obtain ⟨r, m, -, -, -, e, -⟩ := var_form h4
    omega
  · rw [lex_step, ← hg, List.drop_drop, htk, hr2l.symm, ← hsz, hr2l, List.drop_drop]
  · rw [hsz]
    apply cut_pos
    intro e
    apply h5
    rw [← htk, ← hr2l, e]; rfl
set_option maxRecDepth 100000 in
set_option maxHeartbeats 8000000 in
theorem tok1_in (n l B B0 Bt : Nat) (t : ByteArray) (ht : t.size ≤ 1000000) (w0 : World) (hL : LexAt w0) (hB0 : B0 = w0.heap.size) (xs : List Sy) (hxs : xs = lexL t.data.toList) (J Jx : List Sy → World → Prop) (W : World)
    (hY : ∀ pre x W1, J pre W1 → pre.length < xs.length → YieldAt Fence.wide (n - 1) Tryd.prog l #[.agg #[.int .i64 x.k, .string x.t, .int .i64 x.n]] W1 fun e W' =>
      (e = .returned (.bool true) ∧ J (pre ++ [x]) W' ∧ KT B B0 W1 W') ∨ (e = .returned (.bool false) ∧ Jx (pre ++ [x]) W'))
    (hJ : AbidesFrom W.heap.size J) (hA : AtTok B B0 Bt t w0 W) (h0 : J [] W) :
    CallsIn Fence.wide n Tryd.prog 21 #[.func (.yield l) #[] #[], .pointer (some ⟨Bt, 0, none⟩)] W fun e W' => (∃ v, e = .returned v) ∧
      ((∃ ys, ys = xs ∧ J ys W') ∨ (∃ pre, pre <+: xs ∧ Jx pre W')) := by
  have hJb : ∀ pre X Y, W.heap.size ≤ X.heap.size → J pre X → Below X.heap.size X Y → J pre Y := fun pre X Y _ hj hb => hJ _ _ _ none hj ⟨hb.os, hb.tape, hb.output, hb.size, fun k hk _ => hb.block k hk⟩ (by simp)
  have HJ := Lib.hid hJb
  have HY := Lib.hid hY
  have HL := Lib.hid hL
  have HXS := Lib.hid hxs
  have HA := Lib.hid hA
  have H0 := Lib.hid h0
  clear hJb hJ hY hL hxs hA h0
  refine callsIn_of_wp Tryd.func21 rfl trivial ?_ rfl
  simp only [Tryd.ntmps21, List.size_toArray, List.length_cons, List.length_nil, Nat.reduceAdd, Nat.reduceSub, Array.replicate_succ, Array.replicate_zero, List.push_toArray, List.append_toArray, List.nil_append, List.cons_append]
  gi_wp2_with fail
  gi_loopw [3] (fun i wr => ∃ (k : Nat) (pre : List Sy), k ≤ t.size ∧ i = .int .i64 k ∧ Hid (J pre wr ∧ xs = pre ++ lexFrom k (t.data.toList.drop k) ∧ AtTok B B0 Bt t w0 wr ∧ W.heap.size ≤ wr.heap.size)) (fun i _ => t.size - (intOf i).toNat)
  case atStart => exact ⟨0, [], Nat.zero_le _, rfl, H0.out, by rw [List.nil_append, List.drop_zero]; exact HXS.out, HA.out, Nat.le_refl _⟩
  case round =>
    obtain ⟨k, pre, hk, rfl, hI⟩ := hrel
    obtain ⟨a, sz, kd, r, r2, p, z, ha, hat, hr, hr2, hp, hgap, hrs, hr2s, hkd, hsz, hps, hasz, hz, h3, hlex, hpos⟩ := tok_step t k hk
    have cT : wr.cell? ⟨Bt, 0, none⟩ = some (.string t) := by rw [cells_of hI.out.2.2.1.txt]; rfl
    have hLr : LexAt wr := HL.out.mono (hB0 ▸ hI.out.2.2.1.low)
    have hgp := callsIn_wide (n := n - 1).2 (lgap_any r wr (by omega))
    rw [hgap] at hgp
    have hcu := callsIn_wide (n := n - 1).2 (lcut_any r2 wr (by omega) (hLr.signs _ (Below.refl _ _)) hLr.signs kd sz hkd hsz)
    have htk := fun w2 (hb : Below wr.heap.size wr w2) => callsIn_wide (n := n - 1).2 (token_any kd p a w2 (by omega) h3 (hLr.mono hb) z hz)
    have hsum : (k : Int) + ((a - k : Nat) : Int) = (a : Int) := by omega
    have hki : (k : Int) ≤ (t.size : Int) := by omega
    have hai : (a : Int) ≤ (t.size : Int) := by omega
    unfold CutOutL at hcu
    have HG := Lib.hid hgp
    have HC := Lib.hid hcu
    have HT := Lib.hid htk
    have HLEX := Lib.hid hlex
    have HR := Lib.hid hr
    have HR2 := Lib.hid hr2
    have HP := Lib.hid hp
    have HPOS := Lib.hid hpos
    clear hgp hcu htk hlex hr hr2 hp hpos hz hkd hsz hgap hrs hr2s h3 hLr ha
    gi_wp2_with fail
    refine ⟨trivial, fun h => (by cases h), ?_⟩
    rw [← HR.out]
    refine HG.out.mono ?_
    rintro e w' ⟨rfl, rfl⟩
    gi_wp2_with fail
    refine ⟨trivial, fun h => (by cases h), ?_⟩
    rw [← HR2.out]
    refine HC.out.mono ?_
    rintro e w2 ⟨rfl, hb2⟩
    rw [← HP.out]
    have HB2 := Lib.hid hb2
    clear hb2
    gi_wp2_with fail
    refine ⟨trivial, fun h => (by cases h), ?_⟩
    refine (HT.out _ HB2.out).mono ?_
    rintro e w3 ⟨rfl, hb3⟩
    have hb3' := HB2.out.trans (hb3.mono HB2.out.size)
    obtain ⟨W4, hW4⟩ : ∃ W4, W4 = w3.alloc (.cells #[.int .i64 z.k, .string z.t, .int .i64 z.n] 30) := ⟨_, rfl⟩
    have hb4 : Below wr.heap.size wr W4 := by rw [hW4]; exact hb3'.alloc hb3'.size _
    have hx4 : W4.heap[w3.heap.size]? = some (.cells #[.int .i64 z.k, .string z.t, .int .i64 z.n] 30 (0, 0)) := by rw [hW4]; exact new_at rfl
    have hA4 := hI.out.2.2.1.below hb4
    have hJ4 := HJ.out _ _ _ hI.out.2.2.2 hI.out.1 hb4
    have hsz4 : W.heap.size ≤ W4.heap.size := Nat.le_trans hI.out.2.2.2 hb4.size
    have hnx : ¬ OBox B W4 w3.heap.size := fun ho => by
      have h1 := hI.out.2.2.1.inn _ (ho.below hI.out.2.2.1.b hb4)
      have h2 := hb3'.size
      omega
    have hxs := hI.out.2.1
    have hne := lex_ne k (t.data.toList.drop k)
    have hlt : pre.length < xs.length := by
      rw [hxs, List.length_append]
      cases hq : lexFrom k (t.data.toList.drop k) with
      | nil => exact absurd hq hne
      | cons => simp
    obtain ⟨c0, c1, c2, -, -, -, -⟩ := box_cells hx4 (Below.refl _ _)
    obtain ⟨fn, tmps, assign, body, hy, hR⟩ := HY.out pre z W4 hJ4 hlt
    have hR2 := hR.mono (R' := fun e W' => (e = .returned (.bool true) ∧ W'.cell? ⟨w3.heap.size, 0, none⟩ = some (.int .i64 z.k) ∧ Hid (J (pre ++ [z]) W' ∧ AtTok B B0 Bt t w0 W' ∧ W.heap.size ≤ W'.heap.size)) ∨ (e = .returned (.bool false) ∧ Hid (Jx (pre ++ [z]) W'))) (by
      rintro e W' (⟨he, hj, hk⟩ | ⟨he, hj⟩)
      · refine .inl ⟨he, ?_, hj, hA4.step hk, Nat.le_trans hsz4 hk.size⟩
        have h := hk.block _ _ _ _ hx4 hnx
        rw [cells_of h]; rfl
      · exact .inr ⟨he, hj⟩)
    rw [HLEX.out] at hxs
    have HXS2 := Lib.hid hxs
    clear hR hb3 hb3' hb4 hx4 hA4 hJ4 hsz4 hnx hxs hne hlt HG HC HT HLEX HB2
    subst hW4
    by_cases k5 : z.k = 5
    · have b5 : (z.k == 5) = true := by simp [k5]
      have HE : Hid (xs = pre ++ [z]) := Lib.hid (by rw [HXS2.out, if_pos (.inl k5)])
      clear k5
      gi_wp2_with ((try refine ⟨fun h => (by cases h), ?_⟩); refine hR2.mono ?_; clear hR2; rintro e W5 (⟨rfl, d0, h5⟩ | ⟨rfl, h5⟩))
      · refine bodyPost_ret (results_none rfl _ _ _) rfl ?_
        exact ⟨⟨_, rfl⟩, .inl ⟨_, rfl, by rw [HE.out]; exact h5.out.1⟩⟩
      · refine bodyPost_ret (results_none rfl _ _ _) rfl ?_
        exact ⟨⟨_, rfl⟩, .inr ⟨_, by rw [HE.out]; exact List.prefix_refl _, h5.out⟩⟩
    · have b5 : (z.k == 5) = false := by simp [k5]
      by_cases k6 : z.k = 6
      · have b6 : (z.k == 6) = true := by simp [k6]
        have HE : Hid (xs = pre ++ [z]) := Lib.hid (by rw [HXS2.out, if_pos (.inr k6)])
        clear k5 k6
        gi_wp2_with ((try refine ⟨fun h => (by cases h), ?_⟩); refine hR2.mono ?_; clear hR2; rintro e W5 (⟨rfl, d0, h5⟩ | ⟨rfl, h5⟩))
        · refine bodyPost_ret (results_none rfl _ _ _) rfl ?_
          exact ⟨⟨_, rfl⟩, .inl ⟨_, rfl, by rw [HE.out]; exact h5.out.1⟩⟩
        · refine bodyPost_ret (results_none rfl _ _ _) rfl ?_
          exact ⟨⟨_, rfl⟩, .inr ⟨_, by rw [HE.out]; exact List.prefix_refl _, h5.out⟩⟩
      · have b6 : (z.k == 6) = false := by simp [k6]
        have HE : Hid (xs = (pre ++ [z]) ++ lexFrom (a + sz) (t.data.toList.drop (a + sz))) := Lib.hid (by rw [HXS2.out, if_neg (by simp only [not_or]; exact ⟨k5, k6⟩), List.append_assoc]; rfl)
        have hp1 := HPOS.out k5
        have hka : k ≤ a := by omega
        clear k5 k6
        gi_wp2_with ((try refine ⟨fun h => (by cases h), ?_⟩); refine hR2.mono ?_; clear hR2; rintro e W5 (⟨rfl, d0, h5⟩ | ⟨rfl, h5⟩))
        · go_roundw
          case rel => exact ⟨a + sz, pre ++ [z], hasz, by go_num, h5.out.1, HE.out, h5.out.2.1, h5.out.2.2⟩
          case measure => simp [intOf]; omega
        · refine bodyPost_ret (results_none rfl _ _ _) rfl ?_
          exact ⟨⟨_, rfl⟩, .inr ⟨_, by rw [HE.out]; exact List.prefix_append _ _, h5.out⟩⟩
end Go.Proofs.YtocdclcemebaeaaDoor
