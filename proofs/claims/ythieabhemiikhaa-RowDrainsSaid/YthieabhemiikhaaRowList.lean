/-
  ponderkeep.List, First, Ints, Copy at int. No condition but bounds on lengths.
-/
import Derived.Laws.AppendOwnNone
import Derived.BigQuiet
import Derived.Test.YthieabhemiikhaaRowSeq
namespace Go.Proofs.Ythieabhemiikhaa
set_option linter.unusedVariables false
open Go.RowKit Go.Shelf
attribute [local go_sem] Oper.semAt_some
theorem wpListIn_append_off {F : Fence} {n : Nat} {P : Program} (w : World) {ops : Array Oper} {rest : List Oper} {o : Oper} {a : Act} {Q : Exit → Act → World → Prop} (hgd : o.guard = none) (s x : Operand) (t tx : TypeId)
    (ho : o.op = .call { callee := .builtin .append, args := #[s, x], argTypes := #[t, tx] })
    {e : TypeId} {i : TypeInfo} {z : Value} {bytes : Nat} (ht : P.underlying t = some (.slice e)) (hi : P.info? e = some i) (hz : i.zero = some z) (hsize : i.size = 1) (hby : i.bytes = bytes) (hzs : z.cells.size = 1)
    {v : Value} {xs : List Value} (hv : a.eval s = v) (h : OffRow w e v xs) (xv : Value) (news : List Value) (hx : a.eval x = xv) (hs : Src P 1 tx xv news.length news w) (h63 : xs.length + news.length ≤ maxLen) (hbytes : (xs.length + news.length) * bytes ≤ 140737488355328)
    (hK : ∀ v' w', Grew w e v (xs ++ news) v' w' → wpListIn F n P ops Q rest (a.put o.dst v') w') : wpListIn F n P ops Q (o :: rest) a w := by
  refine wpListIn_plain hgd fun K hK' => ?_
  obtain ⟨v', w', hrun, r'⟩ := run_append_off (P := P) (ty := o.type) ht hi hz hsize hby hzs h hs h63 hbytes
  unfold Oper.wpIn
  refine ⟨?_, ?_⟩
  · simp [Oper.about, ho, resolve, Target.leads, Sem.run_pure]
  · rw [Oper.semAt_plain F _ _ (by rw [ho]; intro c hc'; cases hc')]
    simp [execOp, ho, resolve, invoke, builtin, hv, hx, hrun, Result.andThen]
    exact hK' _ _ (hK v' w' r')
theorem kept_blk {X Y : World} {row : Option Nat} {B : Nat} {c : Array Value} {t : TypeId} {f : Nat × Nat} (hs : X.heap[B]? = some (.cells c t f)) (hg : X.grownBy Y row)
    (hrow : ∀ r, row = some r → ∃ o : Obj, X.heap[r]? = some o ∧ o.isCells = false) : Y.heap[B]? = some (.cells c t f) := by
  refine (hg.block B (heap_lt hs) ?_).trans hs
  intro e
  obtain ⟨o, ho, hc⟩ := hrow B e.symm
  rw [hs] at ho; cases ho; cases hc
theorem OffRow.own {X Y : World} {row : Option Nat} {e : TypeId} {v : Value} {xs : List Value} (h : OffRow X e v xs) (hg : X.grownBy Y row)
    (hrow : ∀ r, row = some r → ∃ o : Obj, X.heap[r]? = some o ∧ o.isCells = false) : OffRow Y e v xs := by
  refine h.but (Touch.grown hg) (fun g hgv e' => ?_)
  obtain ⟨cur, hc⟩ := h.typed hgv
  obtain ⟨o, ho, ho'⟩ := hrow g e'.symm
  rw [hc] at ho; cases ho; cases ho'
/-- A variable's box that holds a slice of numbers of the call's own. -/
def BoxRow (base B : Nat) (W : World) (xs : List Int) : Prop := ∃ v, Boxed W B 28 v ∧ OffRow W 3 v (xs.map VI) ∧ ∀ g, v.ownBlock = some g → base ≤ g
theorem BoxRow.own (base B : Nat) : Own (fun (s : List Int) W => BoxRow base B W s) := by
  rintro s X Y row ⟨v, h1, h2, h3⟩ hg hrow
  exact ⟨v, kept_blk h1 hg hrow, h2.own hg hrow, h3⟩
def OBox (B : Nat) (W : World) (k : Nat) : Prop := k = B ∨ ∃ v, W.cell? ⟨B, 0, none⟩ = some v ∧ v.ownBlock = some k
theorem one_src (W : World) (x : Int) : Src Try.prog 1 28 (.slice (some ⟨W.heap.size, 0, none⟩) 1 1) [VI x].length [VI x] (W.alloc (.cells #[.int .i64 x] 3)) := by
  refine Src.ofSlice _ Try.underlying28 ⟨W.heap.size, 0, none⟩ 1 1 [VI x] rfl (fun j u hu => ?_) (by simp [Value.oneCell'])
  rw [Addr.add_lit, Nat.zero_add, cells_of (new_at rfl)]
  simpa using hu
theorem OBox.kb {B : Nat} {W : World} {l : Nat} {o o' : Obj} (hl : B < l) (h : W.heap[l]? = some o) (hc : o.isCells = false) : KO (OBox B) W (W.putObj l o') := by
  refine ⟨by simp, fun k c t f hk _ => ?_, fun k _ ho => ?_⟩
  · rw [World.putObj_heap_other (by rintro rfl; rw [hk] at h; cases h; cases hc)]; exact hk
  · rcases ho with ho | ⟨v, h1, h2⟩
    · exact .inl ho
    · exact .inr ⟨v, by rw [← World.cell?_of_block (w := W) (a := ⟨B, 0, none⟩) (World.putObj_heap_other (show B ≠ l by omega) : (W.putObj l o').heap[B]? = W.heap[B]?)]; exact h1, h2⟩
/-- Behind 'out = append(out, x)'. -/
theorem BoxRow.step {base B : Nat} {W w1 : World} {v v' : Value} {xs : List Int} {x : Int} (hv : Boxed W B 28 v) (hr : OffRow W 3 v (xs.map VI)) (hb : ∀ g, v.ownBlock = some g → base ≤ g) (hB : base ≤ B) (hsz : base ≤ W.heap.size)
    (hg : Grew (W.alloc (.cells #[.int .i64 x] 3)) 3 v (xs.map VI ++ [VI x]) v' w1) :
    Boxed w1 B 28 v ∧ BoxRow base B (w1.setCell ⟨B, 0, none⟩ v') (xs ++ [x]) ∧ KeepsOthers W (w1.setCell ⟨B, 0, none⟩ v') ∧ KO (OBox B) W (w1.setCell ⟨B, 0, none⟩ v') ∧ Below base W (w1.setCell ⟨B, 0, none⟩ v') ∧ Touch (fun k => k = B ∨ v.ownBlock = some k) W (w1.setCell ⟨B, 0, none⟩ v') := by
  obtain ⟨g1, g2, g3, a, n, c, rfl⟩ := hg
  have hA : Below W.heap.size W (W.alloc (.cells #[.int .i64 x] 3)) := (Below.refl _ _).alloc (Nat.le_refl _) _
  have hvB : ∀ g, v.ownBlock = some g → g ≠ B := fun g hg => hr.ne hv (by decide) hg
  have hv0 := hv.alloc (.cells #[.int .i64 x] 3)
  have hv1 : Boxed w1 B 28 v := (g2.block B hv0.lt (fun e => hvB B e.symm rfl)).trans hv0
  have ht : Touch (fun k => k = B ∨ v.ownBlock = some k) W (w1.setCell ⟨B, 0, none⟩ (.slice a n c)) :=
    ((Touch.ofBelow hA).trans ((Touch.grown g2).mono (fun k _ hk => .inr hk.symm))).trans ((Touch.set w1 B 0 _).mono (fun k _ hk => .inl hk))
  have hown : ∀ g, (Value.slice a n c).ownBlock = some g → v.ownBlock = some g ∨ W.heap.size ≤ g := by
    intro g hg
    rcases g3 with g3 | ⟨g', g3, g4⟩
    · exact .inl (by rw [← g3]; exact hg)
    · rw [g3] at hg; cases hg; exact .inr (Nat.le_trans hA.size g4)
  refine ⟨hv1, ⟨_, hv1.set _, ?_, fun g hg => ?_⟩, ?_, ⟨ht.size, fun k c' t' f' hk hn => ?_, fun k hk ho => ?_⟩, ht.below hsz (fun k _ hk => ?_), ht⟩
  · rw [List.map_append]
    exact g1.but (Touch.set w1 B 0 _) (fun g hg => g1.ne hv1 (by decide) hg)
  · rcases hown g hg with h | h
    · exact hb g h
    · omega
  · exact ((KeepsOthers.alloc W _).trans (KeepsOthers.of_grownBy g2 fun j o ej hj => by
      obtain ⟨cur, hcur⟩ := (hr.mono hA).typed ej
      rw [hcur] at hj; cases hj; rfl)).trans (KeepsOthers.setCell _ _ _)
  · refine (ht.block k (heap_lt hk) (fun hA' => hn ?_)).trans hk
    rcases hA' with h | h
    · exact .inl h
    · exact .inr ⟨v, hv.cell, h⟩
  · rcases ho with ho | ⟨v2, h1, h2⟩
    · exact .inl ho
    · have := (hv1.set (.slice a n c)).cell
      rw [this] at h1; cases h1
      rcases hown k h2 with h | h
      · exact .inr ⟨v, hv.cell, h⟩
      · omega
  · rcases hk with rfl | hk
    · exact hB
    · exact hb k hk
theorem eql_func_nilI (fn : Fn) (a b : Array Value) (w : World) : (binOp .eql 40 (.func fn a b) .nilFunc).run Try.prog w = .ok (.bool false) w := by kernel_rfl
def ListOut (w : World) (xs : List Int) (e : Ending) (w' : World) : Prop := ∃ v, e = .returned v ∧ Fresh w w' v (xs.map VI)
set_option maxRecDepth 100000 in
set_option maxHeartbeats 2000000 in
theorem list_in (gf : Nat) (lb : Array Value) (eg : ∀ args w, (callFunc gf args).run Try.prog w = .ok (.enter gf args) w)
    (xs : List Int) (hlen : xs.length ≤ 1000000) (w : World) (hseq : SeqStopsK Fence.wide 2 Try.prog gf lb (fun x : Int => #[.int .i64 x]) (KO (OBox w.heap.size)) (fun ys => ys = xs) (fun pre => pre <+: xs) xs.length (w.alloc (.cells #[.slice none 0 0] 28))) :
    CallsIn Fence.wide 3 Try.prog 17 #[.func (.func gf) #[] lb] w (ListOut w xs) := by
  obtain ⟨i0, hi, hz0, hz1, hz2⟩ := infoI'
  refine callsIn_of_wp_marks Try.func17 rfl trivial ?_ rfl
  simp only [Try.ntmps17, List.size_toArray, List.length_cons, List.length_nil, Nat.reduceAdd, Nat.reduceSub, Array.replicate_succ, Array.replicate_zero, List.push_toArray, List.append_toArray, List.nil_append, List.cons_append]
  have hef := eql_func_nilI (.func gf) #[] lb
  gi_wp2
  have bO := Boxed.new w 28 (.slice none 0 0)
  have hB0 : Below w.heap.size w (w.alloc (.cells #[.slice none 0 0] 28)) := (Below.refl _ w).alloc (Nat.le_refl _) _
  refine wpIn_rangeFunc_ownG rfl (by omega) (gf := gf) (lb := lb) rfl trivial eg
    hseq (fun h k => KO.trans h k) (fun W l o o' hl h hc _ => OBox.kb (by simp at hl; omega) h hc) (Below.refl _ _) (fun _ => rfl)
    (fun pre W => BoxRow w.heap.size w.heap.size W pre ∧ Below w.heap.size w W)
    (fun _ _ _ => False)
    (OwnFrom.and (Own.from (BoxRow.own w.heap.size w.heap.size) _) (ownFrom_below (Nat.le_refl _) (by simp)))
    (fun _ _ _ _ _ hs _ _ => hs)
    ⟨⟨_, bO, OffRow.nil _ _, by simp [Value.ownBlock]⟩, hB0⟩
    (fun x => { tmps := #[.func (.func gf) #[] lb, undef, .slice none 0 0, .pointer (some ⟨w.heap.size, 0, none⟩), .int .i64 x, .func (.func gf) #[] lb, .bool false, .func (.func gf) #[] lb, .int .i64 x, undef, undef, undef, undef, undef], defers := [] }) ?assign ?body ?done ?stop
  case assign =>
    intro l x W K hK
    gi_wp2
    exact hK
  case body =>
    rintro l pre x W ⟨⟨v, hv, hrow, hbs⟩, hB⟩ hlt
    have hc := hv.cell
    gi_wp2_with (gi_at_builtin; refine wpListIn_append_off _ rfl _ _ 28 28 rfl (e := 3) (i := i0) (z := .int .i64 0) (bytes := 8) Try.underlying28 hi hz0 hz1 hz2 rfl rfl (hrow.mono ((Below.refl _ _).alloc (Nat.le_refl _) _)) _ [VI x] rfl (one_src W x) (by unfold maxLen; simp; omega) (by simp; omega) ?_; intro v' w1 hg; obtain ⟨hv1, h2, h3, h4, h5, -⟩ := BoxRow.step hv hrow hbs (Nat.le_refl _) hB.size hg; obtain ⟨a', n', c', rfl⟩ := hg.2.2.2; have hc1 := hv1.cell; have hf1 := hv1.frozen; clear hg)
    exact ⟨h3.from _, h4, h2, hB.trans h5⟩
  case done =>
    rintro D ys W hD rfl ⟨⟨v, hv, hrow, hbs⟩, hB⟩ hK
    have hc := hv.cell
    gi_wp2
    refine ⟨by simp, .inl ⟨_, _, rfl, run_takeDeferred hK, ?_⟩⟩
    refine ⟨_, results_tmp rfl _ _ _, v, rfl, hrow.own (grownBy_putObj' W D _) (fun r e => by cases e; exact ⟨_, hK, rfl⟩), hB.trans (belowK_b (w := w) (Nat.le_refl _) W D _ _ (by simp at hD; omega) hK rfl rfl), hbs⟩
  case stop =>
    rintro D c pre W _ _ h _
    exact h.elim
theorem OBox.far {w : World} {t : TypeId} : ∀ W1 k, Below (w.alloc (.cells #[.slice none 0 0] t)).heap.size (w.alloc (.cells #[.slice none 0 0] t)) W1 → OBox w.heap.size W1 k → k < (w.alloc (.cells #[.slice none 0 0] t)).heap.size := by
  rintro W1 k hb (rfl | ⟨v, h1, h2⟩)
  · simp
  · rw [hb.cell (p := ⟨w.heap.size, 0, none⟩) (by simp), cells_of (new_at rfl)] at h1
    cases h1; simp [Value.ownBlock] at h2
/-- List of a queue's All. -/
theorem list_all (w : World) (Bt q : Nat) (v : Value) (room : Nat) (zs : List Int) (hn : zs.length ≤ 1000000) (hBt : w.heap[Bt]? = some (.cells #[.pointer (some ⟨q, 0, none⟩)] 23 (0, 0))) (hQ : QI w q v room (zs.map VI)) :
    Calls Try.prog 17 #[.func (.func 30) #[] #[.pointer (some ⟨Bt, 0, none⟩)]] w (ListOut w zs) :=
  have hb : Below w.heap.size w (w.alloc (.cells #[.slice none 0 0] 28)) := (Below.refl _ _).alloc (Nat.le_refl _) _
  callsIn_wide.1 (list_in 30 _ (enters_of Try.func30 (by kernel_rfl) rfl) zs hn w
    (all_stops (OBox w.heap.size) 2 Bt q v room zs hn _ ((hb.block _ (heap_lt hBt)).trans hBt) (hQ.mono hb) OBox.far))

theorem ints_any (w : World) (va vb : Value) (xs ys : List Int) (ha : Reads w va (xs.map VI)) (hb : Reads w vb (ys.map VI)) (b : Bool) (hbe : b = decide (xs = ys)) :
    Calls Try.prog 16 #[va, vb] w fun e w' => e = .returned (.bool b) ∧ Below w.heap.size w w' := by
  obtain ⟨pa, ca, rfl, la, ma, ha⟩ := ha
  obtain ⟨pb, cb, rfl, lb, mb, hb⟩ := hb
  simp only [List.length_map] at *
  unfold maxLen at ma mb
  by_cases hl : xs.length = ys.length
  · have hd : ((xs.length : Int) != (ys.length : Int)) = false := by simp [hl]
    have HL := Lib.hid hl
    have HBE := Lib.hid hbe
    have HA := Lib.hid ha
    have HBB := Lib.hid hb
    clear hl ha hb hbe
    go_enter Try.func16, Try.ntmps16
    go_wp2_with fail
    go_loopw [5] (fun i wr => ∃ k : Nat, k ≤ xs.length ∧ i = .int .i64 k ∧ Hid (xs.take k = ys.take k) ∧ Below w.heap.size w wr) (fun i _ => xs.length - (intOf i).toNat)
    case atStart => exact ⟨0, Nat.zero_le _, rfl, Lib.hid (by simp), Below.refl _ _⟩
    case round =>
      obtain ⟨k, hk, rfl, he, hbw⟩ := hrel
      by_cases hlt : k < xs.length
      · have hlt2 : k < ys.length := by have := HL.out; omega
        obtain ⟨ba, oa, rfl, hba, hca⟩ : ∃ b off, pa = some ⟨b, off, none⟩ ∧ b < w.heap.size ∧ ∀ j (h : j < xs.length), w.cell? ⟨b, off + j, none⟩ = some (.int .i64 xs[j]) := by
          rcases HA.out with h0 | ⟨b, off, h1, h2, h3⟩
          · omega
          · exact ⟨b, off, h1, h2, fun j hj => by have := h3 j hj; simpa using this⟩
        obtain ⟨bb, ob, rfl, hbb, hcb⟩ : ∃ b off, pb = some ⟨b, off, none⟩ ∧ b < w.heap.size ∧ ∀ j (h : j < ys.length), w.cell? ⟨b, off + j, none⟩ = some (.int .i64 ys[j]) := by
          rcases HBB.out with h0 | ⟨b, off, h1, h2, h3⟩
          · omega
          · exact ⟨b, off, h1, h2, fun j hj => by have := h3 j hj; simpa using this⟩
        have ka := (hbw.cell (p := ⟨ba, oa + k, none⟩) hba).trans (hca k hlt)
        have kb := (hbw.cell (p := ⟨bb, ob + k, none⟩) hbb).trans (hcb k hlt2)
        have hki : (k : Int) < (xs.length : Int) := by omega
        have hki2 : (k : Int) < (ys.length : Int) := by omega
        by_cases heq : xs[k] = ys[k]
        · have hn : Hid (xs.take (k + 1) = ys.take (k + 1)) := Lib.hid (by rw [List.take_succ_eq_append_getElem hlt, List.take_succ_eq_append_getElem hlt2, he.out, heq])
          rw [← heq] at kb
          generalize xs[k] = x at ka kb
          clear hca hcb heq he
          go_wp2_with fail
          go_quiet (fail)
          go_wp2_with fail
          go_roundw
          case rel => exact ⟨k + 1, by omega, by go_num, hn, bdN _ hbw⟩
          case measure => simp [intOf]; omega
        · have hne : (xs[k] != ys[k]) = true := by simpa using heq
          have hbf : b = false := by
            rw [HBE.out]; apply decide_eq_false
            rintro rfl; exact heq rfl
          subst hbf
          generalize xs[k] = x at ka hne
          generalize ys[k] = y at kb hne
          clear hca hcb heq he
          go_wp2_with fail
          go_quiet (fail)
          go_wp2_with fail
          go_returns
          exact ⟨rfl, bdN _ hbw⟩
      · obtain rfl : k = xs.length := by omega
        have hbt : b = true := by
          rw [HBE.out]; apply decide_eq_true
          have h1 := he.out
          rw [List.take_length, HL.out, List.take_length] at h1
          exact h1
        subst hbt
        go_wp2_with fail
        go_ret
        exact ⟨rfl, hbw⟩
  · have hd : ((xs.length : Int) != (ys.length : Int)) = true := by simp; omega
    have hbf : b = false := by
      rw [hbe]; apply decide_eq_false
      rintro rfl; exact hl rfl
    subst hbf
    clear hl ha hb hbe
    go_enter Try.func16, Try.ntmps16
    go_wp2_with fail
    go_ret
    exact ⟨rfl, Below.refl _ _⟩
theorem copy_any (w : World) (v : Value) (zs : List Int) (h : Reads w v (zs.map VI)) (hn : zs.length ≤ 1000000) :
    Calls Try.prog 22 #[v] w (ListOut w zs) := by
  obtain ⟨i0, hi, hz0, hz1, hz2⟩ := infoI'
  obtain ⟨a, c, rfl, -⟩ := id h
  have hfin : ∀ v' w', Grew w 3 (.slice none 0 0) (zs.map VI) v' w' → ListOut w zs (.returned v') w' := by
    rintro v' w' ⟨g1, g2, g3, -⟩
    refine ⟨v', rfl, g1, (Touch.grown g2).below (Nat.le_refl _) (fun k _ hk => by simp [Value.ownBlock] at hk), fun g hg => ?_⟩
    rcases g3 with g3 | ⟨g', g3, g4⟩
    · rw [g3] at hg; simp [Value.ownBlock] at hg
    · rw [g3] at hg; cases hg; exact g4
  have HR := Lib.hid h
  have HF := Lib.hid hfin
  have hlen : (zs.map VI).length ≤ 1000000 := by simpa using hn
  clear h hfin
  go_enter Try.func22, Try.ntmps22
  go_wp2_with (at_builtin; refine wpList_append_off _ rfl _ _ 28 28 rfl (e := 3) (i := i0) (z := .int .i64 0) (bytes := 8) Try.underlying28 hi hz0 hz1 hz2 rfl rfl (OffRow.nil _ _) _ (zs.map VI) rfl (Reads.src Try.underlying28 HR.out VI_one) (by unfold maxLen; simp at hlen ⊢; omega) (by simp at hlen ⊢; omega) ?_; intro v' w1 hg; have HG := Lib.hid hg; obtain ⟨a', n', c', rfl⟩ := hg.2.2.2; clear hg)
  go_ret
  exact HF.out _ _ HG.out
end Go.Proofs.Ythieabhemiikhaa
