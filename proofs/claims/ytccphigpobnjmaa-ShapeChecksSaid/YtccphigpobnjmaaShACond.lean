/-
  The scopes of package shape: what a condition that is no All knows and learns. No condition but bounds on sizes.
-/
import Derived.Test.YtccphigpobnjmaaShLearn
namespace Go.Proofs.Ytccphigpobnjmaa
set_option linter.unusedVariables false
open Go.RowKit
def oneS (t : Ts) (st : Stt) : Stt := if t.rel = 1 ∧ ¬ t.var.size = 0 then learnS st t.var else st
def testsS : List Ts → Stt → Bool × Stt
  | [], st => (true, st)
  | t :: ts, st => if knowsB (oneS t st).1 t.var = true then testsS ts (oneS t st) else (false, oneS t st)
theorem tests_step {ts : List Ts} {k : Nat} (h : k < ts.length) (st : Stt) : testsS (ts.drop k) st = if knowsB (oneS ts[k] st).1 ts[k].var = true then testsS (ts.drop (k + 1)) (oneS ts[k] st) else (false, oneS ts[k] st) := by
  rw [List.drop_eq_getElem_cons h]; rfl
theorem learn_len (st : Stt) (x : ByteArray) : (learnS st x).1.length ≤ st.1.length + 1 := ins_length x st.1
theorem one_len (t : Ts) (st : Stt) : (oneS t st).1.length ≤ st.1.length + 1 := by
  unfold oneS; split
  · exact learn_len _ _
  · omega
theorem tests_len : ∀ (ts : List Ts) (st : Stt), (testsS ts st).2.1.length ≤ st.1.length + ts.length
  | [], st => by simp [testsS]
  | t :: ts, st => by
    have h1 := one_len t st
    have h2 := tests_len ts (oneS t st)
    unfold testsS
    split
    · simp only [List.length_cons]; omega
    · simp only [List.length_cons]; omega
theorem ScTouch.keepBox {b s : Nat} {v v' : Value} {w w' : World} (h : ScTouch b s v v' w w') {k : Nat} {o : Obj} (ho : w.heap[k]? = some o) (h1 : k ≠ b) (h2 : k ≠ s) (h3 : v.ownBlock ≠ some k) : w'.heap[k]? = some o := (h.keep k (heap_lt ho) h1 h2 h3).trans ho
/-- What lies behind a call that may have learnt. -/
def ScPost (base b s : Nat) (v : Value) (st : Stt) (w w' : World) : Prop := Below base w w' ∧ ∃ v', ScOwn w' base b s st.1 v' st.2 ∧ ScTouch b s v v' w w'
theorem ScOwn.lts {w : World} {base b s : Nat} {xs : List ByteArray} {v : Value} {ow : List ByteArray} (h : ScOwn w base b s xs v ow) : b < w.heap.size ∧ s < w.heap.size ∧ v.ownBlock ≠ some w.heap.size := by
  obtain ⟨p, T, hs, -⟩ := h.sc.2
  exact ⟨heap_lt h.sc.1, heap_lt hs, fun e => by have := (h.row.lt _ e).2; omega⟩
set_option maxRecDepth 100000 in
set_option maxHeartbeats 4000000 in
theorem allowsTests_any (w0 w : World) (b s : Nat) (xs : List ByteArray) (v : Value) (ow : List ByteArray) (a : Option Addr) (cap : Nat) (ts : List Ts) (h : ScOwn w w0.heap.size b s xs v ow) (hb : Below w0.heap.size w0 w) (hT : EltsK encT 6 w0 a ts) (hz : xs.length + ts.length ≤ 900000) :
    Calls Try.prog 119 #[.pointer (some ⟨b, 0, none⟩), .slice a ts.length cap] w fun e w' => e = .returned (.bool (testsS ts (xs, ow)).1) ∧ ScPost w0.heap.size b s v (testsS ts (xs, ow)).2 w w' := by
  have Hel := Lib.hid hT
  have H0 := Lib.hid h
  have HB := Lib.hid hb
  have hln : ts.length ≤ 900000 := by omega
  clear h hb hT
  go_enter Try.func119, Try.ntmps119
  go_wp2_with fail
  go_loopw [9] (fun i wr => ∃ (k : Nat) (st : Stt) (v' : Value), k ≤ ts.length ∧ i = .int .i64 k ∧ Hid (testsS ts (xs, ow) = testsS (ts.drop k) st ∧ ScOwn wr w0.heap.size b s st.1 v' st.2 ∧ ScTouch b s v v' w wr ∧ st.1.length ≤ xs.length + k ∧ Below w0.heap.size w wr)) (fun i _ => ts.length - (intOf i).toNat)
  case atStart => exact ⟨0, (xs, ow), v, Nat.zero_le _, rfl, by simp, H0.out, ScTouch.ofBelow (Below.refl _ _), by simp, Below.refl _ _⟩
  case round =>
    obtain ⟨k, st, v', hk, rfl, hI⟩ := hrel
    by_cases hlt : k < ts.length
    · obtain ⟨bb, off, rfl, hcell⟩ := Hel.out.at hlt
      have hst := tests_step hlt st
      have hc := hcell wr (HB.out.trans hI.out.2.2.2.2)
      obtain ⟨x, hx⟩ : ∃ x, x = ts[k] := ⟨_, rfl⟩
      rw [← hx] at hc hst
      obtain ⟨W2, hW2⟩ : ∃ W2, W2 = wr.alloc (.cells #[.int .i64 x.rel, .string x.var, .int .i64 x.s.k, .string x.s.t, .int .i64 x.s.n, .slice x.a x.list.length x.cap] 67) := ⟨_, rfl⟩
      have hB2 : Below wr.heap.size wr W2 := by rw [hW2]; go_grown
      have hbx : W2.heap[wr.heap.size]? = some (.cells #[.int .i64 x.rel, .string x.var, .int .i64 x.s.k, .string x.s.t, .int .i64 x.s.n, .slice x.a x.list.length x.cap] 67 (0, 0)) := by rw [hW2]; exact new_at rfl
      obtain ⟨l1, l2, l3⟩ := hI.out.2.1.lts
      have hsc2 := hI.out.2.1.mono hB2
      have hlen1 := one_len x st
      have hl9 := hI.out.2.2.2.1
      have hb2' : Below w0.heap.size w W2 := hI.out.2.2.2.2.trans (hB2.mono (Nat.le_trans H0.out.hb (Nat.le_of_lt (Nat.lt_of_lt_of_le H0.out.lts.1 hI.out.2.2.1.size))))
      have ht2 : ScTouch b s v v' w W2 := hI.out.2.2.1.trans (ScTouch.ofBelow hB2)
      have hlearn := learn_any W2 w0.heap.size b s st.1 v' st.2 x.var hsc2 (by omega)
      have hpost : ∀ (w3 : World) (v3 : Value), ScOwn w3 w0.heap.size b s (oneS x st).1 v3 (oneS x st).2 → ScTouch b s v v3 w w3 → Below w0.heap.size w w3 → ∀ w4, Below w3.heap.size w3 w4 → Hid (ScOwn w4 w0.heap.size b s (oneS x st).1 v3 (oneS x st).2 ∧ ScTouch b s v v3 w w4 ∧ Below w0.heap.size w w4) :=
        fun w3 v3 h1 h2 h3 w4 h4 => ⟨h1.mono h4, h2.trans (ScTouch.ofBelow h4), h3.trans (h4.mono (Nat.le_trans h1.hb (Nat.le_of_lt h1.lts.1)))⟩
      have n1 : wr.heap.size ≠ b := by omega
      have n2 : wr.heap.size ≠ s := by omega
      have c0 := hc 0 _ rfl
      have c1 := hc 1 _ rfl
      have c2 := hc 2 _ rfl
      have c3 := hc 3 _ rfl
      have c4 := hc 4 _ rfl
      have c5 := hc 5 _ rfl
      simp only [Nat.add_zero] at c0
      have HL := Lib.hid hlearn
      have HP := Lib.hid hpost
      have HW := Lib.hid hW2
      have HST := Lib.hid hst
      have HX := Lib.hid hbx
      have HRUN := Lib.hid hI.out.1
      have H2 := Lib.hid hsc2
      have HT2 := Lib.hid ht2
      have HB2 := Lib.hid hb2'
      have HN := Lib.hid (⟨n1, n2, l3⟩ : wr.heap.size ≠ b ∧ wr.heap.size ≠ s ∧ v'.ownBlock ≠ some wr.heap.size)
      have HLN := Lib.hid (show (oneS x st).1.length ≤ xs.length + (k + 1) by omega)
      clear hx hcell hc hlearn hpost hW2 hst hbx hI hsc2 ht2 hb2' n1 n2 l1 l2 l3 hlen1 hl9 hB2
      by_cases k1 : x.rel = 1
      · have b1 : (x.rel == 1) = true := by simp [k1]
        by_cases k2 : x.var.size = 0
        · have e1 : x.var.toList = [] := by rw [Lib.toList_data]; exact bytes_nil _ k2
          have e2 : x.var.toList.isEmpty = true := by rw [e1]; rfl
          have HO := Lib.hid (show oneS x st = st by unfold oneS; rw [if_neg (by simp [k2])])
          clear k1 k2
          cases hq : knowsB (oneS x st).1 x.var with
          | true =>
            have HR := Lib.hid (HRUN.out.trans (HST.out.trans (if_pos hq)))
            rw [HO.out] at hq
            go_wp2_with (go_at_call 98; rw [← HW.out]; refine (knows_scope W2 b s _ _ x.var H2.out.sc).mono ?_; rintro e w4 ⟨rfl, h4⟩; rw [hq]; have H4 := Lib.hid (HP.out W2 _ (by rw [HO.out]; exact H2.out) HT2.out HB2.out w4 h4).out; clear h4)
            go_roundw
            case rel => exact ⟨k + 1, oneS x st, _, by omega, by go_num, HR.out, H4.out.1, H4.out.2.1, HLN.out, H4.out.2.2⟩
            case measure => simp [intOf]; omega
          | false =>
            have HR := Lib.hid (HRUN.out.trans (HST.out.trans (if_neg (by rw [hq]; decide))))
            rw [HO.out] at hq
            go_wp2_with (go_at_call 98; rw [← HW.out]; refine (knows_scope W2 b s _ _ x.var H2.out.sc).mono ?_; rintro e w4 ⟨rfl, h4⟩; rw [hq]; have H4 := Lib.hid (HP.out W2 _ (by rw [HO.out]; exact H2.out) HT2.out HB2.out w4 h4).out; clear h4)
            go_ret
            exact ⟨by rw [HR.out]; rfl, H4.out.2.2, _, by rw [HR.out]; exact H4.out.1, H4.out.2.1⟩
        · have e1 : ¬ x.var.toList = [] := by rw [Lib.toList_data, bytes_cons _ (by omega)]; simp
          have e2 : x.var.toList.isEmpty = false := by rw [Lib.toList_data, bytes_cons _ (by omega)]; rfl
          have HO := Lib.hid (show oneS x st = learnS st x.var by unfold oneS; rw [if_pos ⟨k1, k2⟩])
          clear k1 k2
          cases hq : knowsB (oneS x st).1 x.var with
          | true =>
            have HR := Lib.hid (HRUN.out.trans (HST.out.trans (if_pos hq)))
            rw [HO.out] at hq
            go_wp2_with (first | (go_at_call 118; rw [← HW.out]; refine HL.out.mono ?_; rintro e w3 ⟨rfl, h3b, v3, h3o, h3t⟩; have e3 : w3.cell? ⟨wr.heap.size, 1, none⟩ = some (.string x.var) := (by rw [cells_of (h3t.keepBox HX.out HN.out.1 HN.out.2.1 HN.out.2.2)]; rfl); have H3 := Lib.hid (⟨h3o, HT2.out.trans h3t, HB2.out.trans h3b⟩ : ScOwn w3 w0.heap.size b s (learnS st x.var).1 v3 (learnS st x.var).2 ∧ ScTouch b s v v3 w w3 ∧ Below w0.heap.size w w3); clear h3b h3o h3t) | (go_at_call 98; refine (knows_scope w3 b s _ _ x.var H3.out.1.sc).mono ?_; rintro e w4 ⟨rfl, h4⟩; rw [hq]; have H4 := Lib.hid (HP.out w3 v3 (by rw [HO.out]; exact H3.out.1) H3.out.2.1 H3.out.2.2 w4 h4).out; clear h4))
            go_roundw
            case rel => exact ⟨k + 1, oneS x st, _, by omega, by go_num, HR.out, H4.out.1, H4.out.2.1, HLN.out, H4.out.2.2⟩
            case measure => simp [intOf]; omega
          | false =>
            have HR := Lib.hid (HRUN.out.trans (HST.out.trans (if_neg (by rw [hq]; decide))))
            rw [HO.out] at hq
            go_wp2_with (first | (go_at_call 118; rw [← HW.out]; refine HL.out.mono ?_; rintro e w3 ⟨rfl, h3b, v3, h3o, h3t⟩; have e3 : w3.cell? ⟨wr.heap.size, 1, none⟩ = some (.string x.var) := (by rw [cells_of (h3t.keepBox HX.out HN.out.1 HN.out.2.1 HN.out.2.2)]; rfl); have H3 := Lib.hid (⟨h3o, HT2.out.trans h3t, HB2.out.trans h3b⟩ : ScOwn w3 w0.heap.size b s (learnS st x.var).1 v3 (learnS st x.var).2 ∧ ScTouch b s v v3 w w3 ∧ Below w0.heap.size w w3); clear h3b h3o h3t) | (go_at_call 98; refine (knows_scope w3 b s _ _ x.var H3.out.1.sc).mono ?_; rintro e w4 ⟨rfl, h4⟩; rw [hq]; have H4 := Lib.hid (HP.out w3 v3 (by rw [HO.out]; exact H3.out.1) H3.out.2.1 H3.out.2.2 w4 h4).out; clear h4))
            go_ret
            exact ⟨by rw [HR.out]; rfl, H4.out.2.2, _, by rw [HR.out]; exact H4.out.1, H4.out.2.1⟩
      · have b1 : (x.rel == 1) = false := by simp [k1]
        have HO := Lib.hid (show oneS x st = st by unfold oneS; rw [if_neg (by simp [k1])])
        clear k1
        cases hq : knowsB (oneS x st).1 x.var with
        | true =>
          have HR := Lib.hid (HRUN.out.trans (HST.out.trans (if_pos hq)))
          rw [HO.out] at hq
          go_wp2_with (go_at_call 98; rw [← HW.out]; refine (knows_scope W2 b s _ _ x.var H2.out.sc).mono ?_; rintro e w4 ⟨rfl, h4⟩; rw [hq]; have H4 := Lib.hid (HP.out W2 _ (by rw [HO.out]; exact H2.out) HT2.out HB2.out w4 h4).out; clear h4)
          go_roundw
          case rel => exact ⟨k + 1, oneS x st, _, by omega, by go_num, HR.out, H4.out.1, H4.out.2.1, HLN.out, H4.out.2.2⟩
          case measure => simp [intOf]; omega
        | false =>
          have HR := Lib.hid (HRUN.out.trans (HST.out.trans (if_neg (by rw [hq]; decide))))
          rw [HO.out] at hq
          go_wp2_with (go_at_call 98; rw [← HW.out]; refine (knows_scope W2 b s _ _ x.var H2.out.sc).mono ?_; rintro e w4 ⟨rfl, h4⟩; rw [hq]; have H4 := Lib.hid (HP.out W2 _ (by rw [HO.out]; exact H2.out) HT2.out HB2.out w4 h4).out; clear h4)
          go_ret
          exact ⟨by rw [HR.out]; rfl, H4.out.2.2, _, by rw [HR.out]; exact H4.out.1, H4.out.2.1⟩
    · obtain rfl : k = ts.length := by omega
      have HQ := Lib.hid (show testsS ts (xs, ow) = (true, st) by rw [hI.out.1, List.drop_length]; rfl)
      have HI := Lib.hid hI.out
      clear hI
      go_wp2_with fail
      go_ret
      exact ⟨by rw [HQ.out]; rfl, HI.out.2.2.2.2, v', by rw [HQ.out]; exact HI.out.2.1, HI.out.2.2.1⟩
open Go.RowKit
def idS (h : Ch) (st : Stt) : Stt := if h.goal = true then learnS st h.id else st
def condS (h : Ch) (st : Stt) : Bool × Stt := if knowsB (idS h st).1 h.id = true then (if (testsS h.attr (idS h st)).1 = true then testsS h.value (testsS h.attr (idS h st)).2 else (false, (testsS h.attr (idS h st)).2)) else (false, idS h st)
theorem id_len (h : Ch) (st : Stt) : (idS h st).1.length ≤ st.1.length + 1 := by
  unfold idS; split
  · exact learn_len _ _
  · omega
theorem cond_len (h : Ch) (st : Stt) : (condS h st).2.1.length ≤ st.1.length + 1 + h.attr.length + h.value.length := by
  have h1 := id_len h st
  have h2 := tests_len h.attr (idS h st)
  have h3 := tests_len h.value (testsS h.attr (idS h st)).2
  unfold condS
  split
  · split
    · omega
    · show (testsS h.attr (idS h st)).2.1.length ≤ _; omega
  · show (idS h st).1.length ≤ _; omega
/-- What a call that began in w has left behind so far: the box of its argument, too. -/
structure Sofar (w0 w : World) (b s : Nat) (v : Value) (box : Array Value) (st : Stt) (v' : Value) (wr : World) : Prop where
  own : ScOwn wr w0.heap.size b s st.1 v' st.2
  touch : ScTouch b s v v' w wr
  below : Below w0.heap.size w wr
  box : wr.heap[w.heap.size]? = some (.cells box 64 (0, 0))
  nb : w.heap.size ≠ b ∧ w.heap.size ≠ s ∧ v'.ownBlock ≠ some w.heap.size
theorem Sofar.step {w0 w : World} {b s : Nat} {v : Value} {box : Array Value} {st st2 : Stt} {v' v2 : Value} {wr w2 : World} (h : Sofar w0 w b s v box st v' wr) (h1 : ScOwn w2 w0.heap.size b s st2.1 v2 st2.2) (h2 : ScTouch b s v' v2 wr w2) (h3 : Below w0.heap.size wr w2) : Sofar w0 w b s v box st2 v2 w2 :=
  ⟨h1, h.touch.trans h2, h.below.trans h3, h2.keepBox h.box h.nb.1 h.nb.2.1 h.nb.2.2, h.nb.1, h.nb.2.1, fun e => by
    rcases h2.own _ e with h4 | h4
    · exact h.nb.2.2 h4
    · have := heap_lt h.box; omega⟩
theorem Sofar.grow {w0 w : World} {b s : Nat} {v : Value} {box : Array Value} {st : Stt} {v' : Value} {wr w2 : World} (h : Sofar w0 w b s v box st v' wr) (hb : Below wr.heap.size wr w2) : Sofar w0 w b s v box st v' w2 :=
  h.step (h.own.mono hb) (ScTouch.ofBelow hb) (hb.mono (Nat.le_trans h.own.hb (Nat.le_of_lt h.own.lts.1)))
theorem Sofar.cell {w0 w : World} {b s : Nat} {v : Value} {box : Array Value} {st : Stt} {v' : Value} {wr : World} (h : Sofar w0 w b s v box st v' wr) (j : Nat) : wr.cell? ⟨w.heap.size, j, none⟩ = box[j]? := cells_of h.box j
set_option maxRecDepth 100000 in
set_option maxHeartbeats 4000000 in
theorem allowsCond_any (w0 w : World) (b s : Nat) (xs : List ByteArray) (v : Value) (ow : List ByteArray) (c : Ch) (n : Nat) (h : ScOwn w w0.heap.size b s xs v ow) (hb : Below w0.heap.size w0 w) (ha : EltsK encT 6 w0 c.aa c.attr) (hv : EltsK encT 6 w0 c.va c.value) (hz : xs.length + 1 + c.attr.length + c.value.length ≤ 800000) :
    Calls Try.prog 109 #[.pointer (some ⟨b, 0, none⟩), .agg #[.int .i64 c.kind, .bool c.goal, .string c.id, .slice c.aa c.attr.length c.ac, .slice c.va c.value.length c.vc, .bool c.acc, .slice c.ca n c.cc]] w fun e w' => e = .returned (.bool (condS c (xs, ow)).1) ∧ ScPost w0.heap.size b s v (condS c (xs, ow)).2 w w' := by
  obtain ⟨l1, l2, l3⟩ := h.lts
  obtain ⟨W1, hW1⟩ : ∃ W1, W1 = w.alloc (.cells #[.int .i64 c.kind, .bool c.goal, .string c.id, .slice c.aa c.attr.length c.ac, .slice c.va c.value.length c.vc, .bool c.acc, .slice c.ca n c.cc] 64) := ⟨_, rfl⟩
  have hB : Below w.heap.size w W1 := by rw [hW1]; go_grown
  have hS : Sofar w0 w b s v #[.int .i64 c.kind, .bool c.goal, .string c.id, .slice c.aa c.attr.length c.ac, .slice c.va c.value.length c.vc, .bool c.acc, .slice c.ca n c.cc] (xs, ow) v W1 := ⟨h.mono hB, ScTouch.ofBelow hB, hB.mono (Nat.le_trans h.hb (Nat.le_of_lt l1)), by rw [hW1]; exact new_at rfl, by omega, by omega, l3⟩
  have hl1 := id_len c (xs, ow)
  have hl2 := tests_len c.attr (idS c (xs, ow))
  have hA := fun (w3 : World) (v3 : Value) (hs : Sofar w0 w b s v #[.int .i64 c.kind, .bool c.goal, .string c.id, .slice c.aa c.attr.length c.ac, .slice c.va c.value.length c.vc, .bool c.acc, .slice c.ca n c.cc] (idS c (xs, ow)) v3 w3) => allowsTests_any w0 w3 b s (idS c (xs, ow)).1 v3 (idS c (xs, ow)).2 c.aa c.ac c.attr hs.own (hb.trans hs.below) ha (by have : (idS c (xs, ow)).1.length ≤ xs.length + 1 := hl1; omega)
  have hV := fun (w3 : World) (v3 : Value) (hs : Sofar w0 w b s v #[.int .i64 c.kind, .bool c.goal, .string c.id, .slice c.aa c.attr.length c.ac, .slice c.va c.value.length c.vc, .bool c.acc, .slice c.ca n c.cc] (testsS c.attr (idS c (xs, ow))).2 v3 w3) => allowsTests_any w0 w3 b s (testsS c.attr (idS c (xs, ow))).2.1 v3 (testsS c.attr (idS c (xs, ow))).2.2 c.va c.vc c.value hs.own (hb.trans hs.below) hv (by have : (idS c (xs, ow)).1.length ≤ xs.length + 1 := hl1; omega)
  have HLN := Lib.hid (learn_any W1 w0.heap.size b s xs v ow c.id hS.own (by omega))
  have HA := Lib.hid hA
  have HV := Lib.hid hV
  have HS := Lib.hid hS
  have HW := Lib.hid hW1
  clear h hb ha hv hz hW1 hB hS hl1 hl2 hA hV l1 l2 l3
  have tok : Hid (0 = 0) := rfl
  cases k1 : c.goal with
  | true =>
    have HI := Lib.hid (show learnS (xs, ow) c.id = idS c (xs, ow) by unfold idS; rw [if_pos k1])
    rw [HI.out] at HLN
    rw [k1] at HW
    clear HI
    cases q1 : knowsB (idS c (xs, ow)).1 c.id with
    | false =>
      have HQ := Lib.hid (show condS c (xs, ow) = (false, idS c (xs, ow)) by unfold condS; rw [q1, if_neg (by decide)])
      go_enter Try.func109, Try.ntmps109
      go_wp2_with (first | (go_at_call 118; rw [← HW.out]; refine HLN.out.mono ?_; rintro e w2 ⟨rfl, hb2, v2, ho2, ht2⟩; have H2 := Lib.hid (HS.out.step ho2 ht2 hb2); clear hb2 ho2 ht2; have c2 : w2.cell? ⟨w.heap.size, 2, none⟩ = some (.string c.id) := (by rw [H2.out.cell]; rfl)) | (go_at_call 98; refine (knows_scope w2 b s _ _ c.id H2.out.own.sc).mono ?_; rintro e w3 ⟨rfl, h3⟩; rw [q1]; have H3 := Lib.hid (H2.out.grow h3); clear h3; have c3 : w3.cell? ⟨w.heap.size, 3, none⟩ = some (.slice c.aa c.attr.length c.ac) := (by rw [H3.out.cell]; rfl); have c4 : w3.cell? ⟨w.heap.size, 4, none⟩ = some (.slice c.va c.value.length c.vc) := (by rw [H3.out.cell]; rfl)))
      go_ret
      exact ⟨by rw [HQ.out]; rfl, H3.out.below, _, by rw [HQ.out]; exact H3.out.own, H3.out.touch⟩
    | true =>
      have HQ0 := Lib.hid (show condS c (xs, ow) = _ by unfold condS; rw [q1, if_pos rfl])
      cases q2 : (testsS c.attr (idS c (xs, ow))).1 with
      | false =>
        have HQ := Lib.hid (show condS c (xs, ow) = (false, (testsS c.attr (idS c (xs, ow))).2) by rw [HQ0.out, q2, if_neg (by decide)])
        go_enter Try.func109, Try.ntmps109
        go_wp2_with (first | (go_at_call 118; rw [← HW.out]; refine HLN.out.mono ?_; rintro e w2 ⟨rfl, hb2, v2, ho2, ht2⟩; have H2 := Lib.hid (HS.out.step ho2 ht2 hb2); clear hb2 ho2 ht2; have c2 : w2.cell? ⟨w.heap.size, 2, none⟩ = some (.string c.id) := (by rw [H2.out.cell]; rfl)) | (go_at_call 98; refine (knows_scope w2 b s _ _ c.id H2.out.own.sc).mono ?_; rintro e w3 ⟨rfl, h3⟩; rw [q1]; have H3 := Lib.hid (H2.out.grow h3); clear h3; have c3 : w3.cell? ⟨w.heap.size, 3, none⟩ = some (.slice c.aa c.attr.length c.ac) := (by rw [H3.out.cell]; rfl); have c4 : w3.cell? ⟨w.heap.size, 4, none⟩ = some (.slice c.va c.value.length c.vc) := (by rw [H3.out.cell]; rfl)) | (have _t := tok; go_at_call 119; refine (HA.out w3 _ H3.out).mono ?_; rintro e w4 ⟨rfl, hb4, v4, ho4, ht4⟩; rw [q2]; have H4 := Lib.hid (H3.out.step ho4 ht4 hb4); clear hb4 ho4 ht4 c3 c4 tok _t; have c4 : w4.cell? ⟨w.heap.size, 4, none⟩ = some (.slice c.va c.value.length c.vc) := (by rw [H4.out.cell]; rfl)))
        go_ret
        exact ⟨by rw [HQ.out]; rfl, H4.out.below, _, by rw [HQ.out]; exact H4.out.own, H4.out.touch⟩
      | true =>
        have HQ := Lib.hid (show condS c (xs, ow) = testsS c.value (testsS c.attr (idS c (xs, ow))).2 by rw [HQ0.out, q2, if_pos rfl])
        go_enter Try.func109, Try.ntmps109
        go_wp2_with (first | (go_at_call 118; rw [← HW.out]; refine HLN.out.mono ?_; rintro e w2 ⟨rfl, hb2, v2, ho2, ht2⟩; have H2 := Lib.hid (HS.out.step ho2 ht2 hb2); clear hb2 ho2 ht2; have c2 : w2.cell? ⟨w.heap.size, 2, none⟩ = some (.string c.id) := (by rw [H2.out.cell]; rfl)) | (go_at_call 98; refine (knows_scope w2 b s _ _ c.id H2.out.own.sc).mono ?_; rintro e w3 ⟨rfl, h3⟩; rw [q1]; have H3 := Lib.hid (H2.out.grow h3); clear h3; have c3 : w3.cell? ⟨w.heap.size, 3, none⟩ = some (.slice c.aa c.attr.length c.ac) := (by rw [H3.out.cell]; rfl); have c4 : w3.cell? ⟨w.heap.size, 4, none⟩ = some (.slice c.va c.value.length c.vc) := (by rw [H3.out.cell]; rfl)) | (have _t := tok; go_at_call 119; refine (HA.out w3 _ H3.out).mono ?_; rintro e w4 ⟨rfl, hb4, v4, ho4, ht4⟩; rw [q2]; have H4 := Lib.hid (H3.out.step ho4 ht4 hb4); clear hb4 ho4 ht4 c3 c4 tok _t; have c4 : w4.cell? ⟨w.heap.size, 4, none⟩ = some (.slice c.va c.value.length c.vc) := (by rw [H4.out.cell]; rfl)) | (go_at_call 119; refine (HV.out w4 _ H4.out).mono ?_; rintro e w5 ⟨rfl, hb5, v5, ho5, ht5⟩; have H5 := Lib.hid (H4.out.step ho5 ht5 hb5); clear hb5 ho5 ht5 c4))
        go_ret
        exact ⟨by rw [HQ.out]; rfl, H5.out.below, _, by rw [HQ.out]; exact H5.out.own, H5.out.touch⟩
  | false =>
    have HI := Lib.hid (show idS c (xs, ow) = (xs, ow) by unfold idS; rw [if_neg (by rw [k1]; decide)])
    rw [k1] at HW
    cases q1 : knowsB (idS c (xs, ow)).1 c.id with
    | false =>
      have HQ := Lib.hid (show condS c (xs, ow) = (false, idS c (xs, ow)) by unfold condS; rw [q1, if_neg (by decide)])
      go_enter Try.func109, Try.ntmps109
      go_wp2_with (first | (go_at_call 98; rw [← HW.out]; refine (knows_scope W1 b s _ _ c.id HS.out.own.sc).mono ?_; rintro e w3 ⟨rfl, h3⟩; rw [HI.out] at q1; rw [q1]; have H3 := Lib.hid (show Sofar w0 w b s v #[.int .i64 c.kind, .bool c.goal, .string c.id, .slice c.aa c.attr.length c.ac, .slice c.va c.value.length c.vc, .bool c.acc, .slice c.ca n c.cc] (idS c (xs, ow)) v w3 by rw [HI.out]; exact HS.out.grow h3); clear h3; have c3 : w3.cell? ⟨w.heap.size, 3, none⟩ = some (.slice c.aa c.attr.length c.ac) := (by rw [H3.out.cell]; rfl); have c4 : w3.cell? ⟨w.heap.size, 4, none⟩ = some (.slice c.va c.value.length c.vc) := (by rw [H3.out.cell]; rfl)))
      go_ret
      exact ⟨by rw [HQ.out]; rfl, H3.out.below, _, by rw [HQ.out]; exact H3.out.own, H3.out.touch⟩
    | true =>
      have HQ0 := Lib.hid (show condS c (xs, ow) = _ by unfold condS; rw [q1, if_pos rfl])
      cases q2 : (testsS c.attr (idS c (xs, ow))).1 with
      | false =>
        have HQ := Lib.hid (show condS c (xs, ow) = (false, (testsS c.attr (idS c (xs, ow))).2) by rw [HQ0.out, q2, if_neg (by decide)])
        go_enter Try.func109, Try.ntmps109
        go_wp2_with (first | (go_at_call 98; rw [← HW.out]; refine (knows_scope W1 b s _ _ c.id HS.out.own.sc).mono ?_; rintro e w3 ⟨rfl, h3⟩; rw [HI.out] at q1; rw [q1]; have H3 := Lib.hid (show Sofar w0 w b s v #[.int .i64 c.kind, .bool c.goal, .string c.id, .slice c.aa c.attr.length c.ac, .slice c.va c.value.length c.vc, .bool c.acc, .slice c.ca n c.cc] (idS c (xs, ow)) v w3 by rw [HI.out]; exact HS.out.grow h3); clear h3; have c3 : w3.cell? ⟨w.heap.size, 3, none⟩ = some (.slice c.aa c.attr.length c.ac) := (by rw [H3.out.cell]; rfl); have c4 : w3.cell? ⟨w.heap.size, 4, none⟩ = some (.slice c.va c.value.length c.vc) := (by rw [H3.out.cell]; rfl)) | (have _t := tok; go_at_call 119; refine (HA.out w3 _ H3.out).mono ?_; rintro e w4 ⟨rfl, hb4, v4, ho4, ht4⟩; rw [q2]; have H4 := Lib.hid (H3.out.step ho4 ht4 hb4); clear hb4 ho4 ht4 c3 c4 tok _t; have c4 : w4.cell? ⟨w.heap.size, 4, none⟩ = some (.slice c.va c.value.length c.vc) := (by rw [H4.out.cell]; rfl)))
        go_ret
        exact ⟨by rw [HQ.out]; rfl, H4.out.below, _, by rw [HQ.out]; exact H4.out.own, H4.out.touch⟩
      | true =>
        have HQ := Lib.hid (show condS c (xs, ow) = testsS c.value (testsS c.attr (idS c (xs, ow))).2 by rw [HQ0.out, q2, if_pos rfl])
        go_enter Try.func109, Try.ntmps109
        go_wp2_with (first | (go_at_call 98; rw [← HW.out]; refine (knows_scope W1 b s _ _ c.id HS.out.own.sc).mono ?_; rintro e w3 ⟨rfl, h3⟩; rw [HI.out] at q1; rw [q1]; have H3 := Lib.hid (show Sofar w0 w b s v #[.int .i64 c.kind, .bool c.goal, .string c.id, .slice c.aa c.attr.length c.ac, .slice c.va c.value.length c.vc, .bool c.acc, .slice c.ca n c.cc] (idS c (xs, ow)) v w3 by rw [HI.out]; exact HS.out.grow h3); clear h3; have c3 : w3.cell? ⟨w.heap.size, 3, none⟩ = some (.slice c.aa c.attr.length c.ac) := (by rw [H3.out.cell]; rfl); have c4 : w3.cell? ⟨w.heap.size, 4, none⟩ = some (.slice c.va c.value.length c.vc) := (by rw [H3.out.cell]; rfl)) | (have _t := tok; go_at_call 119; refine (HA.out w3 _ H3.out).mono ?_; rintro e w4 ⟨rfl, hb4, v4, ho4, ht4⟩; rw [q2]; have H4 := Lib.hid (H3.out.step ho4 ht4 hb4); clear hb4 ho4 ht4 c3 c4 tok _t; have c4 : w4.cell? ⟨w.heap.size, 4, none⟩ = some (.slice c.va c.value.length c.vc) := (by rw [H4.out.cell]; rfl)) | (go_at_call 119; refine (HV.out w4 _ H4.out).mono ?_; rintro e w5 ⟨rfl, hb5, v5, ho5, ht5⟩; have H5 := Lib.hid (H4.out.step ho5 ht5 hb5); clear hb5 ho5 ht5 c4))
        go_ret
        exact ⟨by rw [HQ.out]; rfl, H5.out.below, _, by rw [HQ.out]; exact H5.out.own, H5.out.touch⟩
end Go.Proofs.Ytccphigpobnjmaa
