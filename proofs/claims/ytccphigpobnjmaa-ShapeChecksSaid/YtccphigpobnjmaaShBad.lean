/-
  Package shape: badWithin and badCond, the first place that uses what is not known. No condition but bounds on sizes.
-/
import Derived.Test.YtccphigpobnjmaaShACond
import Derived.Deep.RegionHeld3
import Derived.Deep.LoopGhost
namespace Go.Proofs.Ytccphigpobnjmaa
set_option linter.unusedVariables false
open Go.RowKit
def actS (xs : List ByteArray) (x : Ac) : Bool := knowsB xs x.at_.v && (decide (x.v.op = 0) || (knowsB xs x.v.l.v && knowsB xs x.v.r.v))
theorem ScopeAt.mono {w w' : World} {b s : Nat} {xs : List ByteArray} {v : Value} (h : ScopeAt w b s xs v) (hb : Below w.heap.size w w') : ScopeAt w' b s xs v := ⟨(hb.block _ (heap_lt h.1)).trans h.1, IsSet.mono h.2 hb⟩
set_option maxRecDepth 100000 in
set_option maxHeartbeats 4000000 in
theorem allowsAct_any (w : World) (b s : Nat) (xs : List ByteArray) (v : Value) (x : Ac) (h : ScopeAt w b s xs v) : Calls Try.prog 77 #[.pointer (some ⟨b, 0, none⟩), .agg #[.string x.id, .string x.at_.v, .int .i64 x.at_.s.k, .string x.at_.s.t, .int .i64 x.at_.s.n, .int .i64 x.v.op, .string x.v.l.v, .int .i64 x.v.l.s.k, .string x.v.l.s.t, .int .i64 x.v.l.s.n, .string x.v.r.v, .int .i64 x.v.r.s.k, .string x.v.r.s.t, .int .i64 x.v.r.s.n, .int .i64 x.pref, .string x.oth.v, .int .i64 x.oth.s.k, .string x.oth.s.t, .int .i64 x.oth.s.n]] w fun e w' => e = .returned (.bool (actS xs x)) ∧ Below w.heap.size w w' := by
  obtain ⟨W1, hW1⟩ : ∃ W1, W1 = w.alloc (.cells #[.string x.id, .string x.at_.v, .int .i64 x.at_.s.k, .string x.at_.s.t, .int .i64 x.at_.s.n, .int .i64 x.v.op, .string x.v.l.v, .int .i64 x.v.l.s.k, .string x.v.l.s.t, .int .i64 x.v.l.s.n, .string x.v.r.v, .int .i64 x.v.r.s.k, .string x.v.r.s.t, .int .i64 x.v.r.s.n, .int .i64 x.pref, .string x.oth.v, .int .i64 x.oth.s.k, .string x.oth.s.t, .int .i64 x.oth.s.n] 59) := ⟨_, rfl⟩
  have hB : Below w.heap.size w W1 := by rw [hW1]; go_grown
  have hx : W1.heap[w.heap.size]? = some (.cells #[.string x.id, .string x.at_.v, .int .i64 x.at_.s.k, .string x.at_.s.t, .int .i64 x.at_.s.n, .int .i64 x.v.op, .string x.v.l.v, .int .i64 x.v.l.s.k, .string x.v.l.s.t, .int .i64 x.v.l.s.n, .string x.v.r.v, .int .i64 x.v.r.s.k, .string x.v.r.s.t, .int .i64 x.v.r.s.n, .int .i64 x.pref, .string x.oth.v, .int .i64 x.oth.s.k, .string x.oth.s.t, .int .i64 x.oth.s.n] 59 (0, 0)) := by rw [hW1]; exact new_at rfl
  have hk := fun (w' : World) (y : ByteArray) (hb : Below W1.heap.size W1 w') => knows_scope w' b s xs v y ((h.mono hB).mono hb)
  have hc : ∀ w', Below W1.heap.size W1 w' → w'.cell? ⟨w.heap.size, 5, none⟩ = some (.int .i64 x.v.op) ∧ w'.cell? ⟨w.heap.size, 6, none⟩ = some (.string x.v.l.v) ∧ w'.cell? ⟨w.heap.size, 10, none⟩ = some (.string x.v.r.v) := by
    intro w' hb
    have e := (hb.block _ (heap_lt hx)).trans hx
    exact ⟨by rw [cells_of e]; rfl, by rw [cells_of e]; rfl, by rw [cells_of e]; rfl⟩
  have HK := Lib.hid hk
  have HC := Lib.hid hc
  have HW := Lib.hid hW1
  have HB := Lib.hid hB
  have hR : Below W1.heap.size W1 W1 := Below.refl _ _
  clear hk hc hW1 h hB hx
  have tok : Hid (0 = 0) := rfl
  cases q1 : knowsB xs x.at_.v with
  | false =>
    have HQ := Lib.hid (show actS xs x = false by unfold actS; rw [q1]; rfl)
    go_enter Try.func77, Try.ntmps77
    go_wp2_with (have _t := hR; go_at_call 98; rw [← HW.out]; refine (HK.out W1 x.at_.v hR).mono ?_; rintro e w1 ⟨rfl, h1⟩; rw [q1]; obtain ⟨c5, c6, c10⟩ := HC.out w1 h1; clear _t hR)
    go_ret
    exact ⟨by (rw [HQ.out]; try rfl), HB.out.trans (h1.mono HB.out.size)⟩
  | true =>
    by_cases k0 : x.v.op = 0
    · have HQ := Lib.hid (show actS xs x = true by unfold actS; rw [q1, decide_eq_true k0]; rfl)
      have b0 : (x.v.op == 0) = true := by simp [k0]
      clear k0
      go_enter Try.func77, Try.ntmps77
      go_wp2_with (have _t := hR; go_at_call 98; rw [← HW.out]; refine (HK.out W1 x.at_.v hR).mono ?_; rintro e w1 ⟨rfl, h1⟩; rw [q1]; obtain ⟨c5, c6, c10⟩ := HC.out w1 h1; clear _t hR)
      go_ret
      exact ⟨by (rw [HQ.out]; try rfl), HB.out.trans (h1.mono HB.out.size)⟩
    · have HQ0 := Lib.hid (show actS xs x = (knowsB xs x.v.l.v && knowsB xs x.v.r.v) by unfold actS; rw [q1, decide_eq_false k0]; rfl)
      have b0 : (x.v.op == 0) = false := by simp [k0]
      clear k0
      cases q2 : knowsB xs x.v.l.v with
      | false =>
        have HQ := Lib.hid (show actS xs x = false by rw [HQ0.out, q2]; rfl)
        go_enter Try.func77, Try.ntmps77
        go_wp2_with (first | (have _t := hR; go_at_call 98; rw [← HW.out]; refine (HK.out W1 x.at_.v hR).mono ?_; rintro e w1 ⟨rfl, h1⟩; rw [q1]; obtain ⟨c5, c6, c10⟩ := HC.out w1 h1; clear _t hR) | (have _t := tok; go_at_call 98; refine (HK.out w1 x.v.l.v h1).mono ?_; rintro e w2 ⟨rfl, h2⟩; replace h2 := h1.trans (h2.mono h1.size); rw [q2]; clear c5 c6 c10 tok _t; obtain ⟨c5, c6, c10⟩ := HC.out w2 h2))
        go_ret
        exact ⟨by (rw [HQ.out]; try rfl), HB.out.trans (h2.mono HB.out.size)⟩
      | true =>
        have HQ := Lib.hid (show actS xs x = knowsB xs x.v.r.v by rw [HQ0.out, q2]; rfl)
        go_enter Try.func77, Try.ntmps77
        go_wp2_with (first | (have _t := hR; go_at_call 98; rw [← HW.out]; refine (HK.out W1 x.at_.v hR).mono ?_; rintro e w1 ⟨rfl, h1⟩; rw [q1]; obtain ⟨c5, c6, c10⟩ := HC.out w1 h1; clear _t hR) | (have _t := tok; go_at_call 98; refine (HK.out w1 x.v.l.v h1).mono ?_; rintro e w2 ⟨rfl, h2⟩; replace h2 := h1.trans (h2.mono h1.size); rw [q2]; clear c5 c6 c10 tok _t; obtain ⟨c5, c6, c10⟩ := HC.out w2 h2) | (go_at_call 98; refine (HK.out w2 x.v.r.v h2).mono ?_; rintro e w3 ⟨rfl, h3⟩; replace h3 := h2.trans (h3.mono h2.size)))
        go_ret
        exact ⟨by (rw [HQ.out]; try rfl), HB.out.trans (h3.mono HB.out.size)⟩
open Go.RowKit
/-- What is wrong with conditions counted from n on, and what is known behind them. -/
def badS : List Co → Nat → Stt → Int × Stt
  | [], _, st => (-1, st)
  | .mk h m :: l, n, st =>
    if h.kind = 3 then (if (badS m (n + 1) (st.1, [])).1 ≠ -1 then ((badS m (n + 1) (st.1, [])).1, st) else badS l (n + 1 + sizeL m) st)
    else if h.kind = 2 then (if (condS h (st.1, [])).1 = true then badS l (n + 1 + sizeL m) st else ((n : Int), st))
    else if (condS h st).1 = true then badS l (n + 1 + sizeL m) (condS h st).2 else ((n : Int), (condS h st).2)
def withinS (c : Co) (n : Nat) (st : Stt) : Int × Stt :=
  if c.h.kind = 3 then ((badS c.l (n + 1) (st.1, [])).1, st) else if c.h.kind = 2 then (if (condS c.h (st.1, [])).1 = true then -1 else (n : Int), st) else (if (condS c.h st).1 = true then -1 else (n : Int), (condS c.h st).2)
theorem bad_cons (h : Ch) (m l : List Co) (n : Nat) (st : Stt) : badS (.mk h m :: l) n st = if h.kind = 3 then (if (badS m (n + 1) (st.1, [])).1 ≠ -1 then ((badS m (n + 1) (st.1, [])).1, st) else badS l (n + 1 + sizeL m) st)
    else if h.kind = 2 then (if (condS h (st.1, [])).1 = true then badS l (n + 1 + sizeL m) st else ((n : Int), st))
    else if (condS h st).1 = true then badS l (n + 1 + sizeL m) (condS h st).2 else ((n : Int), (condS h st).2) := by conv => lhs; unfold badS
theorem bad_step {l : List Co} {k : Nat} (hk : k < l.length) (n : Nat) (st : Stt) : badS (l.drop k) n st = if (withinS l[k] n st).1 ≠ -1 then withinS l[k] n st else badS (l.drop (k + 1)) (n + 1 + sizeL l[k].l) (withinS l[k] n st).2 := by
  rw [List.drop_eq_getElem_cons hk]
  generalize l.drop (k + 1) = r
  cases hc : l[k] with
  | mk h m =>
    have hn : (n : Int) ≠ -1 := by omega
    rw [bad_cons]
    unfold withinS
    simp only [Co.h, Co.l]
    by_cases h3 : h.kind = 3
    · simp [h3]
    · by_cases h2 : h.kind = 2
      · by_cases hq : (condS h (st.1, [])).1 = true
        · simp [h2, hq]
        · simp [h2, hq, hn]
      · by_cases hq : (condS h st).1 = true
        · simp [h3, h2, hq]
        · simp [h3, h2, hq, hn]
/-- How much there is to be learnt at most. -/
def wtL : List Co → Nat
  | [] => 0
  | .mk h m :: l => 1 + h.attr.length + h.value.length + wtL m + wtL l
theorem wt_append : ∀ a b : List Co, wtL (a ++ b) = wtL a + wtL b
  | [], b => by simp [wtL]
  | .mk h m :: a, b => by have := wt_append a b; simp only [List.cons_append, wtL, this]; omega
theorem wt_take_succ (l : List Co) {k : Nat} (hk : k < l.length) : wtL (l.take (k + 1)) = wtL (l.take k) + (1 + l[k].h.attr.length + l[k].h.value.length + wtL l[k].l) := by
  rw [List.take_succ_eq_append_getElem hk, wt_append]
  cases hc : l[k] with
  | mk h m => simp [wtL, Co.l, Co.h]
theorem wt_take_le (l : List Co) (k : Nat) : wtL (l.take k) ≤ wtL l := by
  have := wt_append (l.take k) (l.drop k)
  rw [List.take_append_drop] at this; omega
theorem within_len (c : Co) (n : Nat) (st : Stt) : (withinS c n st).2.1.length ≤ st.1.length + 1 + c.h.attr.length + c.h.value.length := by
  unfold withinS
  split
  · show st.1.length ≤ _; omega
  · split
    · show st.1.length ≤ _; omega
    · exact cond_len c.h st
def BadOK (cs : List Co) : Prop := ∀ (w0 w : World) (b s : Nat) (xs : List ByteArray) (v : Value) (ow : List ByteArray) (n : Nat) (a : Option Addr) (cap : Nat), ScOwn w w0.heap.size b s xs v ow → Below w0.heap.size w0 w → CondsAt w0 a cs → xs.length + wtL cs ≤ 700000 → n + sizeL cs ≤ 400000 →
  Calls Try.prog 76 #[.pointer (some ⟨b, 0, none⟩), .slice a cs.length cap, .int .i64 n] w fun e w' => e = .returned (.int .i64 (badS cs n (xs, ow)).1) ∧ ScPost w0.heap.size b s v (badS cs n (xs, ow)).2 w w'
theorem ScPost.inner {w0 w w1 w' : World} {b s : Nat} {v : Value} {st : Stt} (h : ScOwn w w0.heap.size b s st.1 v st.2) (hb : Below w.heap.size w w1) (h1 : Below w1.heap.size w1 w') : ScPost w0.heap.size b s v st w w' := by
  have hh := hb.trans (h1.mono hb.size)
  exact ⟨hh.mono (Nat.le_trans h.hb (Nat.le_of_lt h.lts.1)), v, h.mono hh, ScTouch.ofBelow hh⟩
set_option maxRecDepth 100000 in
set_option maxHeartbeats 8000000 in
theorem within_any (c : Co) (hin : BadOK c.l) (w0 w : World) (b s : Nat) (xs : List ByteArray) (v : Value) (ow : List ByteArray) (n : Nat) (h : ScOwn w w0.heap.size b s xs v ow) (hb : Below w0.heap.size w0 w) (ha : EltsK encT 6 w0 c.h.aa c.h.attr) (hv : EltsK encT 6 w0 c.h.va c.h.value) (hi : CondsAt w0 c.h.ca c.l)
    (hz : xs.length + (1 + c.h.attr.length + c.h.value.length + wtL c.l) ≤ 700000) (hn : n + 1 + sizeL c.l ≤ 400000) :
    Calls Try.prog 97 #[.pointer (some ⟨b, 0, none⟩), .agg #[.int .i64 c.h.kind, .bool c.h.goal, .string c.h.id, .slice c.h.aa c.h.attr.length c.h.ac, .slice c.h.va c.h.value.length c.h.vc, .bool c.h.acc, .slice c.h.ca c.l.length c.h.cc], .int .i64 n] w fun e w' => e = .returned (.int .i64 (withinS c n (xs, ow)).1) ∧ ScPost w0.heap.size b s v (withinS c n (xs, ow)).2 w w' := by
  obtain ⟨W1, hW1⟩ : ∃ W1, W1 = w.alloc (.cells #[.int .i64 c.h.kind, .bool c.h.goal, .string c.h.id, .slice c.h.aa c.h.attr.length c.h.ac, .slice c.h.va c.h.value.length c.h.vc, .bool c.h.acc, .slice c.h.ca c.l.length c.h.cc] 64) := ⟨_, rfl⟩
  have hB : Below w.heap.size w W1 := by rw [hW1]; go_grown
  have hx : W1.heap[w.heap.size]? = some (.cells #[.int .i64 c.h.kind, .bool c.h.goal, .string c.h.id, .slice c.h.aa c.h.attr.length c.h.ac, .slice c.h.va c.h.value.length c.h.vc, .bool c.h.acc, .slice c.h.ca c.l.length c.h.cc] 64 (0, 0)) := by rw [hW1]; exact new_at rfl
  have hsc1 := h.mono hB
  have hbase : w0.heap.size ≤ w.heap.size := hb.size
  have hb1 : Below w0.heap.size w0 W1 := hb.trans (hB.mono hbase)
  have hn9 : n ≤ 400000 := by omega
  by_cases k3 : c.h.kind = 3
  · have b3 : (c.h.kind == 3) = true := by simp [k3]
    have HQ := Lib.hid (show withinS c n (xs, ow) = ((badS c.l (n + 1) (xs, [])).1, (xs, ow)) by unfold withinS; rw [if_pos k3])
    have hinn := fun w' (h' : Below W1.heap.size W1 w') => inner_scope w' b s xs v (hsc1.mono h').sc
    have hbad : ∀ (w2 : World) (b' s' : Nat), Below W1.heap.size W1 w2 → ScOwn w2 W1.heap.size b' s' xs (.slice none 0 0) [] → Calls Try.prog 76 #[.pointer (some ⟨b', 0, none⟩), .slice c.h.ca c.l.length c.h.cc, .int .i64 ((n : Int) + 1)] w2 fun e w' => e = .returned (.int .i64 (badS c.l (n + 1) (xs, [])).1) ∧ Below W1.heap.size w2 w' := fun w2 b' s' h1 h2 =>
      (hin W1 w2 b' s' xs (.slice none 0 0) [] (n + 1) c.h.ca c.h.cc h2 h1 (hi.mono hb1) (by omega) (by omega)).mono (fun e w' h => ⟨h.1, h.2.1⟩)
    have hcell : ∀ w', Below W1.heap.size W1 w' → w'.cell? ⟨w.heap.size, 6, none⟩ = some (.slice c.h.ca c.l.length c.h.cc) := fun w' h' => by rw [cells_of ((h'.block _ (heap_lt hx)).trans hx)]; rfl
    have HI := Lib.hid hinn
    have HBAD := Lib.hid hbad
    have HC := Lib.hid hcell
    have HS := Lib.hid h
    have HB := Lib.hid hB
    have hcur : Hid (Below W1.heap.size W1 W1.drew) := Lib.hid (Below.refl _ _).drew
    have hwr : IntKind.i64.wrap ((n : Int) + 1) = (n : Int) + 1 := by simp [IntKind.wrap, IntKind.bits, IntKind.signed]; omega
    have c6 := hcell W1 (Below.refl _ _)
    have HW := Lib.hid hW1
    clear hinn hbad hcell h hB hb hb1 hsc1 hi ha hv hz hn hx k3 hW1
    go_enter Try.func97, Try.ntmps97
    go_wp2_with fail
    rw [← HW.out]
    go_region_held3 (fun w' => Below W1.heap.size W1 w' ∧ w'.cell? ⟨w.heap.size, 6, none⟩ = some (.slice c.h.ca c.l.length c.h.cc))
      (first | exact ⟨hcur.out, HC.out _ hcur.out⟩ | go_keep)
      (first
        | (go_at_call 108; refine (HI.out _ hcur.out).mono ?_; rintro e w2 ⟨b', s', rfl, hb', hs', h2, hsc⟩; have HSC := Lib.hid (⟨hsc, World.ownsRow_nil _ _ _ _, Nat.le_trans hcur.out.size hb', Nat.le_trans hcur.out.size hs', Nat.zero_le _⟩ : ScOwn w2 W1.heap.size b' s' xs (.slice none 0 0) []); replace hcur : Hid (Below W1.heap.size W1 w2) := Lib.hid (hcur.out.trans (h2.mono hcur.out.size)); have c6w := HC.out w2 hcur.out; clear h2 hsc hb' hs')
        | (go_at_call 76; refine (HBAD.out _ _ _ hcur.out HSC.out).mono ?_; rintro e w3 ⟨rfl, hp3⟩; replace hcur : Hid (Below W1.heap.size W1 w3) := Lib.hid (hcur.out.trans hp3); clear hp3))
    all_goals
      go_wp2_with fail
      go_ret
      exact ⟨by (rw [HQ.out]; try rfl), by rw [HQ.out]; exact ScPost.inner (st := (xs, ow)) HS.out HB.out hcur.out⟩
  have b3 : (c.h.kind == 3) = false := by simp [k3]
  by_cases k2 : c.h.kind = 2
  · have b2 : (c.h.kind == 2) = true := by simp [k2]
    have HQ := Lib.hid (show withinS c n (xs, ow) = (if (condS c.h (xs, [])).1 = true then -1 else (n : Int), (xs, ow)) by unfold withinS; rw [if_neg k3, if_pos k2])
    have hinn := inner_scope W1 b s xs v hsc1.sc
    have hcnd := fun (w2 : World) (b' s' : Nat) (h1 : Below W1.heap.size W1 w2) (h2 : ScOwn w2 W1.heap.size b' s' xs (.slice none 0 0) []) => allowsCond_any W1 w2 b' s' xs (.slice none 0 0) [] c.h c.l.length h2 h1 (ha.mono hb1) (hv.mono hb1) (by omega)
    have hcell : ∀ w', Below W1.heap.size W1 w' → ∀ (j : Nat) (u : Value), [.int .i64 c.h.kind, .bool c.h.goal, .string c.h.id, .slice c.h.aa c.h.attr.length c.h.ac, .slice c.h.va c.h.value.length c.h.vc, .bool c.h.acc, .slice c.h.ca c.l.length c.h.cc][j]? = some u → w'.cell? ((⟨w.heap.size, 0, none⟩ : Addr).add j) = some u := fun w' h' j u hu => by
      rw [Addr.add_lit, Nat.zero_add, cells_of ((h'.block _ (heap_lt hx)).trans hx)]; simpa using hu
    have hi64 : (Try.prog.info? 64).map (·.size) = some 7 := by kernel_rfl
    have HI := Lib.hid hinn
    have HCN := Lib.hid hcnd
    have HC := Lib.hid hcell
    have H64 := Lib.hid hi64
    have HS := Lib.hid h
    have HB := Lib.hid hB
    have HW := Lib.hid hW1
    clear hinn hcnd hcell h hB hb hb1 hsc1 hi ha hv hz hn hx k3 k2 hW1 hi64
    cases qc : (condS c.h (xs, [])).1 with
    | true =>
      have HQ2 := Lib.hid (show withinS c n (xs, ow) = (-1, (xs, ow)) by rw [HQ.out, qc]; rfl)
      clear HQ
      go_enter Try.func97, Try.ntmps97
      go_wp2_with (first
        | (go_at_call 108; rw [← HW.out]; refine HI.out.mono ?_; rintro e w2 ⟨b', s', rfl, hb', hs', h2, hsc⟩; have HSC := Lib.hid (⟨hsc, World.ownsRow_nil _ _ _ _, hb', hs', Nat.zero_le _⟩ : ScOwn w2 W1.heap.size b' s' xs (.slice none 0 0) []); have H2 := Lib.hid h2; clear h2 hsc hb' hs')
        | (refine wpList_load rfl (.tmp 4) 64 rfl (A := ⟨w.heap.size, 0, none⟩) rfl Try.underlying64 rfl (cs := [.int .i64 c.h.kind, .bool c.h.goal, .string c.h.id, .slice c.h.aa c.h.attr.length c.h.ac, .slice c.h.va c.h.value.length c.h.vc, .bool c.h.acc, .slice c.h.ca c.l.length c.h.cc]) H64.out (HC.out w2 H2.out) ?_)
        | (go_at_call 109; refine (HCN.out w2 b' s' H2.out HSC.out).mono ?_; rintro e w3 ⟨rfl, hp3⟩; rw [qc]))
      go_ret
      exact ⟨by (rw [HQ2.out]; try rfl), by rw [HQ2.out]; exact ScPost.inner (st := (xs, ow)) HS.out HB.out (H2.out.trans hp3.1)⟩
    | false =>
      have HQ2 := Lib.hid (show withinS c n (xs, ow) = ((n : Int), (xs, ow)) by rw [HQ.out, qc]; rfl)
      clear HQ
      go_enter Try.func97, Try.ntmps97
      go_wp2_with (first
        | (go_at_call 108; rw [← HW.out]; refine HI.out.mono ?_; rintro e w2 ⟨b', s', rfl, hb', hs', h2, hsc⟩; have HSC := Lib.hid (⟨hsc, World.ownsRow_nil _ _ _ _, hb', hs', Nat.zero_le _⟩ : ScOwn w2 W1.heap.size b' s' xs (.slice none 0 0) []); have H2 := Lib.hid h2; clear h2 hsc hb' hs')
        | (refine wpList_load rfl (.tmp 4) 64 rfl (A := ⟨w.heap.size, 0, none⟩) rfl Try.underlying64 rfl (cs := [.int .i64 c.h.kind, .bool c.h.goal, .string c.h.id, .slice c.h.aa c.h.attr.length c.h.ac, .slice c.h.va c.h.value.length c.h.vc, .bool c.h.acc, .slice c.h.ca c.l.length c.h.cc]) H64.out (HC.out w2 H2.out) ?_)
        | (go_at_call 109; refine (HCN.out w2 b' s' H2.out HSC.out).mono ?_; rintro e w3 ⟨rfl, hp3⟩; rw [qc]))
      go_ret
      exact ⟨by (rw [HQ2.out]; try rfl), by rw [HQ2.out]; exact ScPost.inner (st := (xs, ow)) HS.out HB.out (H2.out.trans hp3.1)⟩
  have b2 : (c.h.kind == 2) = false := by simp [k2]
  have HQ := Lib.hid (show withinS c n (xs, ow) = (if (condS c.h (xs, ow)).1 = true then -1 else (n : Int), (condS c.h (xs, ow)).2) by unfold withinS; rw [if_neg k3, if_neg k2])
  have hcnd := allowsCond_any w0 W1 b s xs v ow c.h c.l.length hsc1 hb1 ha hv (by omega)
  have HCN := Lib.hid hcnd
  have HW := Lib.hid hW1
  have HBB := Lib.hid (hB.mono hbase)
  have HT := Lib.hid (ScTouch.ofBelow (b := b) (s := s) (v := v) hB)
  have hi64 : (Try.prog.info? 64).map (·.size) = some 7 := by kernel_rfl
  have hcell : ∀ (j : Nat) (u : Value), [.int .i64 c.h.kind, .bool c.h.goal, .string c.h.id, .slice c.h.aa c.h.attr.length c.h.ac, .slice c.h.va c.h.value.length c.h.vc, .bool c.h.acc, .slice c.h.ca c.l.length c.h.cc][j]? = some u → W1.cell? ((⟨w.heap.size, 0, none⟩ : Addr).add j) = some u := fun j u hu => by
    rw [Addr.add_lit, Nat.zero_add, cells_of hx]; simpa using hu
  have HC := Lib.hid hcell
  have H64 := Lib.hid hi64
  clear hcnd hcell h hB hb hb1 hsc1 hi ha hv hz hn hx k3 k2 hi64 hbase hW1
  cases qc : (condS c.h (xs, ow)).1 with
  | true =>
    have HQ2 := Lib.hid (show withinS c n (xs, ow) = (-1, (condS c.h (xs, ow)).2) by rw [HQ.out, qc]; rfl)
    clear HQ
    go_enter Try.func97, Try.ntmps97
    go_wp2_with (first
      | (rw [← HW.out]; refine wpList_load rfl (.tmp 4) 64 rfl (A := ⟨w.heap.size, 0, none⟩) rfl Try.underlying64 rfl (cs := [.int .i64 c.h.kind, .bool c.h.goal, .string c.h.id, .slice c.h.aa c.h.attr.length c.h.ac, .slice c.h.va c.h.value.length c.h.vc, .bool c.h.acc, .slice c.h.ca c.l.length c.h.cc]) H64.out HC.out ?_)
      | (go_at_call 109; refine HCN.out.mono ?_; rintro e w3 ⟨rfl, hp3⟩; rw [qc]))
    go_ret
    exact ⟨by (rw [HQ2.out]; try rfl), by rw [HQ2.out]; exact ⟨HBB.out.trans hp3.1, hp3.2.elim fun v3 h => ⟨v3, h.1, HT.out.trans h.2⟩⟩⟩
  | false =>
    have HQ2 := Lib.hid (show withinS c n (xs, ow) = ((n : Int), (condS c.h (xs, ow)).2) by rw [HQ.out, qc]; rfl)
    clear HQ
    go_enter Try.func97, Try.ntmps97
    go_wp2_with (first
      | (rw [← HW.out]; refine wpList_load rfl (.tmp 4) 64 rfl (A := ⟨w.heap.size, 0, none⟩) rfl Try.underlying64 rfl (cs := [.int .i64 c.h.kind, .bool c.h.goal, .string c.h.id, .slice c.h.aa c.h.attr.length c.h.ac, .slice c.h.va c.h.value.length c.h.vc, .bool c.h.acc, .slice c.h.ca c.l.length c.h.cc]) H64.out HC.out ?_)
      | (go_at_call 109; refine HCN.out.mono ?_; rintro e w3 ⟨rfl, hp3⟩; rw [qc]))
    go_ret
    exact ⟨by (rw [HQ2.out]; try rfl), by rw [HQ2.out]; exact ⟨HBB.out.trans hp3.1, hp3.2.elim fun v3 h => ⟨v3, h.1, HT.out.trans h.2⟩⟩⟩
end Go.Proofs.Ytccphigpobnjmaa
