/-
  ShapeVars, walked whatever production came in. No condition.
-/
import Derived.Test.YtccphigpobnjmaaShRCheck
import Derived.Deep.RegionHeld3
import Derived.Test.YtccphigpobnjmaaShWakes
namespace Go.Proofs.Ytccphigpobnjmaa
set_option linter.unusedVariables false
open Go.RowKit
theorem W_new (w : World) (c : Array Value) (t : TypeId) : (w.alloc (.cells c t)).heap[w.heap.size]? = some (.cells c t (0, 0)) := new_at rfl
theorem flat_encB (l : List ByteArray) : l.flatMap encB = l.map .string := by
  induction l with
  | nil => rfl
  | cons x l ih => rw [List.flatMap_cons, ih]; rfl
theorem elts_texts {w : World} {base : Nat} {e : TypeId} {a : Option Addr} {n c : Nat} {l : List ByteArray} (h : w.ownsRow base e 1 (.slice a n c) l.length (l.map .string)) : n = l.length ∧ EltsK encB 1 w a l := by
  have hn : n = l.length := by
    obtain ⟨-, ⟨h1, h2⟩ | ⟨g, cap, cur, h1, -⟩⟩ := h
    · cases h1; exact h2.symm
    · cases h1; rfl
  subst hn
  refine ⟨rfl, elts_of_own (e := e) (base := base) (m := l.length) (c := c) encB_len ?_⟩
  rw [flat_encB]; exact h
set_option maxRecDepth 100000 in
set_option maxHeartbeats 2000000 in
theorem Vars_any (p : Pr) (w : World) (hz : sizeL p.conds ≤ 900) (hwt : wtL p.conds ≤ 900) (hp : PrAt w p) : Calls Try.prog 19 #[.agg #[.string p.name, .slice p.ca p.conds.length p.cc, .slice p.aa p.acts.length p.ac]] w fun e w' => ∃ v, e = .returned v ∧ w'.ownsRow w.heap.size 9 1 v (checkE p).1.length ((checkE p).1.map .string) ∧ Below w.heap.size w w' := by
  have hB : Below w.heap.size w (w.alloc (.cells #[.string p.name, .slice p.ca p.conds.length p.cc, .slice p.aa p.acts.length p.ac] 25)) := by go_grown
  have HCK := Lib.hid (check_any p (w.alloc (.cells #[.string p.name, .slice p.ca p.conds.length p.cc, .slice p.aa p.acts.length p.ac] 25)) (by omega) (by omega) (hp.mono hB))
  have HB := Lib.hid hB
  clear hp hB
  go_enter Try.func19, Try.ntmps19
  go_wp2_with (go_at_call 48; refine HCK.out.mono ?_; rintro e w1 ⟨v, rfl, hrow, h1⟩)
  go_ret
  exact ⟨_, rfl, own_lower hrow (by simp), HB.out.trans (h1.mono HB.out.size)⟩
def varsM (p : Pr) : List ByteArray := if (checkM p).2 ≠ 0 then [] else (checkE p).1
theorem vars_rel (p : Pr) : varsM p = (checkE p).1 := by
  unfold varsM
  rw [(check_rel p).1]
  by_cases h : (checkE p).2.2 ≠ 0
  · rw [if_pos h]
    unfold checkE at h ⊢
    split
    · rfl
    · rename_i h1
      rw [if_neg h1] at h
      split
      · rfl
      · rename_i h2
        rw [if_neg h2] at h
        split
        · rfl
        · rename_i h3
          rw [if_neg h3] at h
          split
          · rename_i h4; rw [if_pos h4] at h; exact absurd rfl h
          · rfl
  · rw [if_neg h]
theorem shape_room {p : Pr} (h : (checkM p).2 = 0) : 0 < p.conds.length := by
  have h1 : (shapeE p).2 = 0 := by
    by_cases h0 : (shapeE p).2 = 0
    · exact h0
    · unfold checkM at h; rw [if_pos h0] at h; exact absurd h h0
  have := (shape_ok h1).1
  omega
set_option maxRecDepth 100000 in
set_option maxHeartbeats 4000000 in
theorem known_any (p : Pr) (k : List ByteArray) (w : World) (hk : (knowsM p.conds 0 []).1 = some k) (hz : sizeL p.conds ≤ 900) (hwt : wtL p.conds ≤ 900) (h0 : 0 < p.conds.length) (hr : p.conds.length ≤ p.cc) (hp : PrAt w p) :
    Calls Try.prog 52 #[.agg #[.string p.name, .slice p.ca p.conds.length p.cc, .slice p.aa p.acts.length p.ac], .int .i64 p.conds.length] w fun e w' => ∃ a c, e = .returned (.slice a k.length c) ∧ EltsK encB 1 w' a k ∧ Below w.heap.size w w' := by
  have hB : Below w.heap.size w (w.alloc (.cells #[.string p.name, .slice p.ca p.conds.length p.cc, .slice p.aa p.acts.length p.ac] 25)) := by go_grown
  obtain ⟨bb, off, hca, -, -⟩ := hp.conds.elts 0 h0
  have hln := len_size p.conds
  obtain ⟨W1, hW1⟩ : ∃ W1, W1 = w.alloc (.cells #[.string p.name, .slice p.ca p.conds.length p.cc, .slice p.aa p.acts.length p.ac] 25) := ⟨_, rfl⟩
  have hkn : ∀ cc, Calls Try.prog 49 #[.slice (some ⟨bb, off, none⟩) p.conds.length cc, .int .i64 0, .slice none 0 0] W1 fun e w2 => Below W1.heap.size W1 w2 ∧ ∃ a c q, e = .returned (.tuple #[.slice a k.length c, .int .i64 q, .bool true]) ∧ EltsK encB 1 w2 a k := fun cc => by
    have h := refknows_any p.conds 0 [] none 0 p.ca cc W1 (by omega) (by simpa using Nat.le_trans hwt (by omega)) (fun k hk => absurd hk (by simp)) (by rw [hW1]; exact (hp.mono hB).conds)
    rw [hca] at h
    refine h.mono (fun e w2 hpost => ?_)
    obtain ⟨g1, k2, a2, c2, g2, g3, g4⟩ := hpost.yes (by rw [hk]; rfl)
    rw [hk] at g2; cases g2
    exact ⟨g1, a2, c2, _, g3, g4⟩
  rw [hW1] at hkn
  have HKN := Lib.hid hkn
  have HB := Lib.hid hB
  have hn := cell_at' (W_new w #[.string p.name, .slice p.ca p.conds.length p.cc, .slice p.aa p.acts.length p.ac] 25) 1 (v := .slice (some ⟨bb, off, none⟩) p.conds.length p.cc) (by rw [← hca]; rfl)
  have hlen : p.conds.length ≤ 900 := by omega
  clear hkn hB hp hca hz hwt hln hk hW1
  go_enter Try.func52, Try.ntmps52
  go_wp2_with (go_at_call 49; refine (HKN.out _).mono ?_; rintro e w1 ⟨h1, a2, c2, q, rfl, hk2⟩)
  go_ret
  exact ⟨_, _, rfl, hk2, HB.out.trans (h1.mono HB.out.size)⟩
set_option maxRecDepth 100000 in
set_option maxHeartbeats 4000000 in
theorem rvars_any (p : Pr) (w : World) (hz : sizeL p.conds ≤ 900) (hwt : wtL p.conds ≤ 900) (hza : p.acts.length ≤ 900) (hr : p.conds.length ≤ p.cc) (hp : PrAt w p) :
    Calls Try.prog 21 #[.agg #[.string p.name, .slice p.ca p.conds.length p.cc, .slice p.aa p.acts.length p.ac]] w fun e w' => ∃ a c, e = .returned (.slice a (varsM p).length c) ∧ EltsK encB 1 w' a (varsM p) ∧ Below w.heap.size w w' := by
  have hB : Below w.heap.size w (w.alloc (.cells #[.string p.name, .slice p.ca p.conds.length p.cc, .slice p.aa p.acts.length p.ac] 25)) := by go_grown
  have HL := Lib.hid (fun w' (h : Below (w.alloc (.cells #[.string p.name, .slice p.ca p.conds.length p.cc, .slice p.aa p.acts.length p.ac] 25)).heap.size (w.alloc (.cells #[.string p.name, .slice p.ca p.conds.length p.cc, .slice p.aa p.acts.length p.ac] 25)) w') (j : Nat) (v : Value) (hv : [.string p.name, .slice p.ca p.conds.length p.cc, .slice p.aa p.acts.length p.ac][j]? = some v) => (by rw [Addr.add_lit, Nat.zero_add, cells_of ((h.block _ (heap_lt (W_new w #[.string p.name, .slice p.ca p.conds.length p.cc, .slice p.aa p.acts.length p.ac] 25))).trans (W_new w #[.string p.name, .slice p.ca p.conds.length p.cc, .slice p.aa p.acts.length p.ac] 25))]; simpa using hv : w'.cell? ((⟨w.heap.size, 0, none⟩ : Addr).add j) = some v))
  have HC1 := Lib.hid (fun w' (h : Below (w.alloc (.cells #[.string p.name, .slice p.ca p.conds.length p.cc, .slice p.aa p.acts.length p.ac] 25)).heap.size (w.alloc (.cells #[.string p.name, .slice p.ca p.conds.length p.cc, .slice p.aa p.acts.length p.ac] 25)) w') => cell_at' ((h.block _ (heap_lt (W_new w #[.string p.name, .slice p.ca p.conds.length p.cc, .slice p.aa p.acts.length p.ac] 25))).trans (W_new w #[.string p.name, .slice p.ca p.conds.length p.cc, .slice p.aa p.acts.length p.ac] 25)) 1 (v := .slice p.ca p.conds.length p.cc) rfl)
  have hi25 : (Try.prog.info? 25).map (·.size) = some 3 := by kernel_rfl
  have H25 := Lib.hid hi25
  have HB := Lib.hid hB
  have HR := Lib.hid (Below.refl (w.alloc (.cells #[.string p.name, .slice p.ca p.conds.length p.cc, .slice p.aa p.acts.length p.ac] 25)).heap.size (w.alloc (.cells #[.string p.name, .slice p.ca p.conds.length p.cc, .slice p.aa p.acts.length p.ac] 25)))
  have HRC := Lib.hid (rcheck_any p (w.alloc (.cells #[.string p.name, .slice p.ca p.conds.length p.cc, .slice p.aa p.acts.length p.ac] 25)) hz hwt hza (hp.mono hB))
  cases q1 : (checkM p).2 != 0 with
  | true =>
    have HV := Lib.hid (show varsM p = [] by unfold varsM; rw [if_pos (bne_iff_ne.1 q1)])
    clear hi25 hB hp
    generalize checkM p = r at HRC q1
    go_enter Try.func21, Try.ntmps21
    go_wp2_with (first | (refine wpList_load rfl (.tmp 1) 25 rfl (A := ⟨w.heap.size, 0, none⟩) rfl Try.underlying25 rfl (cs := [.string p.name, .slice p.ca p.conds.length p.cc, .slice p.aa p.acts.length p.ac]) H25.out (HL.out _ HR.out) ?_) | (go_at_call 17; refine (HRC.out).mono ?_; rintro e w1 ⟨rfl, h1⟩; replace HR := Lib.hid (HR.out.trans (h1.mono HR.out.size)); clear h1))
    go_ret
    exact ⟨none, 0, by rw [HV.out]; rfl, by rw [HV.out]; exact fun k hk => absurd hk (by simp), HB.out.trans (HR.out.mono HB.out.size)⟩
  | false =>
    have hq1 : (checkM p).2 = 0 := bne_eq_false_iff_eq.1 q1
    have h0 := shape_room hq1
    have hk := (check_rel p).2 (by rw [← (check_rel p).1]; exact hq1)
    have HV := Lib.hid (show varsM p = (checkE p).1 by unfold varsM; rw [if_neg (by rw [hq1]; decide)])
    have HKW := Lib.hid (fun w' (h : Below (w.alloc (.cells #[.string p.name, .slice p.ca p.conds.length p.cc, .slice p.aa p.acts.length p.ac] 25)).heap.size (w.alloc (.cells #[.string p.name, .slice p.ca p.conds.length p.cc, .slice p.aa p.acts.length p.ac] 25)) w') => known_any p (checkE p).1 w' hk hz hwt h0 hr ((hp.mono hB).mono h))
    rw [hq1] at HRC
    clear hi25 hB hp q1 hq1 h0 hk
    generalize (checkM p).1 = r at HRC
    go_enter Try.func21, Try.ntmps21
    go_wp2_with (first | (refine wpList_load rfl (.tmp 1) 25 rfl (A := ⟨w.heap.size, 0, none⟩) rfl Try.underlying25 rfl (cs := [.string p.name, .slice p.ca p.conds.length p.cc, .slice p.aa p.acts.length p.ac]) H25.out (HL.out _ HR.out) ?_) | (go_at_call 17; refine (HRC.out).mono ?_; rintro e w1 ⟨rfl, h1⟩; replace HR := Lib.hid (HR.out.trans (h1.mono HR.out.size)); clear h1; have c1 := HC1.out _ HR.out) | (go_at_call 52; refine (HKW.out _ HR.out).mono ?_; rintro e w2 ⟨a2, c2, rfl, hk2, h2⟩; have HK2 := Lib.hid hk2; clear hk2; replace HR := Lib.hid (HR.out.trans (h2.mono HR.out.size)); clear h2))
    go_ret
    exact ⟨_, _, by rw [HV.out]; rfl, by rw [HV.out]; exact HK2.out, HB.out.trans (HR.out.mono HB.out.size)⟩
set_option maxRecDepth 100000 in
set_option maxHeartbeats 2000000 in
theorem texts_any (l m : List ByteArray) (a b : Option Addr) (c d : Nat) (w : World) (ha : EltsK encB 1 w a l) (hb : EltsK encB 1 w b m) (hl : l.length ≤ 100000) (hm : m.length ≤ 100000) :
    Calls Try.prog 20 #[.slice a l.length c, .slice b m.length d] w fun e w' => e = .returned (.bool (decide (l = m))) ∧ Below w.heap.size w w' := by
  have HA := Lib.hid ha
  have HB := Lib.hid hb
  clear ha hb
  by_cases hn : l.length = m.length
  · have d1 : ((l.length : Int) != (m.length : Int)) = false := by simp [hn]
    have d2 : (l.length : Int) = (m.length : Int) := by omega
    go_enter Try.func20, Try.ntmps20
    go_wp2_with fail
    go_loopw [4, 5] (fun r i wr => ∃ k : Nat, k ≤ l.length ∧ i = .int .i64 k ∧ r = .bool false ∧ Hid (Below w.heap.size w wr) ∧ l.take k = m.take k) (fun _ i _ => l.length - (intOf i).toNat)
    case atStart => exact ⟨0, Nat.zero_le _, rfl, rfl, Lib.hid (Below.refl _ _), rfl⟩
    case round =>
      obtain ⟨k, hk, rfl, rfl, HR, hsame⟩ := hrel
      by_cases hlt : k < l.length
      · have hlt2 : k < m.length := by omega
        obtain ⟨b1, o1, rfl, hc1⟩ := HA.out.at hlt
        obtain ⟨b2, o2, rfl, hc2⟩ := HB.out.at hlt2
        have x1 := hc1 wr HR.out 0 _ rfl
        have x2 := hc2 wr HR.out 0 _ rfl
        rw [Nat.mul_one, Nat.add_zero] at x1 x2
        have hs1 := List.take_succ_eq_append_getElem hlt
        have hs2 := List.take_succ_eq_append_getElem hlt2
        have hne : l[k] ≠ m[k] → decide (l = m) = false := fun h => decide_eq_false (fun e => by subst e; exact h rfl)
        have HR2 : Hid (∀ n, Below w.heap.size w (wr.drewN n)) := Lib.hid (fun n => bdN n HR.out)
        clear hc1 hc2
        generalize hx : l[k] = x at x1 hs1 hne
        generalize hy : m[k] = y at x2 hs2 hne
        clear hx hy
        have x1d : wr.drew.cell? ⟨b1, o1 + k, none⟩ = some (.string x) := x1
        have x2d : wr.drew.cell? ⟨b2, o2 + k, none⟩ = some (.string y) := x2
        by_cases q : x = y
        · have q1 : x.toList = y.toList := str_eq.1 q
          have HS := Lib.hid (show l.take (k + 1) = m.take (k + 1) by rw [hs1, hs2, hsame, q])
          clear q hs1 hs2 hne hsame
          go_wp2_with fail
          go_quiet (fail)
          go_wp2_with fail
          go_roundw
          case rel => exact ⟨k + 1, by omega, by go_num, rfl, Lib.hid (HR2.out _), HS.out⟩
          case measure => simp [intOf]; omega
        · have q1 : ¬ x.toList = y.toList := fun h => q (str_eq.2 h)
          have q2 : (x.toList == y.toList) = false := by simpa using q1
          have HQ := Lib.hid (hne q)
          clear q hs1 hs2 hne hsame
          go_wp2_with fail
          go_quiet (fail)
          go_wp2_with fail
          go_ret
          exact ⟨by rw [HQ.out]; rfl, HR2.out _⟩
      · obtain rfl : k = l.length := by omega
        have HQ := Lib.hid (show decide (l = m) = true by
          rw [List.take_length, hn, List.take_length] at hsame
          exact decide_eq_true hsame)
        clear hsame
        go_wp2_with fail
        go_ret
        exact ⟨by rw [HQ.out]; rfl, HR.out⟩
  · have HQ := Lib.hid (show decide (l = m) = false from decide_eq_false (fun e => hn (by rw [e])))
    have d1 : ((l.length : Int) != (m.length : Int)) = true := by simp; omega
    have d2 : ¬ (l.length : Int) = (m.length : Int) := by omega
    go_enter Try.func20, Try.ntmps20
    go_wp2_with fail
    go_ret
    exact ⟨by rw [HQ.out]; rfl, Below.refl _ _⟩
open Go.RowKit
theorem own_below {w w' : World} {base n t sz : Nat} {v : Value} {xs : List Value} (h : w.ownsRow base t sz v n xs) (hb : Below w.heap.size w w') : w'.ownsRow base t sz v n xs :=
  h.kept (row := none) ⟨hb.os, hb.tape, hb.output, hb.size, fun k hk _ => hb.block k hk⟩ (by cases h' : v.ownBlock <;> simp)
theorem own_cell {w : World} {base e n c : Nat} {a : Option Addr} {xs : List Value} (h : w.ownsRow base e 1 (.slice a n c) n xs) {k : Nat} (hk : k < n) : ∃ g, a = some ⟨g, 0, none⟩ ∧ base ≤ g ∧ ∃ u, w.cell? ⟨g, k, none⟩ = some u ∧ w.frozen? ⟨g, k, none⟩ = false := by
  obtain ⟨-, ⟨h1, h2⟩ | ⟨g, cap, cur, h1, hb, h3, h4, -, h6, -⟩⟩ := h
  · omega
  · cases h1
    have hlt : k < cur.size := by omega
    exact ⟨g, rfl, hb, cur[k], by rw [cells_of h3]; simp [hlt], frozen_of h3⟩
theorem vars_len (p : Pr) : (checkE p).1.length ≤ wtL p.conds := by
  rw [← vars_rel]
  unfold varsM
  split
  · simp
  · rename_i h
    have h1 := (check_rel p).2 (by rw [← (check_rel p).1]; exact Decidable.not_not.1 h)
    have := knows_lenL _ _ _ _ h1
    simpa using this
theorem heavyC_wt : ∀ l : List Co, heavyC l = false → wtL l ≤ 21 * sizeL l
  | [], _ => by simp [wtL]
  | .mk h m :: l, hn => by
    simp only [heavyC, heavyH, Bool.or_eq_false_iff, decide_eq_false_iff_not] at hn
    have h1 := heavyC_wt m hn.1.2
    have h2 := heavyC_wt l hn.2
    have h3 := hn.1.1.1.1.2
    have h4 := hn.1.1.1.1.1.2
    simp only [wtL, sizeL]; omega
set_option maxRecDepth 100000 in
set_option maxHeartbeats 8000000 in
theorem vars_walk (w : World) (p : Pr) (hp : PrIn w p) : Calls Try.prog 5 #[.agg #[.string p.name, .slice p.ca p.conds.length p.cc, .slice p.aa p.acts.length p.ac]] w fun e w' => e = .returned (.bool true) ∧ Below w.heap.size w w' := by
  obtain ⟨W2, hW2⟩ : ∃ W2, W2 = w.alloc (.cells #[.string p.name, .slice p.ca p.conds.length p.cc, .slice p.aa p.acts.length p.ac] 25) := ⟨_, rfl⟩
  have hB : Below w.heap.size w W2 := by rw [hW2]; go_grown
  have hgp : W2.heap[w.heap.size]? = some (.cells #[.string p.name, .slice p.ca p.conds.length p.cc, .slice p.aa p.acts.length p.ac] 25 (0, 0)) := by rw [hW2]; exact new_at rfl
  have HL := Lib.hid (fun w' (h : Below W2.heap.size W2 w') (j : Nat) (v : Value) (hv : [.string p.name, .slice p.ca p.conds.length p.cc, .slice p.aa p.acts.length p.ac][j]? = some v) => (by rw [Addr.add_lit, Nat.zero_add, cells_of ((h.block _ (heap_lt hgp)).trans hgp)]; simpa using hv : w'.cell? ((⟨w.heap.size, 0, none⟩ : Addr).add j) = some v))
  have HC := Lib.hid (fun w' (h : Below W2.heap.size W2 w') => (⟨cell_at' ((h.block _ (heap_lt hgp)).trans hgp) 0 (v := .string p.name) rfl, cell_at' ((h.block _ (heap_lt hgp)).trans hgp) 1 (v := .slice p.ca p.conds.length p.cc) rfl, cell_at' ((h.block _ (heap_lt hgp)).trans hgp) 2 (v := .slice p.aa p.acts.length p.ac) rfl⟩ : w'.cell? ⟨w.heap.size, 0, none⟩ = some (.string p.name) ∧ w'.cell? ⟨w.heap.size, 1, none⟩ = some (.slice p.ca p.conds.length p.cc) ∧ w'.cell? ⟨w.heap.size, 2, none⟩ = some (.slice p.aa p.acts.length p.ac)))
  have hi25 : (Try.prog.info? 25).map (·.size) = some 3 := by kernel_rfl
  have H25 := Lib.hid hi25
  have HBW := Lib.hid hB
  have HB := Lib.hid (Below.refl W2.heap.size W2)
  have HH := Lib.hid (fun w' (hb : Below W2.heap.size W2 w') => heavy_any p w' ((hp.mono hB).mono hb))
  have HP := Lib.hid (fun w' (hb : Below W2.heap.size W2 w') (hn : heavyP p = false) => ((hp.mono hB).mono hb).light hn)
  have HWK := Lib.hid (fun w' => wakes_any w')
  have hroom := hp.room
  clear hi25 hB hgp hp
  cases q : heavyP p with
  | true =>
    clear HP HC
    subst hW2
    go_enter Try.func5, Try.ntmps5
    go_wp2_with (first | (refine wpList_load rfl (.tmp 1) 25 rfl (A := ⟨w.heap.size, 0, none⟩) rfl Try.underlying25 rfl (cs := [.string p.name, .slice p.ca p.conds.length p.cc, .slice p.aa p.acts.length p.ac]) H25.out (HL.out _ HB.out) ?_) | (go_at_call 11; refine (HH.out _ HB.out).mono ?_; rintro e w1 ⟨rfl, hh⟩; replace HB := Lib.hid (HB.out.trans (hh.mono HB.out.size)); clear hh; rw [q]) | (go_at_call 12; refine (HWK.out _).mono ?_; rintro e w4 ⟨rfl, hh⟩; replace HB := Lib.hid (HB.out.trans (hh.mono HB.out.size)); clear hh))
    go_ret
    exact ⟨rfl, HBW.out.trans (HB.out.mono HBW.out.size)⟩
  | false =>
    have hno := heavyP_no q
    have hwt : wtL p.conds ≤ 900 := by have := heavyC_wt p.conds hno.2.2; omega
    have HVA := Lib.hid (fun w' (hb : Below W2.heap.size W2 w') => Vars_any p w' (by have := hno.1; omega) hwt (HP.out w' hb q))
    have HRV := Lib.hid (fun w' (hb : Below W2.heap.size W2 w') => rvars_any p w' (by have := hno.1; omega) hwt (by have := hno.2.1; omega) hroom (HP.out w' hb q))
    have hlen : (checkE p).1.length ≤ 900 := Nat.le_trans (vars_len p) hwt
    clear HP hno hwt hroom
    rw [vars_rel] at HRV
    generalize (checkE p).1 = L at HVA HRV hlen
    subst hW2
    go_enter Try.func5, Try.ntmps5
    go_wp2_with (first | (refine wpList_load rfl (.tmp 1) 25 rfl (A := ⟨w.heap.size, 0, none⟩) rfl Try.underlying25 rfl (cs := [.string p.name, .slice p.ca p.conds.length p.cc, .slice p.aa p.acts.length p.ac]) H25.out (HL.out _ HB.out) ?_) | (go_at_call 11; refine (HH.out _ HB.out).mono ?_; rintro e w1 ⟨rfl, hh⟩; replace HB := Lib.hid (HB.out.trans (hh.mono HB.out.size)); clear hh; rw [q]) | (go_at_call 19; refine (HVA.out _ HB.out).mono ?_; rintro e w2 ⟨v2, rfl, hrow, hb⟩; obtain ⟨av, cv, rfl⟩ := own_slice' hrow; have HRW := Lib.hid (own_lower hrow HB.out.size); replace HB := Lib.hid (HB.out.trans (hb.mono HB.out.size)); clear hrow hb) | (go_at_call 21; refine (HRV.out _ HB.out).mono ?_; rintro e w3 ⟨a2, c2, rfl, hk2, hb⟩; have HK2 := Lib.hid hk2; replace HRW := Lib.hid (own_below HRW.out hb); replace HB := Lib.hid (HB.out.trans (hb.mono HB.out.size)); clear hk2 hb) | (go_at_call 20; refine (texts_any L L _ _ _ _ _ (elts_texts HRW.out).2 HK2.out (by omega) (by omega)).mono ?_; rintro e w5 ⟨rfl, hb⟩; rw [decide_eq_true (rfl : L = L)]; replace HRW := Lib.hid (own_below HRW.out hb); replace HB := Lib.hid (HB.out.trans (hb.mono HB.out.size)); clear hb))
    go_loopw [4] (fun i wr => ∃ k : Nat, k ≤ L.length ∧ i = .int .i64 k ∧ Hid (Below (w.alloc (.cells #[.string p.name, .slice p.ca p.conds.length p.cc, .slice p.aa p.acts.length p.ac] 25)).heap.size (w.alloc (.cells #[.string p.name, .slice p.ca p.conds.length p.cc, .slice p.aa p.acts.length p.ac] 25)) wr) ∧ Hid (∃ xs', wr.ownsRow (w.alloc (.cells #[.string p.name, .slice p.ca p.conds.length p.cc, .slice p.aa p.acts.length p.ac] 25)).heap.size 9 1 (.slice av L.length cv) L.length xs')) (fun i _ => L.length - (intOf i).toNat)
    case atStart => exact ⟨0, Nat.zero_le _, rfl, HB, Lib.hid ⟨_, HRW.out⟩⟩
    case round =>
      obtain ⟨k, hk, rfl, HR, HX⟩ := hrel
      by_cases hlt : k < L.length
      · obtain ⟨xs', hx⟩ := HX.out
        obtain ⟨g, hav, hgb, u, hc, hf⟩ := own_cell hx hlt
        subst hav
        have HX2 := Lib.hid (⟨_, (hx.stored k (.string ⟨#[103, 111, 110, 101]⟩)).1⟩ : ∃ xs2, (wr.setCell ⟨g, k, none⟩ (.string ⟨#[103, 111, 110, 101]⟩)).ownsRow (w.alloc (.cells #[.string p.name, .slice p.ca p.conds.length p.cc, .slice p.aa p.acts.length p.ac] 25)).heap.size 9 1 (.slice (some ⟨g, 0, none⟩) L.length cv) L.length xs2)
        have HR2 := Lib.hid (HR.out.setCell (p := ⟨g, k, none⟩) hgb (.string ⟨#[103, 111, 110, 101]⟩))
        clear hx hgb
        go_wp2_with fail
        go_roundw
        case rel => exact ⟨k + 1, by omega, by go_num, HR2, HX2⟩
        case measure => simp [intOf]; omega
      · obtain rfl : k = L.length := by omega
        have HRR := HR
        obtain ⟨c0, c1, c2⟩ := HC.out _ HR.out
        have hcur : Hid (Below wr.heap.size wr wr.drew) := Lib.hid (Below.refl _ _).drew
        have HS := Lib.hid (fun w' (h : Below wr.heap.size wr w') => HC.out w' (HR.out.trans (h.mono HR.out.size)))
        have HVA2 := Lib.hid (fun w' (h : Below wr.heap.size wr w') => HVA.out w' (HR.out.trans (h.mono HR.out.size)))
        have HRV2 := Lib.hid (fun w' (h : Below wr.heap.size wr w') => HRV.out w' (HR.out.trans (h.mono HR.out.size)))
        clear HX HL HH HVA HRV HC HRW
        go_wp2_with fail
        go_region_held3 (fun w' => w'.cell? ⟨w.heap.size, 0, none⟩ = some (.string p.name) ∧ w'.cell? ⟨w.heap.size, 1, none⟩ = some (.slice p.ca p.conds.length p.cc) ∧ w'.cell? ⟨w.heap.size, 2, none⟩ = some (.slice p.aa p.acts.length p.ac))
          (first | exact HS.out _ hcur.out | go_keep)
          (first
            | (have _t := HKV; go_at_call 21; (with_reducible refine (HRV2.out _ hcur.out).mono ?_); rintro e wb ⟨a2, c2, rfl, hk2, hb⟩; have HKV2 := Lib.hid (HKV.out.mono hb); have HKR2 := Lib.hid hk2; replace hcur : Hid (Below wr.heap.size wr wb) := Lib.hid (hcur.out.trans (hb.mono hcur.out.size)); clear HKV hk2 hb)
            | (go_at_call 21; (with_reducible refine (HRV2.out _ hcur.out).mono ?_); rintro e wb ⟨a2, c2, rfl, hk2, hb⟩; have HKR := Lib.hid hk2; replace hcur : Hid (Below wr.heap.size wr wb) := Lib.hid (hcur.out.trans (hb.mono hcur.out.size)); clear hk2 hb)
            | (have _t := HKR; go_at_call 19; (with_reducible refine (HVA2.out _ hcur.out).mono ?_); rintro e wb ⟨v2, rfl, hrow, hb⟩; obtain ⟨av2, cv2, rfl⟩ := own_slice' hrow; have HKV2 := Lib.hid (elts_texts hrow).2; have HKR2 := Lib.hid (HKR.out.mono hb); replace hcur : Hid (Below wr.heap.size wr wb) := Lib.hid (hcur.out.trans (hb.mono hcur.out.size)); clear HKR hrow hb)
            | (go_at_call 19; (with_reducible refine (HVA2.out _ hcur.out).mono ?_); rintro e wb ⟨v2, rfl, hrow, hb⟩; obtain ⟨av2, cv2, rfl⟩ := own_slice' hrow; have HKV := Lib.hid (elts_texts hrow).2; replace hcur : Hid (Below wr.heap.size wr wb) := Lib.hid (hcur.out.trans (hb.mono hcur.out.size)); clear hrow hb)
            | (go_at_call 20; (with_reducible refine (texts_any L L _ _ _ _ _ HKV2.out HKR2.out (by omega) (by omega)).mono ?_); rintro e wc ⟨rfl, hb⟩; rw [decide_eq_true (rfl : L = L)]; replace hcur : Hid (Below wr.heap.size wr wc) := Lib.hid (hcur.out.trans (hb.mono hcur.out.size)); clear hb)
            | (go_at_call 12; refine (HWK.out _).mono ?_; rintro e wl ⟨rfl, hb⟩; replace hcur : Hid (Below wr.heap.size wr wl) := Lib.hid (hcur.out.trans (hb.mono hcur.out.size)); clear hb))
        all_goals
          go_wp2_with fail
          go_ret
          exact ⟨rfl, HBW.out.trans ((HRR.out.trans (hcur.out.mono HRR.out.size)).mono HBW.out.size)⟩
end Go.Proofs.Ytccphigpobnjmaa
