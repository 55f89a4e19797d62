/-
  Package shape: check, whether all variables are known where they must be, and which are known behind all conditions. No condition but bounds on sizes.
-/
import Derived.Deep.LoopGhost
import Derived.Test.YtccphigpobnjmaaShBad
namespace Go.Proofs.Ytccphigpobnjmaa
set_option linter.unusedVariables false
open Go.RowKit
set_option maxRecDepth 100000 in
set_option maxHeartbeats 8000000 in
theorem bad_stepF (cs : List Co) (ih : ∀ m, sizeL m < sizeL cs → BadOK m) : BadOK cs := by
  intro w0 w b s xs v ow n a cap h hb hc hz hn
  have Hel := Lib.hid hc.elts
  have Hin := Lib.hid (fun k (hk : k < cs.length) => within_any cs[k] (ih cs[k].l (size_inner cs hk)) w0)
  have Htt := Lib.hid (fun k (hk : k < cs.length) => hc.tests hk)
  have Hci := Lib.hid (fun k (hk : k < cs.length) => hc.inner hk)
  have hln := len_size cs
  have hlen : cs.length ≤ 400000 := by omega
  have H0 := Lib.hid h
  have HB := Lib.hid hb
  have HZ := Lib.hid hz
  have HN := Lib.hid hn
  have hi64 : (Try.prog.info? 64).map (·.size) = some 7 := by kernel_rfl
  have H64 := Lib.hid hi64
  clear h hb hc hz hn ih hln hi64
  go_enter Try.func76, Try.ntmps76
  go_wp2_with fail
  go_loopw [2, 9, 12] (fun f _ i wr => ∃ (k : Nat) (st : Stt) (v' : Value), k ≤ cs.length ∧ i = .int .i64 k ∧ f = .int .i64 ((n + sizeL (cs.take k) : Nat) : Int) ∧
    Hid (badS cs n (xs, ow) = badS (cs.drop k) (n + sizeL (cs.take k)) st ∧ ScOwn wr w0.heap.size b s st.1 v' st.2 ∧ ScTouch b s v v' w wr ∧ st.1.length ≤ xs.length + wtL (cs.take k) ∧ Below w0.heap.size w wr)) (fun _ _ i _ => cs.length - (intOf i).toNat)
  case atStart => exact ⟨0, (xs, ow), v, Nat.zero_le _, rfl, by simp [sizeL], by simp [sizeL], H0.out, ScTouch.ofBelow (Below.refl _ _), by simp [wtL], Below.refl _ _⟩
  case round =>
    obtain ⟨k, st, v', hk, rfl, rfl, hI⟩ := hrel
    by_cases hlt : k < cs.length
    · obtain ⟨bb, off, rfl, hcell⟩ := Hel.out.at hlt
      have hin := Hin.out k hlt
      have htt := Htt.out k hlt
      have hci := Hci.out k hlt
      have hs := size_take_succ cs hlt
      have hs2 := size_take_le cs (k + 1)
      have hw := wt_take_succ cs hlt
      have hw2 := wt_take_le cs (k + 1)
      have hst := bad_step hlt (n + sizeL (cs.take k)) st
      have hz := HZ.out
      have hn := HN.out
      obtain ⟨x, hx⟩ : ∃ x, x = cs[k] := ⟨_, rfl⟩
      rw [← hx] at hcell hin htt hci hs hw hst
      obtain ⟨p, hp⟩ : ∃ p, p = n + sizeL (cs.take k) := ⟨_, rfl⟩
      rw [← hp] at hst hI ⊢
      have hs' : n + sizeL (cs.take (k + 1)) = p + (1 + sizeL x.l) := by omega
      obtain ⟨hrun, hown, htch, hl9, hbr⟩ := hI.out
      obtain ⟨l1, l2, l3⟩ := hown.lts
      have hwl := within_len x p st
      obtain ⟨W2, hW2⟩ : ∃ W2, W2 = wr.alloc (.cells #[.int .i64 x.h.kind, .bool x.h.goal, .string x.h.id, .slice x.h.aa x.h.attr.length x.h.ac, .slice x.h.va x.h.value.length x.h.vc, .bool x.h.acc, .slice x.h.ca x.l.length x.h.cc] 64) := ⟨_, rfl⟩
      have hB2 : Below wr.heap.size wr W2 := by rw [hW2]; go_grown
      have hbx : W2.heap[wr.heap.size]? = some (.cells #[.int .i64 x.h.kind, .bool x.h.goal, .string x.h.id, .slice x.h.aa x.h.attr.length x.h.ac, .slice x.h.va x.h.value.length x.h.vc, .bool x.h.acc, .slice x.h.ca x.l.length x.h.cc] 64 (0, 0)) := by rw [hW2]; exact new_at rfl
      have hbase : w0.heap.size ≤ wr.heap.size := Nat.le_trans hown.hb (Nat.le_of_lt l1)
      have hwi := hin W2 b s st.1 v' st.2 p (hown.mono hB2) (HB.out.trans (hbr.trans (hB2.mono hbase))) htt.1.1 htt.2.1 hci (by omega) (by omega)
      have hcl : ∀ (j : Nat) (u : Value), [.int .i64 x.h.kind, .bool x.h.goal, .string x.h.id, .slice x.h.aa x.h.attr.length x.h.ac, .slice x.h.va x.h.value.length x.h.vc, .bool x.h.acc, .slice x.h.ca x.l.length x.h.cc][j]? = some u → wr.cell? ((⟨bb, off + k * 7, none⟩ : Addr).add j) = some u := fun j u hu => by rw [Addr.add_lit]; exact hcell wr (HB.out.trans hbr) j u hu
      have hcb : ∀ (j : Nat) (u : Value), [.int .i64 x.h.kind, .bool x.h.goal, .string x.h.id, .slice x.h.aa x.h.attr.length x.h.ac, .slice x.h.va x.h.value.length x.h.vc, .bool x.h.acc, .slice x.h.ca x.l.length x.h.cc][j]? = some u → W2.cell? ((⟨wr.heap.size, 0, none⟩ : Addr).add j) = some u := fun j u hu => by
        rw [Addr.add_lit, Nat.zero_add, cells_of hbx]; simpa using hu
      have HCL := Lib.hid hcl
      have HCB := Lib.hid hcb
      have HWI := Lib.hid hwi
      have HW := Lib.hid hW2
      have HS := Lib.hid hs'
      have HX := Lib.hid hbx
      have HT2 := Lib.hid (htch.trans (ScTouch.ofBelow hB2))
      have HB2 := Lib.hid (hbr.trans (hB2.mono hbase))
      have HNE := Lib.hid (show wr.heap.size ≠ b ∧ wr.heap.size ≠ s ∧ v'.ownBlock ≠ some wr.heap.size from ⟨by omega, by omega, l3⟩)
      have HSZ := Lib.hid (fun w' (h : Below w0.heap.size w0 w') => size_any x.l (by omega) x.h.ca x.h.cc w' (hci.mono h))
      have HRUN := Lib.hid (hrun.trans hst)
      have hp9 : p ≤ 400000 := by omega
      have hm9 : sizeL x.l ≤ 400000 := by omega
      have HLN : Hid ((withinS x p st).2.1.length ≤ xs.length + wtL (cs.take (k + 1))) := Lib.hid (by rw [hw]; omega)
      clear hx hcell hin htt hci hs hs2 hw hw2 hst hz hn hp hs' hI hrun hown htch hl9 hbr hwl hB2 hbx hbase hwi hcl hcb hW2 l1 l2 l3
      cases q1 : (withinS x p st).1 != -1 with
      | true =>
        have HQ := Lib.hid (HRUN.out.trans (if_pos (bne_iff_ne.1 q1)))
        go_wp2_with (first | (refine wpList_load rfl (.tmp 14) 64 rfl (A := ⟨bb, off + k * 7, none⟩) rfl Try.underlying64 rfl (cs := [.int .i64 x.h.kind, .bool x.h.goal, .string x.h.id, .slice x.h.aa x.h.attr.length x.h.ac, .slice x.h.va x.h.value.length x.h.vc, .bool x.h.acc, .slice x.h.ca x.l.length x.h.cc]) H64.out HCL.out ?_) | (refine wpList_store_new rfl (.tmp 8) (.tmp 15) 64 rfl rfl (c' := #[.int .i64 x.h.kind, .bool x.h.goal, .string x.h.id, .slice x.h.aa x.h.attr.length x.h.ac, .slice x.h.va x.h.value.length x.h.vc, .bool x.h.acc, .slice x.h.ca x.l.length x.h.cc]) rfl H64.out rfl (by simp [Value.oneCell']) ?_) | (rw [← HW.out]; refine wpList_load rfl (.tmp 8) 64 rfl (A := ⟨wr.heap.size, 0, none⟩) rfl Try.underlying64 rfl (cs := [.int .i64 x.h.kind, .bool x.h.goal, .string x.h.id, .slice x.h.aa x.h.attr.length x.h.ac, .slice x.h.va x.h.value.length x.h.vc, .bool x.h.acc, .slice x.h.ca x.l.length x.h.cc]) H64.out HCB.out ?_) | (go_at_call 97; refine HWI.out.mono ?_; rintro e w3 ⟨rfl, hp3⟩))
        go_ret
        exact ⟨by (rw [HQ.out]; try rfl), by rw [HQ.out]; exact ⟨HB2.out.trans hp3.1, hp3.2.elim fun v3 h => ⟨v3, h.1, HT2.out.trans h.2⟩⟩⟩
      | false =>
        have hq1 : (withinS x p st).1 = -1 := bne_eq_false_iff_eq.1 q1
        have HQ := Lib.hid (HRUN.out.trans (if_neg (by rw [hq1]; decide)))
        rw [hq1] at HWI
        clear q1 hq1
        go_wp2_with (first | (go_at_call 97; refine HWI.out.mono ?_; rintro e w3 ⟨rfl, hp3⟩; obtain ⟨hb3, v3, ho3, ht3⟩ := hp3; have c63 : w3.cell? ⟨wr.heap.size, 6, none⟩ = some (.slice x.h.ca x.l.length x.h.cc) := (by rw [cells_of (ht3.keepBox HX.out HNE.out.1 HNE.out.2.1 HNE.out.2.2)]; rfl); have HO3 := Lib.hid ho3; have HT3 := Lib.hid (HT2.out.trans ht3); have HB3 := Lib.hid (HB2.out.trans hb3); clear hb3 ho3 ht3) | (refine wpList_load rfl (.tmp 14) 64 rfl (A := ⟨bb, off + k * 7, none⟩) rfl Try.underlying64 rfl (cs := [.int .i64 x.h.kind, .bool x.h.goal, .string x.h.id, .slice x.h.aa x.h.attr.length x.h.ac, .slice x.h.va x.h.value.length x.h.vc, .bool x.h.acc, .slice x.h.ca x.l.length x.h.cc]) H64.out HCL.out ?_) | (refine wpList_store_new rfl (.tmp 8) (.tmp 15) 64 rfl rfl (c' := #[.int .i64 x.h.kind, .bool x.h.goal, .string x.h.id, .slice x.h.aa x.h.attr.length x.h.ac, .slice x.h.va x.h.value.length x.h.vc, .bool x.h.acc, .slice x.h.ca x.l.length x.h.cc]) rfl H64.out rfl (by simp [Value.oneCell']) ?_) | (rw [← HW.out]; refine wpList_load rfl (.tmp 8) 64 rfl (A := ⟨wr.heap.size, 0, none⟩) rfl Try.underlying64 rfl (cs := [.int .i64 x.h.kind, .bool x.h.goal, .string x.h.id, .slice x.h.aa x.h.attr.length x.h.ac, .slice x.h.va x.h.value.length x.h.vc, .bool x.h.acc, .slice x.h.ca x.l.length x.h.cc]) H64.out HCB.out ?_) | (go_at_call 26; refine (HSZ.out w3 (HB.out.trans HB3.out)).mono ?_; rintro e w4 ⟨rfl, h4⟩))
        go_roundw
        case rel => exact ⟨k + 1, _, v3, by omega, by go_num, by rw [HS.out]; go_num, by rw [HQ.out, HS.out, Nat.add_assoc], HO3.out.mono h4, HT3.out.trans (ScTouch.ofBelow h4), HLN.out, HB3.out.trans (h4.mono (Nat.le_trans HO3.out.hb (Nat.le_of_lt HO3.out.lts.1)))⟩
        case measure => simp [intOf]; omega
    · obtain rfl : k = cs.length := by omega
      have HQ := Lib.hid (show badS cs n (xs, ow) = (-1, st) by rw [hI.out.1, List.drop_length]; simp [badS])
      have HI := Lib.hid hI.out
      clear hI
      go_wp2_with fail
      go_ret
      exact ⟨by (rw [HQ.out]; try rfl), HI.out.2.2.2.2, v', by rw [HQ.out]; exact HI.out.2.1, HI.out.2.2.1⟩
theorem bad_any (cs : List Co) : BadOK cs := by
  have key : ∀ n, ∀ l : List Co, sizeL l ≤ n → BadOK l := by
    intro n
    induction n with
    | zero => exact fun l h => bad_stepF l (fun m hm => by omega)
    | succ n ih => exact fun l h => bad_stepF l (fun m hm => ih m (by omega))
  exact key _ cs (Nat.le_refl _)
open Go.RowKit
def stP (p : Pr) : Int × Stt := badS p.conds 0 ([], [])
def kindP (p : Pr) : Int := match p.conds with | [] => 0 | c :: _ => c.h.kind
def checkE (p : Pr) : List ByteArray × Int × Int :=
  if (shapeE p).2 ≠ 0 then ([], shapeE p) else if kindP p ≠ 1 then ([], 0, 9) else if (stP p).1 ≠ -1 then ([], (stP p).1, 6) else if p.acts.all (actS (stP p).2.1) = true then ((stP p).2.2, -1, 0) else ([], (sizeL p.conds : Int) + ((p.acts.takeWhile (actS (stP p).2.1)).length : Int), 6)
theorem kind_at {p : Pr} (h : 0 < p.conds.length) : kindP p = p.conds[0].h.kind := by
  obtain ⟨nm, cs, ca, cc, zs, aa, ac⟩ := p
  cases cs with
  | nil => simp at h
  | cons c l => rfl
theorem own_lower {w : World} {base base' : Nat} {e : TypeId} {size : Nat} {v : Value} {n : Nat} {xs : List Value} (h : w.ownsRow base e size v n xs) (hb : base' ≤ base) : w.ownsRow base' e size v n xs :=
  ⟨h.1, h.2.imp id fun ⟨g, cap, cur, h1, h2, h3⟩ => ⟨g, cap, cur, h1, Nat.le_trans hb h2, h3⟩⟩
theorem shape_ok {p : Pr} (h : (shapeE p).2 = 0) : p.conds.length ≠ 0 ∧ p.acts.length ≤ 16 ∧ sizeL p.conds ≤ 16 := by
  have hw : wholeE p = 0 := by
    by_cases h0 : wholeE p = 0
    · exact h0
    · unfold shapeE at h; rw [if_pos h0] at h; exact absurd h h0
  unfold wholeE at hw
  repeat' split at hw
  all_goals first | omega | (cases hw)
set_option maxRecDepth 100000 in
set_option maxHeartbeats 16000000 in
theorem check_any (p : Pr) (w : World) (hz : sizeL p.conds ≤ 300000) (hwt : wtL p.conds ≤ 600000) (hp : PrAt w p) : Calls Try.prog 48 #[.agg #[.string p.name, .slice p.ca p.conds.length p.cc, .slice p.aa p.acts.length p.ac]] w fun e w' => ∃ v, e = .returned (.tuple #[v, .int .i64 (checkE p).2.1, .int .i64 (checkE p).2.2]) ∧ w'.ownsRow w.heap.size 9 1 v (checkE p).1.length ((checkE p).1.map .string) ∧ Below w.heap.size w w' := by
  obtain ⟨W1, hW1⟩ : ∃ W1, W1 = w.alloc (.cells #[.string p.name, .slice p.ca p.conds.length p.cc, .slice p.aa p.acts.length p.ac] 25) := ⟨_, rfl⟩
  have hB : Below w.heap.size w W1 := by rw [hW1]; go_grown
  have hx : W1.heap[w.heap.size]? = some (.cells #[.string p.name, .slice p.ca p.conds.length p.cc, .slice p.aa p.acts.length p.ac] 25 (0, 0)) := by rw [hW1]; exact new_at rfl
  have hc : ∀ w', Below W1.heap.size W1 w' → w'.cell? ⟨w.heap.size, 1, none⟩ = some (.slice p.ca p.conds.length p.cc) ∧ w'.cell? ⟨w.heap.size, 2, none⟩ = some (.slice p.aa p.acts.length p.ac) := by
    intro w' hb
    have e := (hb.block _ (heap_lt hx)).trans hx
    exact ⟨by rw [cells_of e]; rfl, by rw [cells_of e]; rfl⟩
  have HSH := Lib.hid (shape_any p W1 (by omega) (hp.mono hB))
  have HC := Lib.hid hc
  have HW := Lib.hid hW1
  have HB := Lib.hid hB
  have HP := Lib.hid hp
  clear hc hW1 hx hB hp
  cases q1 : (shapeE p).2 != 0 with
  | true =>
    have HQ := Lib.hid (show checkE p = ([], shapeE p) by unfold checkE; rw [if_pos (bne_iff_ne.1 q1)])
    go_enter Try.func48, Try.ntmps48
    go_wp2_with (go_at_call 13; rw [← HW.out]; refine HSH.out.mono ?_; rintro e w1 ⟨rfl, h1⟩; obtain ⟨c1, c2⟩ := HC.out w1 h1)
    go_ret3
    exact ⟨_, by (rw [HQ.out]; try rfl), by rw [HQ.out]; exact World.ownsRow_nil _ _ _ _, HB.out.trans (h1.mono HB.out.size)⟩
  | false =>
    have hq1 : (shapeE p).2 = 0 := bne_eq_false_iff_eq.1 q1
    obtain ⟨s1, s2, s3⟩ := shape_ok hq1
    have HS1 := Lib.hid (show checkE p = _ by unfold checkE; rw [hq1, if_neg (by decide)])
    obtain ⟨bb, off, hca, hcell0⟩ := HP.out.conds.elts.at (k := 0) (by omega)
    have hk0 : ∀ w', Below w.heap.size w w' → w'.cell? ⟨bb, off, none⟩ = some (.int .i64 (kindP p)) := fun w' h' => by
      have h0 := hcell0 w' h' 0 (.int .i64 (kindP p)) (by
        rw [kind_at (by omega)]; rfl)
      simpa using h0
    have hc2 := HC.out
    simp only [hca] at hc2
    have HC2 := Lib.hid hc2
    have HK0 := Lib.hid hk0
    have hpl : decide (0 < p.conds.length) = true := decide_eq_true (by omega)
    have hpl2 : 0 < p.conds.length := by omega
    clear hc2 hk0 hcell0 HC
    rw [hq1] at HSH
    have HCA := Lib.hid hca
    clear hca
    cases q2 : kindP p != 1 with
    | true =>
      have HQ := Lib.hid (show checkE p = ([], 0, 9) by rw [HS1.out, if_pos (bne_iff_ne.1 q2)])
      go_enter Try.func48, Try.ntmps48
      go_wp2_with (go_at_call 13; rw [← HW.out]; refine HSH.out.mono ?_; rintro e w1 ⟨rfl, h1⟩; obtain ⟨c1, c2⟩ := HC2.out w1 h1; have ck := HK0.out w1 (HB.out.trans (h1.mono HB.out.size)))
      go_ret3
      exact ⟨_, by (rw [HQ.out]; try rfl), by rw [HQ.out]; exact World.ownsRow_nil _ _ _ _, HB.out.trans (h1.mono HB.out.size)⟩
    | false =>
      have HS2 := Lib.hid (show checkE p = _ by rw [HS1.out, if_neg (by rw [bne_eq_false_iff_eq.1 q2]; decide)])
      clear HS1
      have hbad : ∀ (w1 w2 : World) (b s : Nat), Below W1.heap.size W1 w1 → Below w1.heap.size w1 w2 → ScOwn w2 w1.heap.size b s [] (.slice none 0 0) [] → Calls Try.prog 76 #[.pointer (some ⟨b, 0, none⟩), .slice (some ⟨bb, off, none⟩) p.conds.length p.cc, .int .i64 0] w2 fun e w' => e = .returned (.int .i64 (stP p).1) ∧ ScPost w1.heap.size b s (.slice none 0 0) (stP p).2 w2 w' := fun w1 w2 b s h1 h2 h3 => by
        have h := bad_any p.conds w1 w2 b s [] (.slice none 0 0) [] 0 p.ca p.cc h3 h2 (HP.out.conds.mono (HB.out.trans (h1.mono HB.out.size))) (by simpa using Nat.le_trans hwt (by omega)) (by omega)
        rw [HCA.out] at h
        exact h
      have HBAD := Lib.hid hbad
      clear hbad
      cases q3 : (stP p).1 != -1 with
      | true =>
        have HQ := Lib.hid (show checkE p = ([], (stP p).1, 6) by rw [HS2.out, if_pos (bne_iff_ne.1 q3)])
        go_enter Try.func48, Try.ntmps48
        go_wp2_with (first | (go_at_call 13; rw [← HW.out]; refine HSH.out.mono ?_; rintro e w1 ⟨rfl, h1⟩; obtain ⟨c1, c2⟩ := HC2.out w1 h1; have ck := HK0.out w1 (HB.out.trans (h1.mono HB.out.size))) | (go_at_call 75; refine (new_scope _).mono ?_; rintro e w2 ⟨b, s, rfl, hb2, hs2, h2, hsc⟩; have H2 := Lib.hid (⟨h2, hsc, World.ownsRow_nil _ _ _ _, hb2, hs2, Nat.zero_le _⟩ : Below w1.heap.size w1 w2 ∧ ScOwn w2 w1.heap.size b s [] (.slice none 0 0) []); clear hb2 hs2 h2 hsc; clear c1 c2; obtain ⟨c1, c2⟩ := HC2.out w2 (h1.trans (H2.out.1.mono h1.size))) | (go_at_call 76; refine (HBAD.out w1 w2 b s h1 H2.out.1 H2.out.2).mono ?_; rintro e w3 ⟨rfl, hp3⟩))
        go_ret3
        exact ⟨_, by (rw [HQ.out]; try rfl), by rw [HQ.out]; exact World.ownsRow_nil _ _ _ _, HB.out.trans ((h1.trans (H2.out.1.mono h1.size)).trans (hp3.1.mono h1.size) |>.mono HB.out.size)⟩
      | false =>
        have hq3 : (stP p).1 = -1 := bne_eq_false_iff_eq.1 q3
        have HS3 := Lib.hid (show checkE p = _ by rw [HS2.out, if_neg (by rw [hq3]; decide)])
        rw [hq3] at HBAD
        clear HS2 q3 hq3
        have Hel := Lib.hid HP.out.acts
        have hi59 : (Try.prog.info? 59).map (·.size) = some 19 := by kernel_rfl
        have H59 := Lib.hid hi59
        clear hi59
        go_enter Try.func48, Try.ntmps48
        go_wp2_with (first | (go_at_call 13; rw [← HW.out]; refine HSH.out.mono ?_; rintro e w1 ⟨rfl, h1⟩; obtain ⟨c1, c2⟩ := HC2.out w1 h1; have ck := HK0.out w1 (HB.out.trans (h1.mono HB.out.size))) | (go_at_call 75; refine (new_scope _).mono ?_; rintro e w2 ⟨b, s, rfl, hb2, hs2, h2, hsc⟩; have H2 := Lib.hid (⟨h2, hsc, World.ownsRow_nil _ _ _ _, hb2, hs2, Nat.zero_le _⟩ : Below w1.heap.size w1 w2 ∧ ScOwn w2 w1.heap.size b s [] (.slice none 0 0) []); clear hb2 hs2 h2 hsc; clear c1 c2; obtain ⟨c1, c2⟩ := HC2.out w2 (h1.trans (H2.out.1.mono h1.size))) | (go_at_call 76; refine (HBAD.out w1 w2 b s h1 H2.out.1 H2.out.2).mono ?_; rintro e w3 ⟨rfl, hp3⟩; obtain ⟨hb3, v3, ho3, ht3⟩ := hp3; have HO3 := Lib.hid ho3; have HB3 := Lib.hid (HB.out.trans ((h1.trans (H2.out.1.mono h1.size)).trans (hb3.mono h1.size) |>.mono HB.out.size)); have HB13 := Lib.hid ((h1.trans (H2.out.1.mono h1.size)).trans (hb3.mono h1.size)); have hbs := Lib.hid h1.size; clear hb3 ho3 ht3; clear c1 c2; obtain ⟨c1, c2⟩ := HC2.out w3 HB13.out))
        go_loopw [9, 37] (fun _ i wr => ∃ k : Nat, k ≤ p.acts.length ∧ i = .int .i64 k ∧ Below w3.heap.size w3 wr ∧ (p.acts.take k).all (actS (stP p).2.1) = true) (fun _ i _ => p.acts.length - (intOf i).toNat)
        case atStart => exact ⟨0, Nat.zero_le _, rfl, Below.refl _ _, by simp⟩
        case round =>
          obtain ⟨k, hk, rfl, hbr, hall⟩ := hrel
          by_cases hlt : k < p.acts.length
          · obtain ⟨ba, offa, hab, hcell⟩ := Hel.out.at hlt
            have hsucc := all_take_succ (actS (stP p).2.1) p.acts hlt
            have hcut := fun h => all_cut (p := actS (stP p).2.1) hlt h
            have htw := fun h => takeWhile_cut (p := actS (stP p).2.1) hlt hall h
            have hwr := hbr.size
            have hc := hcell wr (HB3.out.trans (hbr.mono HB3.out.size))
            obtain ⟨x, hx⟩ : ∃ x, x = p.acts[k] := ⟨_, rfl⟩
            rw [← hx] at hc hsucc hcut htw
            rw [hall, Bool.true_and] at hsucc
            have hcl : ∀ (j : Nat) (u : Value), [.string x.id, .string x.at_.v, .int .i64 x.at_.s.k, .string x.at_.s.t, .int .i64 x.at_.s.n, .int .i64 x.v.op, .string x.v.l.v, .int .i64 x.v.l.s.k, .string x.v.l.s.t, .int .i64 x.v.l.s.n, .string x.v.r.v, .int .i64 x.v.r.s.k, .string x.v.r.s.t, .int .i64 x.v.r.s.n, .int .i64 x.pref, .string x.oth.v, .int .i64 x.oth.s.k, .string x.oth.s.t, .int .i64 x.oth.s.n][j]? = some u → wr.cell? ((⟨ba, offa + k * 19, none⟩ : Addr).add j) = some u := fun j u hu => by rw [Addr.add_lit]; exact hc j u hu
            have hB2 : Below wr.heap.size wr (wr.alloc (.cells #[.string x.id, .string x.at_.v, .int .i64 x.at_.s.k, .string x.at_.s.t, .int .i64 x.at_.s.n, .int .i64 x.v.op, .string x.v.l.v, .int .i64 x.v.l.s.k, .string x.v.l.s.t, .int .i64 x.v.l.s.n, .string x.v.r.v, .int .i64 x.v.r.s.k, .string x.v.r.s.t, .int .i64 x.v.r.s.n, .int .i64 x.pref, .string x.oth.v, .int .i64 x.oth.s.k, .string x.oth.s.t, .int .i64 x.oth.s.n] 59)) := by go_grown
            have hcb : ∀ (j : Nat) (u : Value), [.string x.id, .string x.at_.v, .int .i64 x.at_.s.k, .string x.at_.s.t, .int .i64 x.at_.s.n, .int .i64 x.v.op, .string x.v.l.v, .int .i64 x.v.l.s.k, .string x.v.l.s.t, .int .i64 x.v.l.s.n, .string x.v.r.v, .int .i64 x.v.r.s.k, .string x.v.r.s.t, .int .i64 x.v.r.s.n, .int .i64 x.pref, .string x.oth.v, .int .i64 x.oth.s.k, .string x.oth.s.t, .int .i64 x.oth.s.n][j]? = some u → (wr.alloc (.cells #[.string x.id, .string x.at_.v, .int .i64 x.at_.s.k, .string x.at_.s.t, .int .i64 x.at_.s.n, .int .i64 x.v.op, .string x.v.l.v, .int .i64 x.v.l.s.k, .string x.v.l.s.t, .int .i64 x.v.l.s.n, .string x.v.r.v, .int .i64 x.v.r.s.k, .string x.v.r.s.t, .int .i64 x.v.r.s.n, .int .i64 x.pref, .string x.oth.v, .int .i64 x.oth.s.k, .string x.oth.s.t, .int .i64 x.oth.s.n] 59)).cell? ((⟨wr.heap.size, 0, none⟩ : Addr).add j) = some u := fun j u hu => by
              rw [Addr.add_lit, Nat.zero_add, cells_of (new_at rfl)]; simpa using hu
            have hac := allowsAct_any (wr.alloc (.cells #[.string x.id, .string x.at_.v, .int .i64 x.at_.s.k, .string x.at_.s.t, .int .i64 x.at_.s.n, .int .i64 x.v.op, .string x.v.l.v, .int .i64 x.v.l.s.k, .string x.v.l.s.t, .int .i64 x.v.l.s.n, .string x.v.r.v, .int .i64 x.v.r.s.k, .string x.v.r.s.t, .int .i64 x.v.r.s.n, .int .i64 x.pref, .string x.oth.v, .int .i64 x.oth.s.k, .string x.oth.s.t, .int .i64 x.oth.s.n] 59)) b s (stP p).2.1 v3 x ((HO3.out.mono hbr).sc.mono hB2)
            have HCL := Lib.hid hcl
            have HCB := Lib.hid hcb
            have HAC := Lib.hid hac
            have HSU := Lib.hid hsucc
            have HCUT := Lib.hid hcut
            have HTW := Lib.hid htw
            have HB2 := Lib.hid hB2
            have HBR := Lib.hid hbr
            rw [hab]
            clear hcl hcb hac hsucc hcut htw hB2 hx hc hcell hall hbr
            cases hq : actS (stP p).2.1 x with
            | true =>
              have HSU2 := Lib.hid (HSU.out.trans hq)
              go_wp2_with (first | (refine wpList_load rfl (.tmp 40) 59 rfl (A := ⟨ba, offa + k * 19, none⟩) rfl Try.underlying59 rfl (cs := [.string x.id, .string x.at_.v, .int .i64 x.at_.s.k, .string x.at_.s.t, .int .i64 x.at_.s.n, .int .i64 x.v.op, .string x.v.l.v, .int .i64 x.v.l.s.k, .string x.v.l.s.t, .int .i64 x.v.l.s.n, .string x.v.r.v, .int .i64 x.v.r.s.k, .string x.v.r.s.t, .int .i64 x.v.r.s.n, .int .i64 x.pref, .string x.oth.v, .int .i64 x.oth.s.k, .string x.oth.s.t, .int .i64 x.oth.s.n]) H59.out HCL.out ?_) | (refine wpList_store_new rfl (.tmp 10) (.tmp 41) 59 rfl rfl (c' := #[.string x.id, .string x.at_.v, .int .i64 x.at_.s.k, .string x.at_.s.t, .int .i64 x.at_.s.n, .int .i64 x.v.op, .string x.v.l.v, .int .i64 x.v.l.s.k, .string x.v.l.s.t, .int .i64 x.v.l.s.n, .string x.v.r.v, .int .i64 x.v.r.s.k, .string x.v.r.s.t, .int .i64 x.v.r.s.n, .int .i64 x.pref, .string x.oth.v, .int .i64 x.oth.s.k, .string x.oth.s.t, .int .i64 x.oth.s.n]) rfl H59.out rfl (by simp [Value.oneCell']) ?_) | (refine wpList_load rfl (.tmp 10) 59 rfl (A := ⟨wr.heap.size, 0, none⟩) rfl Try.underlying59 rfl (cs := [.string x.id, .string x.at_.v, .int .i64 x.at_.s.k, .string x.at_.s.t, .int .i64 x.at_.s.n, .int .i64 x.v.op, .string x.v.l.v, .int .i64 x.v.l.s.k, .string x.v.l.s.t, .int .i64 x.v.l.s.n, .string x.v.r.v, .int .i64 x.v.r.s.k, .string x.v.r.s.t, .int .i64 x.v.r.s.n, .int .i64 x.pref, .string x.oth.v, .int .i64 x.oth.s.k, .string x.oth.s.t, .int .i64 x.oth.s.n]) H59.out HCB.out ?_) | (go_at_call 77; refine HAC.out.mono ?_; rintro e w4 ⟨rfl, h4⟩; rw [hq]))
              go_roundw
              case rel => exact ⟨k + 1, by omega, by go_num, HBR.out.trans ((HB2.out.trans (h4.mono HB2.out.size)).mono hwr), HSU2.out⟩
              case measure => simp [intOf]; omega
            | false =>
              have HQ := Lib.hid (show checkE p = ([], (sizeL p.conds : Int) + (k : Int), 6) by rw [HS3.out, HCUT.out hq, if_neg (by decide), HTW.out hq])
              go_wp2_with (first | (go_at_call 77; refine HAC.out.mono ?_; rintro e w4 ⟨rfl, h4⟩; rw [hq]; have HB4 := Lib.hid (HBR.out.trans ((HB2.out.trans (h4.mono HB2.out.size)).mono hwr)); obtain ⟨c14, c24⟩ := HC2.out w4 (HB13.out.trans (HB4.out.mono HB13.out.size)); clear h4) | (refine wpList_load rfl (.tmp 40) 59 rfl (A := ⟨ba, offa + k * 19, none⟩) rfl Try.underlying59 rfl (cs := [.string x.id, .string x.at_.v, .int .i64 x.at_.s.k, .string x.at_.s.t, .int .i64 x.at_.s.n, .int .i64 x.v.op, .string x.v.l.v, .int .i64 x.v.l.s.k, .string x.v.l.s.t, .int .i64 x.v.l.s.n, .string x.v.r.v, .int .i64 x.v.r.s.k, .string x.v.r.s.t, .int .i64 x.v.r.s.n, .int .i64 x.pref, .string x.oth.v, .int .i64 x.oth.s.k, .string x.oth.s.t, .int .i64 x.oth.s.n]) H59.out HCL.out ?_) | (refine wpList_store_new rfl (.tmp 10) (.tmp 41) 59 rfl rfl (c' := #[.string x.id, .string x.at_.v, .int .i64 x.at_.s.k, .string x.at_.s.t, .int .i64 x.at_.s.n, .int .i64 x.v.op, .string x.v.l.v, .int .i64 x.v.l.s.k, .string x.v.l.s.t, .int .i64 x.v.l.s.n, .string x.v.r.v, .int .i64 x.v.r.s.k, .string x.v.r.s.t, .int .i64 x.v.r.s.n, .int .i64 x.pref, .string x.oth.v, .int .i64 x.oth.s.k, .string x.oth.s.t, .int .i64 x.oth.s.n]) rfl H59.out rfl (by simp [Value.oneCell']) ?_) | (refine wpList_load rfl (.tmp 10) 59 rfl (A := ⟨wr.heap.size, 0, none⟩) rfl Try.underlying59 rfl (cs := [.string x.id, .string x.at_.v, .int .i64 x.at_.s.k, .string x.at_.s.t, .int .i64 x.at_.s.n, .int .i64 x.v.op, .string x.v.l.v, .int .i64 x.v.l.s.k, .string x.v.l.s.t, .int .i64 x.v.l.s.n, .string x.v.r.v, .int .i64 x.v.r.s.k, .string x.v.r.s.t, .int .i64 x.v.r.s.n, .int .i64 x.pref, .string x.oth.v, .int .i64 x.oth.s.k, .string x.oth.s.t, .int .i64 x.oth.s.n]) H59.out HCB.out ?_) | (go_at_call 26; rw [← HCA.out]; refine (size_any p.conds (by omega) p.ca p.cc w4 (HP.out.conds.mono (HB3.out.trans (HB4.out.mono HB3.out.size)))).mono ?_; rintro e w5 ⟨rfl, h5⟩))
              go_ret3
              exact ⟨_, by (rw [HQ.out]; try rfl), by rw [HQ.out]; exact World.ownsRow_nil _ _ _ _, HB3.out.trans ((HB4.out.trans (h5.mono HB4.out.size)).mono HB3.out.size)⟩
          · obtain rfl : k = p.acts.length := by omega
            rw [List.take_length] at hall
            have HQ := Lib.hid (show checkE p = ((stP p).2.2, -1, 0) by rw [HS3.out, if_pos hall])
            have HOr := Lib.hid (HO3.out.mono hbr)
            have HBR := Lib.hid hbr
            have cb1 : wr.cell? ⟨b, 1, none⟩ = some v3 := by rw [cells_of HOr.out.sc.1]; rfl
            clear hall hbr
            go_wp2_with fail
            go_ret3
            exact ⟨_, by (rw [HQ.out]; try rfl), by rw [HQ.out]; exact own_lower HOr.out.row (Nat.le_trans HB.out.size hbs.out), HB3.out.trans (HBR.out.mono HB3.out.size)⟩
end Go.Proofs.Ytccphigpobnjmaa
