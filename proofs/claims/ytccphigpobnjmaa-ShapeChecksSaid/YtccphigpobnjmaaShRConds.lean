/-
  The document's own answer on conditions, nested: the first that is wrong. No condition but bounds on how many they are.
-/
import Derived.Test.YtccphigpobnjmaaShRCond
import Derived.Test.YtccphigpobnjmaaShSize
namespace Go.Proofs.Ytccphigpobnjmaa
set_option linter.unusedVariables false
open Go.RowKit
/-- The first condition that is wrong, and how; -1, 0 if none is. -/
def firstE : List Co → Nat → Int → Int × Int
  | [], _, _ => (-1, 0)
  | .mk h m :: l, n, d => if condE h m.length d ≠ 0 then ((n : Int), condE h m.length d) else if (firstE m (n + 1) (d + 1)).2 ≠ 0 then firstE m (n + 1) (d + 1) else firstE l (n + 1 + sizeL m) d
theorem first_step (l : List Co) {k : Nat} (hk : k < l.length) (n : Nat) (d : Int) : firstE (l.drop k) n d = if condE l[k].h l[k].l.length d ≠ 0 then ((n : Int), condE l[k].h l[k].l.length d) else if (firstE l[k].l (n + 1) (d + 1)).2 ≠ 0 then firstE l[k].l (n + 1) (d + 1) else firstE (l.drop (k + 1)) (n + 1 + sizeL l[k].l) d := by
  rw [List.drop_eq_getElem_cons hk]
  cases hc : l[k] with
  | mk h m => simp only [firstE, Co.h, Co.l]; rfl
theorem CondsAt.tests {w : World} {a : Option Addr} {l : List Co} (h : CondsAt w a l) {k : Nat} (hk : k < l.length) : TestsAt w l[k].h.aa l[k].h.attr ∧ TestsAt w l[k].h.va l[k].h.value := by
  cases h with
  | mk _ _ he ha hv hi => exact ⟨ha _ (List.getElem_mem hk), hv _ (List.getElem_mem hk)⟩
def RefFirst (l : List Co) : Prop := ∀ (n : Nat) (d : Int) (a : Option Addr) (cap : Nat) (w : World), n + sizeL l ≤ 1000000 → 0 ≤ d → d + sizeL l ≤ 1000000 → CondsAt w a l →
  Calls Try.prog 44 #[.slice a l.length cap, .int .i64 n, .int .i64 d] w fun e w' => e = .returned (.tuple #[.int .i64 (firstE l n d).1, .int .i64 (firstE l n d).2]) ∧ Below w.heap.size w w'
set_option maxHeartbeats 2000000 in
theorem reffirst_step (l : List Co) (ih : ∀ m, sizeL m < sizeL l → RefFirst m) : RefFirst l := by
  intro n d a cap w hz hd0 hd1 h
  have Hel := Lib.hid h.elts
  have Hcond := Lib.hid (fun k (hk : k < l.length) w' (hb : Below w.heap.size w w') => rcond_any l[k].h l[k].l.length d w' ((h.tests hk).1.mono hb) ((h.tests hk).2.mono hb))
  have Hin := Lib.hid (fun k (hk : k < l.length) (n' : Nat) w' (hb : Below w.heap.size w w') (h1 : n' + sizeL l[k].l ≤ 1000000) => ih l[k].l (size_inner l hk) n' (d + 1) l[k].h.ca l[k].h.cc w' h1 (by omega) (by have := size_inner l hk; omega) ((h.inner hk).mono hb))
  have Hsz := Lib.hid (fun k (hk : k < l.length) w' (hb : Below w.heap.size w w') => refsize_any l[k].l (by have := size_inner l hk; omega) l[k].h.ca l[k].h.cc w' ((h.inner hk).mono hb))
  have hln := len_size l
  have hlen : l.length ≤ 1000000 := by omega
  have Hz := Lib.hid hz
  have hdd : d ≤ 1000000 := by omega
  clear h ih hz hln hd1
  go_enter Try.func44, Try.ntmps44
  go_wp2_with fail
  go_loopw [1, 8, 9, 10] (fun s i _ _ wr => ∃ k : Nat, k ≤ l.length ∧ i = .int .i64 k ∧ s = .int .i64 ((n + sizeL (l.take k) : Nat) : Int) ∧ Below w.heap.size w wr ∧ firstE l n d = firstE (l.drop k) (n + sizeL (l.take k)) d) (fun _ i _ _ _ => l.length - (intOf i).toNat)
  case atStart => exact ⟨0, Nat.zero_le _, rfl, by simp [sizeL], Below.refl _ _, by simp [sizeL]⟩
  case round =>
    obtain ⟨k, hk, rfl, rfl, hbw, hrun⟩ := hrel
    by_cases hlt : k < l.length
    · obtain ⟨b, off, rfl, hcell⟩ := Hel.out.at hlt
      have hcond := Hcond.out k hlt
      have hin := Hin.out k hlt
      have hsz := Hsz.out k hlt
      have hs := size_take_succ l hlt
      have hs2 := size_take_le l (k + 1)
      have hz := Hz.out
      have hst := hrun.trans (first_step l hlt _ d)
      obtain ⟨x, hx⟩ : ∃ x, x = l[k] := ⟨_, rfl⟩
      rw [← hx] at hcell hcond hin hsz hs hst
      have hb2 : n + sizeL (l.take k) + 1 + sizeL x.l ≤ 1000000 := by omega
      obtain ⟨p, hp⟩ : ∃ p, p = n + sizeL (l.take k) := ⟨_, rfl⟩
      have hs' : n + sizeL (l.take (k + 1)) = p + 1 + sizeL x.l := by omega
      rw [← hp] at hst hb2 ⊢
      have hc := hcell _ hbw
      have c0 := hc 0 _ rfl
      have c1 := hc 1 _ rfl
      have c2 := hc 2 _ rfl
      have c3 := hc 3 _ rfl
      have c4 := hc 4 _ rfl
      have c5 := hc 5 _ rfl
      have c6 := hc 6 _ rfl
      simp only [Nat.add_zero] at c0
      have HCELL := Lib.hid hcell
      have HB := Lib.hid hbw
      have hws := hbw.size
      have HCO := Lib.hid hcond
      have HIN := Lib.hid hin
      have HSZ := Lib.hid hsz
      have HS := Lib.hid hs'
      have HST := Lib.hid hst
      clear hx hc hcell hin hs hs2 hz hst hcond hsz hbw hrun hp hs'
      cases q1 : condE x.h x.l.length d != 0 with
      | true =>
        have HQ := Lib.hid (show firstE l n d = ((p : Int), condE x.h x.l.length d) by rw [HST.out, if_pos (bne_iff_ne.1 q1)])
        generalize condE x.h x.l.length d = e1 at HCO HQ q1
        go_wp2_with (go_at_call 72; refine (HCO.out _ HB.out).mono ?_; rintro e w2 ⟨rfl, h2⟩)
        go_ret2
        exact ⟨by rw [HQ.out]; rfl, HB.out.trans (h2.mono hws)⟩
      | false =>
        have hq1 : condE x.h x.l.length d = 0 := bne_eq_false_iff_eq.1 q1
        have HST2 := Lib.hid (show firstE l n d = _ by rw [HST.out, hq1, if_neg (by simp)])
        rw [hq1] at HCO
        clear q1 hq1
        cases q2 : (firstE x.l (p + 1) (d + 1)).2 != 0 with
        | true =>
          have HQ := Lib.hid (show firstE l n d = firstE x.l (p + 1) (d + 1) by rw [HST2.out, if_pos (bne_iff_ne.1 q2)])
          have HI := Lib.hid (fun w' hb => HIN.out (p + 1) w' hb (by omega))
          generalize firstE x.l (p + 1) (d + 1) = r at HI HQ q2
          go_wp2_with (first | (go_at_call 72; refine (HCO.out _ HB.out).mono ?_; rintro e w2 ⟨rfl, h2⟩; have H2 := Lib.hid (HB.out.trans (h2.mono hws)); clear h2; have hc2 := HCELL.out _ H2.out; have e6 := hc2 6 _ rfl; clear hc2) | (go_at_call 44; refine (HI.out _ H2.out).mono ?_; rintro e w3 ⟨rfl, h3⟩))
          go_ret2
          exact ⟨by rw [HQ.out]; rfl, H2.out.trans (h3.mono H2.out.size)⟩
        | false =>
          have hq2 : (firstE x.l (p + 1) (d + 1)).2 = 0 := bne_eq_false_iff_eq.1 q2
          have HQ := Lib.hid (show firstE l n d = firstE (l.drop (k + 1)) (p + 1 + sizeL x.l) d by rw [HST2.out, hq2, if_neg (by simp)])
          have HI := Lib.hid (fun w' hb => HIN.out (p + 1) w' hb (by omega))
          rw [hq2] at HI
          clear q2 hq2
          generalize (firstE x.l (p + 1) (d + 1)).1 = r at HI
          have hm : sizeL x.l ≤ 1000000 := by omega
          have hp9 : p ≤ 1000000 := by omega
          have HN := Lib.hid (show n + sizeL (l.take (k + 1)) = p + (1 + sizeL x.l) by rw [HS.out]; omega)
          have HQ2 := Lib.hid (show firstE l n d = firstE (l.drop (k + 1)) (n + sizeL (l.take (k + 1))) d by rw [HQ.out, HS.out])
          clear HQ HS HST HST2 HIN hb2
          generalize sizeL x.l = m at HSZ HN hm
          go_wp2_with (first | (go_at_call 72; refine (HCO.out _ HB.out).mono ?_; rintro e w2 ⟨rfl, h2⟩; have H2 := Lib.hid (HB.out.trans (h2.mono hws)); clear h2; have hc2 := HCELL.out _ H2.out; have e6 := hc2 6 _ rfl; clear hc2) | (go_at_call 44; refine (HI.out _ H2.out).mono ?_; rintro e w3 ⟨rfl, h3⟩; have H3 := Lib.hid (H2.out.trans (h3.mono H2.out.size)); clear h3; have hc3 := HCELL.out _ H3.out; have f6 := hc3 6 _ rfl; clear hc3) | (go_at_call 43; refine (HSZ.out _ H3.out).mono ?_; rintro e w4 ⟨rfl, rfl⟩))
          go_roundw
          case rel => exact ⟨k + 1, by omega, by go_num, by rw [HN.out]; go_num, H3.out, HQ2.out⟩
          case measure => simp [intOf]; omega
    · obtain rfl : k = l.length := by omega
      have HQ := Lib.hid (show firstE l n d = (-1, 0) by rw [hrun, List.drop_length]; simp [firstE])
      clear hrun
      go_wp2_with fail
      go_ret2
      exact ⟨by rw [HQ.out]; rfl, hbw⟩
theorem reffirst_any (l : List Co) : RefFirst l := by
  have key : ∀ n, ∀ l : List Co, sizeL l ≤ n → RefFirst l := by
    intro n
    induction n with
    | zero => exact fun l h => reffirst_step l (fun m hm => by omega)
    | succ n ih => exact fun l h => reffirst_step l (fun m hm => ih m (by omega))
  exact key _ l (Nat.le_refl _)
end Go.Proofs.Ytccphigpobnjmaa
