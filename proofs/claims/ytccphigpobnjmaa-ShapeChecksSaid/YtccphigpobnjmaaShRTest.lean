/-
  The document's own answer on tests, whatever they are. No condition but bounds on lengths.
-/
import Derived.Test.YtccphigpobnjmaaShTest
import Derived.Test.YtccphigpobnjmaaShRef
namespace Go.Proofs.Ytccphigpobnjmaa
set_option linter.unusedVariables false
open Go.RowKit
set_option maxHeartbeats 2000000 in
theorem rtest_any (w : World) (x : Ts) (he : EltsK encS 3 w x.a x.list) (hz : x.list.length ≤ 1000000000) : Calls Try.prog 104 #[.agg #[.int .i64 x.rel, .string x.var, .int .i64 x.s.k, .string x.s.t, .int .i64 x.s.n, .slice x.a x.list.length x.cap]] w fun e w' => e = .returned (.bool (testB x)) ∧ Below w.heap.size w w' := by
  obtain ⟨W2, hW2⟩ : ∃ W2, W2 = w.alloc (.cells #[.int .i64 x.rel, .string x.var, .int .i64 x.s.k, .string x.s.t, .int .i64 x.s.n, .slice x.a x.list.length x.cap] 67) := ⟨_, rfl⟩
  have hB : Below w.heap.size w W2 := by rw [hW2]; go_grown
  have hc : ∀ w', Below W2.heap.size W2 w' → w'.cell? ⟨w.heap.size, 5, none⟩ = some (.slice x.a x.list.length x.cap) := by
    intro w' h
    have hx := cells_of (W := W2) (b := w.heap.size) (c := #[.int .i64 x.rel, .string x.var, .int .i64 x.s.k, .string x.s.t, .int .i64 x.s.n, .slice x.a x.list.length x.cap]) (t := 67) (f := (0, 0)) (by rw [hW2]; exact new_at rfl)
    have hlt : w.heap.size < W2.heap.size := by rw [hW2]; simp
    exact (h.cell (p := ⟨w.heap.size, 5, none⟩) hlt).trans (by rw [hx]; rfl)
  have HC := Lib.hid hc
  have HW := Lib.hid hW2
  have ha := fun w' => ratom_any ⟨x.var, x.s⟩ w'
  have HA := Lib.hid ha
  have Hel := Lib.hid (he.mono hB)
  have Hcst := Lib.hid (fun (s : Sy) w' => rconst_any s w')
  have hq : ∀ w, (binOp .neq 47 (.agg #[.int .i64 x.s.k, .string x.s.t, .int .i64 x.s.n]) (.agg #[.int .i64 0, .string ⟨#[]⟩, .int .i64 0])).run Try.prog w = .ok (.bool (!decide (x.s = zeroY))) w := neY_run x.s zeroY
  clear hc hW2 ha he
  by_cases h8 : x.rel = 8
  · have b8 : (x.rel == 8) = true := by simp [h8]
    have HR := Lib.hid (show testB x = (decide (x.var.size = 0) && decide (x.s = zeroY) && listB x.list) by unfold testB; rw [if_pos h8])
    clear h8
    by_cases hv : x.var.size = 0
    case neg =>
      have hn : ¬ x.var.toList = [] := by rw [Lib.toList_data, bytes_cons _ (by omega)]; simp
      have hn2 : x.var.toList.isEmpty = false := by rw [Lib.toList_data, bytes_cons _ (by omega)]; rfl
      have HQ := Lib.hid (show testB x = false by rw [HR.out]; simp [hv])
      clear hv hq
      go_enter Try.func104, Try.ntmps104
      go_wp2_with fail
      go_ret
      exact ⟨by rw [HQ.out]; rfl, by rw [← HW.out]; exact hB⟩
    have hn : x.var.toList = [] := by rw [Lib.toList_data]; exact bytes_nil _ hv
    have hn2 : x.var.toList.isEmpty = true := by rw [hn]; rfl
    by_cases hs : x.s = zeroY
    case neg =>
      have HQ := Lib.hid (show testB x = false by rw [HR.out]; simp [hs])
      have hd : decide (x.s = zeroY) = false := by simp [hs]
      rw [hd] at hq
      clear hs hv hd
      go_enter Try.func104, Try.ntmps104
      go_wp2_with fail
      go_ret
      exact ⟨by rw [HQ.out]; rfl, by rw [← HW.out]; exact hB⟩
    have HR2 := Lib.hid (show testB x = listB x.list by rw [HR.out]; simp [hv, hs])
    have hd : decide (x.s = zeroY) = true := by simp [hs]
    rw [hd] at hq
    clear hs hv hd
    by_cases h1 : (x.list.length : Int) < 1
    · have HQ := Lib.hid (show testB x = false by rw [HR2.out]; unfold listB; rw [decide_eq_false (by omega)]; rfl)
      have d1 : decide ((x.list.length : Int) < 1) = true := decide_eq_true h1
      clear h1
      go_enter Try.func104, Try.ntmps104
      go_wp2_with fail
      go_ret
      exact ⟨by rw [HQ.out]; rfl, by rw [← HW.out]; exact hB⟩
    have d1 : decide ((x.list.length : Int) < 1) = false := decide_eq_false h1
    by_cases h9 : (8 : Int) < (x.list.length : Int)
    · have HQ := Lib.hid (show testB x = false by rw [HR2.out]; unfold listB; rw [decide_eq_false (by omega)]; rfl)
      have d9 : decide ((8 : Int) < (x.list.length : Int)) = true := decide_eq_true h9
      clear h1 h9
      go_enter Try.func104, Try.ntmps104
      go_wp2_with fail
      go_ret
      exact ⟨by rw [HQ.out]; rfl, by rw [← HW.out]; exact hB⟩
    have d9 : decide ((8 : Int) < (x.list.length : Int)) = false := decide_eq_false h9
    have HQ := Lib.hid (show testB x = x.list.all constB by rw [HR2.out]; unfold listB; rw [decide_eq_true (by omega)]; rfl)
    have hl8 : x.list.length ≤ 8 := by omega
    clear h1 h9
    go_enter Try.func104, Try.ntmps104
    go_wp2_with fail
    rw [← HW.out]
    go_loopw [3] (fun i wr => ∃ k : Nat, k ≤ x.list.length ∧ i = .int .i64 k ∧ Below W2.heap.size W2 wr ∧ (x.list.take k).all constB = true) (fun i _ => x.list.length - (intOf i).toNat)
    case atStart => exact ⟨0, Nat.zero_le _, rfl, Below.refl _ _, rfl⟩
    case round =>
      obtain ⟨k, hk, rfl, hbw, hall⟩ := hrel
      have c5 := HC.out _ hbw
      by_cases hlt : k < x.list.length
      · obtain ⟨b, off, hab, hcell⟩ := Hel.out.at hlt
        rw [hab] at c5
        have hc := hcell _ hbw
        have hcut := fun h => all_cut (p := constB) hlt h
        have hsucc := all_take_succ constB x.list hlt
        obtain ⟨s, hs⟩ : ∃ s, s = x.list[k] := ⟨_, rfl⟩
        rw [← hs] at hc hcut hsucc
        rw [hall, Bool.true_and] at hsucc
        have e0 := hc 0 _ rfl
        have e1 := hc 1 _ rfl
        have e2 := hc 2 _ rfl
        simp only [Nat.add_zero] at e0
        have HS := Lib.hid hsucc
        have HU := Lib.hid hcut
        have HB := Lib.hid hbw
        have hws := hbw.size
        clear hall hs hc hcell hbw hsucc hcut hab
        cases hqs : constB s with
        | true =>
          have HS2 := Lib.hid (HS.out.trans hqs)
          go_wp2_with (go_at_call 94; refine (Hcst.out s _).mono ?_; rintro e w2 ⟨rfl, h2⟩; rw [hqs]; have H2 := Lib.hid h2; clear h2)
          go_roundw
          case rel => exact ⟨k + 1, by omega, by go_num, HB.out.trans (H2.out.mono hws), HS2.out⟩
          case measure => simp [intOf]; omega
        | false =>
          have HU2 := Lib.hid (HU.out hqs)
          go_wp2_with (go_at_call 94; refine (Hcst.out s _).mono ?_; rintro e w2 ⟨rfl, h2⟩; rw [hqs]; have H2 := Lib.hid h2; clear h2)
          go_ret
          exact ⟨by rw [HQ.out, HU2.out]; rfl, hB.trans ((HB.out.trans (H2.out.mono hws)).mono hB.size)⟩
      · obtain rfl : k = x.list.length := by omega
        rw [List.take_length] at hall
        have HA2 := Lib.hid hall
        clear hall
        go_wp2_with fail
        go_ret
        exact ⟨by rw [HQ.out, HA2.out]; rfl, hB.trans (hbw.mono hB.size)⟩
  · have b8 : (x.rel == 8) = false := by simp [h8]
    have HR := Lib.hid (show testB x = (decide (1 ≤ x.rel ∧ x.rel ≤ 7) && decide (x.list.length = 0) && atomB ⟨x.var, x.s⟩) by unfold testB; rw [if_neg h8])
    clear h8 hq
    by_cases h1 : 1 ≤ x.rel
    case neg =>
      have HQ := Lib.hid (show testB x = false by rw [HR.out]; simp [h1])
      have d1 : decide (1 ≤ x.rel) = false := by simp [h1]
      clear h1
      go_enter Try.func104, Try.ntmps104
      go_wp2_with fail
      go_ret
      exact ⟨by rw [HQ.out]; rfl, by rw [← HW.out]; exact hB⟩
    have d1 : decide (1 ≤ x.rel) = true := by simp [h1]
    by_cases h7 : x.rel ≤ 7
    case neg =>
      have HQ := Lib.hid (show testB x = false by rw [HR.out]; simp [h7])
      have d7 : decide (x.rel ≤ 7) = false := by simp [h7]
      clear h1 h7
      go_enter Try.func104, Try.ntmps104
      go_wp2_with fail
      go_ret
      exact ⟨by rw [HQ.out]; rfl, by rw [← HW.out]; exact hB⟩
    have d7 : decide (x.rel ≤ 7) = true := by simp [h7]
    by_cases hl : x.list.length = 0
    · have HQ := Lib.hid (show testB x = atomB ⟨x.var, x.s⟩ by rw [HR.out]; simp only [h1, h7, hl, and_self, decide_true, Bool.true_and])
      have dl : ((x.list.length : Int) == 0) = true := by simp [hl]
      have dl2 : (x.list.length == 0) = true := by simp [hl]
      clear h1 h7 hl
      go_enter Try.func104, Try.ntmps104
      go_wp2_with (go_at_call 73; rw [← HW.out]; refine (HA.out _).mono ?_; rintro e w2 ⟨rfl, hb⟩)
      go_ret
      exact ⟨by rw [HQ.out]; rfl, hB.trans (hb.mono hB.size)⟩
    · have HQ := Lib.hid (show testB x = false by rw [HR.out]; simp [hl])
      have dl : ((x.list.length : Int) == 0) = false := by simp; intro h; exact hl (by rw [h]; rfl)
      clear h1 h7 hl
      go_enter Try.func104, Try.ntmps104
      go_wp2_with fail
      go_ret
      exact ⟨by rw [HQ.out]; rfl, by rw [← HW.out]; exact hB⟩
set_option maxHeartbeats 1000000 in
theorem rtests_any (w : World) (a : Option Addr) (cap : Nat) (xs : List Ts) (h : TestsAt w a xs) (hz : xs.length ≤ 1000000) : Calls Try.prog 93 #[.slice a xs.length cap] w fun e w' => e = .returned (.bool (xs.all testB)) ∧ Below w.heap.size w w' := by
  have Hel := Lib.hid h.1
  have Hp := Lib.hid (fun (x : Ts) (hx : x ∈ xs) w' (hb : Below w.heap.size w w') => rtest_any w' x ((h.2 x hx).1.mono hb) (h.2 x hx).2)
  clear h
  go_enter Try.func93, Try.ntmps93
  go_wp2_with fail
  go_loopw [3] (fun j wr => ∃ k : Nat, k ≤ xs.length ∧ j = .int .i64 k ∧ Below w.heap.size w wr ∧ (xs.take k).all testB = true) (fun j _ => xs.length - (intOf j).toNat)
  case atStart => exact ⟨0, Nat.zero_le _, rfl, Below.refl _ _, rfl⟩
  case round =>
    obtain ⟨k, hk, rfl, hbw, hall⟩ := hrel
    by_cases hlt : k < xs.length
    · obtain ⟨b, off, rfl, hcell⟩ := Hel.out.at hlt
      have hc := hcell wr hbw
      have hpx := Hp.out xs[k] (List.getElem_mem hlt)
      have hcut := fun h => all_cut (p := testB) hlt h
      have hsucc := all_take_succ testB xs hlt
      obtain ⟨x, hx⟩ : ∃ x, x = xs[k] := ⟨_, rfl⟩
      rw [← hx] at hc hpx hcut hsucc
      rw [hall, Bool.true_and] at hsucc
      have c0 := hc 0 _ rfl
      have c1 := hc 1 _ rfl
      have c2 := hc 2 _ rfl
      have c3 := hc 3 _ rfl
      have c4 := hc 4 _ rfl
      have c5 := hc 5 _ rfl
      simp only [Nat.add_zero] at c0
      have HS := Lib.hid hsucc
      have HC := Lib.hid hcut
      have HB := Lib.hid hbw
      have HP := Lib.hid hpx
      have hws := hbw.size
      clear hall hx hc hcell hbw hpx hsucc hcut
      cases hq : testB x with
      | true =>
        have HS2 := Lib.hid (HS.out.trans hq)
        go_wp2_with (go_at_call 104; refine (HP.out _ HB.out).mono ?_; rintro e w2 ⟨rfl, h2⟩; rw [hq]; have H2 := Lib.hid h2; clear h2)
        go_roundw
        case rel => exact ⟨k + 1, by omega, by go_num, HB.out.trans (H2.out.mono hws), HS2.out⟩
        case measure => simp [intOf]; omega
      | false =>
        have HC2 := Lib.hid (HC.out hq)
        go_wp2_with (go_at_call 104; refine (HP.out _ HB.out).mono ?_; rintro e w2 ⟨rfl, h2⟩; rw [hq]; have H2 := Lib.hid h2; clear h2)
        go_ret
        exact ⟨by rw [HC2.out]; rfl, HB.out.trans (H2.out.mono hws)⟩
    · obtain rfl : k = xs.length := by omega
      rw [List.take_length] at hall
      have HA := Lib.hid hall
      clear hall
      go_wp2_with fail
      go_ret
      exact ⟨by rw [HA.out]; rfl, hbw⟩
end Go.Proofs.Ytccphigpobnjmaa
