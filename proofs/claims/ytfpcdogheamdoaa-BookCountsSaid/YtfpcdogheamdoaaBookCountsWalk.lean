/-
  The walk of the law BookCounts. No condition.
-/
import Derived.Test.YtfpcdogheamdoaaCountMath
import Derived.Test.YtfpcdogheamdoaaPairsP
import Derived.Test.YtfpcdogheamdoaaBookWakes
import Derived.Test.YtfpcdogheamdoaaKit4
namespace Go.Proofs.Ytfpcdogheamdoaa
set_option linter.unusedVariables false
open Go.RowKit
theorem sy_iff {x y : Sy} : x = y ↔ x.k = y.k ∧ x.t.toList = y.t.toList ∧ x.n = y.n := by
  constructor
  · rintro rfl; exact ⟨rfl, rfl, rfl⟩
  · rintro ⟨h1, h2, h3⟩
    cases x; cases y
    simp only [Lib.toList_data] at h2
    simp only at h1 h3
    subst h1; subst h3
    rw [ByteArray.ext (Array.toList_inj.mp h2)]
theorem eqY_run (x y : Sy) (w : World) : (binOp .eql 27 (.agg #[.int .i64 x.k, .string x.t, .int .i64 x.n]) (.agg #[.int .i64 y.k, .string y.t, .int .i64 y.n])).run Try.prog w = .ok (.bool (decide (x = y))) w := by
  simp only [sy_iff]
  simp [go_sem]
  split <;> (try split) <;> (try split) <;> simp_all
theorem neY_run (x y : Sy) (w : World) : (binOp .neq 27 (.agg #[.int .i64 x.k, .string x.t, .int .i64 x.n]) (.agg #[.int .i64 y.k, .string y.t, .int .i64 y.n])).run Try.prog w = .ok (.bool (!decide (x = y))) w := by
  simp only [sy_iff]
  simp [go_sem]
  split <;> (try split) <;> (try split) <;> simp_all
theorem eqY_yes {x y : Sy} (h : x = y) (w : World) : (binOp .eql 27 (.agg #[.int .i64 x.k, .string x.t, .int .i64 x.n]) (.agg #[.int .i64 y.k, .string y.t, .int .i64 y.n])).run Try.prog w = .ok (.bool true) w := by rw [eqY_run]; simp [h]
theorem eqY_no {x y : Sy} (h : x ≠ y) (w : World) : (binOp .eql 27 (.agg #[.int .i64 x.k, .string x.t, .int .i64 x.n]) (.agg #[.int .i64 y.k, .string y.t, .int .i64 y.n])).run Try.prog w = .ok (.bool false) w := by rw [eqY_run]; simp [h]
theorem neY_yes {x y : Sy} (h : x ≠ y) (w : World) : (binOp .neq 27 (.agg #[.int .i64 x.k, .string x.t, .int .i64 x.n]) (.agg #[.int .i64 y.k, .string y.t, .int .i64 y.n])).run Try.prog w = .ok (.bool true) w := by rw [neY_run]; simp [h]
theorem neY_no {x y : Sy} (h : x = y) (w : World) : (binOp .neq 27 (.agg #[.int .i64 x.k, .string x.t, .int .i64 x.n]) (.agg #[.int .i64 y.k, .string y.t, .int .i64 y.n])).run Try.prog w = .ok (.bool false) w := by rw [neY_run]; simp [h]

theorem counts_long (w : World) (a : Option Addr) (n cap : Nat) (hn : n ≤ maxLen) (h : 100 < n) : Calls Try.prog 9 #[.slice a n cap] w fun e w' => e = .returned (.bool true) ∧ Below w.heap.size w w' := by
  unfold maxLen at hn
  have hd : decide (100 < (n : Int)) = true := by simp; omega
  go_enter Try.func9, Try.ntmps9
  go_wp2_with (go_at_call 22; refine (bwakes_any _).mono ?_; rintro e w2 ⟨rfl, hb2⟩)
  go_ret
  exact ⟨rfl, hb2⟩
set_option maxRecDepth 100000 in
set_option maxHeartbeats 8000000 in
theorem counts_walk (w : World) (a : Option Addr) (cap : Nat) (xs : List Sy) (hz : xs.length ≤ 100) (he : ∀ s, w.heap.size ≤ s → ListAt w s a xs) : Calls Try.prog 9 #[.slice a xs.length cap] w fun e w' => e = .returned (.bool true) ∧ Below w.heap.size w w' := by
  have hd0 : decide (100 < (xs.length : Int)) = false := by simp; omega
  obtain ⟨W1, hW1⟩ : ∃ W1, W1 = w.alloc (.cells #[.slice a xs.length cap] 44) := ⟨_, rfl⟩
  have hB1 : Below w.heap.size w W1 := by rw [hW1]; go_grown
  have hx1 : W1.heap[w.heap.size]? = some (.cells #[.slice a xs.length cap] 44 (0, 0)) := by rw [hW1]; exact new_at rfl
  have hL := he w.heap.size (Nat.le_refl _)
  have hcnt := count_any W1 w.heap.size cap a xs (by omega) hx1 (fun s hs => (he s (Nat.le_trans hB1.size hs)).kc (KC.below hB1))
  obtain ⟨ps, hps⟩ : ∃ ps, ps = countL xs := ⟨_, rfl⟩
  obtain ⟨hpb, hpl⟩ := count_bound xs
  have hsum := countL_sum xs
  unfold CountOut at hcnt
  rw [← hps] at hpb hpl hsum hcnt
  have HCnt := Lib.hid hcnt
  have HL := Lib.hid hL
  have HB1 := Lib.hid hB1
  have HP := Lib.hid hps
  have HPb := Lib.hid hpb
  have HSum := Lib.hid hsum
  have HW := Lib.hid hW1
  clear hcnt hL hB1 hx1 hps hpb hsum hW1 he
  go_enter Try.func9, Try.ntmps9
  go_wp2_with fail
  refine (of_anyS w a xs.length cap).mono ?_
  rintro e w1 ⟨rfl, rfl⟩
  go_wp2_with fail
  rw [← HW.out]
  refine HCnt.out.mono ?_
  rintro e w2 ⟨b, s, rfl, hb2, hM⟩
  have HB2 := Lib.hid (HB1.out.trans (hb2.mono HB1.out.size))
  have HM := Lib.hid hM
  clear hb2 hM hd0
  go_wp2_with fail
  go_loopw [5] (fun i wr => ∃ k : Nat, k ≤ xs.length ∧ i = .int .i64 k ∧ Hid (Below w2.heap.size w2 wr)) (fun i _ => xs.length - (intOf i).toNat)
  case atStart => exact ⟨0, Nat.zero_le _, rfl, Lib.hid (Below.refl _ _)⟩
  case round =>
    obtain ⟨k, hk, rfl, hBr⟩ := hrel
    by_cases hlt : k < xs.length
    · have hki : (k : Int) < (xs.length : Int) := by omega
      obtain ⟨x, hx⟩ : ∃ x, x = xs[k] := ⟨_, rfl⟩
      obtain ⟨bo, off, rfl, -, -⟩ := HL.out k hlt
      have hel := fun w' (h : Below w2.heap.size w2 w') m (hm : m < xs.length) => (HL.out.kc (KC.below (HB2.out.trans (h.mono HB2.out.size)))) m hm
      have HEl := Lib.hid hel
      have HXk := Lib.hid hx
      clear hel hx
      go_wp2_with fail
      go_loopw [6, 7] (fun o i wq => ∃ (m : Nat) (c : Int), m ≤ xs.length ∧ c ≤ 100 ∧ 0 ≤ c ∧ o = .int .i64 c ∧ i = .int .i64 m ∧ Hid (c = often x (xs.take m)) ∧ Hid (Below w2.heap.size w2 wq)) (fun _ i _ => xs.length - (intOf i).toNat)
      case atStart => exact ⟨0, 0, Nat.zero_le _, by omega, by omega, rfl, rfl, Lib.hid rfl, hBr⟩
      case round =>
        obtain ⟨m, c, hm, hc1, hc0, rfl, rfl, hI, hBq⟩ := hrel
        by_cases hml : m < xs.length
        · have hmi : (m : Int) < (xs.length : Int) := by omega
          obtain ⟨y, hy⟩ : ∃ y, y = xs[m] := ⟨_, rfl⟩
          obtain ⟨b1, o1, e1, -, c0, c1, c2⟩ := HEl.out wr hBq.out m hml
          obtain ⟨b2, o2, e2, -, d0, d1, d2⟩ := HEl.out wr hBq.out k hlt
          obtain ⟨rfl, rfl⟩ : b1 = bo ∧ o1 = off := by simp at e1; exact ⟨e1.1.symm, e1.2.symm⟩
          obtain ⟨rfl, rfl⟩ : b2 = b1 ∧ o2 = o1 := by simp at e2; exact ⟨e2.1.symm, e2.2.symm⟩
          rw [← hy] at c0 c1 c2
          rw [← HXk.out] at d0 d1 d2
          have hst : often x (xs.take (m + 1)) = c + if y = x then 1 else 0 := by rw [List.take_succ_eq_append_getElem hml, often_snoc, ← hI.out, ← hy]
          have hbd := often_bounds x (xs.take (m + 1))
          rw [List.length_take] at hbd
          by_cases hyx : y = x
          · rw [if_pos hyx] at hst
            have hq := eqY_yes hyx
            have hc2 : c + 1 ≤ 100 := by omega
            have HST := Lib.hid hst
            clear hy hyx hst hbd e1 e2 hI
            go_wp2_with fail
            go_quiet (fail)
            go_wp2_with fail
            go_roundw
            case rel => exact ⟨m + 1, c + 1, by omega, by omega, by omega, by go_num, by go_num, Lib.hid HST.out.symm, Lib.hid (bdN _ hBq.out)⟩
            case measure => simp [intOf]; omega
          · rw [if_neg hyx, Int.add_zero] at hst
            have hq := eqY_no hyx
            have HST := Lib.hid hst
            clear hy hyx hst hbd e1 e2 hI
            go_wp2_with fail
            go_quiet (fail)
            go_wp2_with fail
            go_roundw
            case rel => exact ⟨m + 1, c, by omega, by omega, by omega, rfl, by go_num, Lib.hid HST.out.symm, Lib.hid (bdN _ hBq.out)⟩
            case measure => simp [intOf]; omega
        · obtain rfl : m = xs.length := by omega
          have hce : c = often x xs := by rw [hI.out, List.take_length]
          have hmem : x ∈ xs := by rw [HXk.out]; exact List.getElem_mem hlt
          have hget := (get_mapP wr b s x ps (MapP.mono HM.out hBq.out) ((look cmpP ⟨x, 0⟩ ps).getD zeroP) ((look cmpP (⟨x, 0⟩ : Pr) ps).isSome) rfl rfl).mono (R' := fun e w' => e = .returned (.tuple #[.int .i64 c, .bool true]) ∧ Below wr.heap.size wr w') (by
            rintro e w' ⟨h1, h2⟩
            refine ⟨?_, h2⟩
            have l1 := countL_look x xs
            have l2 := look_is hmem
            rw [← HP.out] at l1 l2
            unfold lookp at l1
            rw [h1, l1, l2, hce])
          obtain ⟨b2, o2, e2, -, d0, d1, d2⟩ := HEl.out wr hBq.out k hlt
          obtain ⟨rfl, rfl⟩ : b2 = bo ∧ o2 = off := by simp at e2; exact ⟨e2.1.symm, e2.2.symm⟩
          rw [← HXk.out] at d0 d1 d2
          have HG := Lib.hid hget
          have hcc : (c != c) = false := by simp
          clear hget hce hmem hI e2
          go_wp2_with (go_at_call 29; refine HG.out.mono ?_; rintro e w4 ⟨rfl, hb4⟩)
          go_roundw
          case rel => exact ⟨k + 1, by omega, by go_num, Lib.hid (hBq.out.trans (hb4.mono hBq.out.size))⟩
          case measure => simp [intOf]; omega
    · obtain rfl : k = xs.length := by omega
      have hpr := pairs_any wr b s ⟨0, ⟨#[]⟩, 0⟩ ps (MapP.mono HM.out hBr.out) (by omega)
      have HPr := Lib.hid hpr
      have HB3 := Lib.hid (HB2.out.trans (hBr.out.mono HB2.out.size))
      clear hpr
      go_wp2_with fail
      refine HPr.out.mono ?_
      rintro e w5 ⟨vk, vv, rfl, hb5, -, hrv⟩
      obtain ⟨q1, q2, rfl⟩ := row_form hrv
      have hcs : ∀ m, (h : m < ps.length) → ∃ g, q1 = some ⟨g, 0, none⟩ ∧ ∀ w', Below w5.heap.size w5 w' → w'.cell? ⟨g, m, none⟩ = some (.int .i64 ps[m].v) := fun m h => by
        rcases owns_cells hrv with ⟨h1, h2⟩ | ⟨g, cp, h1, -, hg, -, h5⟩
        · omega
        · simp at h1
          obtain ⟨rfl, -⟩ := h1
          refine ⟨g, rfl, fun w' hw => ?_⟩
          exact (hw.cell (p := ⟨g, m, none⟩) hg).trans (h5 m _ (by simp [h]))
      have HCS := Lib.hid hcs
      have HB5 := Lib.hid (HB3.out.trans (hb5.mono HB3.out.size))
      clear hcs hb5 hrv
      go_wp2_with fail
      go_loopw [4, 12] (fun o i wq => ∃ (m : Nat) (c : Int), m ≤ ps.length ∧ c ≤ 10000 ∧ 0 ≤ c ∧ o = .int .i64 c ∧ i = .int .i64 m ∧ Hid (c = sumV (ps.take m)) ∧ Hid (Below w5.heap.size w5 wq)) (fun _ i _ => ps.length - (intOf i).toNat)
      case atStart => exact ⟨0, 0, Nat.zero_le _, by omega, by omega, rfl, rfl, Lib.hid rfl, Lib.hid (Below.refl _ _)⟩
      case round =>
        obtain ⟨m, c, hm, hc1, hc0, rfl, rfl, hI, hBq⟩ := hrel
        by_cases hml : m < ps.length
        · have hmi : (m : Int) < (ps.length : Int) := by omega
          obtain ⟨g, rfl, hg⟩ := HCS.out m hml
          have cv := hg wr hBq.out
          obtain ⟨v, hv⟩ : ∃ v, v = ps[m].v := ⟨_, rfl⟩
          rw [← hv] at cv
          have hst : sumV (ps.take (m + 1)) = c + v := by rw [List.take_succ_eq_append_getElem hml, sum_snoc, ← hI.out, ← hv]
          have hbd := sum_bounds (n := 100) (by omega) (ps := ps.take (m + 1)) (fun p hp => by have := HPb.out p (List.mem_of_mem_take hp); omega)
          rw [List.length_take] at hbd
          have hvb := HPb.out ps[m] (List.getElem_mem hml)
          rw [← hv] at hvb
          have hc2 : 0 ≤ c + v ∧ c + v ≤ 10000 := by omega
          obtain ⟨hc3, hc4⟩ := hc2
          have HST := Lib.hid hst
          clear hv hst hbd hvb hI hg
          go_wp2_with fail
          go_roundw
          case rel => exact ⟨m + 1, c + v, by omega, by omega, by omega, by go_num, by go_num, Lib.hid HST.out.symm, hBq⟩
          case measure => simp [intOf]; omega
        · obtain rfl : m = ps.length := by omega
          have hce : c = (xs.length : Int) := by rw [hI.out, List.take_length]; exact HSum.out
          subst hce
          have hq : ((xs.length : Int) == (xs.length : Int)) = true := by simp
          have HQ := Lib.hid (HB5.out.trans (hBq.out.mono HB5.out.size))
          clear hI
          go_wp2_with (go_at_call 22; refine (bwakes_any _).mono ?_; rintro e w6 ⟨rfl, hb6⟩)
          go_ret
          exact ⟨rfl, HQ.out.trans (hb6.mono HQ.out.size)⟩
end Go.Proofs.Ytfpcdogheamdoaa
