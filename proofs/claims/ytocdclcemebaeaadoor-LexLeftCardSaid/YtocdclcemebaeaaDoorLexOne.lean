/-
  The walk over ponderref05.one. No condition but a bound on sizes.
-/
import Derived.Test.YtocdclcemebaeaaDoorLexRef
import Derived.Test.YtocdclcemebaeaaDoorSymRead
namespace Go.Proofs.YtocdclcemebaeaaDoor
set_option linter.unusedVariables false
open Go.RowKit
theorem cutL_word {c : UInt8} {r : List UInt8} (h : smallB c = true) : cutL (c :: r) = (1, runL partB (c :: r)) := by
  have hw : wordN (c :: r) = runL partB (c :: r) := by show (if smallB c then _ else 0) = _; rw [if_pos h]
  have h1 : wordN (c :: r) ≠ 0 := by rw [hw, runL_cons_true _ (part_small h)]; omega
  unfold cutL
  rw [if_neg (by simp), if_pos h1, hw]
theorem wordN_zero {c : UInt8} (r : List UInt8) (h : smallB c = false) : wordN (c :: r) = 0 := by
  show (if smallB c then _ else 0) = _; rw [h]; rfl
theorem cutL_num {c : UInt8} {r : List UInt8} (h : smallB c = false) (hn : numN (c :: r) ≠ 0) : cutL (c :: r) = (2, numN (c :: r)) := by
  unfold cutL
  rw [if_neg (by simp), if_neg (by rw [wordN_zero r h]; simp), if_pos hn]
theorem cutL_var {c : UInt8} {r : List UInt8} (h : smallB c = false) (hn : numN (c :: r) = 0) (hv : varN (c :: r) ≠ 0) : cutL (c :: r) = (3, varN (c :: r)) := by
  unfold cutL
  rw [if_neg (by simp), if_neg (by rw [wordN_zero r h]; simp), if_neg (by rw [hn]; simp), if_pos hv]
theorem cutL_sign {c : UInt8} {r : List UInt8} (h : smallB c = false) (hn : numN (c :: r) = 0) (hv : varN (c :: r) = 0) : cutL (c :: r) = if signN (c :: r) ≠ 0 then (4, signN (c :: r)) else (6, 1) := by
  unfold cutL
  rw [if_neg (by simp), if_neg (by rw [wordN_zero r h]; simp), if_neg (by rw [hn]; simp), if_neg (by rw [hv]; simp)]
theorem wordB_take {c : UInt8} {r : List UInt8} (h : smallB c = true) : wordB ((c :: r).take (runL partB (c :: r))) = decide (runL partB (c :: r) ≤ 32) := by
  have hl : ((c :: r).take (runL partB (c :: r))).length = runL partB (c :: r) := by rw [List.length_take]; have := runL_le partB (c :: r); omega
  have ha : ((c :: r).take (runL partB (c :: r))).all partB = true := by
    have : (c :: r).take (runL partB (c :: r)) = (c :: r).takeWhile partB := by
      unfold runL
      exact (List.prefix_iff_eq_take.1 (List.takeWhile_prefix partB)).symm
    rw [this]
    exact List.all_takeWhile
  have hp : runL partB (c :: r) = 1 + runL partB r := runL_cons_true _ (part_small h)
  obtain ⟨m, hm⟩ : ∃ m, runL partB (c :: r) = m + 1 := ⟨runL partB r, by omega⟩
  rw [hm] at hl ha ⊢
  rw [List.take_succ_cons] at hl ha ⊢
  rw [wordB_cons, ha]
  have h2 := h
  unfold smallB at h2
  rw [h2, Bool.and_true, Bool.and_true]
  rw [List.length_cons] at hl
  rw [hl]
theorem num_head {c : UInt8} {r : List UInt8} : numN (c :: r) = if c.toNat = 45 then (if runL digB r = 0 then 0 else runL digB r + 1) else if digB c then 1 + runL digB r else 0 := by
  unfold numN
  rw [List.head?_cons, List.tail_cons]
  by_cases h : c = 45
  · subst h
    rw [if_pos rfl, if_pos (show (45 : UInt8).toNat = 45 from rfl)]
  · rw [if_neg (by simpa using h), if_neg (show ¬ c.toNat = 45 from fun e => h (UInt8.toNat_inj.1 e))]
    split
    · rename_i hd; exact runL_cons_true _ hd
    · rename_i hd; exact runL_cons_false _ (by simpa using hd)
/-- Where the digits begin behind a number's first byte. -/
theorem num_loop {c : UInt8} {r : List UInt8} (h : digB c = true ∨ (c.toNat = 45 ∧ runL digB r ≠ 0)) : numN (c :: r) = 1 + runL digB r ∧ numN (c :: r) ≠ 0 := by
  rw [num_head]
  rcases h with h | ⟨h, h2⟩
  · have h45 : ¬ c.toNat = 45 := by simp [digB] at h; omega
    rw [if_neg h45, if_pos h]; omega
  · rw [if_pos h, if_neg h2]; omega
def OneOut (w : World) (z : Sy) (K : Nat) (e : Ending) (w' : World) : Prop := e = .returned (.tuple #[.agg #[.int .i64 z.k, .string z.t, .int .i64 z.n], .int .i64 K]) ∧ Below w.heap.size w w'
set_option maxRecDepth 100000 in
set_option maxHeartbeats 1000000 in
theorem rone_wn (t : ByteArray) (w : World) (ht : t.size ≤ 1000000) (k : Nat) (hk : k < t.size) (z : Sy) (hz : z = tokL k (t.data.toList.drop k)) (K : Nat) (hK : K = k + (cutL (t.data.toList.drop k)).2)
    (hcase : smallB t[k] = true ∨ digB t[k] = true ∨ (t[k].toNat = 45 ∧ runL digB (t.data.toList.drop (k + 1)) ≠ 0)) : Calls Tryd.prog 20 #[.string t, .int .i64 k] w (OneOut w z K) := by
  have hlen : t.data.toList.length = t.size := by simp
  have hd := drop_consB t k hk
  obtain ⟨c, hc⟩ : ∃ c, c = t[k] := ⟨_, rfl⟩
  obtain ⟨r, hr⟩ : ∃ r, r = t.data.toList.drop (k + 1) := ⟨_, rfl⟩
  rw [← hc, ← hr] at hd
  rw [hd] at hz hK
  have hki : (k : Int) < (t.size : Int) := by omega
  have hB : Below w.heap.size w (w.alloc (.cells #[.int .i64 0, .string ⟨#[]⟩, .int .i64 0] 46)) := by go_grown
  have hx : (w.alloc (.cells #[.int .i64 0, .string ⟨#[]⟩, .int .i64 0] 46)).heap[w.heap.size]? = some (.cells #[.int .i64 0, .string ⟨#[]⟩, .int .i64 0] 46 (0, 0)) := new_at rfl
  obtain ⟨W1, hW1⟩ : ∃ W1, W1 = w.alloc (.cells #[.int .i64 0, .string ⟨#[]⟩, .int .i64 0] 46) := ⟨_, rfl⟩
  rw [← hW1] at hB hx
  have hcells : ∀ w', Below W1.heap.size W1 w' → (w'.cell? ⟨w.heap.size, 0, none⟩ = some (.int .i64 0) ∧ w'.cell? ⟨w.heap.size, 1, none⟩ = some (.string ⟨#[]⟩) ∧ w'.cell? ⟨w.heap.size, 2, none⟩ = some (.int .i64 0)
      ∧ w'.frozen? ⟨w.heap.size, 0, none⟩ = false ∧ w'.frozen? ⟨w.heap.size, 1, none⟩ = false ∧ w'.frozen? ⟨w.heap.size, 2, none⟩ = false) ∧ Hid (w'.heap[w.heap.size]? = some (.cells #[.int .i64 0, .string ⟨#[]⟩, .int .i64 0] 46 (0, 0))) := by
    intro w' h
    have h2 := (h.block _ (heap_lt hx)).trans hx
    exact ⟨⟨by rw [cells_of h2]; rfl, by rw [cells_of h2]; rfl, by rw [cells_of h2]; rfl, frozen_of h2, frozen_of h2, frozen_of h2⟩, h2⟩
  have fin : ∀ (w2 : World) (a b c : Value), Below W1.heap.size W1 w2 → Below w.heap.size w (((w2.setCell ⟨w.heap.size, 0, none⟩ a).setCell ⟨w.heap.size, 1, none⟩ b).setCell ⟨w.heap.size, 2, none⟩ c) := fun w2 a b c h =>
    (((hB.trans (h.mono hB.size)).setCell (Nat.le_refl _) _).setCell (Nat.le_refl _) _).setCell (Nat.le_refl _) _
  have HC := Lib.hid hcells
  have HF := Lib.hid fin
  have HB := Lib.hid hB
  have HX := Lib.hid hx
  have HW := Lib.hid hW1
  have HD := Lib.hid hd
  have hr' := hr
  unfold OneOut
  clear hcells fin hB hx hr hd hW1
  cases hsm : smallB c with
  | true =>
    obtain ⟨n, hn⟩ : ∃ n, n = runL partB (c :: r) := ⟨_, rfl⟩
    have hcut := cutL_word (r := r) hsm
    rw [hcut, ← hn] at hK
    have hnl := runL_le partB (c :: r)
    rw [← hn, ← HD.out, List.length_drop, hlen] at hnl
    obtain ⟨p, hp⟩ : ∃ p, p = t.extract k (k + n) := ⟨_, rfl⟩
    have hpl : p.data.toList = (c :: r).take n := by rw [hp, Lib.extract_data, HD.out, Nat.add_sub_cancel_left]
    have hzz : z = if n ≤ 32 then ⟨1, p, k⟩ else ⟨6, p, k⟩ := by
      rw [hz]
      unfold tokL
      rw [hcut]
      simp only
      rw [← hn, ← hpl]
      have hf : fitsL 1 (nameL 1 p.data.toList) = decide (n ≤ 32) := by
        show wordB p.data.toList = _
        rw [hpl, hn]; exact wordB_take hsm
      unfold holdL
      rw [hf]
      have hnm : nameL 1 p.data.toList = p.data.toList := rfl
      rw [hnm, str_self]
      simp only [decide_eq_true_eq]
    have hpa := fun w' => rparts_any t w' ht k (by omega) K (by rw [HD.out, ← hn]; exact hK)
    have hsz := fun w' => rsized_any 1 p k n w' (by omega) z hzz
    have hsl : ∀ w', (Instr.slice 9 (.string t) (some (.int .i64 (k : Int))) (some (.int .i64 (K : Int))) none).run Tryd.prog w' = .ok (.string p) w' := fun w' => by rw [hp, hK]; exact str_slice t k (k + n) (by omega) (by omega) w'
    have hsub : (K : Int) - (k : Int) = (n : Int) := by omega
    have HP := Lib.hid hpa
    have HS := Lib.hid hsz
    have hKt : K ≤ t.size := by omega
    have hKk : k ≤ K := by omega
    clear hpa hsz hz hcut hzz hpl hp hn hlen hK hnl hr' hcase
    go_enter Tryd.func20, Tryd.ntmps20
    go_wp2_with (first | (go_at_call 26; refine (rsmall_any _ _).mono ?_; rintro e w' ⟨rfl, rfl⟩; rw [← hc, hsm]) | (go_at_call 27; refine (HP.out _).mono ?_; rintro e w' ⟨rfl, rfl⟩) | (go_at_call 28; rw [← HW.out]; refine (HS.out _).mono ?_; rintro e w2 ⟨rfl, hb2⟩; obtain ⟨⟨c0, c1, c2, f0, f1, f2⟩, H2⟩ := HC.out _ hb2; have HB2 := Lib.hid hb2; clear hb2))
    obtain ⟨s0, s1, s2⟩ := set3 (a := .int .i64 z.k) (b := .string z.t) (c := .int .i64 z.n) H2.out
    refine bodyPost_ret (by simp [results, Tryd.results20, go_sem, s0, s1, s2]; rfl) rfl ?_
    exact ⟨rfl, HF.out _ _ _ _ HB2.out⟩
  | false =>
    subst hc
    by_cases hnum : digB t[k] = true ∨ (t[k].toNat = 45 ∧ runL digB r ≠ 0)
    · obtain ⟨hn1, hn2⟩ := num_loop hnum
      have hcut := cutL_num hsm hn2
      rw [hcut] at hK
      simp only at hK
      rw [hn1] at hK
      have hrl := runL_le digB r
      have hrlen : r.length = t.size - (k + 1) := by rw [hr', List.length_drop, hlen]
      rw [hrlen] at hrl
      obtain ⟨p, hp⟩ : ∃ p, p = t.extract k K := ⟨_, rfl⟩
      have hpl : p.data.toList = (t[k] :: r).take (numN (t[k] :: r)) := by rw [hp, Lib.extract_data, HD.out, hn1, hK]; congr 1; omega
      have hpz : p.size ≤ 1000000 := by rw [hp]; simp; omega
      have hcap : capB t[k] = false := by
        rcases hnum with h | h
        · simp [digB] at h; simp [capB]; omega
        · simp [capB]; omega
      have hzz : z = if numOk p.data.toList then ⟨2, p, k⟩ else ⟨6, p, k⟩ := by
        rw [hz]
        unfold tokL
        rw [hcut]
        simp only
        rw [← hpl]
        have hf : fitsL 2 (nameL 2 p.data.toList) = numOk p.data.toList := by
          show (parseL p.data.toList).2 = _
          obtain ⟨m, hm⟩ : ∃ m, numN (t[k] :: r) = m + 1 := ⟨_, (Nat.succ_pred_eq_of_pos (Nat.pos_of_ne_zero hn2)).symm⟩
          rw [hpl, hm, List.take_succ_cons]
          exact parse_num _ _ hsm hcap
        unfold holdL
        rw [hf]
        have hnm : nameL 2 p.data.toList = p.data.toList := rfl
        rw [hnm, str_self]
      have hrd := fun w' => rread_any p w' hpz
      have hsl : ∀ w', (Instr.slice 9 (.string t) (some (.int .i64 (k : Int))) (some (.int .i64 (K : Int))) none).run Tryd.prog w' = .ok (.string p) w' := fun w' => by rw [hp]; exact str_slice t k K (by omega) (by omega) w'
      have hKt : K ≤ t.size := by omega
      have hKk : k + 1 ≤ K := by omega
      have HKK : Hid (K = k + 1 + runL digB (t.data.toList.drop (k + 1))) := Lib.hid (by rw [hK, ← hr']; omega)
      have HRD := Lib.hid hrd
      have HZZ := Lib.hid hzz
      have HH := Lib.hid hrl
      rw [hr'] at hnum
      have HNUM := Lib.hid hnum
      clear hrd hzz hn1 hn2 hcut hK hrl hpl hz hcap hpz hp hr' hlen hnum hcase
      cases hdc : digB t[k] with
      | true =>
        go_enter Tryd.func20, Tryd.ntmps20
        go_wp2_with (first | (go_at_call 26; refine (rsmall_any _ _).mono ?_; rintro e w' ⟨rfl, rfl⟩; rw [hsm]) | (go_at_call 29; refine (rdig_any _ _).mono ?_; rintro e w' ⟨rfl, rfl⟩; first | rw [hdc] | rw [hdn]))
        go_loop [8] (fun i => ∃ m : Nat, k + 1 ≤ m ∧ m ≤ t.size ∧ i = .int .i64 m ∧ Hid (K = m + runL digB (t.data.toList.drop m))) (fun i => t.size - (intOf i).toNat)
        case atStart => exact ⟨k + 1, Nat.le_refl _, by omega, by go_num, HKK⟩
        case round =>
          obtain ⟨m, hm1, hm2, rfl, hI⟩ := hrel
          by_cases hlt : m < t.size
          · have hst := runB_step digB t m hlt
            have hmi : (m : Int) < (t.size : Int) := by omega
            cases hdm : digB t[m] with
            | true =>
              have HN : Hid (K = (m + 1 : Nat) + runL digB (t.data.toList.drop (m + 1))) := Lib.hid (by rw [hI.out, hst, hdm]; simp; omega)
              clear hst
              go_wp2_with (go_at_call 29; refine (rdig_any _ _).mono ?_; rintro e w' ⟨rfl, rfl⟩; rw [hdm])
              go_round
              case rel => exact ⟨m + 1, by omega, by omega, by go_num, HN⟩
              case measure => simp [intOf]; omega
            | false =>
              obtain rfl : K = m := by rw [hI.out, hst, hdm]; simp
              clear hst hI
              go_wp2_with (go_at_call 29; refine (rdig_any _ _).mono ?_; rintro e w' ⟨rfl, rfl⟩; rw [hdm])
              have hrd := HRD.out (w.alloc (.cells #[.int .i64 0, .string ⟨#[]⟩, .int .i64 0] 46))
              have hzz := HZZ.out
              unfold numOk at hzz
              cases ho : readL p.data.toList with
              | none =>
                rw [ho] at hrd hzz
                have HZ1 := Lib.hid (show z = ⟨6, p, k⟩ from hzz)
                have hrd : Calls Tryd.prog 30 #[.string p] (w.alloc (.cells #[.int .i64 0, .string ⟨#[]⟩, .int .i64 0] 46)) fun e w' => e = .returned (.tuple #[.int .i64 0, .bool false]) ∧ w.alloc (.cells #[.int .i64 0, .string ⟨#[]⟩, .int .i64 0] 46) = w' := hrd
                clear hzz
                go_wp2_with (go_at_call 30; refine hrd.mono ?_; rintro e w' ⟨rfl, rfl⟩)
                refine bodyPost_ret (by simp [results, Tryd.results20, go_sem]; rfl) rfl ?_
                rw [HZ1.out]
                exact ⟨rfl, by go_grown⟩
              | some v =>
                rw [ho] at hrd hzz
                have hrd : Calls Tryd.prog 30 #[.string p] (w.alloc (.cells #[.int .i64 0, .string ⟨#[]⟩, .int .i64 0] 46)) fun e w' => e = .returned (.tuple #[.int .i64 v, .bool true]) ∧ w.alloc (.cells #[.int .i64 0, .string ⟨#[]⟩, .int .i64 0] 46) = w' := hrd
                have hzz : z = if decide (-2147483647 ≤ v ∧ v ≤ 2147483647) = true then ⟨2, p, k⟩ else ⟨6, p, k⟩ := hzz
                by_cases hv1 : 2147483647 < v
                · rw [if_neg (by simp; omega)] at hzz
                  have dv1 : decide (2147483647 < v) = true := by simp; omega
                  have HZ1 := Lib.hid hzz
                  clear hzz hv1
                  go_wp2_with (go_at_call 30; refine hrd.mono ?_; rintro e w' ⟨rfl, rfl⟩)
                  refine bodyPost_ret (by simp [results, Tryd.results20, go_sem]; rfl) rfl ?_
                  rw [HZ1.out]
                  exact ⟨rfl, by go_grown⟩
                · have dv1 : decide (2147483647 < v) = false := by simp; omega
                  by_cases hv2 : v < -2147483647
                  · rw [if_neg (by simp; omega)] at hzz
                    have dv2 : decide (v < -2147483647) = true := by simp; omega
                    have HZ1 := Lib.hid hzz
                    clear hzz hv1 hv2
                    go_wp2_with (go_at_call 30; refine hrd.mono ?_; rintro e w' ⟨rfl, rfl⟩)
                    refine bodyPost_ret (by simp [results, Tryd.results20, go_sem]; rfl) rfl ?_
                    rw [HZ1.out]
                    exact ⟨rfl, by go_grown⟩
                  · rw [if_pos (by simp; omega)] at hzz
                    have dv2 : decide (v < -2147483647) = false := by simp; omega
                    have HZ1 := Lib.hid hzz
                    clear hzz hv1 hv2
                    go_wp2_with (go_at_call 30; refine hrd.mono ?_; rintro e w' ⟨rfl, rfl⟩)
                    refine bodyPost_ret (by simp [results, Tryd.results20, go_sem]; rfl) rfl ?_
                    rw [HZ1.out]
                    exact ⟨rfl, by go_grown⟩
          · obtain rfl : m = t.size := by omega
            obtain rfl : K = t.size := by rw [hI.out, runB_end]; rfl
            clear hI
            go_wp2_with fail
            have hrd := HRD.out (w.alloc (.cells #[.int .i64 0, .string ⟨#[]⟩, .int .i64 0] 46))
            have hzz := HZZ.out
            unfold numOk at hzz
            cases ho : readL p.data.toList with
            | none =>
              rw [ho] at hrd hzz
              have HZ1 := Lib.hid (show z = ⟨6, p, k⟩ from hzz)
              have hrd : Calls Tryd.prog 30 #[.string p] (w.alloc (.cells #[.int .i64 0, .string ⟨#[]⟩, .int .i64 0] 46)) fun e w' => e = .returned (.tuple #[.int .i64 0, .bool false]) ∧ w.alloc (.cells #[.int .i64 0, .string ⟨#[]⟩, .int .i64 0] 46) = w' := hrd
              clear hzz
              go_wp2_with (go_at_call 30; refine hrd.mono ?_; rintro e w' ⟨rfl, rfl⟩)
              refine bodyPost_ret (by simp [results, Tryd.results20, go_sem]; rfl) rfl ?_
              rw [HZ1.out]
              exact ⟨rfl, by go_grown⟩
            | some v =>
              rw [ho] at hrd hzz
              have hrd : Calls Tryd.prog 30 #[.string p] (w.alloc (.cells #[.int .i64 0, .string ⟨#[]⟩, .int .i64 0] 46)) fun e w' => e = .returned (.tuple #[.int .i64 v, .bool true]) ∧ w.alloc (.cells #[.int .i64 0, .string ⟨#[]⟩, .int .i64 0] 46) = w' := hrd
              have hzz : z = if decide (-2147483647 ≤ v ∧ v ≤ 2147483647) = true then ⟨2, p, k⟩ else ⟨6, p, k⟩ := hzz
              by_cases hv1 : 2147483647 < v
              · rw [if_neg (by simp; omega)] at hzz
                have dv1 : decide (2147483647 < v) = true := by simp; omega
                have HZ1 := Lib.hid hzz
                clear hzz hv1
                go_wp2_with (go_at_call 30; refine hrd.mono ?_; rintro e w' ⟨rfl, rfl⟩)
                refine bodyPost_ret (by simp [results, Tryd.results20, go_sem]; rfl) rfl ?_
                rw [HZ1.out]
                exact ⟨rfl, by go_grown⟩
              · have dv1 : decide (2147483647 < v) = false := by simp; omega
                by_cases hv2 : v < -2147483647
                · rw [if_neg (by simp; omega)] at hzz
                  have dv2 : decide (v < -2147483647) = true := by simp; omega
                  have HZ1 := Lib.hid hzz
                  clear hzz hv1 hv2
                  go_wp2_with (go_at_call 30; refine hrd.mono ?_; rintro e w' ⟨rfl, rfl⟩)
                  refine bodyPost_ret (by simp [results, Tryd.results20, go_sem]; rfl) rfl ?_
                  rw [HZ1.out]
                  exact ⟨rfl, by go_grown⟩
                · rw [if_pos (by simp; omega)] at hzz
                  have dv2 : decide (v < -2147483647) = false := by simp; omega
                  have HZ1 := Lib.hid hzz
                  clear hzz hv1 hv2
                  go_wp2_with (go_at_call 30; refine hrd.mono ?_; rintro e w' ⟨rfl, rfl⟩)
                  refine bodyPost_ret (by simp [results, Tryd.results20, go_sem]; rfl) rfl ?_
                  rw [HZ1.out]
                  exact ⟨rfl, by go_grown⟩
      | false =>
        have h45 : t[k].toNat = 45 ∧ runL digB (t.data.toList.drop (k + 1)) ≠ 0 := by
          rcases HNUM.out with h | h
          · rw [hdc] at h; cases h
          · exact h
        have b45 : ((t[k].toNat : Int) == 45) = true := by simp; omega
        have hk1 : k + 1 < t.size := by
          apply Decidable.byContradiction
          intro h
          apply h45.2
          exact runL_end _ _ _ (by rw [str_size]; omega)
        have hki1 : (k : Int) + 1 < (t.size : Int) := by omega
        have hdn : digB t[k + 1] = true := by
          have h := h45.2
          rw [runB_step digB t (k + 1) hk1] at h
          cases hq : digB t[k + 1] with
          | true => rfl
          | false => rw [hq] at h; exact absurd rfl h
        clear h45
        go_enter Tryd.func20, Tryd.ntmps20
        go_wp2_with (first | (go_at_call 26; refine (rsmall_any _ _).mono ?_; rintro e w' ⟨rfl, rfl⟩; rw [hsm]) | (go_at_call 29; refine (rdig_any _ _).mono ?_; rintro e w' ⟨rfl, rfl⟩; first | rw [hdc] | rw [hdn]))
        go_loop [8] (fun i => ∃ m : Nat, k + 1 ≤ m ∧ m ≤ t.size ∧ i = .int .i64 m ∧ Hid (K = m + runL digB (t.data.toList.drop m))) (fun i => t.size - (intOf i).toNat)
        case atStart => exact ⟨k + 1, Nat.le_refl _, by omega, by go_num, HKK⟩
        case round =>
          obtain ⟨m, hm1, hm2, rfl, hI⟩ := hrel
          by_cases hlt : m < t.size
          · have hst := runB_step digB t m hlt
            have hmi : (m : Int) < (t.size : Int) := by omega
            cases hdm : digB t[m] with
            | true =>
              have HN : Hid (K = (m + 1 : Nat) + runL digB (t.data.toList.drop (m + 1))) := Lib.hid (by rw [hI.out, hst, hdm]; simp; omega)
              clear hst
              go_wp2_with (go_at_call 29; refine (rdig_any _ _).mono ?_; rintro e w' ⟨rfl, rfl⟩; rw [hdm])
              go_round
              case rel => exact ⟨m + 1, by omega, by omega, by go_num, HN⟩
              case measure => simp [intOf]; omega
            | false =>
              obtain rfl : K = m := by rw [hI.out, hst, hdm]; simp
              clear hst hI
              go_wp2_with (go_at_call 29; refine (rdig_any _ _).mono ?_; rintro e w' ⟨rfl, rfl⟩; rw [hdm])
              have hrd := HRD.out (w.alloc (.cells #[.int .i64 0, .string ⟨#[]⟩, .int .i64 0] 46))
              have hzz := HZZ.out
              unfold numOk at hzz
              cases ho : readL p.data.toList with
              | none =>
                rw [ho] at hrd hzz
                have HZ1 := Lib.hid (show z = ⟨6, p, k⟩ from hzz)
                have hrd : Calls Tryd.prog 30 #[.string p] (w.alloc (.cells #[.int .i64 0, .string ⟨#[]⟩, .int .i64 0] 46)) fun e w' => e = .returned (.tuple #[.int .i64 0, .bool false]) ∧ w.alloc (.cells #[.int .i64 0, .string ⟨#[]⟩, .int .i64 0] 46) = w' := hrd
                clear hzz
                go_wp2_with (go_at_call 30; refine hrd.mono ?_; rintro e w' ⟨rfl, rfl⟩)
                refine bodyPost_ret (by simp [results, Tryd.results20, go_sem]; rfl) rfl ?_
                rw [HZ1.out]
                exact ⟨rfl, by go_grown⟩
              | some v =>
                rw [ho] at hrd hzz
                have hrd : Calls Tryd.prog 30 #[.string p] (w.alloc (.cells #[.int .i64 0, .string ⟨#[]⟩, .int .i64 0] 46)) fun e w' => e = .returned (.tuple #[.int .i64 v, .bool true]) ∧ w.alloc (.cells #[.int .i64 0, .string ⟨#[]⟩, .int .i64 0] 46) = w' := hrd
                have hzz : z = if decide (-2147483647 ≤ v ∧ v ≤ 2147483647) = true then ⟨2, p, k⟩ else ⟨6, p, k⟩ := hzz
                by_cases hv1 : 2147483647 < v
                · rw [if_neg (by simp; omega)] at hzz
                  have dv1 : decide (2147483647 < v) = true := by simp; omega
                  have HZ1 := Lib.hid hzz
                  clear hzz hv1
                  go_wp2_with (go_at_call 30; refine hrd.mono ?_; rintro e w' ⟨rfl, rfl⟩)
                  refine bodyPost_ret (by simp [results, Tryd.results20, go_sem]; rfl) rfl ?_
                  rw [HZ1.out]
                  exact ⟨rfl, by go_grown⟩
                · have dv1 : decide (2147483647 < v) = false := by simp; omega
                  by_cases hv2 : v < -2147483647
                  · rw [if_neg (by simp; omega)] at hzz
                    have dv2 : decide (v < -2147483647) = true := by simp; omega
                    have HZ1 := Lib.hid hzz
                    clear hzz hv1 hv2
                    go_wp2_with (go_at_call 30; refine hrd.mono ?_; rintro e w' ⟨rfl, rfl⟩)
                    refine bodyPost_ret (by simp [results, Tryd.results20, go_sem]; rfl) rfl ?_
                    rw [HZ1.out]
                    exact ⟨rfl, by go_grown⟩
                  · rw [if_pos (by simp; omega)] at hzz
                    have dv2 : decide (v < -2147483647) = false := by simp; omega
                    have HZ1 := Lib.hid hzz
                    clear hzz hv1 hv2
                    go_wp2_with (go_at_call 30; refine hrd.mono ?_; rintro e w' ⟨rfl, rfl⟩)
                    refine bodyPost_ret (by simp [results, Tryd.results20, go_sem]; rfl) rfl ?_
                    rw [HZ1.out]
                    exact ⟨rfl, by go_grown⟩
          · obtain rfl : m = t.size := by omega
            obtain rfl : K = t.size := by rw [hI.out, runB_end]; rfl
            clear hI
            go_wp2_with fail
            have hrd := HRD.out (w.alloc (.cells #[.int .i64 0, .string ⟨#[]⟩, .int .i64 0] 46))
            have hzz := HZZ.out
            unfold numOk at hzz
            cases ho : readL p.data.toList with
            | none =>
              rw [ho] at hrd hzz
              have HZ1 := Lib.hid (show z = ⟨6, p, k⟩ from hzz)
              have hrd : Calls Tryd.prog 30 #[.string p] (w.alloc (.cells #[.int .i64 0, .string ⟨#[]⟩, .int .i64 0] 46)) fun e w' => e = .returned (.tuple #[.int .i64 0, .bool false]) ∧ w.alloc (.cells #[.int .i64 0, .string ⟨#[]⟩, .int .i64 0] 46) = w' := hrd
              clear hzz
              go_wp2_with (go_at_call 30; refine hrd.mono ?_; rintro e w' ⟨rfl, rfl⟩)
              refine bodyPost_ret (by simp [results, Tryd.results20, go_sem]; rfl) rfl ?_
              rw [HZ1.out]
              exact ⟨rfl, by go_grown⟩
            | some v =>
              rw [ho] at hrd hzz
              have hrd : Calls Tryd.prog 30 #[.string p] (w.alloc (.cells #[.int .i64 0, .string ⟨#[]⟩, .int .i64 0] 46)) fun e w' => e = .returned (.tuple #[.int .i64 v, .bool true]) ∧ w.alloc (.cells #[.int .i64 0, .string ⟨#[]⟩, .int .i64 0] 46) = w' := hrd
              have hzz : z = if decide (-2147483647 ≤ v ∧ v ≤ 2147483647) = true then ⟨2, p, k⟩ else ⟨6, p, k⟩ := hzz
              by_cases hv1 : 2147483647 < v
              · rw [if_neg (by simp; omega)] at hzz
                have dv1 : decide (2147483647 < v) = true := by simp; omega
                have HZ1 := Lib.hid hzz
                clear hzz hv1
                go_wp2_with (go_at_call 30; refine hrd.mono ?_; rintro e w' ⟨rfl, rfl⟩)
                refine bodyPost_ret (by simp [results, Tryd.results20, go_sem]; rfl) rfl ?_
                rw [HZ1.out]
                exact ⟨rfl, by go_grown⟩
              · have dv1 : decide (2147483647 < v) = false := by simp; omega
                by_cases hv2 : v < -2147483647
                · rw [if_neg (by simp; omega)] at hzz
                  have dv2 : decide (v < -2147483647) = true := by simp; omega
                  have HZ1 := Lib.hid hzz
                  clear hzz hv1 hv2
                  go_wp2_with (go_at_call 30; refine hrd.mono ?_; rintro e w' ⟨rfl, rfl⟩)
                  refine bodyPost_ret (by simp [results, Tryd.results20, go_sem]; rfl) rfl ?_
                  rw [HZ1.out]
                  exact ⟨rfl, by go_grown⟩
                · rw [if_pos (by simp; omega)] at hzz
                  have dv2 : decide (v < -2147483647) = false := by simp; omega
                  have HZ1 := Lib.hid hzz
                  clear hzz hv1 hv2
                  go_wp2_with (go_at_call 30; refine hrd.mono ?_; rintro e w' ⟨rfl, rfl⟩)
                  refine bodyPost_ret (by simp [results, Tryd.results20, go_sem]; rfl) rfl ?_
                  rw [HZ1.out]
                  exact ⟨rfl, by go_grown⟩
    · exfalso
      rw [hsm, ← hr'] at hcase
      rcases hcase with h | h
      · cases h
      · exact hnum h
end Go.Proofs.YtocdclcemebaeaaDoor
