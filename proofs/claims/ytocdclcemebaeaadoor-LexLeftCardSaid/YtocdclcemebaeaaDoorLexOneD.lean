/-
  The walk over ponderref05.one, whole. No condition but a bound on sizes.
-/
import Derived.Test.YtocdclcemebaeaaDoorLexOneC
namespace Go.Proofs.YtocdclcemebaeaaDoor
set_option linter.unusedVariables false
open Go.RowKit
set_option maxRecDepth 100000 in
set_option maxHeartbeats 8000000 in
theorem rone_var (t : ByteArray) (w : World) (ht : t.size ≤ 1000000) (k : Nat) (hk : k < t.size) (hsm : smallB t[k] = false) (hdc : digB t[k] = false) (h60 : t[k].toNat = 60) (hk1 : k + 1 < t.size) (hsn : smallB t[k + 1] = true)
    (m : Nat) (hm : m = k + 1 + runL partB (t.data.toList.drop (k + 1))) (hml : m < t.size) (h62 : t[m].toNat = 62) (z : Sy) (hz : z = if m - k - 1 ≤ 32 then ⟨3, t.extract (k + 1) m, k⟩ else ⟨6, t.extract k (m + 1), k⟩) (K : Nat) (hK : K = m + 1) : Calls Tryd.prog 20 #[.string t, .int .i64 k] w (OneOut w z K) := by
  have hki : (k : Int) < (t.size : Int) := by omega
  have b45 : ((t[k].toNat : Int) == 45) = false := by simp; omega
  have b60 : ((t[k].toNat : Int) == 60) = true := by simp; omega
  have hki1 : (k : Int) + 1 < (t.size : Int) := by omega
  have hmi : (m : Int) < (t.size : Int) := by omega
  have b62 : ((t[m].toNat : Int) == 62) = true := by simp; omega
  have hpa := fun w' => rparts_any t w' ht (k + 1) (by omega) m hm
  rw [show ((k + 1 : Nat) : Int) = (k : Int) + 1 from Int.natCast_add k 1] at hpa
  have HP := Lib.hid hpa
  have hkm : k + 1 ≤ m := by omega
  obtain ⟨nn, hnn⟩ : ∃ nn, nn = m - k - 1 := ⟨_, rfl⟩
  rw [← hnn] at hz
  have hsub : (m : Int) - (k : Int) - 1 = (nn : Int) := by omega
  subst hK
  unfold OneOut
  clear h60 hpa hm h62
  by_cases h32 : nn ≤ 32
  · rw [if_pos h32] at hz
    obtain ⟨P, hP⟩ : ∃ P, P = t.extract (k + 1) m := ⟨_, rfl⟩
    rw [← hP] at hz
    have hsl : ∀ w', (Instr.slice 9 (.string t) (some (.int .i64 ((k : Int) + 1))) (some (.int .i64 (m : Int))) none).run Tryd.prog w' = .ok (.string P) w' := fun w' => by
      have h := str_slice t (k + 1) m hkm (by omega) w'
      rw [← hP, Int.natCast_add] at h; exact h
    have h32i : (m : Int) - (k : Int) - 1 ≤ 32 := by omega
    subst hz
    clear hP h32 hnn hsub
    go_enter Tryd.func20, Tryd.ntmps20
    go_wp2_with (first | (go_at_call 26; refine (rsmall_any _ _).mono ?_; rintro e w' ⟨rfl, rfl⟩; first | rw [hsm] | rw [hsn]) | (go_at_call 29; refine (rdig_any _ _).mono ?_; rintro e w' ⟨rfl, rfl⟩; rw [hdc]) | (go_at_call 27; refine (HP.out _).mono ?_; rintro e w' ⟨rfl, rfl⟩))
    refine bodyPost_ret (by simp [results, Tryd.results20, go_sem]; rfl) rfl ?_
    exact ⟨rfl, by go_grown⟩
  · rw [if_neg h32] at hz
    obtain ⟨P, hP⟩ : ∃ P, P = t.extract k (m + 1) := ⟨_, rfl⟩
    rw [← hP] at hz
    have hsl : ∀ w', (Instr.slice 9 (.string t) (some (.int .i64 (k : Int))) (some (.int .i64 ((m : Int) + 1))) none).run Tryd.prog w' = .ok (.string P) w' := fun w' => by
      have h := str_slice t k (m + 1) (by omega) (by omega) w'
      rw [← hP, Int.natCast_add] at h; exact h
    have h32i : 32 < (m : Int) - (k : Int) - 1 := by omega
    subst hz
    clear hP h32 hnn hsub
    go_enter Tryd.func20, Tryd.ntmps20
    go_wp2_with (first | (go_at_call 26; refine (rsmall_any _ _).mono ?_; rintro e w' ⟨rfl, rfl⟩; first | rw [hsm] | rw [hsn]) | (go_at_call 29; refine (rdig_any _ _).mono ?_; rintro e w' ⟨rfl, rfl⟩; rw [hdc]) | (go_at_call 27; refine (HP.out _).mono ?_; rintro e w' ⟨rfl, rfl⟩))
    refine bodyPost_ret (by simp [results, Tryd.results20, go_sem]; rfl) rfl ?_
    exact ⟨rfl, by go_grown⟩
theorem varN_sixty {c : UInt8} (r : List UInt8) (h : c.toNat = 60) : varN (c :: r) = if wordN r = 0 then 0 else if (r.drop (wordN r)).head? = some 62 then wordN r + 2 else 0 := by
  show (if c.toNat = 60 then _ else 0) = _; rw [if_pos h]
theorem varN_other {c : UInt8} (r : List UInt8) (h : ¬ c.toNat = 60) : varN (c :: r) = 0 := by
  show (if c.toNat = 60 then _ else 0) = _; rw [if_neg h]
theorem rone_any (t : ByteArray) (w : World) (ht : t.size ≤ 1000000) (k : Nat) (hk : k < t.size) (z : Sy) (hz : z = tokL k (t.data.toList.drop k)) (K : Nat) (hK : K = k + (cutL (t.data.toList.drop k)).2) : Calls Tryd.prog 20 #[.string t, .int .i64 k] w (OneOut w z K) := by
  have hd := drop_consB t k hk
  cases hsm : smallB t[k] with
  | true => exact rone_wn t w ht k hk z hz K hK (.inl hsm)
  | false =>
    cases hdc : digB t[k] with
    | true => exact rone_wn t w ht k hk z hz K hK (.inr (.inl hdc))
    | false =>
      have tells : numN (t.data.toList.drop k) = 0 → varN (t.data.toList.drop k) = 0 → SignTells t k z K sgn := fun h1 h2 => sign_tells t k hk hsm h1 h2 z hz K hK
      by_cases h45 : t[k].toNat = 45
      · have hv : varN (t.data.toList.drop k) = 0 := by rw [hd]; exact varN_other _ (by omega)
        have hn : runL digB (t.data.toList.drop (k + 1)) = 0 → numN (t.data.toList.drop k) = 0 := fun h => by rw [hd, num_head, if_pos h45, if_pos h]
        by_cases hk1 : k + 1 < t.size
        · cases hdn : digB t[k + 1] with
          | true => exact rone_wn t w ht k hk z hz K hK (.inr (.inr ⟨h45, by rw [runB_step digB t (k + 1) hk1, hdn]; simp⟩))
          | false => exact rone_p3 t w ht k hk hsm hdc h45 hk1 hdn z K sgn rfl (tells (hn (by rw [runB_step digB t (k + 1) hk1, hdn]; simp)) hv)
        · exact rone_p2 t w ht k hk hsm hdc h45 (by omega) z K sgn rfl (tells (hn (runL_end _ _ _ (by rw [str_size]; omega))) hv)
      · have hn : numN (t.data.toList.drop k) = 0 := by rw [hd, num_head, if_neg h45, hdc]; simp
        by_cases h60 : t[k].toNat = 60
        · by_cases hk1 : k + 1 < t.size
          · have hd1 := drop_consB t (k + 1) hk1
            cases hsn : smallB t[k + 1] with
            | false => exact rone_p5 t w ht k hk hsm hdc h60 hk1 hsn z K sgn rfl (tells hn (by rw [hd, varN_sixty _ h60, hd1, wordN_zero _ hsn, if_pos rfl]))
            | true =>
              have hw : wordN (t.data.toList.drop (k + 1)) = runL partB (t.data.toList.drop (k + 1)) := by
                rw [hd1]; show (if smallB t[k + 1] then _ else 0) = _; rw [if_pos hsn]
              have hw0 : wordN (t.data.toList.drop (k + 1)) ≠ 0 := by
                rw [hw, hd1, runL_cons_true _ (part_small hsn)]; omega
              have hle := runL_le partB (t.data.toList.drop (k + 1))
              rw [List.length_drop, str_size] at hle
              obtain ⟨n, hnn⟩ : ∃ n, n = runL partB (t.data.toList.drop (k + 1)) := ⟨_, rfl⟩
              rw [← hnn] at hw hle
              have hvar : varN (t.data.toList.drop k) = if (t.data.toList.drop (k + 1 + n)).head? = some 62 then n + 2 else 0 := by
                rw [hd, varN_sixty _ h60, if_neg hw0, hw, List.drop_drop]
              by_cases hml : k + 1 + n < t.size
              · have hdm := drop_consB t (k + 1 + n) hml
                rw [hdm, List.head?_cons] at hvar
                by_cases h62 : t[k + 1 + n].toNat = 62
                · have hv : varN (t.data.toList.drop k) = n + 2 := by rw [hvar, if_pos (by rw [show t[k + 1 + n] = 62 from UInt8.toNat_inj.1 h62])]
                  have hcut : cutL (t.data.toList.drop k) = (3, n + 2) := by
                    have hc := hd ▸ hn
                    have hvv := hd ▸ hv
                    rw [hd, cutL_var hsm hc (by rw [hvv]; omega), hvv]
                  refine rone_var t w ht k hk hsm hdc h60 hk1 hsn (k + 1 + n) (by rw [hnn]) hml h62 z ?_ K (by rw [hK, hcut]; simp only; omega)
                  rw [hz]
                  unfold tokL
                  rw [hcut]
                  simp only
                  obtain ⟨P, hP⟩ : ∃ P, P = t.extract k (k + 1 + n + 1) := ⟨_, rfl⟩
                  obtain ⟨Q, hQ⟩ : ∃ Q, Q = t.extract (k + 1) (k + 1 + n) := ⟨_, rfl⟩
                  have hPl : P.data.toList = (t.data.toList.drop k).take (n + 2) := by rw [hP, Lib.extract_data]; congr 1; omega
                  have hQl : Q.data.toList = (t.data.toList.drop (k + 1)).take n := by rw [hQ, Lib.extract_data, Nat.add_sub_cancel_left]
                  rw [← hP, ← hQ, ← hPl]
                  have hnm : nameL 3 P.data.toList = Q.data.toList := by
                    unfold nameL
                    rw [if_pos rfl, hQl, hPl, hd, List.take_succ_cons, List.drop_succ_cons, List.drop_zero, List.take_take]
                    congr 1
                    rw [List.length_cons, List.length_take, List.length_drop, str_size]; omega
                  have hfit : fitsL 3 Q.data.toList = decide (n ≤ 32) := by
                    show wordB Q.data.toList = _
                    rw [hQl, hd1, hnn, hd1]; exact wordB_take hsn
                  unfold holdL
                  rw [hnm, hfit, str_self, str_self]
                  have he : k + 1 + n - k - 1 = n := by omega
                  rw [he]
                  simp only [decide_eq_true_eq]
                · exact rone_p7 t w ht k hk hsm hdc h60 hk1 hsn (k + 1 + n) (by rw [hnn]) hml h62 z K sgn rfl (tells hn (by rw [hvar, if_neg (fun e => h62 (by rw [Option.some.inj e]; rfl))]))
              · have he : k + 1 + n = t.size := by omega
                exact rone_p6 t w ht k hk hsm hdc h60 hk1 hsn (by rw [← hnn]; omega) z K sgn rfl (tells hn (by rw [hvar, List.drop_of_length_le (by rw [str_size]; omega)]; rfl))
          · exact rone_p4 t w ht k hk hsm hdc h60 (by omega) z K sgn rfl (tells hn (by rw [hd, varN_sixty _ h60, List.drop_of_length_le (by rw [str_size]; omega)]; rfl))
        · exact rone_sign t w ht k hk hsm h45 h60 hdc z K sgn rfl (tells hn (by rw [hd]; exact varN_other _ h60))
end Go.Proofs.YtocdclcemebaeaaDoor
