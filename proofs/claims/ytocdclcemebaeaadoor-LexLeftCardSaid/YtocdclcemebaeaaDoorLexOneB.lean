/-
  The walk over ponderref05.one, at a variable or a sign. No condition but a bound on sizes.
-/
import Derived.Test.YtocdclcemebaeaaDoorLexOne
namespace Go.Proofs.YtocdclcemebaeaaDoor
set_option linter.unusedVariables false
open Go.RowKit
theorem take_of_prefix {q l : List UInt8} (h : Lib.hasPrefix l q = true) : l.take q.length = q := (List.prefix_iff_eq_take.1 (List.isPrefixOf_iff_prefix.1 h)).symm
theorem str_ne {a b : ByteArray} (h : ¬ a = b) : (a.toList == b.toList) = false := by
  rw [beq_eq_false_iff_ne]
  intro e
  rw [Lib.toList_data, Lib.toList_data] at e
  exact h (ByteArray.ext (Array.toList_inj.mp e))
/-- What the row of signs tells of the token at k. -/
def SignTells (t : ByteArray) (k : Nat) (z : Sy) (K : Nat) (g : Nat → ByteArray) : Prop :=
  (∀ j, j < 20 → (∀ i, i < j → Lib.hasPrefix (t.data.toList.drop k) (g i).data.toList = false) → Lib.hasPrefix (t.data.toList.drop k) (g j).data.toList = true → z = ⟨4, g j, k⟩ ∧ K = k + (g j).size ∧ k + (g j).size ≤ t.size ∧ t.extract k (k + (g j).size) = g j) ∧
  (∀ j, j < 20 → Lib.hasPrefix (t.data.toList.drop k) (g j).data.toList = false → (g j).size ≤ 3 ∧ (k + (g j).size ≤ t.size → ¬ t.extract k (k + (g j).size) = g j)) ∧
  ((∀ j, j < 20 → Lib.hasPrefix (t.data.toList.drop k) (g j).data.toList = false) → z = ⟨6, t.extract k (k + 1), k⟩ ∧ K = k + 1)
theorem sgn_pos (j : Nat) (h : j < 20) : 1 ≤ (sgn j).size := by
  have hz : (sgn j).size = (signsL[j]'h).length := by rw [← sgn_list j h]; simp
  rw [hz]
  have : ∀ s ∈ signsL, 1 ≤ s.length := by decide
  exact this _ (List.getElem_mem h)
theorem sign_tells (t : ByteArray) (k : Nat) (hk : k < t.size) (hsm : smallB t[k] = false) (hn : numN (t.data.toList.drop k) = 0) (hv : varN (t.data.toList.drop k) = 0) (z : Sy) (hz : z = tokL k (t.data.toList.drop k)) (K : Nat) (hK : K = k + (cutL (t.data.toList.drop k)).2) : SignTells t k z K sgn := by
  have hd := drop_consB t k hk
  have hcut : cutL (t.data.toList.drop k) = if signN (t.data.toList.drop k) ≠ 0 then (4, signN (t.data.toList.drop k)) else (6, 1) := by
    rw [hd] at hn hv ⊢
    exact cutL_sign hsm hn hv
  have hlen : (t.data.toList.drop k).length = t.size - k := by rw [List.length_drop, str_size]
  refine ⟨fun j hj hno hy => ?_, fun j hj hno => ⟨sgn_size j hj, fun hle he => ?_⟩, fun hno => ?_⟩
  · have hs := sign_step _ j hj hno hy
    have hle := isPrefixOf_le hy
    rw [str_size, hlen] at hle
    have h1 := sgn_pos j hj
    rw [hs, if_pos (by omega)] at hcut
    have htk := take_of_prefix hy
    rw [str_size] at htk
    have hex : t.extract k (k + (sgn j).size) = sgn j := by
      apply ByteArray.ext; apply Array.toList_inj.mp
      rw [Lib.extract_data, Nat.add_sub_cancel_left, htk]
    refine ⟨?_, by rw [hK, hcut], by omega, hex⟩
    rw [hz]
    unfold tokL
    rw [hcut]
    try simp only
    rw [htk]
    show holdL 4 (sgn j).data.toList k = _
    unfold holdL
    rw [show nameL 4 (sgn j).data.toList = (sgn j).data.toList from rfl, show fitsL 4 (sgn j).data.toList = true from rfl, if_pos rfl, str_self]
  · have h2 := congrArg (fun b : ByteArray => b.data.toList) he
    try simp only at h2
    rw [Lib.extract_data, Nat.add_sub_cancel_left] at h2
    have h3 : Lib.hasPrefix (t.data.toList.drop k) (sgn j).data.toList = true := by
      show (sgn j).data.toList.isPrefixOf _ = true
      rw [List.isPrefixOf_iff_prefix, ← h2]
      exact List.take_prefix _ _
    rw [h3] at hno; cases hno
  · have hs := sign_none _ hno
    rw [hs, if_neg (by simp)] at hcut
    refine ⟨?_, by rw [hK, hcut]⟩
    rw [hz]
    unfold tokL
    rw [hcut]
    try simp only
    have hex : (t.data.toList.drop k).take 1 = (t.extract k (k + 1)).data.toList := by rw [Lib.extract_data, Nat.add_sub_cancel_left]
    rw [hex]
    unfold holdL
    rw [show nameL 6 (t.extract k (k + 1)).data.toList = (t.extract k (k + 1)).data.toList from rfl, show fitsL 6 (t.extract k (k + 1)).data.toList = true from rfl, if_pos rfl, str_self]
set_option maxRecDepth 100000 in
set_option maxHeartbeats 8000000 in
theorem rone_sign (t : ByteArray) (w : World) (ht : t.size ≤ 1000000) (k : Nat) (hk : k < t.size) (hsm : smallB t[k] = false) (h45 : ¬ t[k].toNat = 45) (h60 : ¬ t[k].toNat = 60) (hdc : digB t[k] = false)
    (z : Sy) (K : Nat) (g : Nat → ByteArray) (hg : g = sgn) (hT : SignTells t k z K g) : Calls Tryd.prog 20 #[.string t, .int .i64 k] w (OneOut w z K) := by
  have hki : (k : Int) < (t.size : Int) := by omega
  have b45 : ((t[k].toNat : Int) == 45) = false := by simp; omega
  have b60 : ((t[k].toNat : Int) == 60) = false := by simp; omega
  have HT := Lib.hid hT
  have HG := Lib.hid hg
  unfold OneOut
  clear hT hg h45 h60
  go_enter Tryd.func20, Tryd.ntmps20
  go_wp2_with (first | (go_at_call 26; refine (rsmall_any _ _).mono ?_; rintro e w' ⟨rfl, rfl⟩; rw [hsm]) | (go_at_call 29; refine (rdig_any _ _).mono ?_; rintro e w' ⟨rfl, rfl⟩; first | rw [hdc] | rw [hdn]))
  obtain ⟨W2, hW2⟩ : ∃ W2, W2 = (w.alloc (.cells #[.int .i64 0, .string ⟨#[]⟩, .int .i64 0] 46)).alloc (.cells #[.string ⟨#[45, 45, 62]⟩, .string ⟨#[60, 61, 62]⟩, .string ⟨#[60, 60]⟩, .string ⟨#[62, 62]⟩, .string ⟨#[60, 62]⟩, .string ⟨#[60, 61]⟩, .string ⟨#[62, 61]⟩, .string ⟨#[40]⟩, .string ⟨#[41]⟩, .string ⟨#[123]⟩, .string ⟨#[125]⟩, .string ⟨#[94]⟩, .string ⟨#[43]⟩, .string ⟨#[45]⟩, .string ⟨#[33]⟩, .string ⟨#[126]⟩, .string ⟨#[60]⟩, .string ⟨#[62]⟩, .string ⟨#[61]⟩, .string ⟨#[42]⟩] 9) := ⟨_, rfl⟩
  have hB2 : Below w.heap.size w W2 := by rw [hW2]; go_grown
  have hres : W2.heap[w.heap.size]? = some (.cells #[.int .i64 0, .string ⟨#[]⟩, .int .i64 0] 46 (0, 0)) := by rw [hW2]; exact (Below.heap_alloc _ _ _ (by simp)).trans (new_at rfl)
  have hrow : ∀ j, j < 20 → (#[.string ⟨#[45, 45, 62]⟩, .string ⟨#[60, 61, 62]⟩, .string ⟨#[60, 60]⟩, .string ⟨#[62, 62]⟩, .string ⟨#[60, 62]⟩, .string ⟨#[60, 61]⟩, .string ⟨#[62, 61]⟩, .string ⟨#[40]⟩, .string ⟨#[41]⟩, .string ⟨#[123]⟩, .string ⟨#[125]⟩, .string ⟨#[94]⟩, .string ⟨#[43]⟩, .string ⟨#[45]⟩, .string ⟨#[33]⟩, .string ⟨#[126]⟩, .string ⟨#[60]⟩, .string ⟨#[62]⟩, .string ⟨#[61]⟩, .string ⟨#[42]⟩] : Array Value)[j]? = some (.string (sgn j)) := fun j hj => by
    have e : (#[.string ⟨#[45, 45, 62]⟩, .string ⟨#[60, 61, 62]⟩, .string ⟨#[60, 60]⟩, .string ⟨#[62, 62]⟩, .string ⟨#[60, 62]⟩, .string ⟨#[60, 61]⟩, .string ⟨#[62, 61]⟩, .string ⟨#[40]⟩, .string ⟨#[41]⟩, .string ⟨#[123]⟩, .string ⟨#[125]⟩, .string ⟨#[94]⟩, .string ⟨#[43]⟩, .string ⟨#[45]⟩, .string ⟨#[33]⟩, .string ⟨#[126]⟩, .string ⟨#[60]⟩, .string ⟨#[62]⟩, .string ⟨#[61]⟩, .string ⟨#[42]⟩] : Array Value) = ((List.range 20).map fun i => Value.string (sgn i)).toArray := rfl
    rw [e]; simp [hj]
  have hcs : ∀ w', Below W2.heap.size W2 w' → ∀ j, j < 20 → w'.cell? ⟨w.heap.size + 1, j, none⟩ = some (.string (g j)) := fun w' h j hj => by
    have hx : W2.heap[w.heap.size + 1]? = some (.cells #[.string ⟨#[45, 45, 62]⟩, .string ⟨#[60, 61, 62]⟩, .string ⟨#[60, 60]⟩, .string ⟨#[62, 62]⟩, .string ⟨#[60, 62]⟩, .string ⟨#[60, 61]⟩, .string ⟨#[62, 61]⟩, .string ⟨#[40]⟩, .string ⟨#[41]⟩, .string ⟨#[123]⟩, .string ⟨#[125]⟩, .string ⟨#[94]⟩, .string ⟨#[43]⟩, .string ⟨#[45]⟩, .string ⟨#[33]⟩, .string ⟨#[126]⟩, .string ⟨#[60]⟩, .string ⟨#[62]⟩, .string ⟨#[61]⟩, .string ⟨#[42]⟩] 9 (0, 0)) := by rw [hW2]; exact new_at (by simp)
    rw [cells_of ((h.block _ (heap_lt hx)).trans hx), hrow j hj, HG.out]
  have hcells : ∀ w', Below W2.heap.size W2 w' → (w'.cell? ⟨w.heap.size, 0, none⟩ = some (.int .i64 0) ∧ w'.cell? ⟨w.heap.size, 1, none⟩ = some (.string ⟨#[]⟩) ∧ w'.cell? ⟨w.heap.size, 2, none⟩ = some (.int .i64 0)
      ∧ w'.frozen? ⟨w.heap.size, 0, none⟩ = false ∧ w'.frozen? ⟨w.heap.size, 1, none⟩ = false ∧ w'.frozen? ⟨w.heap.size, 2, none⟩ = false) ∧ Hid (w'.heap[w.heap.size]? = some (.cells #[.int .i64 0, .string ⟨#[]⟩, .int .i64 0] 46 (0, 0))) := by
    intro w' h
    have h2 := (h.block _ (heap_lt hres)).trans hres
    exact ⟨⟨by rw [cells_of h2]; rfl, by rw [cells_of h2]; rfl, by rw [cells_of h2]; rfl, frozen_of h2, frozen_of h2, frozen_of h2⟩, h2⟩
  have fin : ∀ (w2 : World) (a b c : Value), Below W2.heap.size W2 w2 → Below w.heap.size w (((w2.setCell ⟨w.heap.size, 0, none⟩ a).setCell ⟨w.heap.size, 1, none⟩ b).setCell ⟨w.heap.size, 2, none⟩ c) := fun w2 a b c h =>
    (((hB2.trans (h.mono hB2.size)).setCell (Nat.le_refl _) _).setCell (Nat.le_refl _) _).setCell (Nat.le_refl _) _
  have HCS := Lib.hid hcs
  have HC := Lib.hid hcells
  have HF := Lib.hid fin
  have HW2 := Lib.hid hW2
  clear hcs hcells fin hB2 hres hrow hW2
  rw [← HW2.out]
  go_loopw [13] (fun i wr => ∃ j : Nat, j ≤ 20 ∧ i = .int .i64 j ∧ Hid (∀ i, i < j → Lib.hasPrefix (t.data.toList.drop k) (g i).data.toList = false) ∧ Hid (Below W2.heap.size W2 wr)) (fun i _ => 20 - (intOf i).toNat)
  case atStart => exact ⟨0, Nat.zero_le _, rfl, Lib.hid (fun i hi => absurd hi (by omega)), Lib.hid (Below.refl _ _)⟩
  case round =>
    obtain ⟨j, hj, rfl, hno, hBr⟩ := hrel
    by_cases hjl : j < 20
    · have hji : (j : Int) < 20 := by omega
      have cj := HCS.out wr hBr.out j hjl
      cases hpx : Lib.hasPrefix (t.data.toList.drop k) (g j).data.toList with
      | true =>
        obtain ⟨hz, hK, hle, hex⟩ := HT.out.1 j hjl hno.out hpx
        have hq3 : (g j).size ≤ 3 := by rw [HG.out]; exact sgn_size j hjl
        have HCJ := Lib.hid (fun w' (h : Below W2.heap.size W2 w') => HCS.out w' h j hjl)
        generalize g j = q at cj hz hK hle hex hq3 HCJ
        have hsl : ∀ w', (Instr.slice 9 (.string t) (some (.int .i64 (k : Int))) (some (.int .i64 ((k : Int) + (q.size : Int)))) none).run Tryd.prog w' = .ok (.string q) w' := fun w' => by
          have h := str_slice t k (k + q.size) (by omega) hle w'
          rw [hex, Int.natCast_add] at h; exact h
        have d1 : decide ((q.size : Int) ≤ (t.size : Int) - (k : Int)) = true := by simp; omega
        have hw1 : IntKind.i64.wrap ((k : Int) + (q.size : Int)) = (k : Int) + (q.size : Int) := by rw [IntKind.wrap_i64]; omega
        subst hz; subst hK
        clear hex hpx
        go_wp2_with fail
        go_quiet (fail)
        obtain ⟨wz, hWz⟩ : ∃ wz, wz = wr.drewN nq := ⟨_, rfl⟩
        rw [← hWz]
        have hbz : Below W2.heap.size W2 wz := by rw [hWz]; exact bdN _ hBr.out
        obtain ⟨⟨c0, c1, c2, f0, f1, f2⟩, H2⟩ := HC.out wz hbz
        have cz := HCJ.out wz hbz
        have HBz := Lib.hid hbz
        clear hWz hbz cj
        go_wp2_with fail
        obtain ⟨s0, s1, s2⟩ := set3 (a := .int .i64 4) (b := .string q) (c := .int .i64 k) H2.out
        refine bodyPost_ret (by simp [results, Tryd.results20, go_sem, s0, s1, s2]; rfl) rfl ?_
        exact ⟨rfl, HF.out _ _ _ _ HBz.out⟩
      | false =>
        obtain ⟨hq3, hne⟩ := HT.out.2.1 j hjl hpx
        have HN : Hid (∀ i, i < j + 1 → Lib.hasPrefix (t.data.toList.drop k) (g i).data.toList = false) := Lib.hid (fun i hi => by
          rcases Nat.lt_or_ge i j with h | h
          · exact hno.out i h
          · obtain rfl : i = j := by omega
            exact hpx)
        generalize g j = q at cj hq3 hne
        clear hpx
        by_cases hle : k + q.size ≤ t.size
        · have hne := str_ne (hne hle)
          obtain ⟨P, hP⟩ : ∃ P, P = t.extract k (k + q.size) := ⟨_, rfl⟩
          have hsl : ∀ w', (Instr.slice 9 (.string t) (some (.int .i64 (k : Int))) (some (.int .i64 ((k : Int) + (q.size : Int)))) none).run Tryd.prog w' = .ok (.string P) w' := fun w' => by
            have h := str_slice t k (k + q.size) (by omega) hle w'
            rw [← hP, Int.natCast_add] at h; exact h
          rw [← hP] at hne
          have d1 : decide ((q.size : Int) ≤ (t.size : Int) - (k : Int)) = true := by simp; omega
          have hw1 : IntKind.i64.wrap ((k : Int) + (q.size : Int)) = (k : Int) + (q.size : Int) := by rw [IntKind.wrap_i64]; omega
          clear hP
          go_wp2_with fail
          go_quiet (fail)
          go_wp2_with fail
          go_roundw
          case rel => exact ⟨j + 1, by omega, by go_num, HN, Lib.hid (bdN _ hBr.out)⟩
          case measure => simp [intOf]; omega
        · have d1 : decide ((q.size : Int) ≤ (t.size : Int) - (k : Int)) = false := by simp; omega
          clear hne
          go_wp2_with fail
          go_quiet (fail)
          go_wp2_with fail
          go_roundw
          case rel => exact ⟨j + 1, by omega, by go_num, HN, Lib.hid (bdN _ hBr.out)⟩
          case measure => simp [intOf]; omega
    · obtain rfl : j = 20 := by omega
      obtain ⟨hz, hK⟩ := HT.out.2.2 hno.out
      obtain ⟨P, hP⟩ : ∃ P, P = t.extract k (k + 1) := ⟨_, rfl⟩
      rw [← hP] at hz
      have hsl : ∀ w', (Instr.slice 9 (.string t) (some (.int .i64 (k : Int))) (some (.int .i64 ((k : Int) + 1))) none).run Tryd.prog w' = .ok (.string P) w' := fun w' => by
        have h := str_slice t k (k + 1) (by omega) (by omega) w'
        rw [← hP, Int.natCast_add] at h; exact h
      subst hz; subst hK
      obtain ⟨⟨c0, c1, c2, f0, f1, f2⟩, H2⟩ := HC.out wr hBr.out
      clear hP
      go_wp2_with fail
      obtain ⟨s0, s1, s2⟩ := set3 (a := .int .i64 6) (b := .string P) (c := .int .i64 k) H2.out
      refine bodyPost_ret (by simp [results, Tryd.results20, go_sem, s0, s1, s2]; rfl) rfl ?_
      exact ⟨rfl, HF.out _ _ _ _ hBr.out⟩
end Go.Proofs.YtocdclcemebaeaaDoor
