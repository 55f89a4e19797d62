/-
  Walks over ponderref04: digits, Number, Text. No condition.
-/
import Derived.Test.YtlledodigmkdjaaGreatDoorSymRef
import Derived.Test.YtlledodigmkdjaaGreatDoorSymT
import Derived.Lib.ItoaLen
import Derived.Laws.IdiomStrings
namespace Go.Proofs.YtlledodigmkdjaaGreatDoor
set_option linter.unusedVariables false
open Go.RowKit
theorem dec_step (u : Nat) (h : 9 < u) (S : List UInt8) : Lib.decDigits (u / 10) ++ (UInt8.ofNat (48 + u % 10) :: S) = Lib.decDigits u ++ S := by
  have e : u = 10 * (u / 10) + u % 10 := by omega
  have := dec_snoc (u / 10) (u % 10) (by omega) (by omega)
  rw [← e] at this
  rw [this]; simp
theorem conv_one (W : World) (z : Int) (d : UInt8) (h : z = d.toNat) : Sem.run Tryz.prog (convert 55 9 (.slice (some ⟨W.heap.size, 0, none⟩) 1 1)) (W.alloc (.cells #[.int .u8 z] 5)) = .ok (.string ⟨#[d]⟩) (W.alloc (.cells #[.int .u8 z] 5)) := by
  refine run_convert_bytes_back (P := Tryz.prog) _ 55 9 5 ⟨W.heap.size, 0, none⟩ 1 [d] Tryz.underlying55 Tryz.underlying5 Tryz.underlying9 (fun j hj => ?_)
  obtain rfl : j = 0 := by simp at hj; omega
  rw [Go.WideShapes.add_plain, cells_of (new_at rfl), h]
  rfl
theorem add_one (d : UInt8) (S : ByteArray) (hS : S.size ≤ 1000000) : ∀ w' : World, (Op.stringOp .add ⟨#[d]⟩ S).run Tryz.prog w' = .ok (.string (⟨#[d]⟩ ++ S)) w' := fun w' => run_string_add_sum w' _ S (by have : (⟨#[d]⟩ : ByteArray).size = 1 := rfl; omega)
theorem cat_list (d : UInt8) (S : ByteArray) : ((⟨#[d]⟩ : ByteArray) ++ S).data.toList = d :: S.data.toList := by simp
set_option maxRecDepth 100000 in
set_option maxHeartbeats 1000000 in
theorem digits_any (n : Nat) (w : World) (hn : n ≤ 2147483648) : Calls Tryz.prog 55 #[.int .i64 n] w fun e w' => e = .returned (.string ⟨(Lib.decDigits n).toArray⟩) ∧ Below w.heap.size w w' := by
  have hlen : (Lib.decDigits n).length ≤ 21 := by rw [← Lib.itoa_nonneg]; exact Lib.itoa_length_le n (by omega) (by omega)
  have Hn := Lib.hid hn
  have HLen := Lib.hid hlen
  clear hn hlen
  go_enter Tryz.func55, Tryz.ntmps55
  go_wp2_with fail
  go_loopw [0, 3] (fun a s wr => ∃ (u : Nat) (S : ByteArray), a = .int .i64 u ∧ s = .string S ∧ u ≤ n ∧ Hid (Lib.decDigits u ++ S.data.toList = Lib.decDigits n) ∧ Below w.heap.size w wr) (fun a _ _ => (intOf a).toNat)
  case atStart => exact ⟨n, ⟨#[]⟩, rfl, rfl, Nat.le_refl _, Lib.hid (by simp), Below.refl _ _⟩
  case round =>
    obtain ⟨u, S, rfl, rfl, hu, HD, hb⟩ := hrel
    have hS : S.size ≤ 21 := by
      have := congrArg List.length HD.out
      have := HLen.out
      rename_i h1
      simp at h1; omega
    have Hu := Lib.hid hu
    have hu2 : u ≤ 2147483648 := Nat.le_trans hu Hn.out
    have hsz := hb.size
    clear hu
    by_cases h9 : 9 < u
    · obtain ⟨d, hd⟩ : ∃ d : UInt8, d = UInt8.ofNat (48 + u % 10) := ⟨_, rfl⟩
      have hcv := fun W => conv_one W (48 + (u : Int) % 10) d (by rw [hd, dig_toNat _ (by omega)]; omega)
      have had := add_one d S (by omega)
      have Hd := Lib.hid hd
      clear hd
      go_wp2_with fail
      go_roundw
      case rel => exact ⟨u / 10, _, by go_num, rfl, by have := Hu.out; omega, Lib.hid (by rw [cat_list, Hd.out, dec_step u h9]; exact HD.out), by go_grown⟩
      case measure => simp [intOf]; omega
    · obtain ⟨d, hd⟩ : ∃ d : UInt8, d = UInt8.ofNat (48 + u) := ⟨_, rfl⟩
      have hcv := fun W => conv_one W (48 + (u : Int)) d (by rw [hd, dig_toNat _ (by omega)]; omega)
      have had := add_one d S (by omega)
      have Hd := Lib.hid hd
      clear hd
      go_wp2_with fail
      go_ret
      refine ⟨ret_str ?_, by go_grown⟩
      apply ByteArray.ext
      apply Array.toList_inj.mp
      rw [cat_list, Hd.out]
      have := HD.out
      rw [Lib.decDigits_one (by omega)] at this
      simpa using this
set_option maxHeartbeats 1000000 in
theorem number_any (n : Int) (w : World) (h0 : -2147483648 ≤ n) (h1 : n ≤ 2147483648) : Calls Tryz.prog 35 #[.int .i64 n] w fun e w' => e = .returned (.string ⟨(Lib.itoa n).toArray⟩) ∧ Below w.heap.size w w' := by
  by_cases hn : n < 0
  · have hd := digits_any n.natAbs w (by omega)
    have e : (n.natAbs : Int) = -n := by omega
    rw [e] at hd
    obtain ⟨I, hI⟩ : ∃ I : ByteArray, I = ⟨(Lib.decDigits n.natAbs).toArray⟩ := ⟨_, rfl⟩
    have hz : I.size ≤ 21 := by
      rw [hI]
      have : (Lib.decDigits n.natAbs).length ≤ 21 := by rw [← Lib.itoa_nonneg]; exact Lib.itoa_length_le _ (by omega) (by omega)
      exact this
    rw [← hI] at hd
    have had := add_one 45 I (by omega)
    have HQ : Hid ((⟨(Lib.itoa n).toArray⟩ : ByteArray) = ⟨#[45]⟩ ++ I) := Lib.hid (by
      apply ByteArray.ext
      apply Array.toList_inj.mp
      rw [cat_list, hI]
      unfold Lib.itoa
      rw [if_pos hn])
    have Hd := Lib.hid hd
    clear hd hI hz e
    go_enter Tryz.func35, Tryz.ntmps35
    go_wp2_with (go_at_call 55; refine Hd.out.mono ?_; rintro e w' ⟨rfl, hb⟩)
    go_ret
    exact ⟨ret_str HQ.out.symm, hb⟩
  · have hd := digits_any n.toNat w (by omega)
    have e : (n.toNat : Int) = n := by omega
    rw [e] at hd
    have HQ : Hid ((⟨(Lib.itoa n).toArray⟩ : ByteArray) = ⟨(Lib.decDigits n.toNat).toArray⟩) := Lib.hid (by unfold Lib.itoa; rw [if_neg hn])
    have Hd := Lib.hid hd
    clear hd e
    go_enter Tryz.func35, Tryz.ntmps35
    go_wp2_with (go_at_call 55; refine Hd.out.mono ?_; rintro e w' ⟨rfl, hb⟩)
    go_ret
    exact ⟨ret_str HQ.out.symm, hb⟩
def NumAt (w : World) (n : Int) : Prop := ∀ w', Below w.heap.size w w' → Calls Tryz.prog 35 #[.int .i64 n] w' fun e w2 => e = .returned (.string ⟨(Lib.itoa n).toArray⟩) ∧ Below w'.heap.size w' w2
set_option maxHeartbeats 1000000 in
theorem rtext_raw (s : Sy) (w : World) (hs : s.t.size ≤ 1000000) (hi : validY s = true → s.k ≠ 3 → NumAt w s.n) : Calls Tryz.prog 12 #[.agg #[.int .i64 s.k, .string s.t, .int .i64 s.n]] w fun e w' => e = .returned (.string (textY s)) ∧ Below w.heap.size w w' := by
  obtain ⟨W1, hW1⟩ : ∃ W1, W1 = w.alloc (.cells #[.int .i64 s.k, .string s.t, .int .i64 s.n] 23) := ⟨_, rfl⟩
  have hB : Below w.heap.size w W1 := by rw [hW1]; go_grown
  have hx : W1.heap[w.heap.size]? = some (.cells #[.int .i64 s.k, .string s.t, .int .i64 s.n] 23 (0, 0)) := by rw [hW1]; exact new_at rfl
  have hk : ∀ w', Below W1.heap.size W1 w' → (w'.cell? ⟨w.heap.size, 0, none⟩ = some (.int .i64 s.k) ∧ w'.cell? ⟨w.heap.size, 1, none⟩ = some (.string s.t) ∧ w'.cell? ⟨w.heap.size, 2, none⟩ = some (.int .i64 s.n)) := by
    intro w' h
    have h2 := (h.block _ (heap_lt hx)).trans hx
    exact ⟨by rw [cells_of h2]; rfl, by rw [cells_of h2]; rfl, by rw [cells_of h2]; rfl⟩
  have hv := fun w' => rvalid_any s w' hs
  have hK := Lib.hid hk
  have HB := Lib.hid hB
  have HW := Lib.hid hW1
  have Hv := Lib.hid hv
  obtain ⟨d0, d1, d2⟩ := hk W1 (Below.refl _ _)
  clear hv hk hB hx
  by_cases hval : validY s = true
  · have HI := Lib.hid (hi hval)
    have ht : textY s = ⟨(if s.k = 1 then s.t.data.toList ++ Lib.itoa s.n else if s.k = 2 then Lib.itoa s.n else s.t.data.toList).toArray⟩ := by
      unfold textY textL; unfold validY at hval; rw [if_pos hval]
    have HT := Lib.hid ht
    have HVal := Lib.hid hval
    clear ht hval hi
    by_cases k1 : s.k = 1
    · have b1 : (s.k == 1) = true := by simp [k1]
      have hn : 1 ≤ s.n ∧ s.n ≤ 1048576 := by
        have := HVal.out
        unfold validY validL at this
        rw [if_pos k1] at this
        simp only [Bool.and_eq_true, decide_eq_true_eq] at this
        exact this.2
      obtain ⟨I, hI⟩ : ∃ I : ByteArray, I = ⟨(Lib.itoa s.n).toArray⟩ := ⟨_, rfl⟩
      have hz : I.size ≤ 21 := by rw [hI]; exact Lib.itoa_length_le s.n (by omega) (by omega)
      have hadd : ∀ w' : World, (Op.stringOp .add s.t I).run Tryz.prog w' = .ok (.string (s.t ++ I)) w' := fun w' => run_string_add_sum w' s.t I (by omega)
      have HI1 := Lib.hid (HI.out (by omega))
      unfold NumAt at HI1
      rw [← hI] at HI1
      have HQ : Hid (textY s = s.t ++ I) := Lib.hid (by rw [HT.out, if_pos k1, str_append, hI])
      clear k1 hI hn hz
      rw [hW1] at d0 d1 d2
      go_enter Tryz.func12, Tryz.ntmps12
      go_wp2_with (go_at_call 10; refine (Hv.out _).mono ?_; rintro e w2 ⟨rfl, hb2⟩; rw [HVal.out]; have HB2 : Hid (Below W1.heap.size W1 w2) := Lib.hid (by rw [HW.out]; exact hb2); clear hb2; obtain ⟨e0, e1, e2⟩ := hK.out _ HB2.out)
      clear d0 d1 d2 hW1
      have h0 : Hid (Below W1.heap.size W1 w2.drew) := Lib.hid HB2.out.drew
      go_region_held3 (fun w' => Below W1.heap.size W1 w' ∧ w'.cell? ⟨w.heap.size, 0, none⟩ = some (.int .i64 s.k) ∧ w'.cell? ⟨w.heap.size, 1, none⟩ = some (.string s.t) ∧ w'.cell? ⟨w.heap.size, 2, none⟩ = some (.int .i64 s.n))
        (first | exact ⟨h0.out, hK.out _ h0.out⟩ | exact ⟨hB3.out, hK.out _ hB3.out⟩ | go_keep)
        (first | (go_at_call 35; refine (HI1.out _ (HB.out.trans (h0.out.mono HB.out.size))).mono ?_; rintro e w3 ⟨rfl, h3⟩; have hB3 : Hid (Below W1.heap.size W1 w3) := Lib.hid (h0.out.trans (h3.mono h0.out.size)); clear h3))
      go_wp2_with fail
      go_ret
      exact ⟨ret_str HQ.out.symm, HB.out.trans (hB3.out.mono HB.out.size)⟩
    · have b1 : (s.k == 1) = false := by simp [k1]
      by_cases k2 : s.k = 2
      · have b2 : (s.k == 2) = true := by simp [k2]
        have HI1 := Lib.hid (HI.out (by omega))
        have HQ : Hid (textY s = ⟨(Lib.itoa s.n).toArray⟩) := Lib.hid (by rw [HT.out, if_neg k1, if_pos k2])
        clear k1 k2
        rw [hW1] at d0 d1 d2
        go_enter Tryz.func12, Tryz.ntmps12
        go_wp2_with (first | (go_at_call 10; refine (Hv.out _).mono ?_; rintro e w2 ⟨rfl, hb2⟩; rw [HVal.out]; have HB2 : Hid (Below W1.heap.size W1 w2) := Lib.hid (by rw [HW.out]; exact hb2); clear hb2; obtain ⟨e0, e1, e2⟩ := hK.out _ HB2.out) | (go_at_call 35; refine (HI1.out _ (HB.out.trans (HB2.out.mono HB.out.size))).mono ?_; rintro e w3 ⟨rfl, h3⟩; have HB3 : Hid (Below W1.heap.size W1 w3) := Lib.hid (HB2.out.trans (h3.mono HB2.out.size)); clear h3))
        go_ret
        exact ⟨ret_str HQ.out.symm, HB.out.trans (HB3.out.mono HB.out.size)⟩
      · have b2 : (s.k == 2) = false := by simp [k2]
        have HQ : Hid (textY s = s.t) := Lib.hid (by rw [HT.out, if_neg k1, if_neg k2, str_self])
        clear k1 k2
        rw [hW1] at d0 d1 d2
        go_enter Tryz.func12, Tryz.ntmps12
        go_wp2_with (go_at_call 10; refine (Hv.out _).mono ?_; rintro e w2 ⟨rfl, hb2⟩; rw [HVal.out]; have HB2 : Hid (Below W1.heap.size W1 w2) := Lib.hid (by rw [HW.out]; exact hb2); clear hb2; obtain ⟨e0, e1, e2⟩ := hK.out _ HB2.out)
        go_ret
        exact ⟨ret_str HQ.out.symm, HB.out.trans (HB2.out.mono HB.out.size)⟩
  · have hval' : validY s = false := by simpa using hval
    have HVal := Lib.hid hval'
    have HQ : Hid (textY s = ⟨#[]⟩) := Lib.hid (by unfold textY textL; unfold validY at hval; rw [if_neg hval])
    clear hval hval' hi
    rw [hW1] at d0 d1 d2
    go_enter Tryz.func12, Tryz.ntmps12
    go_wp2_with (go_at_call 10; refine (Hv.out _).mono ?_; rintro e w2 ⟨rfl, hb2⟩; rw [HVal.out]; have HB2 : Hid (Below W1.heap.size W1 w2) := Lib.hid (by rw [HW.out]; exact hb2); clear hb2)
    go_ret
    exact ⟨ret_str HQ.out.symm, HB.out.trans (HB2.out.mono HB.out.size)⟩
theorem valid_num {s : Sy} (h : validY s = true) (h3 : s.k ≠ 3) : -2147483647 ≤ s.n ∧ s.n ≤ 2147483647 := by
  unfold validY validL at h
  split at h
  · simp only [Bool.and_eq_true, decide_eq_true_eq] at h; omega
  · split at h
    · simp only [Bool.and_eq_true, decide_eq_true_eq] at h; omega
    · first | (rw [if_neg h3] at h; cases h) | cases h
theorem rtext_any (s : Sy) (w : World) (hs : s.t.size ≤ 1000000) : Calls Tryz.prog 12 #[.agg #[.int .i64 s.k, .string s.t, .int .i64 s.n]] w fun e w' => e = .returned (.string (textY s)) ∧ Below w.heap.size w w' :=
  rtext_raw s w hs fun h h3 w' _ => number_any s.n w' (by have := valid_num h h3; omega) (by have := valid_num h h3; omega)
end Go.Proofs.YtlledodigmkdjaaGreatDoor
