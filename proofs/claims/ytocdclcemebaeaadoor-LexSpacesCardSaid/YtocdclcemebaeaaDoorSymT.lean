/-
  Walks over package sym: Text. What strconv.Itoa gives is a premise.
-/
import Derived.Test.YtocdclcemebaeaaDoorSymV
import Derived.Deep.RegionHeld3
import Derived.Lib.ItoaLen
namespace Go.Proofs.YtocdclcemebaeaaDoor
set_option linter.unusedVariables false
open Go.RowKit
/-- strconv.Itoa at n, in every later world. -/
def ItoaAt (w : World) (n : Int) : Prop := ∀ w', Below w.heap.size w w' → Calls Tryd.prog 60 #[.int .i64 n] w' fun e w2 => e = .returned (.string ⟨(Lib.itoa n).toArray⟩) ∧ Below w'.heap.size w' w2
theorem ItoaAt.mono {w w1 : World} {n : Int} (h : ItoaAt w n) (hb : Below w.heap.size w w1) : ItoaAt w1 n := fun w' h' => h w' (hb.trans (h'.mono hb.size))
theorem itoa_small (w : World) (n : Nat) (h : n < 100) : ItoaAt w n := fun w' _ => (Tryd.strconv_Itoa_small n h w').mono (R' := fun e w2 => e = .returned (.string ⟨(Lib.itoa n).toArray⟩) ∧ Below w'.heap.size w' w2) (by
  rintro e w2 ⟨rfl, rfl⟩
  exact ⟨by unfold Lib.itoa; rw [if_neg (by omega)]; rfl, Below.refl _ _⟩)
def textY (s : Sy) : ByteArray := ⟨(textL s.k s.t.data.toList s.n).toArray⟩
theorem str_append (a : ByteArray) (l : List UInt8) : (⟨(a.data.toList ++ l).toArray⟩ : ByteArray) = a ++ ⟨l.toArray⟩ := by
  apply ByteArray.ext
  simp
theorem str_self (a : ByteArray) : (⟨a.data.toList.toArray⟩ : ByteArray) = a := by
  apply ByteArray.ext
  simp
theorem ret_str {a b : ByteArray} (h : a = b) : Ending.returned (.string a) = .returned (.string b) := by rw [h]
set_option maxHeartbeats 1000000 in
theorem text_any (s : Sy) (w : World) (hs : s.t.size ≤ 1000000) (hi : validY s = true → s.k ≠ 3 → ItoaAt w s.n) : Calls Tryd.prog 55 #[.agg #[.int .i64 s.k, .string s.t, .int .i64 s.n]] w fun e w' => e = .returned (.string (textY s)) ∧ Below w.heap.size w w' := by
  obtain ⟨W1, hW1⟩ : ∃ W1, W1 = w.alloc (.cells #[.int .i64 s.k, .string s.t, .int .i64 s.n] 65) := ⟨_, rfl⟩
  have hB : Below w.heap.size w W1 := by rw [hW1]; go_grown
  have hx : W1.heap[w.heap.size]? = some (.cells #[.int .i64 s.k, .string s.t, .int .i64 s.n] 65 (0, 0)) := by rw [hW1]; exact new_at rfl
  have hk : ∀ w', Below W1.heap.size W1 w' → (w'.cell? ⟨w.heap.size, 0, none⟩ = some (.int .i64 s.k) ∧ w'.cell? ⟨w.heap.size, 1, none⟩ = some (.string s.t) ∧ w'.cell? ⟨w.heap.size, 2, none⟩ = some (.int .i64 s.n)) := by
    intro w' h
    have h2 := (h.block _ (heap_lt hx)).trans hx
    exact ⟨by rw [cells_of h2]; rfl, by rw [cells_of h2]; rfl, by rw [cells_of h2]; rfl⟩
  have hv := fun w' => valid_any s w' hs
  have hK := Lib.hid hk
  have HB := Lib.hid hB
  have HW := Lib.hid hW1
  have Hv := Lib.hid hv
  obtain ⟨d0, d1, d2⟩ := hk W1 (Below.refl _ _)
  clear hv hk hB hx
  by_cases hval : validY s = true
  · have HI := Lib.hid (hi hval)
    have ht : textY s = ⟨(if s.k = 1 then s.t.data.toList ++ Lib.itoa s.n else if s.k = 2 then Lib.itoa s.n else s.t.data.toList).toArray⟩ := by
      unfold textY textL; unfold validY at hval; rw [if_pos hval]
    have HT := Lib.hid ht
    have HVal := Lib.hid hval
    clear ht hval hi
    by_cases k1 : s.k = 1
    · have b1 : (s.k == 1) = true := by simp [k1]
      have hn : 1 ≤ s.n ∧ s.n ≤ 1048576 := by
        have := HVal.out
        unfold validY validL at this
        rw [if_pos k1] at this
        simp only [Bool.and_eq_true, decide_eq_true_eq] at this
        exact this.2
      obtain ⟨I, hI⟩ : ∃ I : ByteArray, I = ⟨(Lib.itoa s.n).toArray⟩ := ⟨_, rfl⟩
      have hz : I.size ≤ 21 := by rw [hI]; exact Lib.itoa_length_le s.n (by omega) (by omega)
      have hadd : ∀ w' : World, (Op.stringOp .add s.t I).run Tryd.prog w' = .ok (.string (s.t ++ I)) w' := fun w' => run_string_add_sum w' s.t I (by omega)
      have HI1 := Lib.hid (HI.out (by omega))
      unfold ItoaAt at HI1
      rw [← hI] at HI1
      have HQ : Hid (textY s = s.t ++ I) := Lib.hid (by rw [HT.out, if_pos k1, str_append, hI])
      clear k1 hI hn hz
      rw [hW1] at d0 d1 d2
      go_enter Tryd.func55, Tryd.ntmps55
      go_wp2_with (go_at_call 59; refine (Hv.out _).mono ?_; rintro e w2 ⟨rfl, hb2⟩; rw [HVal.out]; have HB2 : Hid (Below W1.heap.size W1 w2) := Lib.hid (by rw [HW.out]; exact hb2); clear hb2; obtain ⟨e0, e1, e2⟩ := hK.out _ HB2.out)
      clear d0 d1 d2 hW1
      have h0 : Hid (Below W1.heap.size W1 w2.drew) := Lib.hid HB2.out.drew
      go_region_held3 (fun w' => Below W1.heap.size W1 w' ∧ w'.cell? ⟨w.heap.size, 0, none⟩ = some (.int .i64 s.k) ∧ w'.cell? ⟨w.heap.size, 1, none⟩ = some (.string s.t) ∧ w'.cell? ⟨w.heap.size, 2, none⟩ = some (.int .i64 s.n))
        (first | exact ⟨h0.out, hK.out _ h0.out⟩ | exact ⟨hB3.out, hK.out _ hB3.out⟩ | go_keep)
        (first | (go_at_call 60; refine (HI1.out _ (HB.out.trans (h0.out.mono HB.out.size))).mono ?_; rintro e w3 ⟨rfl, h3⟩; have hB3 : Hid (Below W1.heap.size W1 w3) := Lib.hid (h0.out.trans (h3.mono h0.out.size)); clear h3))
      go_wp2_with fail
      go_ret
      exact ⟨ret_str HQ.out.symm, HB.out.trans (hB3.out.mono HB.out.size)⟩
    · have b1 : (s.k == 1) = false := by simp [k1]
      by_cases k2 : s.k = 2
      · have b2 : (s.k == 2) = true := by simp [k2]
        have HI1 := Lib.hid (HI.out (by omega))
        have HQ : Hid (textY s = ⟨(Lib.itoa s.n).toArray⟩) := Lib.hid (by rw [HT.out, if_neg k1, if_pos k2])
        clear k1 k2
        rw [hW1] at d0 d1 d2
        go_enter Tryd.func55, Tryd.ntmps55
        go_wp2_with (first | (go_at_call 59; refine (Hv.out _).mono ?_; rintro e w2 ⟨rfl, hb2⟩; rw [HVal.out]; have HB2 : Hid (Below W1.heap.size W1 w2) := Lib.hid (by rw [HW.out]; exact hb2); clear hb2; obtain ⟨e0, e1, e2⟩ := hK.out _ HB2.out) | (go_at_call 60; refine (HI1.out _ (HB.out.trans (HB2.out.mono HB.out.size))).mono ?_; rintro e w3 ⟨rfl, h3⟩; have HB3 : Hid (Below W1.heap.size W1 w3) := Lib.hid (HB2.out.trans (h3.mono HB2.out.size)); clear h3))
        go_ret
        exact ⟨ret_str HQ.out.symm, HB.out.trans (HB3.out.mono HB.out.size)⟩
      · have b2 : (s.k == 2) = false := by simp [k2]
        have HQ : Hid (textY s = s.t) := Lib.hid (by rw [HT.out, if_neg k1, if_neg k2, str_self])
        clear k1 k2
        rw [hW1] at d0 d1 d2
        go_enter Tryd.func55, Tryd.ntmps55
        go_wp2_with (go_at_call 59; refine (Hv.out _).mono ?_; rintro e w2 ⟨rfl, hb2⟩; rw [HVal.out]; have HB2 : Hid (Below W1.heap.size W1 w2) := Lib.hid (by rw [HW.out]; exact hb2); clear hb2; obtain ⟨e0, e1, e2⟩ := hK.out _ HB2.out)
        go_ret
        exact ⟨ret_str HQ.out.symm, HB.out.trans (HB2.out.mono HB.out.size)⟩
  · have hval' : validY s = false := by simpa using hval
    have HVal := Lib.hid hval'
    have HQ : Hid (textY s = ⟨#[]⟩) := Lib.hid (by unfold textY textL; unfold validY at hval; rw [if_neg hval])
    clear hval hval' hi
    rw [hW1] at d0 d1 d2
    go_enter Tryd.func55, Tryd.ntmps55
    go_wp2_with (go_at_call 59; refine (Hv.out _).mono ?_; rintro e w2 ⟨rfl, hb2⟩; rw [HVal.out]; have HB2 : Hid (Below W1.heap.size W1 w2) := Lib.hid (by rw [HW.out]; exact hb2); clear hb2)
    go_ret
    exact ⟨ret_str HQ.out.symm, HB.out.trans (HB2.out.mono HB.out.size)⟩
end Go.Proofs.YtocdclcemebaeaaDoor
