/-
  Walks over package sym: meant, Parse. What strconv.Itoa and strconv.Atoi give are premises.
-/
import Derived.Test.YtocdclcemebaeaaDoorSymT
import Derived.Test.YtocdclcemebaeaaDoorZeroS
import Derived.Test.YtocdclcemebaeaaDoorKit2
import Derived.Lib.IndexBytes
namespace Go.Proofs.YtocdclcemebaeaaDoor
set_option linter.unusedVariables false
open Go.RowKit
/-- strconv.Atoi at t, in every later world: some error beside the number. -/
def AtoiAt (w : World) (t : ByteArray) : Prop := ∀ w', Below w.heap.size w w' → Calls Tryd.prog 58 #[.string t] w' fun e w2 => ∃ er, e = .returned (.tuple #[.int .i64 (atoiN t.data.toList), er]) ∧ Below w'.heap.size w' w2
theorem AtoiAt.mono {w w1 : World} {t : ByteArray} (h : AtoiAt w t) (hb : Below w.heap.size w w1) : AtoiAt w1 t := fun w' h' => h w' (hb.trans (h'.mono hb.size))
theorem atoi_fine (w : World) (t : ByteArray) (ht : t.size ≤ 1000000) (v : Int) (h : Lib.atoiAll t.data.toList = .ok v) : AtoiAt w t := fun w' _ => (Tryd.strconv_Atoi_ok t (by omega) v h w').mono (by
  rintro e w2 ⟨rfl, hw⟩
  refine ⟨_, by unfold atoiN; rw [h], ?_⟩
  rcases hw with rfl | ⟨b, rfl⟩
  · exact Below.refl _ _
  · exact Lib.bytesWorld_below _ _ _)
/-- A symbol out of its parts. -/
def symOf (x : Int × List UInt8 × Int) : Sy := ⟨x.1, ⟨x.2.1.toArray⟩, x.2.2⟩
theorem meantL_cons (c : UInt8) (r : List UInt8) : meantL (c :: r) = if capB c then (1, [c], atoiN r) else if smallB c then (3, c :: r, 0) else (2, [], atoiN (c :: r)) := rfl
def firstCap (t : ByteArray) : Bool := match t.data.toList with | c :: _ => capB c | [] => false
theorem ext_one (t : ByteArray) : (t.extract 1 t.size).data.toList = t.data.toList.drop 1 :=
  Lib.extract_to_end t 1
theorem ext_head (t : ByteArray) (h : 0 < t.size) : t.extract 0 1 = ⟨[t[0]].toArray⟩ := by
  apply ByteArray.ext
  apply Array.toList_inj.mp
  have h1 := Lib.extract_data t 0 1
  rw [h1, List.drop_zero, bytes_cons t h]
  rfl
theorem sy_cells (x : Int × List UInt8 × Int) : Value.agg #[.int .i64 (symOf x).k, .string (symOf x).t, .int .i64 (symOf x).n] = .agg #[.int .i64 x.1, .string ⟨x.2.1.toArray⟩, .int .i64 x.2.2] := rfl
set_option maxHeartbeats 1000000 in
theorem meant_any (t : ByteArray) (w : World) (ht : t.size ≤ 1000000) (h1 : firstCap t = true → AtoiAt w (t.extract 1 t.size)) (h2 : firstCap t = false → AtoiAt w t) :
    Calls Tryd.prog 54 #[.string t] w fun e w' => e = .returned (.agg #[.int .i64 (symOf (meantL t.data.toList)).k, .string (symOf (meantL t.data.toList)).t, .int .i64 (symOf (meantL t.data.toList)).n]) ∧ Below w.heap.size w w' := by
  obtain ⟨W1, hW1⟩ : ∃ W1, W1 = w.alloc (.cells #[.int .i64 0, .string ⟨#[]⟩, .int .i64 0] 65) := ⟨_, rfl⟩
  have hB : Below w.heap.size w W1 := by rw [hW1]; go_grown
  have hx : W1.heap[w.heap.size]? = some (.cells #[.int .i64 0, .string ⟨#[]⟩, .int .i64 0] 65 (0, 0)) := by rw [hW1]; exact new_at rfl
  have hk : ∀ w', Below W1.heap.size W1 w' → (w'.cell? ⟨w.heap.size, 0, none⟩ = some (.int .i64 0) ∧ w'.cell? ⟨w.heap.size, 1, none⟩ = some (.string ⟨#[]⟩) ∧ w'.cell? ⟨w.heap.size, 2, none⟩ = some (.int .i64 0)
      ∧ w'.frozen? ⟨w.heap.size, 0, none⟩ = false ∧ w'.frozen? ⟨w.heap.size, 1, none⟩ = false ∧ w'.frozen? ⟨w.heap.size, 2, none⟩ = false) ∧ Hid (w'.heap[w.heap.size]? = some (.cells #[.int .i64 0, .string ⟨#[]⟩, .int .i64 0] 65 (0, 0))) := by
    intro w' h
    have h2 := (h.block _ (heap_lt hx)).trans hx
    exact ⟨⟨by rw [cells_of h2]; rfl, by rw [cells_of h2]; rfl, by rw [cells_of h2]; rfl, frozen_of h2, frozen_of h2, frozen_of h2⟩, h2⟩
  have hK := Lib.hid hk
  have HB := Lib.hid hB
  have HW := Lib.hid hW1
  clear hk hB hx
  by_cases hz : t.size = 0
  · have hl := bytes_nil t hz
    have he : t.toList = [] := by rw [Lib.toList_data]; exact hl
    have he2 : t.toList.isEmpty = true := by rw [he]; rfl
    have HA := Lib.hid (h2 (by unfold firstCap; rw [hl]))
    have HR : Hid (symOf (meantL t.data.toList) = ⟨2, ⟨#[]⟩, atoiN t.data.toList⟩) := Lib.hid (by rw [hl]; rfl)
    clear hl h1 h2 hz hW1
    go_enter Tryd.func54, Tryd.ntmps54
    go_wp2_with (go_at_call 58; rw [← HW.out]; refine (HA.out _ HB.out).mono ?_; rintro e w2 ⟨er, rfl, hb2⟩; obtain ⟨⟨c0, c1, c2, f0, f1, f2⟩, H2⟩ := hK.out _ hb2; have HB2 := Lib.hid hb2; clear hb2)
    obtain ⟨s0, s1, s2⟩ := set3 (a := .int .i64 2) (b := .string ⟨#[]⟩) (c := .int .i64 (atoiN t.data.toList)) H2.out
    refine bodyPost_ret (by simp [results, Tryd.results54, go_sem, s0, s1, s2]; rfl) rfl ?_
    rw [HR.out]
    exact ⟨rfl, (((HB.out.trans (HB2.out.mono HB.out.size)).setCell (Nat.le_refl _) _).setCell (Nat.le_refl _) _).setCell (Nat.le_refl _) _⟩
  · have hpos : 0 < t.size := by omega
    have hl := bytes_cons t hpos
    have he : ¬ t.toList = [] := by rw [Lib.toList_data, hl]; simp
    have he2 : t.toList.isEmpty = false := by rw [Lib.toList_data, hl]; rfl
    cases hcap : capB t[0] with
    | true =>
      have HA := Lib.hid (h1 (by unfold firstCap; rw [hl]; exact hcap))
      obtain ⟨N, hN⟩ : ∃ N, N = atoiN (t.extract 1 t.size).data.toList := ⟨_, rfl⟩
      unfold AtoiAt at HA
      rw [← hN] at HA
      have HR : Hid (symOf (meantL t.data.toList) = ⟨1, t.extract 0 1, N⟩) := Lib.hid (by
        rw [hN, ext_one, ext_head t hpos, hl, meantL_cons, hcap]; rfl)
      clear hl h1 h2 hz hW1 hN
      go_enter Tryd.func54, Tryd.ntmps54
      go_wp2_with (first | (go_at_call 57; refine (cap_any _ _).mono ?_; rintro e w' ⟨rfl, rfl⟩; rw [hcap]) | (go_at_call 58; rw [← HW.out]; refine (HA.out _ HB.out).mono ?_; rintro e w2 ⟨er, rfl, hb2⟩; obtain ⟨⟨c0, c1, c2, f0, f1, f2⟩, H2⟩ := hK.out _ hb2; have HB2 := Lib.hid hb2; clear hb2))
      obtain ⟨s0, s1, s2⟩ := set3 (a := .int .i64 1) (b := .string (t.extract 0 1)) (c := .int .i64 N) H2.out
      refine bodyPost_ret (by simp [results, Tryd.results54, go_sem, s0, s1, s2]; rfl) rfl ?_
      rw [HR.out]
      exact ⟨rfl, (((HB.out.trans (HB2.out.mono HB.out.size)).setCell (Nat.le_refl _) _).setCell (Nat.le_refl _) _).setCell (Nat.le_refl _) _⟩
    | false =>
      have hcf : firstCap t = false := by unfold firstCap; rw [hl]; exact hcap
      cases hsm : smallB t[0] with
      | true =>
        have HR : Hid (symOf (meantL t.data.toList) = ⟨3, t, 0⟩) := Lib.hid (by
          rw [hl, meantL_cons, hcap, hsm]; unfold symOf; simp only [Bool.false_eq_true, if_false, if_true]; rw [← hl, str_self])
        clear hl h1 h2 hz hW1 hcf
        go_enter Tryd.func54, Tryd.ntmps54
        go_wp2_with (first | (go_at_call 57; refine (cap_any _ _).mono ?_; rintro e w' ⟨rfl, rfl⟩; rw [hcap]) | (go_at_call 51; refine (small_any _ _).mono ?_; rintro e w' ⟨rfl, rfl⟩; rw [hsm]))
        refine bodyPost_ret (by simp [results, Tryd.results54, go_sem]; rfl) rfl ?_
        rw [HR.out]
        exact ⟨rfl, by go_grown⟩
      | false =>
        have HA := Lib.hid (h2 hcf)
        have HR : Hid (symOf (meantL t.data.toList) = ⟨2, ⟨#[]⟩, atoiN t.data.toList⟩) := Lib.hid (by rw [hl, meantL_cons, hcap, hsm]; rfl)
        clear hl h1 h2 hz hW1 hcf
        go_enter Tryd.func54, Tryd.ntmps54
        go_wp2_with (first | (go_at_call 57; refine (cap_any _ _).mono ?_; rintro e w' ⟨rfl, rfl⟩; rw [hcap]) | (go_at_call 51; refine (small_any _ _).mono ?_; rintro e w' ⟨rfl, rfl⟩; rw [hsm]) | (go_at_call 58; rw [← HW.out]; refine (HA.out _ HB.out).mono ?_; rintro e w2 ⟨er, rfl, hb2⟩; obtain ⟨⟨c0, c1, c2, f0, f1, f2⟩, H2⟩ := hK.out _ hb2; have HB2 := Lib.hid hb2; clear hb2))
        obtain ⟨s0, s1, s2⟩ := set3 (a := .int .i64 2) (b := .string ⟨#[]⟩) (c := .int .i64 (atoiN t.data.toList)) H2.out
        refine bodyPost_ret (by simp [results, Tryd.results54, go_sem, s0, s1, s2]; rfl) rfl ?_
        rw [HR.out]
        exact ⟨rfl, (((HB.out.trans (HB2.out.mono HB.out.size)).setCell (Nat.le_refl _) _).setCell (Nat.le_refl _) _).setCell (Nat.le_refl _) _⟩
set_option maxHeartbeats 1000000 in
theorem parse_any (t : ByteArray) (w : World) (ht : t.size ≤ 1000000) (h1 : firstCap t = true → AtoiAt w (t.extract 1 t.size)) (h2 : firstCap t = false → AtoiAt w t)
    (h3 : validY (symOf (meantL t.data.toList)) = true → (symOf (meantL t.data.toList)).k ≠ 3 → ItoaAt w (symOf (meantL t.data.toList)).n) (hms : (symOf (meantL t.data.toList)).t.size ≤ 1000000) (z : Sy) (ok : Bool) (hz : (z, ok) = (symOf (parseL t.data.toList).1, (parseL t.data.toList).2)) :
    Calls Tryd.prog 47 #[.string t] w fun e w' => e = .returned (.tuple #[.agg #[.int .i64 z.k, .string z.t, .int .i64 z.n], .bool ok]) ∧ Below w.heap.size w w' := by
  obtain ⟨m, hm⟩ : ∃ m, m = symOf (meantL t.data.toList) := ⟨_, rfl⟩
  obtain ⟨W1, hW1⟩ : ∃ W1, W1 = w.alloc (.cells #[.int .i64 0, .string ⟨#[]⟩, .int .i64 0] 65) := ⟨_, rfl⟩
  have hB : Below w.heap.size w W1 := by rw [hW1]; go_grown
  have hx : W1.heap[w.heap.size]? = some (.cells #[.int .i64 0, .string ⟨#[]⟩, .int .i64 0] 65 (0, 0)) := by rw [hW1]; exact new_at rfl
  have hk : ∀ w', Below W1.heap.size W1 w' → (w'.cell? ⟨w.heap.size, 0, none⟩ = some (.int .i64 0) ∧ w'.cell? ⟨w.heap.size, 1, none⟩ = some (.string ⟨#[]⟩) ∧ w'.cell? ⟨w.heap.size, 2, none⟩ = some (.int .i64 0)
      ∧ w'.frozen? ⟨w.heap.size, 0, none⟩ = false ∧ w'.frozen? ⟨w.heap.size, 1, none⟩ = false ∧ w'.frozen? ⟨w.heap.size, 2, none⟩ = false) ∧ Hid (w'.heap[w.heap.size]? = some (.cells #[.int .i64 0, .string ⟨#[]⟩, .int .i64 0] 65 (0, 0))) := by
    intro w' h
    have h2 := (h.block _ (heap_lt hx)).trans hx
    exact ⟨⟨by rw [cells_of h2]; rfl, by rw [cells_of h2]; rfl, by rw [cells_of h2]; rfl, frozen_of h2, frozen_of h2, frozen_of h2⟩, h2⟩
  have hmean := fun w' (h : Below w.heap.size w w') => meant_any t w' ht (fun q => (h1 q).mono h) (fun q => (h2 q).mono h)
  rw [← hm] at hmean h3 hms
  have htext := fun w' (h : Below w.heap.size w w') => text_any m w' hms (fun q q2 => (h3 q q2).mono h)
  have hmt : m.t.data.toList = (meantL t.data.toList).2.1 := by rw [hm]; rfl
  have hpl : parseL t.data.toList = if (textY m).toList = t.toList then (meantL t.data.toList, true) else ((0, [], 0), false) := by
    unfold parseL
    rw [Lib.toList_data, Lib.toList_data]
    have : (textY m).data.toList = textL (meantL t.data.toList).1 (meantL t.data.toList).2.1 (meantL t.data.toList).2.2 := by
      unfold textY; rw [hmt, hm]; rfl
    rw [this]
  have hlt : w.heap.size < W1.heap.size := heap_lt hx
  have hK := Lib.hid hk
  have HB := Lib.hid hB
  have HW := Lib.hid hW1
  have Hmean := Lib.hid hmean
  have Htext := Lib.hid htext
  clear hk hB hx hmean htext h1 h2 h3 hms hmt hW1
  by_cases he : (textY m).toList = t.toList
  · rw [if_pos he] at hpl
    have hne : (!(textY m).toList == t.toList) = false := by simp [he]
    have HZ : Hid (z = m ∧ ok = true) := Lib.hid (by rw [hpl] at hz; cases hz; exact ⟨hm.symm, rfl⟩)
    clear hpl hz he hm
    go_enter Tryd.func47, Tryd.ntmps47
    go_wp2_with (first | (go_at_call 54; rw [← HW.out]; refine (Hmean.out _ HB.out).mono ?_; rintro e w2 ⟨rfl, hb2⟩; have HB2 := Lib.hid hb2; clear hb2) | (go_at_call 55; refine (Htext.out _ ((HB.out.trans (HB2.out.mono HB.out.size)).alloc (Nat.le_trans HB.out.size HB2.out.size) _)).mono ?_; rintro e w3 ⟨rfl, hb3⟩; have HB3 : Hid (Below W1.heap.size W1 w3) := Lib.hid ((HB2.out.alloc HB2.out.size _).trans (hb3.mono (HB2.out.alloc HB2.out.size _).size)); obtain ⟨⟨c0, c1, c2, f0, f1, f2⟩, H2⟩ := hK.out _ HB3.out; have hbox := (hb3.block w2.heap.size (by simp)).trans (new_at rfl); have x0 := cells_of hbox 0; have x1 := cells_of hbox 1; have x2 := cells_of hbox 2; simp at x0 x1 x2; clear hb3 hbox))
    obtain ⟨s0, s1, s2⟩ := set3 (a := .int .i64 m.k) (b := .string m.t) (c := .int .i64 m.n) H2.out
    refine bodyPost_ret (by simp [results, Tryd.results47, go_sem, s0, s1, s2]; rfl) rfl ?_
    obtain ⟨rfl, rfl⟩ := HZ.out
    exact ⟨rfl, (((HB.out.trans (HB3.out.mono HB.out.size)).setCell (Nat.le_refl _) _).setCell (Nat.le_refl _) _).setCell (Nat.le_refl _) _⟩
  · rw [if_neg he] at hpl
    have hne : (!(textY m).toList == t.toList) = true := by simp [he]
    have HZ : Hid (z = ⟨0, ⟨#[]⟩, 0⟩ ∧ ok = false) := Lib.hid (by rw [hpl] at hz; cases hz; exact ⟨rfl, rfl⟩)
    clear hpl hz he hm
    go_enter Tryd.func47, Tryd.ntmps47
    go_wp2_with (first | (go_at_call 54; rw [← HW.out]; refine (Hmean.out _ HB.out).mono ?_; rintro e w2 ⟨rfl, hb2⟩; have HB2 := Lib.hid hb2; clear hb2) | (go_at_call 55; refine (Htext.out _ ((HB.out.trans (HB2.out.mono HB.out.size)).alloc (Nat.le_trans HB.out.size HB2.out.size) _)).mono ?_; rintro e w3 ⟨rfl, hb3⟩; have HB3 : Hid (Below W1.heap.size W1 w3) := Lib.hid ((HB2.out.alloc HB2.out.size _).trans (hb3.mono (HB2.out.alloc HB2.out.size _).size)); obtain ⟨⟨c0, c1, c2, f0, f1, f2⟩, H2⟩ := hK.out _ HB3.out; have hbox := (hb3.block w2.heap.size (by simp)).trans (new_at rfl); have x0 := cells_of hbox 0; have x1 := cells_of hbox 1; have x2 := cells_of hbox 2; simp at x0 x1 x2; clear hb3 hbox))
    obtain ⟨s0, s1, s2⟩ := set3 (a := .int .i64 0) (b := .string ⟨#[]⟩) (c := .int .i64 0) H2.out
    refine bodyPost_ret (by simp [results, Tryd.results47, go_sem, s0, s1, s2]; rfl) rfl ?_
    obtain ⟨rfl, rfl⟩ := HZ.out
    exact ⟨rfl, (((HB.out.trans (HB3.out.mono HB.out.size)).setCell (Nat.le_refl _) _).setCell (Nat.le_refl _) _).setCell (Nat.le_refl _) _⟩
end Go.Proofs.YtocdclcemebaeaaDoor
