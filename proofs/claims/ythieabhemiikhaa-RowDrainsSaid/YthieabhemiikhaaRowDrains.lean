/-
  The walk of RowDrains.
-/
import Derived.Test.YthieabhemiikhaaRowSt
import Derived.Test.YthieabhemiikhaaRowAllLaw
namespace Go.Proofs.Ythieabhemiikhaa
set_option linter.unusedVariables false
open Go.RowKit Go.Shelf
attribute [local go_sem] Oper.semAt_some
theorem set_one' {w : World} {b : Nat} {v u : Value} {t : TypeId} {f : Nat × Nat} (h : w.heap[b]? = some (.cells #[v] t f)) : (w.setCell ⟨b, 0, none⟩ u).heap[b]? = some (.cells #[u] t f) := by
  simp [World.setCell, Array.getElem?_modify, h]
/-- A block that stays is written after all. -/
theorem Q1.set {w : World} {q room : Nat} {fx : List (Nat × Obj)} {ys : List Int} {W : World} {b : Nat} {u u' : Value} {t : TypeId} (h : Q1 w q room ((b, .cells #[u] t (0, 0)) :: fx) ys W) (hb : w.heap.size ≤ b) (hne : ∀ p ∈ fx, p.1 ≠ b) : Q1 w q room ((b, .cells #[u'] t (0, 0)) :: fx) ys (W.setCell ⟨b, 0, none⟩ u') := by
  obtain ⟨vq, h1, h2, h3, h4⟩ := h
  obtain ⟨f1, f2, f3, f4⟩ := h4 _ (List.mem_cons_self ..)
  refine ⟨vq, h1.setCell (p := ⟨b, 0, none⟩) hb _, h2.but (Touch.set W b 0 u') (fun e => f3 e.symm) (fun g hg e => f4 (by rw [hg, e])), h3, fun p hp => ?_⟩
  rcases List.mem_cons.1 hp with rfl | hp
  · exact ⟨set_one' f1, rfl, f3, f4⟩
  · obtain ⟨g1, g2, g3, g4⟩ := h4 p (List.mem_cons_of_mem _ hp)
    exact ⟨(Below.heap_setCell W _ _ _ (hne p hp)).trans g1, g2, g3, g4⟩
theorem Q1.less {w : World} {q room : Nat} {fx fx' : List (Nat × Obj)} {ys : List Int} {W : World} (h : Q1 w q room fx ys W) (hs : ∀ p ∈ fx', p ∈ fx) : Q1 w q room fx' ys W := by
  obtain ⟨vq, h1, h2, h3, h4⟩ := h
  exact ⟨vq, h1, h2, h3, fun p hp => h4 p (hs p hp)⟩
/-- The numbers that are pushed. -/
def PP (i : Nat) : List Int := (List.range i).map fun (j : Nat) => (1000 : Int) + (j : Int)
theorem PP_succ (i : Nat) : PP (i + 1) = PP i ++ [1000 + (i : Int)] := by simp [PP, List.range_succ]
theorem PP_length (i : Nat) : (PP i).length = i := by simp [PP]
set_option maxRecDepth 100000 in
set_option maxHeartbeats 4000000 in
theorem drains_long (w : World) (a0 : Option Addr) (len0 cap0 : Nat) (z0 : List Int) (h0 : ArgI w a0 len0 cap0 z0) (n1 n2 : Int) (h : 100 < len0) :
    Calls Try.prog 5 #[.slice a0 len0 cap0, .int .i64 n1, .int .i64 n2] w fun e w' => e = .returned (.bool true) ∧ Below w.heap.size w w' := by
  obtain ⟨-, -, m0, -⟩ := h0.elim
  unfold maxLen at m0
  obtain ⟨W2, hW2⟩ : ∃ W2, W2 = (w.alloc (.cells #[.int .i64 n2] 3)).alloc (.cells #[.bool false] 4) := ⟨_, rfl⟩
  have bb : Below w.heap.size w W2 := by rw [hW2]; exact ((Below.refl w.heap.size w).alloc (Nat.le_refl _) _).alloc (by simp) _
  have b4 : Hid (W2.heap[w.heap.size + 1]? = some (.cells #[.bool false] 4 (0, 0))) := Lib.hid (by rw [hW2]; exact new_at (by simp))
  have HW2 := Lib.hid hW2
  have hd1 : decide (100 < (len0 : Int)) = true := decide_eq_true (by omega)
  clear hW2 h0
  refine callsIn_wide.1 (callsIn_of_wp_marks (n := 3) Try.func5 rfl trivial (wpIn_wide.2 ?_) rfl)
  simp only [Try.ntmps5, List.size_toArray, List.length_cons, List.length_nil, Nat.reduceAdd, Nat.reduceSub, Array.replicate_succ, Array.replicate_zero, List.push_toArray, List.append_toArray, List.nil_append, List.cons_append]
  go_wp2_with fail
  rw [← HW2.out]
  refine (wakes_any W2).mono ?_
  rintro e wd ⟨rfl, bc⟩
  have hb4 := (bc.block _ (heap_lt b4.out)).trans b4.out
  have ba := bb.trans (bc.mono bb.size)
  have c4 : wd.cell? ⟨w.heap.size + 1, 0, none⟩ = some (.bool false) := by rw [cells_of hb4]; rfl
  have f4 : wd.frozen? ⟨w.heap.size + 1, 0, none⟩ = false := frozen_of hb4
  have Hb4 := Lib.hid hb4
  clear hb4 bc
  go_wp2_with fail
  refine ⟨_, results_boolcell rfl _ _ (w.heap.size + 1) true rfl (by rw [cells_of (set_bool Hb4.out)]; rfl), rfl, belowset ba (by omega) _⟩
set_option maxRecDepth 100000 in
set_option maxHeartbeats 16000000 in
theorem drains_main (w : World) (b off : Nat) (cap0 : Nat) (z0 : List Int) (r0 : Reads w (.slice (some ⟨b, off, none⟩) z0.length cap0) (z0.map VI)) (hlen : z0.length ≤ 100) (n1 n2 : Int) (r1 : InR n1) (r2 : InR n2) (m : Nat) (hm : n1 % ((z0.length + 1 : Nat) : Int) = m) (hm3 : m ≤ z0.length) (hmc : m < cap0) :
    Calls Try.prog 5 #[.slice (some ⟨b, off, none⟩) z0.length cap0, .int .i64 n1, .int .i64 n2] w fun e w' => e = .returned (.bool true) ∧ Below w.heap.size w w' := by
  have hd : decide (100 < (z0.length : Int)) = false := decide_eq_false (by omega)
  have hcap : z0.length ≤ cap0 ∧ cap0 ≤ 9223372036854775807 := by
    obtain ⟨a', c', he, h1, h2, -⟩ := id r0
    obtain ⟨-, -, rfl⟩ := Value.slice.inj he
    unfold maxLen at h2
    exact ⟨by simpa using h1, h2⟩
  obtain ⟨hcap1, hcap2⟩ := hcap
  have hci : (z0.length : Int) ≤ (cap0 : Int) := by omega
  have HR0 := Lib.hid r0
  obtain ⟨W2, hW2⟩ : ∃ W2, W2 = (w.alloc (.cells #[.int .i64 n2] 3)).alloc (.cells #[.bool false] 4) := ⟨_, rfl⟩
  have bb : Below w.heap.size w W2 := by rw [hW2]; exact ((Below.refl w.heap.size w).alloc (Nat.le_refl _) _).alloc (by simp) _
  have b5 : Hid (W2.heap[w.heap.size]? = some (.cells #[.int .i64 n2] 3 (0, 0))) := Lib.hid (by rw [hW2]; exact (Below.heap_alloc _ _ _ (by simp)).trans (new_at rfl))
  have b6 : Hid (W2.heap[w.heap.size + 1]? = some (.cells #[.bool false] 4 (0, 0))) := Lib.hid (by rw [hW2]; exact new_at (by simp))
  have s2 : Hid (W2.heap.size = w.heap.size + 2) := Lib.hid (by rw [hW2]; simp)
  have hmade := made_any W2 _ _ (r0.mono bb) VI_one (by simp; omega)
  have HM := Lib.hid hmade
  have HW2 := Lib.hid hW2
  have hwi := fun W => within_all W n1 (z0.length + 1) r1.1 r1.2 (by omega) (by omega)
  rw [hm] at hwi
  have hwi : ∀ W, Calls Try.prog 11 #[.int .i64 n1, .int .i64 ((z0.length : Int) + 1)] W fun e w' => e = .returned (.int .i64 m) ∧ W = w' := fun W => by
    have := hwi W; simpa using this
  have HWI := Lib.hid hwi
  rename_i hwi0
  obtain ⟨more, hmo⟩ : ∃ more : Nat, n2 % ((20 : Nat) : Int) = more := ⟨(n2 % 20).toNat, by have := Int.emod_nonneg n2 (show (20 : Int) ≠ 0 by omega); omega⟩
  have hmo3 : more < 20 := by have := Int.emod_lt_of_pos n2 (show (0 : Int) < 20 by omega); omega
  have hw2 := fun W => within_all W n2 20 r2.1 r2.2 (by omega) (by omega)
  rw [hmo] at hw2
  have HWI2 := Lib.hid hw2
  obtain ⟨left, hleft⟩ : ∃ left, left = z0.drop m := ⟨_, rfl⟩
  have hLl : left.length = z0.length - m := by rw [hleft, List.length_drop]
  clear hwi hwi0 hw2 hmade hW2 r0 hm hmo
  refine callsIn_wide.1 (callsIn_of_wp_marks (n := 3) Try.func5 rfl trivial (wpIn_wide.2 ?_) rfl)
  simp only [Try.ntmps5, List.size_toArray, List.length_cons, List.length_nil, Nat.reduceAdd, Nat.reduceSub, Array.replicate_succ, Array.replicate_zero, List.push_toArray, List.append_toArray, List.nil_append, List.cons_append]
  have HLl := Lib.hid hLl
  have HLe := Lib.hid hleft
  clear hLl hleft
  go_wp2_with fail
  rw [← HW2.out]
  refine HM.out.mono ?_
  rintro e w1 ⟨q, vq, rfl, hq, hQ, hB1, hv⟩
  obtain ⟨W3, hW3⟩ : ∃ W3, W3 = w1.alloc (.cells #[.pointer (some ⟨q, 0, none⟩)] 23) := ⟨_, rfl⟩
  obtain ⟨B7, hB7⟩ : ∃ B7, B7 = w1.heap.size := ⟨_, rfl⟩
  have ba : Below w1.heap.size w1 W3 := by rw [hW3]; exact (Below.refl _ _).alloc (Nat.le_refl _) _
  have hbb1 := bb.trans (hB1.mono bb.size)
  have hb13 : Below W2.heap.size W2 W3 := hB1.trans (ba.mono hB1.size)
  have hs2 := s2.out
  have hqw : w.heap.size ≤ q := by omega
  have hz13 := hB1.size
  have hQ1 : Q1 w q 1000 [(w.heap.size, .cells #[.int .i64 n2] 3 (0, 0)), (w.heap.size + 1, .cells #[.bool false] 4 (0, 0)), (B7, .cells #[.pointer (some ⟨q, 0, none⟩)] 23 (0, 0))] z0 W3 := by
    refine ⟨vq, hbb1.trans (ba.mono hbb1.size), hQ.mono ba, fun g hg => by have := hv g hg; omega, fun p hp => ?_⟩
    simp only [List.mem_cons, List.not_mem_nil, or_false] at hp
    rcases hp with rfl | rfl | rfl
    · exact ⟨(hb13.block _ (heap_lt b5.out)).trans b5.out, rfl, by simp only; omega, fun e => by have := hv _ e; simp only at this; omega⟩
    · exact ⟨(hb13.block _ (heap_lt b6.out)).trans b6.out, rfl, by simp only; omega, fun e => by have := hv _ e; simp only at this; omega⟩
    · exact ⟨by rw [hW3]; exact new_at hB7, rfl, by have := hQ.lt; simp only; omega, fun e => by have := hQ.2.lt e; simp only at this; omega⟩
  have h7w : w.heap.size + 2 ≤ B7 := by omega
  have c7 : W3.cell? ⟨B7, 0, none⟩ = some (.pointer (some ⟨q, 0, none⟩)) := by rw [cells_of (hQ1.fixed (b := B7) (o := .cells #[.pointer (some ⟨q, 0, none⟩)] 23 (0, 0)) (by simp))]; rfl
  have HQ1 := Lib.hid hQ1
  have HW3 := Lib.hid hW3
  have HB7 := Lib.hid hB7
  clear hB1 hv ba hQ hbb1 hb13 hs2 hz13 hQ1 hW3 hB7 HM hq
  go_wp2_with fail
  rw [← HW3.out, ← HB7.out]
  refine (HWI.out W3).mono ?_
  rintro e w' ⟨rfl, rfl⟩
  have hmi : (m : Int) ≤ (z0.length : Int) := by omega
  have hmi2 : (m : Int) < (cap0 : Int) := by omega
  have hmi3 : (m : Int) ≤ (cap0 : Int) := by omega
  have hmne : ¬ cap0 = m := by omega
  have hw3 : w.heap.size ≤ W3.heap.size := HQ1.out.below.size
  obtain ⟨WA, hWA⟩ : ∃ WA, WA = W3.drew.alloc (.cells #[.pointer (some ⟨q, 0, none⟩)] 23) := ⟨_, rfl⟩
  have hbA : Below W3.heap.size W3 WA := by rw [hWA]; exact ((Below.refl W3.heap.size W3).drew).alloc (Nat.le_refl _) _
  have hqA := Q1.more HQ1.out (b := W3.heap.size) (o := .cells #[.pointer (some ⟨q, 0, none⟩)] 23 (0, 0)) (by rw [hWA]; exact new_at (w := W3.drew) (n := W3.heap.size) rfl) rfl hbA (Nat.le_refl _)
  have hfd := first_drain w WA q 1000 W3.heap.size _ z0 hlen hqw hqA (by simp) m (by omega)
  have HFD := Lib.hid hfd
  have HWA := Lib.hid hWA
  have HQA := Lib.hid hqA
  have hK : ∀ ys W', Q1 w q 1000 ((W3.heap.size, .cells #[.pointer (some ⟨q, 0, none⟩)] 23 (0, 0)) :: [(w.heap.size, .cells #[.int .i64 n2] 3 (0, 0)), (w.heap.size + 1, .cells #[.bool false] 4 (0, 0)), (B7, .cells #[.pointer (some ⟨q, 0, none⟩)] 23 (0, 0))]) ys W' → W'.cell? ⟨B7, 0, none⟩ = some (.pointer (some ⟨q, 0, none⟩)) := fun ys W' h => by rw [cells_of (h.fixed (b := B7) (o := .cells #[.pointer (some ⟨q, 0, none⟩)] 23 (0, 0)) (by simp))]; rfl
  have HK := Lib.hid hK
  have hre1 : ∀ W', Below w.heap.size w W' → Reads W' (.slice (some ⟨b, off, none⟩) m cap0) ((z0.take m).map VI) := fun W' hb => by
    obtain ⟨a', c', he, h1, h2, h3⟩ := HR0.out.mono hb
    obtain ⟨rfl, -, rfl⟩ := Value.slice.inj he
    refine ⟨_, cap0, by rw [List.length_map, List.length_take]; congr 1; omega, by rw [List.length_map, List.length_take]; omega, h2, ?_⟩
    rcases h3 with h3 | ⟨b, off, h4, h5, h6⟩
    · exact .inl h3
    · refine .inr ⟨b, off, h4, h5, fun j hj => ?_⟩
      simp only [List.length_map, List.length_take] at hj
      rw [h6 j (by simp; omega)]
      simp
  have hre2 : ∀ W', Below w.heap.size w W' → Reads W' (.slice (some ⟨b, off + m, none⟩) (z0.length - m) (cap0 - m)) (left.map VI) := fun W' hb => by
    obtain ⟨a', c', he, h1, h2, h3⟩ := HR0.out.mono hb
    obtain ⟨rfl, -, rfl⟩ := Value.slice.inj he
    refine ⟨_, cap0 - m, by rw [List.length_map, HLl.out], by rw [List.length_map, HLl.out]; omega, by omega, ?_⟩
    rcases h3 with h3 | ⟨b', off', h4, h5, h6⟩
    · omega
    · cases h4
      refine .inr ⟨b, off + m, rfl, h5, fun j hj => ?_⟩
      simp only [List.length_map, HLl.out] at hj
      have := h6 (m + j) (by simp; omega)
      rw [Nat.add_assoc, this]
      simp only [List.getElem_map, HLe.out, List.getElem_drop]
  have HRE1 := Lib.hid hre1
  have HRE2 := Lib.hid hre2
  have j1 : Hid (0 = 0) := Lib.hid rfl
  clear hre1 hre2 hK hqA hWA hfd hbA HWI
  go_wp2_with fail
  have hS0 : Hid (W3.drew.cell? ⟨B7, 0, none⟩ = some (.pointer (some ⟨q, 0, none⟩))) := Lib.hid c7
  go_region_held3 (fun w' => w'.cell? ⟨B7, 0, none⟩ = some (.pointer (some ⟨q, 0, none⟩)))
    (first | exact hS6.out | exact hS5.out | exact hS4.out | exact hS3.out | exact hS2.out | exact hS1.out | exact hS0.out | go_keep)
    (first
      | (go_at_call 21; refine (drain_any _ q).mono ?_; rintro e wa ⟨rfl, hwa⟩; rw [show W3.drew.alloc (.cells #[.pointer (some ⟨q, 0, none⟩)] 23) = WA from HWA.out.symm] at hwa; obtain rfl : WA = wa := hwa.symm; have hS1 := Lib.hid (HK.out _ _ HQA.out))
      | (go_at_call 20; refine HFD.out.mono ?_; unfold FirstOut; rintro e wb ⟨vf, rfl, hqb, hvf, -⟩; have HQB := Lib.hid hqb; have HVF := Lib.hid hvf; have hS2 := Lib.hid (HK.out _ _ hqb); clear hqb hvf)
      | (have _t := j1; go_at_call 16; refine (ints_any wb vf _ (z0.take m) (z0.take m) HVF.out.reads (HRE1.out _ HQB.out.below) true (by simp)).mono ?_; rintro e wc ⟨rfl, hbc⟩; have HQC := Lib.hid (HQB.out.alloc hbc); have hS3 := Lib.hid (HK.out _ _ HQC.out); clear hbc j1)
      | (go_at_call 18; refine (all_any wc q).mono ?_; rintro e wd ⟨rfl, hwd⟩; have HQD := Lib.hid (HQC.out.alloc (show Below wc.heap.size wc wd by rw [hwd]; exact (Below.refl _ _).alloc (Nat.le_refl _) _)); have hS4 := Lib.hid (HK.out _ _ HQD.out); have HBD : Hid (wd.heap[wc.heap.size]? = some (.cells #[.pointer (some ⟨q, 0, none⟩)] 23 (0, 0))) := Lib.hid (by rw [hwd]; exact new_at rfl); clear hwd)
      | (go_at_call 17; refine (Q1.list HQD.out HBD.out (by rw [← HLe.out, HLl.out]; omega)).mono ?_; rintro e we ⟨vl, rfl, hfl, hbl⟩; have HQE := Lib.hid (HQD.out.alloc hbl); have HFL := Lib.hid hfl; have hS5 := Lib.hid (HK.out _ _ HQE.out); clear hfl hbl)
      | (go_at_call 16; refine (ints_any we vl _ left left (by rw [HLe.out]; exact HFL.out.reads) (HRE2.out _ HQE.out.below) true (by simp)).mono ?_; rintro e wf ⟨rfl, hbf⟩; have HQF := Lib.hid (HQE.out.alloc hbf); have hS6 := Lib.hid (HK.out _ _ HQF.out); clear hbf))
  have hqf : Q1 w q 1000 [(w.heap.size, .cells #[.int .i64 n2] 3 (0, 0)), (w.heap.size + 1, .cells #[.bool false] 4 (0, 0)), (B7, .cells #[.pointer (some ⟨q, 0, none⟩)] 23 (0, 0))] left wf := by
    have h1 := HQF.out.less (fx' := [(w.heap.size, .cells #[.int .i64 n2] 3 (0, 0)), (w.heap.size + 1, .cells #[.bool false] 4 (0, 0)), (B7, .cells #[.pointer (some ⟨q, 0, none⟩)] 23 (0, 0))]) (fun p hp => List.mem_cons_of_mem _ hp)
    rw [HLe.out]; exact h1
  have hx5 := hqf.fixed (b := w.heap.size) (o := .cells #[.int .i64 n2] 3 (0, 0)) (by simp)
  have c5 : wf.cell? ⟨w.heap.size, 0, none⟩ = some (.int .i64 n2) := by rw [cells_of hx5]; rfl
  have f5 : wf.frozen? ⟨w.heap.size, 0, none⟩ = false := frozen_of hx5
  have c7 := HK.out _ _ HQF.out
  have hB7n : B7 ≠ w.heap.size := by omega
  have hB7l : B7 < wf.heap.size := World.block_lt_of_cell? wf _ c7
  obtain ⟨W8, hW8⟩ : ∃ W8, W8 = wf.setCell ⟨w.heap.size, 0, none⟩ (.int .i64 more) := ⟨_, rfl⟩
  have hq8 : Q1 w q 1000 [(w.heap.size, .cells #[.int .i64 more] 3 (0, 0)), (w.heap.size + 1, .cells #[.bool false] 4 (0, 0)), (B7, .cells #[.pointer (some ⟨q, 0, none⟩)] 23 (0, 0))] left W8 := by
    rw [hW8]
    refine hqf.set (Nat.le_refl _) (fun p hp => ?_)
    simp only [List.mem_cons, List.not_mem_nil, or_false] at hp
    rcases hp with rfl | rfl
    · simp
    · exact hB7n
  obtain ⟨W9, hW9⟩ : ∃ W9, W9 = (wf.setCell ⟨w.heap.size, 0, none⟩ (.int .i64 more)).alloc (.cells #[.slice none 0 0] 28) := ⟨_, rfl⟩
  obtain ⟨B9, hB9⟩ : ∃ B9, B9 = wf.heap.size := ⟨_, rfl⟩
  have hz8 : W8.heap.size = B9 := by rw [hW8, hB9]; simp [World.setCell]
  have hb89 : Below W8.heap.size W8 W9 := by rw [hW9, ← hW8]; exact (Below.refl _ _).alloc (Nat.le_refl _) _
  have hbx : Boxed W9 B9 28 (.slice none 0 0) := by rw [hW9, ← hW8]; exact new_at hz8.symm
  have hz9 : W9.heap.size = B9 + 1 := by rw [hW9, ← hW8]; simp [hz8]
  obtain ⟨W10, hW10⟩ : ∃ W10, W10 = W9.alloc (.cells #[.pointer (some ⟨q, 0, none⟩)] 23) := ⟨_, rfl⟩
  obtain ⟨B10, hB10⟩ : ∃ B10, B10 = W9.heap.size := ⟨_, rfl⟩
  have hb910 : Below W9.heap.size W9 W10 := by rw [hW10]; exact (Below.refl _ _).alloc (Nat.le_refl _) _
  have hq10 := Q1.more (hq8.alloc hb89) (b := B10) (o := .cells #[.pointer (some ⟨q, 0, none⟩)] 23 (0, 0)) (by rw [hW10]; exact new_at hB10) rfl hb910 (by omega)
  have hB9w : w.heap.size + 2 < B9 := by omega
  have hst : St w q B9 1000 [(B10, .cells #[.pointer (some ⟨q, 0, none⟩)] 23 (0, 0)), (w.heap.size, .cells #[.int .i64 more] 3 (0, 0)), (w.heap.size + 1, .cells #[.bool false] 4 (0, 0)), (B7, .cells #[.pointer (some ⟨q, 0, none⟩)] 23 (0, 0))] left (.slice none 0 0) [] W10 := by
    refine St.new hq10 ((hb910.block _ hbx.lt).trans hbx) (fun p hp => ?_)
    simp only [List.mem_cons, List.not_mem_nil, or_false] at hp
    rcases hp with rfl | rfl | rfl | rfl
    · simp only; omega
    · simp only; omega
    · simp only; omega
    · simp only; omega
  have hz10 : W10.heap.size = B9 + 2 := by rw [hW10]; simp [hz9]
  have HST := Lib.hid hst
  have HW9 := Lib.hid hW9
  have HB9 := Lib.hid hB9
  have HW10 := Lib.hid hW10
  have HB10 := Lib.hid hB10
  have HZ10 := Lib.hid hz10
  rename_i hHeld
  clear hqf hx5 hW8 hq8 hW9 hB9 hz8 hb89 hbx hz9 hW10 hB10 hb910 hq10 hst hz10 hHeld hS0 hS1 hS2 hS3 hS4 hS5 hS6 HQA HQB HQC HQD HQE HFL HVF HBD HFD HRE1 HQ1
  obtain ⟨i0, hi, hz0, hz1, hz2⟩ := infoI'
  go_wp2_with fail
  refine (HWI2.out wf).mono ?_
  rintro e w' ⟨rfl, rfl⟩
  go_wp2_with fail
  rw [← HW9.out]
  refine (drain_any W9 q).mono ?_
  rintro e w' ⟨rfl, rfl⟩
  rw [← HW10.out, ← HB10.out]
  go_wp2_with fail
  rw [← HB9.out]
  obtain ⟨FX, hFX⟩ : ∃ FX, FX = [(B10, Obj.cells #[.pointer (some ⟨q, 0, none⟩)] 23 (0, 0)), (w.heap.size, .cells #[.int .i64 more] 3 (0, 0)), (w.heap.size + 1, .cells #[.bool false] 4 (0, 0)), (B7, .cells #[.pointer (some ⟨q, 0, none⟩)] 23 (0, 0))] := ⟨_, rfl⟩
  have i10 : Hid ((B10, Obj.cells #[.pointer (some ⟨q, 0, none⟩)] 23 (0, 0)) ∈ FX) := Lib.hid (by rw [hFX]; simp)
  have i5 : Hid ((w.heap.size, Obj.cells #[.int .i64 more] 3 (0, 0)) ∈ FX) := Lib.hid (by rw [hFX]; simp)
  have i6 : Hid ((w.heap.size + 1, Obj.cells #[.bool false] 4 (0, 0)) ∈ FX) := Lib.hid (by rw [hFX]; simp)
  have i7 : Hid ((B7, Obj.cells #[.pointer (some ⟨q, 0, none⟩)] 23 (0, 0)) ∈ FX) := Lib.hid (by rw [hFX]; simp)
  rw [← hFX] at HST
  have hwN : w.heap.size ≤ W10.heap.size := HST.out.below.size
  have HWN := Lib.hid hwN
  have hseq := drain_free 2 q B10 1000 (fun k W => ∃ ys vg gs, (gs ++ ys = left ++ PP (min gs.length more) ∧ gs.length + k = left.length + more ∧ (left.length = 0 → ys = [] ∧ gs = [])) ∧ St w q B9 1000 FX ys vg gs W) (fun W => Below W10.heap.size W10 W)
    (fun k x W => ∃ ys vg gs, (gs ++ x :: ys = left ++ PP (min gs.length more) ∧ gs.length + (k + 1) = left.length + more ∧ left.length ≠ 0) ∧ St w q B9 1000 FX ys vg gs W)
    (fun k _ W => ∃ ys vg gs, (gs ++ ys = left ++ PP (min gs.length more) ∧ gs.length + k = left.length + more ∧ (left.length = 0 → ys = [] ∧ gs = [])) ∧ St w q B9 1000 FX ys vg gs W)
    (fun W => ∃ ys vg gs, (ys = [] ∧ (left.length = 0 → gs = []) ∧ (left.length ≠ 0 → gs = left ++ PP more)) ∧ St w q B9 1000 FX ys vg gs W)
    (fun c W => ∃ ys vg gs, (False ∧ c = .ret) ∧ St w q B9 1000 FX ys vg gs W)
    (fun W hb => ⟨left.length + more, left, _, [], ⟨by simp [PP], by simp, fun h => ⟨List.eq_nil_of_length_eq_zero h, rfl⟩⟩, HST.out.alloc hb⟩) (fun k x W h => h)
    (fun k W ⟨ys, vg, gs, ⟨e1, e2, e3⟩, hs⟩ => by
      obtain ⟨vq, s1, s2, -⟩ := id hs
      refine ⟨vq, ys, s2, hs.fixed i10.out, ?_⟩
      have hl := congrArg List.length e1
      simp only [List.length_append, PP_length] at hl
      cases ys with
      | nil =>
        refine .inl ⟨rfl, fun W' hb => ⟨[], vg, gs, ⟨rfl, fun h => (e3 h).2, fun h => ?_⟩, hs.alloc hb⟩⟩
        simp only [List.length_nil, Nat.add_zero] at hl
        have hmn : min gs.length more = more := by omega
        rw [hmn] at e1
        simpa using e1
      | cons x ys =>
        simp only [List.length_cons] at hl
        have hL : left.length ≠ 0 := fun h => by have := (e3 h).1; cases this
        exact .inr ⟨x, ys, k - 1, rfl, by omega, fun W' v' p1 p2 p3 => ⟨ys, vg, gs, ⟨e1, by omega, hL⟩, hs.turned hqw s2 p1 p2 p3⟩⟩)
  have HSQ := Lib.hid hseq
  have HFX := Lib.hid hFX
  clear hseq hFX hwN
  refine (wpIn_wide (n := 3)).1 ?_
  refine wpIn_rangeFunc_free rfl rfl (gf := 32) (lb := #[.pointer (some ⟨B10, 0, none⟩)]) rfl trivial (enters_of Try.func32 (by kernel_rfl) rfl) HSQ.out (fun _ => rfl)
    (fun W1 hb => hb)
    (St.own w q B9 1000 FX (fun (s : Nat × Int) ys vg gs => gs ++ s.2 :: ys = left ++ PP (min gs.length more) ∧ gs.length + (s.1 + 1) = left.length + more ∧ left.length ≠ 0) HWN.out)
    (St.own w q B9 1000 FX (fun (s : Nat × Int) ys vg gs => gs ++ ys = left ++ PP (min gs.length more) ∧ gs.length + s.1 = left.length + more ∧ (left.length = 0 → ys = [] ∧ gs = [])) HWN.out)
    (St.own w q B9 1000 FX (fun (s : Unit) ys vg gs => ys = [] ∧ (left.length = 0 → gs = []) ∧ (left.length ≠ 0 → gs = left ++ PP more)) HWN.out)
    (fun b => St.own w q B9 1000 FX (fun (c : Code) ys vg gs => False ∧ c = .ret) HWN.out)
    (St.own w q B9 1000 FX (fun (c : Code) ys vg gs => False ∧ c = .ret) HWN.out)
    (fun x => { tmps := #[(.slice (some ⟨b, off, none⟩) z0.length cap0), .int .i64 m, .int .i64 n2, undef, undef, .pointer (some ⟨w.heap.size, 0, none⟩), .pointer (some ⟨w.heap.size + 1, 0, none⟩), .pointer (some ⟨B7, 0, none⟩), (.slice (some ⟨b, off + m, none⟩) (z0.length - m) (cap0 - m)), .pointer (some ⟨B9, 0, none⟩), .int .i64 x, undef, undef, (.slice (some ⟨b, off, none⟩) z0.length cap0), .int .i64 z0.length, .bool false, undef, (.slice (some ⟨b, off, none⟩) z0.length cap0), .pointer (some ⟨q, 0, none⟩), .pointer (some ⟨q, 0, none⟩), .bool false, .int .i64 n1, (.slice (some ⟨b, off, none⟩) z0.length cap0), .int .i64 z0.length, .int .i64 ((z0.length : Int) + 1), .int .i64 m, .pointer (some ⟨q, 0, none⟩), .func (.func 32) #[] #[.pointer (some ⟨W3.heap.size, 0, none⟩)], .int .i64 m, vf, (.slice (some ⟨b, off, none⟩) z0.length cap0), .int .i64 m, (.slice (some ⟨b, off, none⟩) m cap0), .bool true, .bool false, .bool false, .pointer (some ⟨q, 0, none⟩), .func (.func 30) #[] #[.pointer (some ⟨wc.heap.size, 0, none⟩)], vl, (.slice (some ⟨b, off, none⟩) z0.length cap0), .int .i64 m, (.slice (some ⟨b, off + m, none⟩) (z0.length - m) (cap0 - m)), .bool true, .bool false, .bool false, (.slice (some ⟨b, off, none⟩) z0.length cap0), .int .i64 m, (.slice (some ⟨b, off + m, none⟩) (z0.length - m) (cap0 - m)), .int .i64 n2, .int .i64 more, .pointer (some ⟨q, 0, none⟩), .func (.func 32) #[] #[.pointer (some ⟨B10, 0, none⟩)], .int .i64 x, undef, undef, undef, undef, undef, undef, undef, undef, undef, undef, undef, undef, undef, undef, undef, undef, undef, undef, undef, undef, undef, undef, undef, undef, undef, undef, undef, undef, undef, undef, undef, undef, undef, undef, undef, undef, undef, undef, undef, undef, undef, undef, undef, undef, undef, undef, undef, undef, undef, undef, undef, undef, undef, undef], defers := [] }) ?assign ?body ?done ?stop
  case assign =>
    intro l x W K hK
    gi_wp2
    exact hK
  case body =>
    rintro l k x W ⟨ys, vg, gs, ⟨e1, e2, e3⟩, hs⟩
    have hl := congrArg List.length e1
    simp only [List.length_append, PP_length, List.length_cons] at hl
    have hL100 : left.length ≤ 100 := by have := HLl.out; omega
    have hgl : gs.length ≤ 120 := by omega
    have hfix : ∀ ys' vg' gs' W', St w q B9 1000 FX ys' vg' gs' W' → W'.cell? ⟨B7, 0, none⟩ = some (.pointer (some ⟨q, 0, none⟩)) ∧ W'.cell? ⟨w.heap.size, 0, none⟩ = some (.int .i64 more) := fun ys' vg' gs' W' h => ⟨by rw [cells_of (h.fixed i7.out)]; rfl, by rw [cells_of (h.fixed i5.out)]; rfl⟩
    have hnext : ∀ v' w1, ∀ ys' W', St w q B9 1000 FX ys' vg gs W' → KeepsOthers W W' → gs ++ x :: ys' = left ++ PP (min (gs.length + 1) more) → Grew (W'.alloc (.cells #[.int .i64 x] 3)) 3 vg (gs.map VI ++ [VI x]) v' w1 →
        w1.cell? ⟨B9, 0, none⟩ = some vg ∧ w1.frozen? ⟨B9, 0, none⟩ = false ∧ (∃ a c, v' = .slice a (gs.length + 1) c) ∧ (w1.setCell ⟨B9, 0, none⟩ v').cell? ⟨B9, 0, none⟩ = some v' ∧ Hid (FreePost W10.heap.size (fun (k : Nat) (_ : Int) W => ∃ ys vg gs, (gs ++ ys = left ++ PP (min gs.length more) ∧ gs.length + k = left.length + more ∧ (left.length = 0 → ys = [] ∧ gs = [])) ∧ St w q B9 1000 FX ys vg gs W) (fun _ c W => ∃ ys vg gs, (False ∧ c = .ret) ∧ St w q B9 1000 FX ys vg gs W) k x W .normal ⟨#[], []⟩ (w1.setCell ⟨B9, 0, none⟩ v')) := by
      intro v' w1 ys' W' hs' hko he hg
      obtain ⟨q1, q2, q3⟩ := hs'.step (show w.heap.size ≤ B9 by omega) x
      obtain ⟨a1, a2, a3, a4, a5, a6⟩ := q3 v' w1 hg
      refine ⟨a1, a2, a3, a4, (hko.trans a6.out.1).from _, trivial, ys', v', gs ++ [x], ⟨?_, ?_, fun h => absurd h e3⟩, a6.out.2⟩
      · rw [List.append_assoc, List.length_append]; exact he
      · simp only [List.length_append, List.length_cons, List.length_nil]; omega
    have hrow : ∀ ys' W', St w q B9 1000 FX ys' vg gs W' → OffRow W' 3 vg (gs.map VI) ∧ W'.cell? ⟨B9, 0, none⟩ = some vg := fun ys' W' h => ⟨(h.step (show w.heap.size ≤ B9 by omega) x).2.1, (h.step (show w.heap.size ≤ B9 by omega) x).1⟩
    obtain ⟨c7, c5⟩ := hfix _ _ _ _ hs
    have c9 := (hrow _ _ hs).2
    have hln : ∀ (ty : TypeId) (w' : World), (Builtin.len_ #[28] ty #[vg]).run Try.prog w' = .ok (.int .i64 gs.length) w' := by
      intro ty w'
      obtain ⟨ag, cg, rfl⟩ : ∃ a c, vg = .slice a gs.length c := by
        rcases (hrow _ _ hs).1 with ⟨rfl, h0⟩ | ⟨g, o, c, rfl, -⟩
        · exact ⟨none, 0, by rw [List.map_eq_nil_iff.1 h0]; rfl⟩
        · exact ⟨_, c, by rw [List.length_map]⟩
      exact run_len_slice w' 28 ty ag gs.length cg Try.underlying28
    have HN := Lib.hid hnext
    have HRW := Lib.hid hrow
    have HFI := Lib.hid hfix
    have HS := Lib.hid hs
    have HE := Lib.hid e1
    by_cases hm : gs.length < more
    · have hlt : decide ((gs.length : Int) < (more : Int)) = true := decide_eq_true (by omega)
      have hpush := CallsIn.inRound l (callsIn_wide (n := 3 - 1 - 1 - 1).2 (hs.push hqw (by omega) (by omega) (1000 + (gs.length : Int))))
      have hen : gs ++ x :: (ys ++ [1000 + (gs.length : Int)]) = left ++ PP (min (gs.length + 1) more) := by
        have h1 : min gs.length more = gs.length := by omega
        have h2 : min (gs.length + 1) more = gs.length + 1 := by omega
        rw [h2, PP_succ, ← List.append_assoc left, ← h1, h1, ← (by rw [h1] at e1; exact e1 : gs ++ x :: ys = left ++ PP gs.length)]
        simp
      have HPU := Lib.hid hpush
      have HEN := Lib.hid hen
      clear hpush hen hnext hrow hfix hs e1 hl
      gi_wp2_with (first
        | (refine ⟨trivial, ?_⟩; gi_at_call 12; refine HPU.out.mono ?_; rintro e W2 ⟨rfl, h2⟩; clear c5 c7 c9; have c9 := (HRW.out _ _ h2.out.1).2)
        | (gi_at_builtin; refine wpListIn_append_off _ rfl _ _ 28 28 rfl (e := 3) (i := i0) (z := .int .i64 0) (bytes := 8) Try.underlying28 hi hz0 hz1 hz2 rfl rfl ((HRW.out _ _ h2.out.1).1.mono ((Below.refl _ _).alloc (Nat.le_refl _) _)) _ [VI x] rfl (one_src W2 x) (by unfold maxLen; simp; omega) (by simp; omega) ?_; intro v' w1 hg; obtain ⟨q1, q2, ⟨a', c', rfl⟩, q3, HE2⟩ := HN.out _ _ _ _ h2.out.1 h2.out.2 HEN.out hg; clear hg))
      exact HE2.out
    · have hlt : decide ((gs.length : Int) < (more : Int)) = false := decide_eq_false (by omega)
      have hen : gs ++ x :: ys = left ++ PP (min (gs.length + 1) more) := by
        have h1 : min gs.length more = more := by omega
        have h2 : min (gs.length + 1) more = more := by omega
        rw [h2]; rwa [h1] at e1
      have HEN := Lib.hid hen
      clear hen hnext hrow hfix hs e1 hl
      gi_wp2_with (gi_at_builtin; refine wpListIn_append_off _ rfl _ _ 28 28 rfl (e := 3) (i := i0) (z := .int .i64 0) (bytes := 8) Try.underlying28 hi hz0 hz1 hz2 rfl rfl ((HRW.out _ _ HS.out).1.mono ((Below.refl _ _).alloc (Nat.le_refl _) _)) _ [VI x] rfl (one_src W x) (by unfold maxLen; simp; omega) (by simp; omega) ?_; intro v' w1 hg; obtain ⟨q1, q2, ⟨a', c', rfl⟩, q3, HE2⟩ := HN.out _ _ _ _ HS.out (KeepsOthers.refl _) HEN.out hg; clear hg)
      exact HE2.out
  case stop =>
    rintro D c W hD ⟨ys, vg, gs, ⟨h, -⟩, -⟩ hK
    exact h.elim
  case done =>
    rintro D W hD ⟨ys, vg, gs, ⟨rfl, e0, e1⟩, hs⟩ hK
    have hq1 := hs.q1
    have hWb := hs.below
    have x5 := hs.fixed i5.out
    have x6 := hs.fixed i6.out
    have x7 := hs.fixed i7.out
    have hrow := (hs.step (show w.heap.size ≤ B9 by omega) 0).2.1
    have c9 := (hs.step (show w.heap.size ≤ B9 by omega) 0).1
    have hln : ∀ (ty : TypeId) (w' : World), (Builtin.len_ #[28] ty #[vg]).run Try.prog w' = .ok (.int .i64 gs.length) w' := by
      intro ty w'
      obtain ⟨ag, cg, rfl⟩ : ∃ a c, vg = .slice a gs.length c := by
        rcases hrow with ⟨rfl, h0⟩ | ⟨g, o, c, rfl, -⟩
        · exact ⟨none, 0, by rw [List.map_eq_nil_iff.1 h0]; rfl⟩
        · exact ⟨_, c, by rw [List.length_map]⟩
      exact run_len_slice w' 28 ty ag gs.length cg Try.underlying28
    have hbox : ∀ W', Below W.heap.size W W' → W'.cell? ⟨B9, 0, none⟩ = some vg ∧ W'.cell? ⟨B7, 0, none⟩ = some (.pointer (some ⟨q, 0, none⟩)) ∧ W'.cell? ⟨w.heap.size, 0, none⟩ = some (.int .i64 more) := fun W' hb => by
      have h' := hs.alloc hb
      exact ⟨(h'.step (show w.heap.size ≤ B9 by omega) 0).1, by rw [cells_of (h'.fixed i7.out)]; rfl, by rw [cells_of (h'.fixed i5.out)]; rfl⟩
    obtain ⟨-, c7, c5⟩ := hbox W (Below.refl _ _)
    have hlc : ∀ W', Below W.heap.size W W' → Calls Try.prog 15 #[.pointer (some ⟨q, 0, none⟩)] W' fun e w' => e = .returned (.int .i64 0) ∧ W' = w' := fun W' hb => by
      have := (hq1.alloc hb).len; simpa using this
    have HLC := Lib.hid hlc
    have HBX := Lib.hid hbox
    have HRO := Lib.hid hrow
    have HKD := Lib.hid hK
    have HWb := Lib.hid hWb
    have X6 := Lib.hid x6
    have hDw : w.heap.size + 1 ≠ D := by have := HZ10.out; omega
    have HDw := Lib.hid hDw
    have HDl : Hid (w.heap.size ≤ D) := Lib.hid (by have := HZ10.out; omega)
    have hW0 : Hid (Below W.heap.size W W) := Lib.hid (Below.refl _ _)
    clear hlc hbox hrow hK hq1 hs x5 x6 x7 hWb hDw
    by_cases hL : left.length = 0
    · have hgs : gs = [] := e0 hL
      subst hgs
      have hLz := HLl.out
      have hl1 : (((z0.length - m : Nat) : Int) == 0) = true := by simp; omega
      have hl2 : (((z0.length : Int) - (m : Int)) == 0) = true := by simp; omega
      simp only [List.length_nil] at hln
      clear hLz e0 e1
      go_wp2_with fail
      refine (HLC.out W hW0.out).mono ?_
      rintro e w' ⟨rfl, rfl⟩
      go_wp2_with fail
      refine (wakes_any W).mono ?_
      rintro e wd ⟨rfl, bd⟩
      have hbd := hW0.out.trans (bd.mono hW0.out.size)
      have hb6 := (hbd.block _ (heap_lt X6.out)).trans X6.out
      have hWd := HWb.out.trans (hbd.mono HWb.out.size)
      have hKe := (hbd.block _ (heap_lt HKD.out)).trans HKD.out
      have c6 : wd.cell? ⟨w.heap.size + 1, 0, none⟩ = some (.bool false) := by rw [cells_of hb6]; rfl
      have f6 : wd.frozen? ⟨w.heap.size + 1, 0, none⟩ = false := frozen_of hb6
      have Hb6 := Lib.hid hb6
      have HKe := Lib.hid hKe
      have HWd := Lib.hid hWd
      clear hbd hb6 hWd hKe bd
      go_wp2_with fail
      have hKs := (Below.heap_setCell wd ⟨w.heap.size + 1, 0, none⟩ (.bool true) D (by simpa using HDw.out.symm)).trans HKe.out
      refine ⟨by simp, .inl ⟨_, _, rfl, run_takeDeferred hKs, ?_⟩⟩
      refine ⟨_, results_boolcell rfl _ _ (w.heap.size + 1) true rfl (by rw [cells_of (kept_blk (set_bool Hb6.out) (grownBy_putObj' _ D _) (fun r e => by cases e; exact ⟨_, hKs, rfl⟩))]; rfl), rfl, ?_⟩
      exact (belowset HWd.out (by omega) _).trans (belowK_b (w := w) (Nat.le_refl _) _ D _ _ HDl.out hKs rfl rfl)
    · have hgs : gs = left ++ PP more := e1 hL
      have HGS := Lib.hid hgs
      have hLz := HLl.out
      have hl1 : (((z0.length - m : Nat) : Int) == 0) = false := by simp; omega
      have hl2 : (((z0.length : Int) - (m : Int)) == 0) = false := by simp; omega
      have hleft100 : left.length ≤ 100 := by omega
      have hre := HRE2.out W HWb.out
      have hcp := (copy_any W _ left hre (by omega)).mono (R' := fun e w' => ∃ a c, e = .returned (.slice a left.length c) ∧ Hid (Fresh W w' (.slice a left.length c) (left.map VI))) (by
        rintro e w' ⟨v, rfl, hf⟩
        rcases id hf.1 with ⟨rfl, h0⟩ | ⟨g, o, c, rfl, -⟩
        · exact ⟨none, 0, by rw [List.map_eq_nil_iff.1 h0]; rfl, by rw [List.map_eq_nil_iff.1 h0] at hf ⊢; exact hf⟩
        · rw [List.length_map] at hf ⊢; exact ⟨_, _, rfl, hf⟩)
      have HCP := Lib.hid hcp
      clear hLz e0 e1 hre hcp hgs hL
      go_wp2_with fail
      refine HCP.out.mono ?_
      rintro e wp ⟨ap, cp, rfl, hfp⟩
      clear c5 c7 c9
      go_wp2_with fail
      go_loopw [11, 12] (fun wv i wr => ∃ (k : Nat) (aw : Option Addr) (cw : Nat), k ≤ more ∧ i = .int .i64 k ∧ wv = .slice aw (left.length + k) cw ∧ Hid (OffRow wr 3 (.slice aw (left.length + k) cw) ((left ++ PP k).map VI) ∧ Below W.heap.size W wr ∧ ∀ g, (Value.slice aw (left.length + k) cw).ownBlock = some g → W.heap.size ≤ g)) (fun _ i _ => more - (intOf i).toNat)
      case atStart => exact ⟨0, ap, cp, Nat.zero_le _, rfl, rfl, by simpa [PP] using hfp.out.1, hfp.out.2.1, hfp.out.2.2⟩
      case round =>
        obtain ⟨k, aw, cw, hk, rfl, rfl, hI⟩ := hrel
        obtain ⟨c9, c7, c5⟩ := HBX.out wr hI.out.2.1
        by_cases hlt : k < more
        · have hstep : ∀ v' w1, Grew (wr.alloc (.cells #[.int .i64 (1000 + (k : Int))] 3)) 3 (.slice aw (left.length + k) cw) ((left ++ PP k).map VI ++ [VI (1000 + (k : Int))]) v' w1 → ∃ a c, v' = .slice a (left.length + (k + 1)) c ∧ Hid (OffRow w1 3 (.slice a (left.length + (k + 1)) c) ((left ++ PP (k + 1)).map VI) ∧ Below W.heap.size W w1 ∧ ∀ g, (Value.slice a (left.length + (k + 1)) c).ownBlock = some g → W.heap.size ≤ g) := by
            intro v' w1 hg
            obtain ⟨g1, g2, g3, -⟩ := hg
            have e : (left ++ PP k).map VI ++ [VI (1000 + (k : Int))] = (left ++ PP (k + 1)).map VI := by rw [PP_succ]; simp
            rw [e] at g1
            have hA : Below wr.heap.size wr (wr.alloc (.cells #[.int .i64 (1000 + (k : Int))] 3)) := (Below.refl _ _).alloc (Nat.le_refl _) _
            have hb1 := hI.out.2.1.trans (hA.mono hI.out.2.1.size)
            have hown : ∀ g, v'.ownBlock = some g → W.heap.size ≤ g := fun g hg => by
              rcases g3 with g3 | ⟨g', g3, g4⟩
              · exact hI.out.2.2 g (by rw [← g3]; exact hg)
              · rw [g3] at hg; cases hg; exact Nat.le_trans hb1.size g4
            obtain ⟨a, c, rfl⟩ : ∃ a c, v' = .slice a (left.length + (k + 1)) c := by
              rcases g1 with ⟨_, h0⟩ | ⟨g, o, c, q1, -⟩
              · simp [PP_succ] at h0
              · exact ⟨some ⟨g, o, none⟩, c, by rw [q1]; simp [PP_length]⟩
            exact ⟨a, c, rfl, g1, hb1.grown g2 hb1.size (fun g hg => hI.out.2.2 g hg.symm.symm), hown⟩
          have HST2 := Lib.hid hstep
          have hkm : decide (k < more) = true := decide_eq_true hlt
          clear hstep
          go_wp2_with (at_builtin; refine wpList_append_off _ rfl _ _ 28 28 rfl (e := 3) (i := i0) (z := .int .i64 0) (bytes := 8) Try.underlying28 hi hz0 hz1 hz2 rfl rfl (hI.out.1.mono ((Below.refl _ _).alloc (Nat.le_refl _) _)) _ [VI (1000 + (k : Int))] rfl (one_src wr (1000 + (k : Int))) (by unfold maxLen; simp [PP_length]; omega) (by simp [PP_length]; omega) ?_; intro v' w1 hg; obtain ⟨a', c', rfl, hI2⟩ := HST2.out _ _ hg; clear hg)
          go_roundw
          case rel => exact ⟨k + 1, _, _, by omega, by go_num, rfl, hI2⟩
          case measure => simp [intOf]; omega
        · obtain rfl : k = more := by omega
          have hkm : decide (k < k) = false := decide_eq_false (by omega)
          have hrv := HRO.out.mono hI.out.2.1
          have hiv := ints_any wr vg _ gs (left ++ PP k) hrv.reads hI.out.1.reads true (by rw [HGS.out]; simp)
          have HIV := Lib.hid hiv
          clear hrv hiv
          go_wp2_with fail
          refine HIV.out.mono ?_
          rintro e wa ⟨rfl, hba⟩
          have Hba := Lib.hid (hI.out.2.1.trans (hba.mono hI.out.2.1.size))
          clear c9 c7 c5 hba
          obtain ⟨c9, c7, c5⟩ := HBX.out wa Hba.out
          go_wp2_with fail
          refine (HLC.out wa Hba.out).mono ?_
          rintro e w' ⟨rfl, rfl⟩
          go_wp2_with fail
          refine (wakes_any wa).mono ?_
          rintro e wd ⟨rfl, bd⟩
          have hbd := Hba.out.trans (bd.mono Hba.out.size)
          have hb6 := (hbd.block _ (heap_lt X6.out)).trans X6.out
          have hWd := HWb.out.trans (hbd.mono HWb.out.size)
          have hKe := (hbd.block _ (heap_lt HKD.out)).trans HKD.out
          have c6 : wd.cell? ⟨w.heap.size + 1, 0, none⟩ = some (.bool false) := by rw [cells_of hb6]; rfl
          have f6 : wd.frozen? ⟨w.heap.size + 1, 0, none⟩ = false := frozen_of hb6
          have Hb6 := Lib.hid hb6
          have HKe := Lib.hid hKe
          have HWd := Lib.hid hWd
          clear hbd hb6 hWd hKe bd
          go_wp2_with fail
          have hKs := (Below.heap_setCell wd ⟨w.heap.size + 1, 0, none⟩ (.bool true) D (by simpa using HDw.out.symm)).trans HKe.out
          refine ⟨by simp, .inl ⟨_, _, rfl, run_takeDeferred hKs, ?_⟩⟩
          refine ⟨_, results_boolcell rfl _ _ (w.heap.size + 1) true rfl (by rw [cells_of (kept_blk (set_bool Hb6.out) (grownBy_putObj' _ D _) (fun r e => by cases e; exact ⟨_, hKs, rfl⟩))]; rfl), rfl, ?_⟩
          exact (belowset HWd.out (by omega) _).trans (belowK_b (w := w) (Nat.le_refl _) _ D _ _ HDl.out hKs rfl rfl)
set_option maxRecDepth 100000 in
set_option maxHeartbeats 16000000 in
theorem drains_full (w : World) (a0 : Option Addr) (z0 : List Int) (hlen : z0.length ≤ 100) (n1 n2 : Int) (r1 : InR n1) (r2 : InR n2) (m cap0 : Nat) (r0 : Reads w (.slice a0 z0.length cap0) (z0.map VI)) (hm : n1 % ((z0.length + 1 : Nat) : Int) = m) (hm3 : m ≤ z0.length) (hcm : Hid (cap0 = m)) :
    Calls Try.prog 5 #[.slice a0 z0.length cap0, .int .i64 n1, .int .i64 n2] w fun e w' => e = .returned (.bool true) ∧ Below w.heap.size w w' := by
  have hd : decide (100 < (z0.length : Int)) = false := decide_eq_false (by omega)
  have hcap : z0.length ≤ cap0 ∧ cap0 ≤ 9223372036854775807 := by
    obtain ⟨a', c', he, h1, h2, -⟩ := id r0
    obtain ⟨-, -, rfl⟩ := Value.slice.inj he
    unfold maxLen at h2
    exact ⟨by simpa using h1, h2⟩
  obtain ⟨hcap1, hcap2⟩ := hcap
  have hci : (z0.length : Int) ≤ (cap0 : Int) := by omega
  have HR0 := Lib.hid r0
  obtain ⟨W2, hW2⟩ : ∃ W2, W2 = (w.alloc (.cells #[.int .i64 n2] 3)).alloc (.cells #[.bool false] 4) := ⟨_, rfl⟩
  have bb : Below w.heap.size w W2 := by rw [hW2]; exact ((Below.refl w.heap.size w).alloc (Nat.le_refl _) _).alloc (by simp) _
  have b5 : Hid (W2.heap[w.heap.size]? = some (.cells #[.int .i64 n2] 3 (0, 0))) := Lib.hid (by rw [hW2]; exact (Below.heap_alloc _ _ _ (by simp)).trans (new_at rfl))
  have b6 : Hid (W2.heap[w.heap.size + 1]? = some (.cells #[.bool false] 4 (0, 0))) := Lib.hid (by rw [hW2]; exact new_at (by simp))
  have s2 : Hid (W2.heap.size = w.heap.size + 2) := Lib.hid (by rw [hW2]; simp)
  have hmade := made_any W2 _ _ (r0.mono bb) VI_one (by simp; omega)
  have HM := Lib.hid hmade
  have HW2 := Lib.hid hW2
  have hwi := fun W => within_all W n1 (z0.length + 1) r1.1 r1.2 (by omega) (by omega)
  rw [hm] at hwi
  have hwi : ∀ W, Calls Try.prog 11 #[.int .i64 n1, .int .i64 ((z0.length : Int) + 1)] W fun e w' => e = .returned (.int .i64 m) ∧ W = w' := fun W => by
    have := hwi W; simpa using this
  have HWI := Lib.hid hwi
  rename_i hwi0
  obtain ⟨more, hmo⟩ : ∃ more : Nat, n2 % ((20 : Nat) : Int) = more := ⟨(n2 % 20).toNat, by have := Int.emod_nonneg n2 (show (20 : Int) ≠ 0 by omega); omega⟩
  have hmo3 : more < 20 := by have := Int.emod_lt_of_pos n2 (show (0 : Int) < 20 by omega); omega
  have hw2 := fun W => within_all W n2 20 r2.1 r2.2 (by omega) (by omega)
  rw [hmo] at hw2
  have HWI2 := Lib.hid hw2
  obtain ⟨left, hleft⟩ : ∃ left, left = z0.drop m := ⟨_, rfl⟩
  have hLl : left.length = z0.length - m := by rw [hleft, List.length_drop]
  clear hwi hwi0 hw2 hmade hW2 r0 hm hmo
  refine callsIn_wide.1 (callsIn_of_wp_marks (n := 3) Try.func5 rfl trivial (wpIn_wide.2 ?_) rfl)
  simp only [Try.ntmps5, List.size_toArray, List.length_cons, List.length_nil, Nat.reduceAdd, Nat.reduceSub, Array.replicate_succ, Array.replicate_zero, List.push_toArray, List.append_toArray, List.nil_append, List.cons_append]
  have HLl := Lib.hid hLl
  have HLe := Lib.hid hleft
  clear hLl hleft
  go_wp2_with fail
  rw [← HW2.out]
  refine HM.out.mono ?_
  rintro e w1 ⟨q, vq, rfl, hq, hQ, hB1, hv⟩
  obtain ⟨W3, hW3⟩ : ∃ W3, W3 = w1.alloc (.cells #[.pointer (some ⟨q, 0, none⟩)] 23) := ⟨_, rfl⟩
  obtain ⟨B7, hB7⟩ : ∃ B7, B7 = w1.heap.size := ⟨_, rfl⟩
  have ba : Below w1.heap.size w1 W3 := by rw [hW3]; exact (Below.refl _ _).alloc (Nat.le_refl _) _
  have hbb1 := bb.trans (hB1.mono bb.size)
  have hb13 : Below W2.heap.size W2 W3 := hB1.trans (ba.mono hB1.size)
  have hs2 := s2.out
  have hqw : w.heap.size ≤ q := by omega
  have hz13 := hB1.size
  have hQ1 : Q1 w q 1000 [(w.heap.size, .cells #[.int .i64 n2] 3 (0, 0)), (w.heap.size + 1, .cells #[.bool false] 4 (0, 0)), (B7, .cells #[.pointer (some ⟨q, 0, none⟩)] 23 (0, 0))] z0 W3 := by
    refine ⟨vq, hbb1.trans (ba.mono hbb1.size), hQ.mono ba, fun g hg => by have := hv g hg; omega, fun p hp => ?_⟩
    simp only [List.mem_cons, List.not_mem_nil, or_false] at hp
    rcases hp with rfl | rfl | rfl
    · exact ⟨(hb13.block _ (heap_lt b5.out)).trans b5.out, rfl, by simp only; omega, fun e => by have := hv _ e; simp only at this; omega⟩
    · exact ⟨(hb13.block _ (heap_lt b6.out)).trans b6.out, rfl, by simp only; omega, fun e => by have := hv _ e; simp only at this; omega⟩
    · exact ⟨by rw [hW3]; exact new_at hB7, rfl, by have := hQ.lt; simp only; omega, fun e => by have := hQ.2.lt e; simp only at this; omega⟩
  have h7w : w.heap.size + 2 ≤ B7 := by omega
  have c7 : W3.cell? ⟨B7, 0, none⟩ = some (.pointer (some ⟨q, 0, none⟩)) := by rw [cells_of (hQ1.fixed (b := B7) (o := .cells #[.pointer (some ⟨q, 0, none⟩)] 23 (0, 0)) (by simp))]; rfl
  have HQ1 := Lib.hid hQ1
  have HW3 := Lib.hid hW3
  have HB7 := Lib.hid hB7
  clear hB1 hv ba hQ hbb1 hb13 hs2 hz13 hQ1 hW3 hB7 HM hq
  go_wp2_with fail
  rw [← HW3.out, ← HB7.out]
  refine (HWI.out W3).mono ?_
  rintro e w' ⟨rfl, rfl⟩
  have hmi : (m : Int) ≤ (z0.length : Int) := by omega
  have hmi3 : (m : Int) ≤ (cap0 : Int) := by have := hcm.out; omega
  have hce : (cap0 = m) = True := eq_true hcm.out
  have hw3 : w.heap.size ≤ W3.heap.size := HQ1.out.below.size
  obtain ⟨WA, hWA⟩ : ∃ WA, WA = W3.drew.alloc (.cells #[.pointer (some ⟨q, 0, none⟩)] 23) := ⟨_, rfl⟩
  have hbA : Below W3.heap.size W3 WA := by rw [hWA]; exact ((Below.refl W3.heap.size W3).drew).alloc (Nat.le_refl _) _
  have hqA := Q1.more HQ1.out (b := W3.heap.size) (o := .cells #[.pointer (some ⟨q, 0, none⟩)] 23 (0, 0)) (by rw [hWA]; exact new_at (w := W3.drew) (n := W3.heap.size) rfl) rfl hbA (Nat.le_refl _)
  have hfd := first_drain w WA q 1000 W3.heap.size _ z0 hlen hqw hqA (by simp) m (by omega)
  have HFD := Lib.hid hfd
  have HWA := Lib.hid hWA
  have HQA := Lib.hid hqA
  have hK : ∀ ys W', Q1 w q 1000 ((W3.heap.size, .cells #[.pointer (some ⟨q, 0, none⟩)] 23 (0, 0)) :: [(w.heap.size, .cells #[.int .i64 n2] 3 (0, 0)), (w.heap.size + 1, .cells #[.bool false] 4 (0, 0)), (B7, .cells #[.pointer (some ⟨q, 0, none⟩)] 23 (0, 0))]) ys W' → W'.cell? ⟨B7, 0, none⟩ = some (.pointer (some ⟨q, 0, none⟩)) := fun ys W' h => by rw [cells_of (h.fixed (b := B7) (o := .cells #[.pointer (some ⟨q, 0, none⟩)] 23 (0, 0)) (by simp))]; rfl
  have HK := Lib.hid hK
  have hre1 : ∀ W', Below w.heap.size w W' → Reads W' (.slice a0 m cap0) ((z0.take m).map VI) := fun W' hb => by
    obtain ⟨a', c', he, h1, h2, h3⟩ := HR0.out.mono hb
    obtain ⟨rfl, -, rfl⟩ := Value.slice.inj he
    refine ⟨_, cap0, by rw [List.length_map, List.length_take]; congr 1; omega, by rw [List.length_map, List.length_take]; omega, h2, ?_⟩
    rcases h3 with h3 | ⟨b, off, h4, h5, h6⟩
    · exact .inl h3
    · refine .inr ⟨b, off, h4, h5, fun j hj => ?_⟩
      simp only [List.length_map, List.length_take] at hj
      rw [h6 j (by simp; omega)]
      simp
  have hre2 : ∀ W', Below w.heap.size w W' → Reads W' (.slice a0 (z0.length - m) (cap0 - m)) (left.map VI) := fun W' hb => ⟨a0, cap0 - m, by rw [List.length_map, HLl.out], by rw [List.length_map, HLl.out]; omega, by unfold maxLen; omega, .inl (by have := hcm.out; omega)⟩
  have HRE1 := Lib.hid hre1
  have HRE2 := Lib.hid hre2
  have j1 : Hid (0 = 0) := Lib.hid rfl
  clear hre1 hre2 hK hqA hWA hfd hbA HWI
  go_wp2_with fail
  have hS0 : Hid (W3.drew.cell? ⟨B7, 0, none⟩ = some (.pointer (some ⟨q, 0, none⟩))) := Lib.hid c7
  go_region_held3 (fun w' => w'.cell? ⟨B7, 0, none⟩ = some (.pointer (some ⟨q, 0, none⟩)))
    (first | exact hS6.out | exact hS5.out | exact hS4.out | exact hS3.out | exact hS2.out | exact hS1.out | exact hS0.out | go_keep)
    (first
      | (go_at_call 21; refine (drain_any _ q).mono ?_; rintro e wa ⟨rfl, hwa⟩; rw [show W3.drew.alloc (.cells #[.pointer (some ⟨q, 0, none⟩)] 23) = WA from HWA.out.symm] at hwa; obtain rfl : WA = wa := hwa.symm; have hS1 := Lib.hid (HK.out _ _ HQA.out))
      | (go_at_call 20; refine HFD.out.mono ?_; unfold FirstOut; rintro e wb ⟨vf, rfl, hqb, hvf, -⟩; have HQB := Lib.hid hqb; have HVF := Lib.hid hvf; have hS2 := Lib.hid (HK.out _ _ hqb); clear hqb hvf)
      | (have _t := j1; go_at_call 16; refine (ints_any wb vf _ (z0.take m) (z0.take m) HVF.out.reads (HRE1.out _ HQB.out.below) true (by simp)).mono ?_; rintro e wc ⟨rfl, hbc⟩; have HQC := Lib.hid (HQB.out.alloc hbc); have hS3 := Lib.hid (HK.out _ _ HQC.out); clear hbc j1)
      | (go_at_call 18; refine (all_any wc q).mono ?_; rintro e wd ⟨rfl, hwd⟩; have HQD := Lib.hid (HQC.out.alloc (show Below wc.heap.size wc wd by rw [hwd]; exact (Below.refl _ _).alloc (Nat.le_refl _) _)); have hS4 := Lib.hid (HK.out _ _ HQD.out); have HBD : Hid (wd.heap[wc.heap.size]? = some (.cells #[.pointer (some ⟨q, 0, none⟩)] 23 (0, 0))) := Lib.hid (by rw [hwd]; exact new_at rfl); clear hwd)
      | (go_at_call 17; refine (Q1.list HQD.out HBD.out (by rw [← HLe.out, HLl.out]; omega)).mono ?_; rintro e we ⟨vl, rfl, hfl, hbl⟩; have HQE := Lib.hid (HQD.out.alloc hbl); have HFL := Lib.hid hfl; have hS5 := Lib.hid (HK.out _ _ HQE.out); clear hfl hbl)
      | (go_at_call 16; refine (ints_any we vl _ left left (by rw [HLe.out]; exact HFL.out.reads) (HRE2.out _ HQE.out.below) true (by simp)).mono ?_; rintro e wf ⟨rfl, hbf⟩; have HQF := Lib.hid (HQE.out.alloc hbf); have hS6 := Lib.hid (HK.out _ _ HQF.out); clear hbf))
  have hqf : Q1 w q 1000 [(w.heap.size, .cells #[.int .i64 n2] 3 (0, 0)), (w.heap.size + 1, .cells #[.bool false] 4 (0, 0)), (B7, .cells #[.pointer (some ⟨q, 0, none⟩)] 23 (0, 0))] left wf := by
    have h1 := HQF.out.less (fx' := [(w.heap.size, .cells #[.int .i64 n2] 3 (0, 0)), (w.heap.size + 1, .cells #[.bool false] 4 (0, 0)), (B7, .cells #[.pointer (some ⟨q, 0, none⟩)] 23 (0, 0))]) (fun p hp => List.mem_cons_of_mem _ hp)
    rw [HLe.out]; exact h1
  have hx5 := hqf.fixed (b := w.heap.size) (o := .cells #[.int .i64 n2] 3 (0, 0)) (by simp)
  have c5 : wf.cell? ⟨w.heap.size, 0, none⟩ = some (.int .i64 n2) := by rw [cells_of hx5]; rfl
  have f5 : wf.frozen? ⟨w.heap.size, 0, none⟩ = false := frozen_of hx5
  have c7 := HK.out _ _ HQF.out
  have hB7n : B7 ≠ w.heap.size := by omega
  have hB7l : B7 < wf.heap.size := World.block_lt_of_cell? wf _ c7
  obtain ⟨W8, hW8⟩ : ∃ W8, W8 = wf.setCell ⟨w.heap.size, 0, none⟩ (.int .i64 more) := ⟨_, rfl⟩
  have hq8 : Q1 w q 1000 [(w.heap.size, .cells #[.int .i64 more] 3 (0, 0)), (w.heap.size + 1, .cells #[.bool false] 4 (0, 0)), (B7, .cells #[.pointer (some ⟨q, 0, none⟩)] 23 (0, 0))] left W8 := by
    rw [hW8]
    refine hqf.set (Nat.le_refl _) (fun p hp => ?_)
    simp only [List.mem_cons, List.not_mem_nil, or_false] at hp
    rcases hp with rfl | rfl
    · simp
    · exact hB7n
  obtain ⟨W9, hW9⟩ : ∃ W9, W9 = (wf.setCell ⟨w.heap.size, 0, none⟩ (.int .i64 more)).alloc (.cells #[.slice none 0 0] 28) := ⟨_, rfl⟩
  obtain ⟨B9, hB9⟩ : ∃ B9, B9 = wf.heap.size := ⟨_, rfl⟩
  have hz8 : W8.heap.size = B9 := by rw [hW8, hB9]; simp [World.setCell]
  have hb89 : Below W8.heap.size W8 W9 := by rw [hW9, ← hW8]; exact (Below.refl _ _).alloc (Nat.le_refl _) _
  have hbx : Boxed W9 B9 28 (.slice none 0 0) := by rw [hW9, ← hW8]; exact new_at hz8.symm
  have hz9 : W9.heap.size = B9 + 1 := by rw [hW9, ← hW8]; simp [hz8]
  obtain ⟨W10, hW10⟩ : ∃ W10, W10 = W9.alloc (.cells #[.pointer (some ⟨q, 0, none⟩)] 23) := ⟨_, rfl⟩
  obtain ⟨B10, hB10⟩ : ∃ B10, B10 = W9.heap.size := ⟨_, rfl⟩
  have hb910 : Below W9.heap.size W9 W10 := by rw [hW10]; exact (Below.refl _ _).alloc (Nat.le_refl _) _
  have hq10 := Q1.more (hq8.alloc hb89) (b := B10) (o := .cells #[.pointer (some ⟨q, 0, none⟩)] 23 (0, 0)) (by rw [hW10]; exact new_at hB10) rfl hb910 (by omega)
  have hB9w : w.heap.size + 2 < B9 := by omega
  have hst : St w q B9 1000 [(B10, .cells #[.pointer (some ⟨q, 0, none⟩)] 23 (0, 0)), (w.heap.size, .cells #[.int .i64 more] 3 (0, 0)), (w.heap.size + 1, .cells #[.bool false] 4 (0, 0)), (B7, .cells #[.pointer (some ⟨q, 0, none⟩)] 23 (0, 0))] left (.slice none 0 0) [] W10 := by
    refine St.new hq10 ((hb910.block _ hbx.lt).trans hbx) (fun p hp => ?_)
    simp only [List.mem_cons, List.not_mem_nil, or_false] at hp
    rcases hp with rfl | rfl | rfl | rfl
    · simp only; omega
    · simp only; omega
    · simp only; omega
    · simp only; omega
  have hz10 : W10.heap.size = B9 + 2 := by rw [hW10]; simp [hz9]
  have HST := Lib.hid hst
  have HW9 := Lib.hid hW9
  have HB9 := Lib.hid hB9
  have HW10 := Lib.hid hW10
  have HB10 := Lib.hid hB10
  have HZ10 := Lib.hid hz10
  rename_i hHeld
  clear hqf hx5 hW8 hq8 hW9 hB9 hz8 hb89 hbx hz9 hW10 hB10 hb910 hq10 hst hz10 hHeld hS0 hS1 hS2 hS3 hS4 hS5 hS6 HQA HQB HQC HQD HQE HFL HVF HBD HFD HRE1 HQ1
  obtain ⟨i0, hi, hz0, hz1, hz2⟩ := infoI'
  go_wp2_with fail
  refine (HWI2.out wf).mono ?_
  rintro e w' ⟨rfl, rfl⟩
  go_wp2_with fail
  rw [← HW9.out]
  refine (drain_any W9 q).mono ?_
  rintro e w' ⟨rfl, rfl⟩
  rw [← HW10.out, ← HB10.out]
  go_wp2_with fail
  rw [← HB9.out]
  obtain ⟨FX, hFX⟩ : ∃ FX, FX = [(B10, Obj.cells #[.pointer (some ⟨q, 0, none⟩)] 23 (0, 0)), (w.heap.size, .cells #[.int .i64 more] 3 (0, 0)), (w.heap.size + 1, .cells #[.bool false] 4 (0, 0)), (B7, .cells #[.pointer (some ⟨q, 0, none⟩)] 23 (0, 0))] := ⟨_, rfl⟩
  have i10 : Hid ((B10, Obj.cells #[.pointer (some ⟨q, 0, none⟩)] 23 (0, 0)) ∈ FX) := Lib.hid (by rw [hFX]; simp)
  have i5 : Hid ((w.heap.size, Obj.cells #[.int .i64 more] 3 (0, 0)) ∈ FX) := Lib.hid (by rw [hFX]; simp)
  have i6 : Hid ((w.heap.size + 1, Obj.cells #[.bool false] 4 (0, 0)) ∈ FX) := Lib.hid (by rw [hFX]; simp)
  have i7 : Hid ((B7, Obj.cells #[.pointer (some ⟨q, 0, none⟩)] 23 (0, 0)) ∈ FX) := Lib.hid (by rw [hFX]; simp)
  rw [← hFX] at HST
  have hwN : w.heap.size ≤ W10.heap.size := HST.out.below.size
  have HWN := Lib.hid hwN
  have hseq := drain_free 2 q B10 1000 (fun k W => ∃ ys vg gs, (gs ++ ys = left ++ PP (min gs.length more) ∧ gs.length + k = left.length + more ∧ (left.length = 0 → ys = [] ∧ gs = [])) ∧ St w q B9 1000 FX ys vg gs W) (fun W => Below W10.heap.size W10 W)
    (fun k x W => ∃ ys vg gs, (gs ++ x :: ys = left ++ PP (min gs.length more) ∧ gs.length + (k + 1) = left.length + more ∧ left.length ≠ 0) ∧ St w q B9 1000 FX ys vg gs W)
    (fun k _ W => ∃ ys vg gs, (gs ++ ys = left ++ PP (min gs.length more) ∧ gs.length + k = left.length + more ∧ (left.length = 0 → ys = [] ∧ gs = [])) ∧ St w q B9 1000 FX ys vg gs W)
    (fun W => ∃ ys vg gs, (ys = [] ∧ (left.length = 0 → gs = []) ∧ (left.length ≠ 0 → gs = left ++ PP more)) ∧ St w q B9 1000 FX ys vg gs W)
    (fun c W => ∃ ys vg gs, (False ∧ c = .ret) ∧ St w q B9 1000 FX ys vg gs W)
    (fun W hb => ⟨left.length + more, left, _, [], ⟨by simp [PP], by simp, fun h => ⟨List.eq_nil_of_length_eq_zero h, rfl⟩⟩, HST.out.alloc hb⟩) (fun k x W h => h)
    (fun k W ⟨ys, vg, gs, ⟨e1, e2, e3⟩, hs⟩ => by
      obtain ⟨vq, s1, s2, -⟩ := id hs
      refine ⟨vq, ys, s2, hs.fixed i10.out, ?_⟩
      have hl := congrArg List.length e1
      simp only [List.length_append, PP_length] at hl
      cases ys with
      | nil =>
        refine .inl ⟨rfl, fun W' hb => ⟨[], vg, gs, ⟨rfl, fun h => (e3 h).2, fun h => ?_⟩, hs.alloc hb⟩⟩
        simp only [List.length_nil, Nat.add_zero] at hl
        have hmn : min gs.length more = more := by omega
        rw [hmn] at e1
        simpa using e1
      | cons x ys =>
        simp only [List.length_cons] at hl
        have hL : left.length ≠ 0 := fun h => by have := (e3 h).1; cases this
        exact .inr ⟨x, ys, k - 1, rfl, by omega, fun W' v' p1 p2 p3 => ⟨ys, vg, gs, ⟨e1, by omega, hL⟩, hs.turned hqw s2 p1 p2 p3⟩⟩)
  have HSQ := Lib.hid hseq
  have HFX := Lib.hid hFX
  clear hseq hFX hwN
  refine (wpIn_wide (n := 3)).1 ?_
  refine wpIn_rangeFunc_free rfl rfl (gf := 32) (lb := #[.pointer (some ⟨B10, 0, none⟩)]) rfl trivial (enters_of Try.func32 (by kernel_rfl) rfl) HSQ.out (fun _ => rfl)
    (fun W1 hb => hb)
    (St.own w q B9 1000 FX (fun (s : Nat × Int) ys vg gs => gs ++ s.2 :: ys = left ++ PP (min gs.length more) ∧ gs.length + (s.1 + 1) = left.length + more ∧ left.length ≠ 0) HWN.out)
    (St.own w q B9 1000 FX (fun (s : Nat × Int) ys vg gs => gs ++ ys = left ++ PP (min gs.length more) ∧ gs.length + s.1 = left.length + more ∧ (left.length = 0 → ys = [] ∧ gs = [])) HWN.out)
    (St.own w q B9 1000 FX (fun (s : Unit) ys vg gs => ys = [] ∧ (left.length = 0 → gs = []) ∧ (left.length ≠ 0 → gs = left ++ PP more)) HWN.out)
    (fun b => St.own w q B9 1000 FX (fun (c : Code) ys vg gs => False ∧ c = .ret) HWN.out)
    (St.own w q B9 1000 FX (fun (c : Code) ys vg gs => False ∧ c = .ret) HWN.out)
    (fun x => { tmps := #[(.slice a0 z0.length cap0), .int .i64 m, .int .i64 n2, undef, undef, .pointer (some ⟨w.heap.size, 0, none⟩), .pointer (some ⟨w.heap.size + 1, 0, none⟩), .pointer (some ⟨B7, 0, none⟩), (.slice a0 (z0.length - m) (cap0 - m)), .pointer (some ⟨B9, 0, none⟩), .int .i64 x, undef, undef, (.slice a0 z0.length cap0), .int .i64 z0.length, .bool false, undef, (.slice a0 z0.length cap0), .pointer (some ⟨q, 0, none⟩), .pointer (some ⟨q, 0, none⟩), .bool false, .int .i64 n1, (.slice a0 z0.length cap0), .int .i64 z0.length, .int .i64 ((z0.length : Int) + 1), .int .i64 m, .pointer (some ⟨q, 0, none⟩), .func (.func 32) #[] #[.pointer (some ⟨W3.heap.size, 0, none⟩)], .int .i64 m, vf, (.slice a0 z0.length cap0), .int .i64 m, (.slice a0 m cap0), .bool true, .bool false, .bool false, .pointer (some ⟨q, 0, none⟩), .func (.func 30) #[] #[.pointer (some ⟨wc.heap.size, 0, none⟩)], vl, (.slice a0 z0.length cap0), .int .i64 m, (.slice a0 (z0.length - m) (cap0 - m)), .bool true, .bool false, .bool false, (.slice a0 z0.length cap0), .int .i64 m, (.slice a0 (z0.length - m) (cap0 - m)), .int .i64 n2, .int .i64 more, .pointer (some ⟨q, 0, none⟩), .func (.func 32) #[] #[.pointer (some ⟨B10, 0, none⟩)], .int .i64 x, undef, undef, undef, undef, undef, undef, undef, undef, undef, undef, undef, undef, undef, undef, undef, undef, undef, undef, undef, undef, undef, undef, undef, undef, undef, undef, undef, undef, undef, undef, undef, undef, undef, undef, undef, undef, undef, undef, undef, undef, undef, undef, undef, undef, undef, undef, undef, undef, undef, undef, undef, undef, undef, undef], defers := [] }) ?assign ?body ?done ?stop
  case assign =>
    intro l x W K hK
    gi_wp2
    exact hK
  case body =>
    rintro l k x W ⟨ys, vg, gs, ⟨e1, e2, e3⟩, hs⟩
    have hl := congrArg List.length e1
    simp only [List.length_append, PP_length, List.length_cons] at hl
    have hL100 : left.length ≤ 100 := by have := HLl.out; omega
    have hgl : gs.length ≤ 120 := by omega
    have hfix : ∀ ys' vg' gs' W', St w q B9 1000 FX ys' vg' gs' W' → W'.cell? ⟨B7, 0, none⟩ = some (.pointer (some ⟨q, 0, none⟩)) ∧ W'.cell? ⟨w.heap.size, 0, none⟩ = some (.int .i64 more) := fun ys' vg' gs' W' h => ⟨by rw [cells_of (h.fixed i7.out)]; rfl, by rw [cells_of (h.fixed i5.out)]; rfl⟩
    have hnext : ∀ v' w1, ∀ ys' W', St w q B9 1000 FX ys' vg gs W' → KeepsOthers W W' → gs ++ x :: ys' = left ++ PP (min (gs.length + 1) more) → Grew (W'.alloc (.cells #[.int .i64 x] 3)) 3 vg (gs.map VI ++ [VI x]) v' w1 →
        w1.cell? ⟨B9, 0, none⟩ = some vg ∧ w1.frozen? ⟨B9, 0, none⟩ = false ∧ (∃ a c, v' = .slice a (gs.length + 1) c) ∧ (w1.setCell ⟨B9, 0, none⟩ v').cell? ⟨B9, 0, none⟩ = some v' ∧ Hid (FreePost W10.heap.size (fun (k : Nat) (_ : Int) W => ∃ ys vg gs, (gs ++ ys = left ++ PP (min gs.length more) ∧ gs.length + k = left.length + more ∧ (left.length = 0 → ys = [] ∧ gs = [])) ∧ St w q B9 1000 FX ys vg gs W) (fun _ c W => ∃ ys vg gs, (False ∧ c = .ret) ∧ St w q B9 1000 FX ys vg gs W) k x W .normal ⟨#[], []⟩ (w1.setCell ⟨B9, 0, none⟩ v')) := by
      intro v' w1 ys' W' hs' hko he hg
      obtain ⟨q1, q2, q3⟩ := hs'.step (show w.heap.size ≤ B9 by omega) x
      obtain ⟨a1, a2, a3, a4, a5, a6⟩ := q3 v' w1 hg
      refine ⟨a1, a2, a3, a4, (hko.trans a6.out.1).from _, trivial, ys', v', gs ++ [x], ⟨?_, ?_, fun h => absurd h e3⟩, a6.out.2⟩
      · rw [List.append_assoc, List.length_append]; exact he
      · simp only [List.length_append, List.length_cons, List.length_nil]; omega
    have hrow : ∀ ys' W', St w q B9 1000 FX ys' vg gs W' → OffRow W' 3 vg (gs.map VI) ∧ W'.cell? ⟨B9, 0, none⟩ = some vg := fun ys' W' h => ⟨(h.step (show w.heap.size ≤ B9 by omega) x).2.1, (h.step (show w.heap.size ≤ B9 by omega) x).1⟩
    obtain ⟨c7, c5⟩ := hfix _ _ _ _ hs
    have c9 := (hrow _ _ hs).2
    have hln : ∀ (ty : TypeId) (w' : World), (Builtin.len_ #[28] ty #[vg]).run Try.prog w' = .ok (.int .i64 gs.length) w' := by
      intro ty w'
      obtain ⟨ag, cg, rfl⟩ : ∃ a c, vg = .slice a gs.length c := by
        rcases (hrow _ _ hs).1 with ⟨rfl, h0⟩ | ⟨g, o, c, rfl, -⟩
        · exact ⟨none, 0, by rw [List.map_eq_nil_iff.1 h0]; rfl⟩
        · exact ⟨_, c, by rw [List.length_map]⟩
      exact run_len_slice w' 28 ty ag gs.length cg Try.underlying28
    have HN := Lib.hid hnext
    have HRW := Lib.hid hrow
    have HFI := Lib.hid hfix
    have HS := Lib.hid hs
    have HE := Lib.hid e1
    by_cases hm : gs.length < more
    · have hlt : decide ((gs.length : Int) < (more : Int)) = true := decide_eq_true (by omega)
      have hpush := CallsIn.inRound l (callsIn_wide (n := 3 - 1 - 1 - 1).2 (hs.push hqw (by omega) (by omega) (1000 + (gs.length : Int))))
      have hen : gs ++ x :: (ys ++ [1000 + (gs.length : Int)]) = left ++ PP (min (gs.length + 1) more) := by
        have h1 : min gs.length more = gs.length := by omega
        have h2 : min (gs.length + 1) more = gs.length + 1 := by omega
        rw [h2, PP_succ, ← List.append_assoc left, ← h1, h1, ← (by rw [h1] at e1; exact e1 : gs ++ x :: ys = left ++ PP gs.length)]
        simp
      have HPU := Lib.hid hpush
      have HEN := Lib.hid hen
      clear hpush hen hnext hrow hfix hs e1 hl
      gi_wp2_with (first
        | (refine ⟨trivial, ?_⟩; gi_at_call 12; refine HPU.out.mono ?_; rintro e W2 ⟨rfl, h2⟩; clear c5 c7 c9; have c9 := (HRW.out _ _ h2.out.1).2)
        | (gi_at_builtin; refine wpListIn_append_off _ rfl _ _ 28 28 rfl (e := 3) (i := i0) (z := .int .i64 0) (bytes := 8) Try.underlying28 hi hz0 hz1 hz2 rfl rfl ((HRW.out _ _ h2.out.1).1.mono ((Below.refl _ _).alloc (Nat.le_refl _) _)) _ [VI x] rfl (one_src W2 x) (by unfold maxLen; simp; omega) (by simp; omega) ?_; intro v' w1 hg; obtain ⟨q1, q2, ⟨a', c', rfl⟩, q3, HE2⟩ := HN.out _ _ _ _ h2.out.1 h2.out.2 HEN.out hg; clear hg))
      exact HE2.out
    · have hlt : decide ((gs.length : Int) < (more : Int)) = false := decide_eq_false (by omega)
      have hen : gs ++ x :: ys = left ++ PP (min (gs.length + 1) more) := by
        have h1 : min gs.length more = more := by omega
        have h2 : min (gs.length + 1) more = more := by omega
        rw [h2]; rwa [h1] at e1
      have HEN := Lib.hid hen
      clear hen hnext hrow hfix hs e1 hl
      gi_wp2_with (gi_at_builtin; refine wpListIn_append_off _ rfl _ _ 28 28 rfl (e := 3) (i := i0) (z := .int .i64 0) (bytes := 8) Try.underlying28 hi hz0 hz1 hz2 rfl rfl ((HRW.out _ _ HS.out).1.mono ((Below.refl _ _).alloc (Nat.le_refl _) _)) _ [VI x] rfl (one_src W x) (by unfold maxLen; simp; omega) (by simp; omega) ?_; intro v' w1 hg; obtain ⟨q1, q2, ⟨a', c', rfl⟩, q3, HE2⟩ := HN.out _ _ _ _ HS.out (KeepsOthers.refl _) HEN.out hg; clear hg)
      exact HE2.out
  case stop =>
    rintro D c W hD ⟨ys, vg, gs, ⟨h, -⟩, -⟩ hK
    exact h.elim
  case done =>
    rintro D W hD ⟨ys, vg, gs, ⟨rfl, e0, e1⟩, hs⟩ hK
    have hq1 := hs.q1
    have hWb := hs.below
    have x5 := hs.fixed i5.out
    have x6 := hs.fixed i6.out
    have x7 := hs.fixed i7.out
    have hrow := (hs.step (show w.heap.size ≤ B9 by omega) 0).2.1
    have c9 := (hs.step (show w.heap.size ≤ B9 by omega) 0).1
    have hln : ∀ (ty : TypeId) (w' : World), (Builtin.len_ #[28] ty #[vg]).run Try.prog w' = .ok (.int .i64 gs.length) w' := by
      intro ty w'
      obtain ⟨ag, cg, rfl⟩ : ∃ a c, vg = .slice a gs.length c := by
        rcases hrow with ⟨rfl, h0⟩ | ⟨g, o, c, rfl, -⟩
        · exact ⟨none, 0, by rw [List.map_eq_nil_iff.1 h0]; rfl⟩
        · exact ⟨_, c, by rw [List.length_map]⟩
      exact run_len_slice w' 28 ty ag gs.length cg Try.underlying28
    have hbox : ∀ W', Below W.heap.size W W' → W'.cell? ⟨B9, 0, none⟩ = some vg ∧ W'.cell? ⟨B7, 0, none⟩ = some (.pointer (some ⟨q, 0, none⟩)) ∧ W'.cell? ⟨w.heap.size, 0, none⟩ = some (.int .i64 more) := fun W' hb => by
      have h' := hs.alloc hb
      exact ⟨(h'.step (show w.heap.size ≤ B9 by omega) 0).1, by rw [cells_of (h'.fixed i7.out)]; rfl, by rw [cells_of (h'.fixed i5.out)]; rfl⟩
    obtain ⟨-, c7, c5⟩ := hbox W (Below.refl _ _)
    have hlc : ∀ W', Below W.heap.size W W' → Calls Try.prog 15 #[.pointer (some ⟨q, 0, none⟩)] W' fun e w' => e = .returned (.int .i64 0) ∧ W' = w' := fun W' hb => by
      have := (hq1.alloc hb).len; simpa using this
    have HLC := Lib.hid hlc
    have HBX := Lib.hid hbox
    have HRO := Lib.hid hrow
    have HKD := Lib.hid hK
    have HWb := Lib.hid hWb
    have X6 := Lib.hid x6
    have hDw : w.heap.size + 1 ≠ D := by have := HZ10.out; omega
    have HDw := Lib.hid hDw
    have HDl : Hid (w.heap.size ≤ D) := Lib.hid (by have := HZ10.out; omega)
    have hW0 : Hid (Below W.heap.size W W) := Lib.hid (Below.refl _ _)
    clear hlc hbox hrow hK hq1 hs x5 x6 x7 hWb hDw
    by_cases hL : left.length = 0
    · have hgs : gs = [] := e0 hL
      subst hgs
      have hLz := HLl.out
      have hl1 : (((z0.length - m : Nat) : Int) == 0) = true := by simp; omega
      have hl2 : (((z0.length : Int) - (m : Int)) == 0) = true := by simp; omega
      simp only [List.length_nil] at hln
      clear hLz e0 e1
      go_wp2_with fail
      refine (HLC.out W hW0.out).mono ?_
      rintro e w' ⟨rfl, rfl⟩
      go_wp2_with fail
      refine (wakes_any W).mono ?_
      rintro e wd ⟨rfl, bd⟩
      have hbd := hW0.out.trans (bd.mono hW0.out.size)
      have hb6 := (hbd.block _ (heap_lt X6.out)).trans X6.out
      have hWd := HWb.out.trans (hbd.mono HWb.out.size)
      have hKe := (hbd.block _ (heap_lt HKD.out)).trans HKD.out
      have c6 : wd.cell? ⟨w.heap.size + 1, 0, none⟩ = some (.bool false) := by rw [cells_of hb6]; rfl
      have f6 : wd.frozen? ⟨w.heap.size + 1, 0, none⟩ = false := frozen_of hb6
      have Hb6 := Lib.hid hb6
      have HKe := Lib.hid hKe
      have HWd := Lib.hid hWd
      clear hbd hb6 hWd hKe bd
      go_wp2_with fail
      have hKs := (Below.heap_setCell wd ⟨w.heap.size + 1, 0, none⟩ (.bool true) D (by simpa using HDw.out.symm)).trans HKe.out
      refine ⟨by simp, .inl ⟨_, _, rfl, run_takeDeferred hKs, ?_⟩⟩
      refine ⟨_, results_boolcell rfl _ _ (w.heap.size + 1) true rfl (by rw [cells_of (kept_blk (set_bool Hb6.out) (grownBy_putObj' _ D _) (fun r e => by cases e; exact ⟨_, hKs, rfl⟩))]; rfl), rfl, ?_⟩
      exact (belowset HWd.out (by omega) _).trans (belowK_b (w := w) (Nat.le_refl _) _ D _ _ HDl.out hKs rfl rfl)
    · have hgs : gs = left ++ PP more := e1 hL
      have HGS := Lib.hid hgs
      have hLz := HLl.out
      have hl1 : (((z0.length - m : Nat) : Int) == 0) = false := by simp; omega
      have hl2 : (((z0.length : Int) - (m : Int)) == 0) = false := by simp; omega
      have hleft100 : left.length ≤ 100 := by omega
      have hre := HRE2.out W HWb.out
      have hcp := (copy_any W _ left hre (by omega)).mono (R' := fun e w' => ∃ a c, e = .returned (.slice a left.length c) ∧ Hid (Fresh W w' (.slice a left.length c) (left.map VI))) (by
        rintro e w' ⟨v, rfl, hf⟩
        rcases id hf.1 with ⟨rfl, h0⟩ | ⟨g, o, c, rfl, -⟩
        · exact ⟨none, 0, by rw [List.map_eq_nil_iff.1 h0]; rfl, by rw [List.map_eq_nil_iff.1 h0] at hf ⊢; exact hf⟩
        · rw [List.length_map] at hf ⊢; exact ⟨_, _, rfl, hf⟩)
      have HCP := Lib.hid hcp
      clear hLz e0 e1 hre hcp hgs hL
      go_wp2_with fail
      refine HCP.out.mono ?_
      rintro e wp ⟨ap, cp, rfl, hfp⟩
      clear c5 c7 c9
      go_wp2_with fail
      go_loopw [11, 12] (fun wv i wr => ∃ (k : Nat) (aw : Option Addr) (cw : Nat), k ≤ more ∧ i = .int .i64 k ∧ wv = .slice aw (left.length + k) cw ∧ Hid (OffRow wr 3 (.slice aw (left.length + k) cw) ((left ++ PP k).map VI) ∧ Below W.heap.size W wr ∧ ∀ g, (Value.slice aw (left.length + k) cw).ownBlock = some g → W.heap.size ≤ g)) (fun _ i _ => more - (intOf i).toNat)
      case atStart => exact ⟨0, ap, cp, Nat.zero_le _, rfl, rfl, by simpa [PP] using hfp.out.1, hfp.out.2.1, hfp.out.2.2⟩
      case round =>
        obtain ⟨k, aw, cw, hk, rfl, rfl, hI⟩ := hrel
        obtain ⟨c9, c7, c5⟩ := HBX.out wr hI.out.2.1
        by_cases hlt : k < more
        · have hstep : ∀ v' w1, Grew (wr.alloc (.cells #[.int .i64 (1000 + (k : Int))] 3)) 3 (.slice aw (left.length + k) cw) ((left ++ PP k).map VI ++ [VI (1000 + (k : Int))]) v' w1 → ∃ a c, v' = .slice a (left.length + (k + 1)) c ∧ Hid (OffRow w1 3 (.slice a (left.length + (k + 1)) c) ((left ++ PP (k + 1)).map VI) ∧ Below W.heap.size W w1 ∧ ∀ g, (Value.slice a (left.length + (k + 1)) c).ownBlock = some g → W.heap.size ≤ g) := by
            intro v' w1 hg
            obtain ⟨g1, g2, g3, -⟩ := hg
            have e : (left ++ PP k).map VI ++ [VI (1000 + (k : Int))] = (left ++ PP (k + 1)).map VI := by rw [PP_succ]; simp
            rw [e] at g1
            have hA : Below wr.heap.size wr (wr.alloc (.cells #[.int .i64 (1000 + (k : Int))] 3)) := (Below.refl _ _).alloc (Nat.le_refl _) _
            have hb1 := hI.out.2.1.trans (hA.mono hI.out.2.1.size)
            have hown : ∀ g, v'.ownBlock = some g → W.heap.size ≤ g := fun g hg => by
              rcases g3 with g3 | ⟨g', g3, g4⟩
              · exact hI.out.2.2 g (by rw [← g3]; exact hg)
              · rw [g3] at hg; cases hg; exact Nat.le_trans hb1.size g4
            obtain ⟨a, c, rfl⟩ : ∃ a c, v' = .slice a (left.length + (k + 1)) c := by
              rcases g1 with ⟨_, h0⟩ | ⟨g, o, c, q1, -⟩
              · simp [PP_succ] at h0
              · exact ⟨some ⟨g, o, none⟩, c, by rw [q1]; simp [PP_length]⟩
            exact ⟨a, c, rfl, g1, hb1.grown g2 hb1.size (fun g hg => hI.out.2.2 g hg.symm.symm), hown⟩
          have HST2 := Lib.hid hstep
          have hkm : decide (k < more) = true := decide_eq_true hlt
          clear hstep
          go_wp2_with (at_builtin; refine wpList_append_off _ rfl _ _ 28 28 rfl (e := 3) (i := i0) (z := .int .i64 0) (bytes := 8) Try.underlying28 hi hz0 hz1 hz2 rfl rfl (hI.out.1.mono ((Below.refl _ _).alloc (Nat.le_refl _) _)) _ [VI (1000 + (k : Int))] rfl (one_src wr (1000 + (k : Int))) (by unfold maxLen; simp [PP_length]; omega) (by simp [PP_length]; omega) ?_; intro v' w1 hg; obtain ⟨a', c', rfl, hI2⟩ := HST2.out _ _ hg; clear hg)
          go_roundw
          case rel => exact ⟨k + 1, _, _, by omega, by go_num, rfl, hI2⟩
          case measure => simp [intOf]; omega
        · obtain rfl : k = more := by omega
          have hkm : decide (k < k) = false := decide_eq_false (by omega)
          have hrv := HRO.out.mono hI.out.2.1
          have hiv := ints_any wr vg _ gs (left ++ PP k) hrv.reads hI.out.1.reads true (by rw [HGS.out]; simp)
          have HIV := Lib.hid hiv
          clear hrv hiv
          go_wp2_with fail
          refine HIV.out.mono ?_
          rintro e wa ⟨rfl, hba⟩
          have Hba := Lib.hid (hI.out.2.1.trans (hba.mono hI.out.2.1.size))
          clear c9 c7 c5 hba
          obtain ⟨c9, c7, c5⟩ := HBX.out wa Hba.out
          go_wp2_with fail
          refine (HLC.out wa Hba.out).mono ?_
          rintro e w' ⟨rfl, rfl⟩
          go_wp2_with fail
          refine (wakes_any wa).mono ?_
          rintro e wd ⟨rfl, bd⟩
          have hbd := Hba.out.trans (bd.mono Hba.out.size)
          have hb6 := (hbd.block _ (heap_lt X6.out)).trans X6.out
          have hWd := HWb.out.trans (hbd.mono HWb.out.size)
          have hKe := (hbd.block _ (heap_lt HKD.out)).trans HKD.out
          have c6 : wd.cell? ⟨w.heap.size + 1, 0, none⟩ = some (.bool false) := by rw [cells_of hb6]; rfl
          have f6 : wd.frozen? ⟨w.heap.size + 1, 0, none⟩ = false := frozen_of hb6
          have Hb6 := Lib.hid hb6
          have HKe := Lib.hid hKe
          have HWd := Lib.hid hWd
          clear hbd hb6 hWd hKe bd
          go_wp2_with fail
          have hKs := (Below.heap_setCell wd ⟨w.heap.size + 1, 0, none⟩ (.bool true) D (by simpa using HDw.out.symm)).trans HKe.out
          refine ⟨by simp, .inl ⟨_, _, rfl, run_takeDeferred hKs, ?_⟩⟩
          refine ⟨_, results_boolcell rfl _ _ (w.heap.size + 1) true rfl (by rw [cells_of (kept_blk (set_bool Hb6.out) (grownBy_putObj' _ D _) (fun r e => by cases e; exact ⟨_, hKs, rfl⟩))]; rfl), rfl, ?_⟩
          exact (belowset HWd.out (by omega) _).trans (belowK_b (w := w) (Nat.le_refl _) _ D _ _ HDl.out hKs rfl rfl)
theorem drains_walk (w : World) (a0 : Option Addr) (len0 cap0 : Nat) (z0 : List Int) (h0 : ArgI w a0 len0 cap0 z0) (n1 : Int) (r1 : InR n1) (n2 : Int) (r2 : InR n2) :
    Calls Try.prog 5 #[.slice a0 len0 cap0, .int .i64 n1, .int .i64 n2] w fun e w' => e = .returned (.bool true) ∧ Below w.heap.size w w' := by
  by_cases hlong : 100 < len0
  · exact drains_long w a0 len0 cap0 z0 h0 n1 n2 hlong
  obtain ⟨rfl, r0, m0, -⟩ := h0.elim
  obtain ⟨m, hm⟩ : ∃ m : Nat, n1 % ((z0.length + 1 : Nat) : Int) = m := ⟨(n1 % ((z0.length + 1 : Nat) : Int)).toNat, by have := Int.emod_nonneg n1 (show ((z0.length + 1 : Nat) : Int) ≠ 0 by omega); omega⟩
  have hm3 : m ≤ z0.length := by have := Int.emod_lt_of_pos n1 (show (0 : Int) < ((z0.length + 1 : Nat) : Int) by omega); omega
  have hcap : z0.length ≤ cap0 := by
    obtain ⟨a', c', he, h1, h2, -⟩ := id r0
    obtain ⟨-, -, rfl⟩ := Value.slice.inj he
    simpa using h1
  by_cases hc : cap0 = m
  · exact drains_full w a0 z0 (by omega) n1 n2 r1 r2 m cap0 r0 hm hm3 hc
  · obtain ⟨b, off, rfl⟩ : ∃ b off, a0 = some ⟨b, off, none⟩ := by
      obtain ⟨a', c', he, h1, h2, h3⟩ := id r0
      obtain ⟨rfl, -, rfl⟩ := Value.slice.inj he
      rcases h3 with h3 | ⟨b, off, h4, -⟩
      · omega
      · exact ⟨b, off, h4⟩
    exact drains_main w b off cap0 z0 r0 (by omega) n1 n2 r1 r2 m hm hm3 (by omega)
end Go.Proofs.Ythieabhemiikhaa
