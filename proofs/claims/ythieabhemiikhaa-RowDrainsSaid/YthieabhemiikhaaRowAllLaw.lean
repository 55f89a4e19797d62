/-
  The walk of the law RowAll.
-/
import Derived.Test.YthieabhemiikhaaRowAllWalk
import Derived.Stop.RegionWithIn
namespace Go.Proofs.Ythieabhemiikhaa
set_option linter.unusedVariables false
open Go.RowKit Go.Shelf
attribute [local go_sem] Oper.semAt_some
theorem set_bool {w : World} {b : Nat} {v u : Value} {t : TypeId} {f : Nat × Nat} (h : w.heap[b]? = some (.cells #[v] t f)) : (w.setCell ⟨b, 0, none⟩ u).heap[b]? = some (.cells #[u] t f) := by
  simp [World.setCell, Array.getElem?_modify, h]
theorem belowset {B : Nat} {a w : World} {b : Nat} (h : Below B a w) (hb : B ≤ b) (v : Value) : Below B a (w.setCell ⟨b, 0, none⟩ v) := h.setCell (p := ⟨b, 0, none⟩) hb v
set_option maxRecDepth 100000 in
set_option maxHeartbeats 4000000 in
theorem rowall_long (w : World) (a0 : Option Addr) (len0 cap0 : Nat) (z0 : List Int) (h0 : ArgI w a0 len0 cap0 z0) (n1 : Int) (h : 100 < len0) :
    Calls Try.prog 4 #[.slice a0 len0 cap0, .int .i64 n1] w fun e w' => e = .returned (.bool true) ∧ Below w.heap.size w w' := by
  obtain ⟨-, -, m0, -⟩ := h0.elim
  unfold maxLen at m0
  obtain ⟨W2, hW2⟩ : ∃ W2, W2 = w.alloc (.cells #[.bool false] 4) := ⟨_, rfl⟩
  have bb : Below w.heap.size w W2 := by rw [hW2]; exact (Below.refl _ _).alloc (Nat.le_refl _) _
  have b4 : Hid (W2.heap[w.heap.size]? = some (.cells #[.bool false] 4 (0, 0))) := Lib.hid (by rw [hW2]; exact new_at rfl)
  have HW2 := Lib.hid hW2
  have hd1 : decide (100 < (len0 : Int)) = true := decide_eq_true (by omega)
  clear hW2 h0
  refine callsIn_wide.1 (callsIn_of_wp_marks (n := 3) Try.func4 rfl trivial (wpIn_wide.2 ?_) rfl)
  simp only [Try.ntmps4, List.size_toArray, List.length_cons, List.length_nil, Nat.reduceAdd, Nat.reduceSub, Array.replicate_succ, Array.replicate_zero, List.push_toArray, List.append_toArray, List.nil_append, List.cons_append]
  go_wp2_with fail
  rw [← HW2.out]
  refine (wakes_any W2).mono ?_
  rintro e wd ⟨rfl, bc⟩
  have hb4 := (bc.block _ (heap_lt b4.out)).trans b4.out
  have ba := bb.trans (bc.mono bb.size)
  have c4 : wd.cell? ⟨w.heap.size, 0, none⟩ = some (.bool false) := by rw [cells_of hb4]; rfl
  have f4 : wd.frozen? ⟨w.heap.size, 0, none⟩ = false := frozen_of hb4
  have Hb4 := Lib.hid hb4
  clear hb4 bc
  go_wp2_with fail
  refine ⟨_, results_boolcell rfl _ _ w.heap.size true rfl (by rw [cells_of (set_bool Hb4.out)]; rfl), rfl, belowset ba (Nat.le_refl _) _⟩
set_option maxRecDepth 100000 in
set_option maxHeartbeats 16000000 in
theorem rowall_walk (w : World) (a0 : Option Addr) (len0 cap0 : Nat) (z0 : List Int) (h0 : ArgI w a0 len0 cap0 z0) (n1 : Int) (r1 : InR n1) :
    Calls Try.prog 4 #[.slice a0 len0 cap0, .int .i64 n1] w fun e w' => e = .returned (.bool true) ∧ Below w.heap.size w w' := by
  by_cases hlong : 100 < len0
  · exact rowall_long w a0 len0 cap0 z0 h0 n1 hlong
  obtain ⟨rfl, r0, m0, -⟩ := h0.elim
  have hd : decide (100 < (z0.length : Int)) = false := decide_eq_false (by omega)
  have hlen : z0.length ≤ 100 := by omega
  have hcap : z0.length ≤ cap0 ∧ cap0 ≤ 9223372036854775807 := by
    obtain ⟨a', c', he, h1, h2, -⟩ := id r0
    obtain ⟨-, -, rfl⟩ := Value.slice.inj he
    unfold maxLen at h2
    exact ⟨by simpa using h1, h2⟩
  obtain ⟨hcap1, hcap2⟩ := hcap
  have hci : (z0.length : Int) ≤ (cap0 : Int) := by omega
  have HR0 := Lib.hid r0
  obtain ⟨W2, hW2⟩ : ∃ W2, W2 = w.alloc (.cells #[.bool false] 4) := ⟨_, rfl⟩
  have bb : Below w.heap.size w W2 := by rw [hW2]; exact (Below.refl _ _).alloc (Nat.le_refl _) _
  have b4 : Hid (W2.heap[w.heap.size]? = some (.cells #[.bool false] 4 (0, 0))) := Lib.hid (by rw [hW2]; exact new_at rfl)
  have hmade := made_any W2 _ _ (r0.mono bb) VI_one (by simp; omega)
  have HM := Lib.hid hmade
  have HW2 := Lib.hid hW2
  obtain ⟨m, hm⟩ : ∃ m : Nat, n1 % ((z0.length + 1 : Nat) : Int) = m := ⟨(n1 % ((z0.length + 1 : Nat) : Int)).toNat, by have := Int.emod_nonneg n1 (show ((z0.length + 1 : Nat) : Int) ≠ 0 by omega); omega⟩
  have hm3 : m ≤ z0.length := by have := Int.emod_lt_of_pos n1 (show (0 : Int) < ((z0.length + 1 : Nat) : Int) by omega); omega
  have hwi := fun W => within_all W n1 (z0.length + 1) r1.1 r1.2 (by omega) (by omega)
  rw [hm] at hwi
  have hwi : ∀ W, Calls Try.prog 11 #[.int .i64 n1, .int .i64 ((z0.length : Int) + 1)] W fun e w' => e = .returned (.int .i64 m) ∧ W = w' := fun W => by
    have := hwi W; simpa using this
  have HWI := Lib.hid hwi
  rename_i hwi0
  clear hwi hwi0 hmade hW2 r0 h0 hlong m0 hm
  refine callsIn_wide.1 (callsIn_of_wp_marks (n := 3) Try.func4 rfl trivial (wpIn_wide.2 ?_) rfl)
  simp only [Try.ntmps4, List.size_toArray, List.length_cons, List.length_nil, Nat.reduceAdd, Nat.reduceSub, Array.replicate_succ, Array.replicate_zero, List.push_toArray, List.append_toArray, List.nil_append, List.cons_append]
  go_wp2_with fail
  rw [← HW2.out]
  refine HM.out.mono ?_
  rintro e w1 ⟨q, vq, rfl, hq, hQ, hB1, hv⟩
  have bb1 := bb.trans (hB1.mono bb.size)
  have hqw : w.heap.size ≤ q := Nat.le_trans bb.size hq
  have hvw : ∀ g, vq.ownBlock = some g → w.heap.size ≤ g := fun g hg => Nat.le_trans bb.size (hv g hg)
  have b4 := Lib.hid ((hB1.block _ (heap_lt b4.out)).trans b4.out)
  obtain ⟨W3, hW3⟩ : ∃ W3, W3 = w1.alloc (.cells #[.pointer (some ⟨q, 0, none⟩)] 23) := ⟨_, rfl⟩
  obtain ⟨B5, hB5⟩ : ∃ B5, B5 = w1.heap.size := ⟨_, rfl⟩
  have ba : Below w1.heap.size w1 W3 := by rw [hW3]; exact (Below.refl _ _).alloc (Nat.le_refl _) _
  have b5 : Hid (W3.heap[B5]? = some (.cells #[.pointer (some ⟨q, 0, none⟩)] 23 (0, 0))) := Lib.hid (by rw [hW3]; exact new_at hB5)
  have b4 := Lib.hid ((ba.block _ (heap_lt b4.out)).trans b4.out)
  have hQ3 := Lib.hid (hQ.mono ba)
  have bb3 := bb1.trans (ba.mono bb1.size)
  have HW3 := Lib.hid hW3
  have HB5 := Lib.hid hB5
  have HVW := Lib.hid hvw
  have c5 : W3.cell? ⟨B5, 0, none⟩ = some (.pointer (some ⟨q, 0, none⟩)) := by rw [cells_of b5.out]; rfl
  have hK : ∀ W', Below W3.heap.size W3 W' → W'.cell? ⟨B5, 0, none⟩ = some (.pointer (some ⟨q, 0, none⟩)) := fun W' hb => (hb.cell (p := ⟨B5, 0, none⟩) (heap_lt b5.out)).trans (by rw [cells_of b5.out]; rfl)
  have HK := Lib.hid hK
  clear hB1 hv ba hQ hvw bb1 hB5 hW3 hK HM
  go_wp2_with fail
  rw [← HW3.out, ← HB5.out]
  refine (HWI.out W3).mono ?_
  rintro e w' ⟨rfl, rfl⟩
  have hmi : (m : Int) ≤ (z0.length : Int) := by omega
  have hmi2 : (m : Int) ≤ (cap0 : Int) := by omega
  have hB0 : Hid (Below W3.heap.size W3 W3.drew) := Lib.hid (Below.refl _ _).drew
  have hfi : ∀ W', Below W3.heap.size W3 W' → Calls Try.prog 20 #[.func (.func 30) #[] #[.pointer (some ⟨W'.heap.size, 0, none⟩)], .int .i64 m] (W'.alloc (.cells #[.pointer (some ⟨q, 0, none⟩)] 23)) (ListOut (W'.alloc (.cells #[.pointer (some ⟨q, 0, none⟩)] 23)) (z0.take m)) := fun W' hb => by
    have hA : Below W'.heap.size W' (W'.alloc (.cells #[.pointer (some ⟨q, 0, none⟩)] 23)) := (Below.refl _ _).alloc (Nat.le_refl _) _
    exact first_all _ W'.heap.size q vq 1000 z0 (by omega) (new_at rfl) ((hQ3.out.mono hb).mono hA) m (by omega)
  have hre : ∀ W', Below W3.heap.size W3 W' → Reads W' (.slice a0 m cap0) ((z0.take m).map VI) := fun W' hb => by
    obtain ⟨a', c', he, h1, h2, h3⟩ := HR0.out.mono (bb3.trans (hb.mono bb3.size))
    obtain ⟨rfl, -, rfl⟩ := Value.slice.inj he
    refine ⟨a0, cap0, by rw [List.length_map, List.length_take]; congr 1; omega, by rw [List.length_map, List.length_take]; omega, h2, ?_⟩
    rcases h3 with h3 | ⟨b, off, h4, h5, h6⟩
    · exact .inl h3
    · refine .inr ⟨b, off, h4, h5, fun j hj => ?_⟩
      simp only [List.length_map, List.length_take] at hj
      rw [h6 j (by simp; omega)]
      simp
  have HFI := Lib.hid hfi
  have HRE := Lib.hid hre
  clear hfi hre HWI
  go_wp2_with fail
  go_region_held3 (fun w' => Below W3.heap.size W3 w' ∧ w'.cell? ⟨B5, 0, none⟩ = some (.pointer (some ⟨q, 0, none⟩)))
    (first | exact ⟨hB4.out, HK.out _ hB4.out⟩ | exact ⟨hB3.out, HK.out _ hB3.out⟩ | exact ⟨hB2.out, HK.out _ hB2.out⟩ | exact ⟨hB1.out, HK.out _ hB1.out⟩ | exact ⟨hB0.out, HK.out _ hB0.out⟩ | go_keep)
    (first
      | (go_at_call 18; refine (all_any _ q).mono ?_; rintro e wa ⟨rfl, rfl⟩; have hB1 : Hid (Below W3.heap.size W3 (W3.drew.alloc (.cells #[.pointer (some ⟨q, 0, none⟩)] 23))) := Lib.hid (hB0.out.alloc hB0.out.size _))
      | (go_at_call 20; refine (HFI.out _ hB0.out).mono ?_; rintro e wb ⟨vf, rfl, hf⟩; have hB2 := Lib.hid (hB1.out.trans (hf.2.1.mono hB1.out.size)); have HF := Lib.hid hf; clear hf)
      | (go_at_call 16; refine (ints_any wb vf _ (z0.take m) (z0.take m) HF.out.1.reads (HRE.out _ hB2.out) true (by simp)).mono ?_; rintro e wc ⟨rfl, hbc⟩; have hB3 := Lib.hid (hB2.out.trans (hbc.mono hB2.out.size)); clear hbc))
  have c5 := HK.out _ hB3.out
  rename_i hHeld
  clear hHeld HF HFI HRE hB0 hB1 hB2
  obtain ⟨W6, hW6⟩ : ∃ W6, W6 = wc.alloc (.cells #[.slice none 0 0] 28) := ⟨_, rfl⟩
  obtain ⟨B6, hB6⟩ : ∃ B6, B6 = wc.heap.size := ⟨_, rfl⟩
  have bA : Below wc.heap.size wc W6 := by rw [hW6]; exact (Below.refl _ _).alloc (Nat.le_refl _) _
  have hB36 := hB3.out.trans (bA.mono hB3.out.size)
  have hB5l : B5 < wc.heap.size := Nat.lt_of_lt_of_le (heap_lt b5.out) hB3.out.size
  have hbx : Boxed W6 B6 28 (.slice none 0 0) := by rw [hW6]; exact new_at hB6
  have HW6 := Lib.hid hW6
  have HB6 := Lib.hid hB6
  obtain ⟨W7, hW7⟩ : ∃ W7, W7 = W6.alloc (.cells #[.pointer (some ⟨q, 0, none⟩)] 23) := ⟨_, rfl⟩
  obtain ⟨B7, hB7⟩ : ∃ B7, B7 = W6.heap.size := ⟨_, rfl⟩
  have bC : Below W6.heap.size W6 W7 := by rw [hW7]; exact (Below.refl _ _).alloc (Nat.le_refl _) _
  have hB37 := hB36.trans (bC.mono hB36.size)
  have b7 : W7.heap[B7]? = some (.cells #[.pointer (some ⟨q, 0, none⟩)] 23 (0, 0)) := by rw [hW7]; exact new_at hB7
  have hQB : QB w w.heap.size B5 q B6 z0.length (.slice none 0 0) [] W7 :=
    ⟨vq, _, bb3.trans (hB37.mono bb3.size), hQ3.out.mono hB37, by simp, (bC.block _ hbx.lt).trans hbx, OffRow.nil _ _, HVW.out, by simp [Value.ownBlock], by simp [Value.ownBlock], (hB37.block _ (heap_lt b4.out)).trans b4.out, (hB37.block _ (heap_lt b5.out)).trans b5.out⟩
  have hsz : q < W7.heap.size ∧ B6 < W7.heap.size ∧ w.heap.size ≤ B6 ∧ w.heap.size ≤ W7.heap.size := by
    have h1 := (hQ3.out.mono hB37).lt
    have h2 := hbx.lt
    have h3 := bC.size
    have h4 := hB3.out.size
    have h5 := bb3.size
    have h6 := hB37.size
    exact ⟨h1, by omega, by omega, by omega⟩
  have hseq := all_stops (OQ q B6) 2 B7 q vq 1000 z0 (by omega) W7 b7 (hQ3.out.mono hB37) (by
    intro W1 k hb ho
    rcases ho with rfl | ⟨v, h1, h2⟩ | ho
    · exact hsz.1
    · rw [((hQ3.out.mono hB37).mono hb).cells.1] at h1; cases h1
      exact (hQ3.out.mono hB37).2.lt h2
    · exact OBox.far' ((bC.block _ hbx.lt).trans hbx) W1 k hb ho)
  have HSQ := Lib.hid hseq
  have HQB := Lib.hid hQB
  have HSZ := Lib.hid hsz
  have HW7 := Lib.hid hW7
  have HB7 := Lib.hid hB7
  have HB37 := Lib.hid hB37
  have HB60 := Lib.hid (hB3.out.size)
  clear hseq hQB hsz hW7 hB7 b7 bC bA hW6 hB6 hbx hB36 hB37
  obtain ⟨i0, hi, hz0, hz1, hz2⟩ := infoI'
  have hef := fun (a : Array Value) => eql_func_nilI (.func 30) #[] a
  go_wp2_with fail
  rw [← HW6.out, ← HB6.out]
  refine (all_any W6 q).mono ?_
  rintro e wz ⟨rfl, rfl⟩
  rw [← HW7.out, ← HB7.out]
  go_wp2_with fail
  refine (wpIn_wide (n := 3)).1 ?_
  obtain ⟨g1, g2, g3, g4⟩ := HSZ.out
  refine wpIn_rangeFunc_ownG rfl (by omega) (gf := 30) (lb := #[.pointer (some ⟨B7, 0, none⟩)]) rfl trivial (enters_of Try.func30 (by kernel_rfl) rfl)
    HSQ.out (fun h k => KO.trans h k) (fun W l o o' hl h hc _ => OQ.kb (by omega) (by omega) h hc) (Below.refl _ _) (fun _ => rfl)
    (fun pre W => ∃ vg, QB w w.heap.size B5 q B6 (z0.length + pre.length) vg pre W)
    (fun _ _ _ => False)
    (QB.ownFrom w w.heap.size B5 q B6 (fun pre => z0.length + pre.length) (fun pre => pre) g4)
    (fun _ _ _ _ _ hs _ _ => hs)
    ⟨_, HQB.out⟩
    (fun x => { tmps := #[.slice a0 z0.length cap0, .int .i64 m, undef, undef, .pointer (some ⟨w.heap.size, 0, none⟩), .pointer (some ⟨B5, 0, none⟩), .pointer (some ⟨B6, 0, none⟩), .func (.func 30) #[] #[.pointer (some ⟨B7, 0, none⟩)], .int .i64 x, .slice a0 z0.length cap0, .int .i64 z0.length, .bool false, undef, .slice a0 z0.length cap0, .pointer (some ⟨q, 0, none⟩), .pointer (some ⟨q, 0, none⟩), .bool false, .int .i64 n1, .slice a0 z0.length cap0, .int .i64 z0.length, .int .i64 ((z0.length : Int) + 1), .int .i64 m, .pointer (some ⟨q, 0, none⟩), .func (.func 30) #[] #[.pointer (some ⟨W3.heap.size, 0, none⟩)], .int .i64 m, vf, .slice a0 z0.length cap0, .int .i64 m, .slice a0 m cap0, .bool true, .bool false, .pointer (some ⟨q, 0, none⟩), .func (.func 30) #[] #[.pointer (some ⟨B7, 0, none⟩)], .func (.func 30) #[] #[.pointer (some ⟨B7, 0, none⟩)], .bool false, .func (.func 30) #[] #[.pointer (some ⟨B7, 0, none⟩)], .int .i64 x, undef, undef, undef, undef, undef, undef, undef, undef, undef, undef, undef, undef, undef, undef, undef, undef, undef, undef, undef, undef, undef, undef, undef, undef, undef, undef, undef, undef], defers := [] }) ?assign ?body ?done ?stop
  case assign =>
    intro l x W K hK
    gi_wp2
    exact hK
  case body =>
    rintro l pre x W ⟨vg, hI⟩ hlt
    obtain ⟨c5, c6⟩ := hI.c5
    obtain ⟨c, hc⟩ : ∃ c, z0.length + pre.length = c + 1 := ⟨z0.length + pre.length - 1, by omega⟩
    have hI0 := hI
    rw [hc] at hI0
    have hpop := CallsIn.inRound l (callsIn_wide (n := 3 - 1 - 1 - 1).2 (hI0.pop hqw))
    have hpush := fun W1 (h : QB w w.heap.size B5 q B6 c vg pre W1) y => CallsIn.inRound l (callsIn_wide (n := 3 - 1 - 1 - 1).2 (h.push hqw (by omega) y 7))
    have HPO := Lib.hid hpop
    have HPU := Lib.hid hpush
    have HI := Lib.hid hI
    clear hpop hpush hI hI0
    gi_wp2_with (first
      | (refine ⟨trivial, ?_⟩; gi_at_call 13; refine HPO.out.mono ?_; rintro e W1 ⟨⟨p1, p2, rfl⟩, h1⟩; clear c5 c6; obtain ⟨c5, c6⟩ := h1.out.1.c5)
      | (refine ⟨trivial, ?_⟩; gi_at_call 12; refine (HPU.out _ h1.out.1 _).mono ?_; rintro e W2 ⟨rfl, h2⟩; clear c5 c6; obtain ⟨c5, c6⟩ := h2.out.1.c5)
      | (gi_at_builtin; refine wpListIn_append_off _ rfl _ _ 28 28 rfl (e := 3) (i := i0) (z := .int .i64 0) (bytes := 8) Try.underlying28 hi hz0 hz1 hz2 rfl rfl (QB.row h2.out.1) _ [VI x] rfl (one_src W2 x) (by unfold maxLen; simp; omega) (by simp; omega) ?_; intro v' w1 hg; obtain ⟨e1, e2, e3, ⟨a', c', rfl⟩, HE⟩ := QB.appended h2.out.1 g3 hg; clear hg))
    have hst := (h1.out.2.trans h2.out.2).trans HE.out.2
    have hcc : z0.length + (pre ++ [x]).length = c + 2 := by simp; omega
    exact ⟨hst.1.from _, hst.2, _, by rw [hcc]; exact HE.out.1⟩
  case done =>
    rintro D zs W hD rfl ⟨vg, hI⟩ hK
    obtain ⟨c5, c6⟩ := hI.c5
    have hrd : Reads W vg (zs.map VI) := by obtain ⟨vq, ys, h1, h2, h3, h4, h5, -⟩ := hI; exact h5.reads
    obtain ⟨ag, cg, rfl, -⟩ := id hrd
    simp only [List.length_map] at c6 hI hrd
    have hWb : Below w.heap.size w W := by obtain ⟨vq, ys, h1, -⟩ := hI; exact h1
    have hlenC : ∀ W', Below W.heap.size W W' → Calls Try.prog 15 #[.pointer (some ⟨q, 0, none⟩)] W' fun e w' => e = .returned (.int .i64 (2 * (zs.length : Int))) ∧ W' = w' := fun W' hb => by
      obtain ⟨vq, ys, h1, h2, h3, -⟩ := hI.alloc hb
      have := len_anyI W' _ _ _ _ h2
      rw [h3] at this
      have e : ((zs.length + zs.length : Nat) : Int) = 2 * (zs.length : Int) := by omega
      rw [e] at this
      exact this
    have HL := Lib.hid hlenC
    have HI := Lib.hid hI
    have HRd := Lib.hid hrd
    have HKD := Lib.hid hK
    have HWb := Lib.hid hWb
    have hDw : w.heap.size ≠ D := by omega
    have HDw := Lib.hid hDw
    clear hlenC hI hrd hK hWb hDw
    go_wp2_with fail
    refine (ints_any W _ _ zs zs HRd.out (HR0.out.mono HWb.out) true (by simp)).mono ?_
    rintro e wa ⟨rfl, ba⟩
    have hIa := HI.out.alloc ba
    obtain ⟨c5, -⟩ := hIa.c5
    have HIa := Lib.hid hIa
    have Hba := Lib.hid ba
    clear hIa ba
    go_wp2_with fail
    refine (HL.out wa Hba.out).mono ?_
    rintro e w' ⟨rfl, rfl⟩
    go_wp2_with fail
    refine (wakes_any wa).mono ?_
    rintro e wd ⟨rfl, bd⟩
    have hId := HIa.out.alloc bd
    have hbd := Hba.out.trans (bd.mono Hba.out.size)
    have hb4 : wd.heap[w.heap.size]? = some (.cells #[.bool false] 4 (0, 0)) := by obtain ⟨vq, ys, h1, h2, h3, h4, h5, h6, h7, h8, h9, h10⟩ := hId; exact h9
    have hWd : Below w.heap.size w wd := by obtain ⟨vq, ys, h1, -⟩ := hId; exact h1
    have hKe := (hbd.block _ (heap_lt HKD.out)).trans HKD.out
    have c4 : wd.cell? ⟨w.heap.size, 0, none⟩ = some (.bool false) := by rw [cells_of hb4]; rfl
    have f4 : wd.frozen? ⟨w.heap.size, 0, none⟩ = false := frozen_of hb4
    have Hb4 := Lib.hid hb4
    have HKe := Lib.hid hKe
    have HWd := Lib.hid hWd
    have HDl : Hid (w.heap.size ≤ D) := Lib.hid (by omega)
    clear hId hbd hb4 hWd hKe bd
    go_wp2_with fail
    have hKs := (Below.heap_setCell wd ⟨w.heap.size, 0, none⟩ (.bool true) D (by simpa using HDw.out.symm)).trans HKe.out
    refine ⟨by simp, .inl ⟨_, _, rfl, run_takeDeferred hKs, ?_⟩⟩
    refine ⟨_, results_boolcell rfl _ _ w.heap.size true rfl (by rw [cells_of (kept_blk (set_bool Hb4.out) (grownBy_putObj' _ D _) (fun r e => by cases e; exact ⟨_, hKs, rfl⟩))]; rfl), rfl, ?_⟩
    exact (belowset HWd.out (Nat.le_refl _) _).trans (belowK_b (w := w) (Nat.le_refl _) _ D _ _ HDl.out hKs rfl rfl)
  case stop =>
    rintro D c pre W _ _ h _
    exact h.elim
end Go.Proofs.Ythieabhemiikhaa
