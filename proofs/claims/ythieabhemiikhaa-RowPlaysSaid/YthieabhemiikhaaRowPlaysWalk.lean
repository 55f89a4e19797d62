/-
  The walk of RowPlays.
-/
import Derived.Test.YthieabhemiikhaaRowActs
import Derived.Test.YthieabhemiikhaaRowList
import Derived.Test.YthieabhemiikhaaRowWakes
namespace Go.Proofs.Ythieabhemiikhaa
set_option linter.unusedVariables false
open Go.RowKit
/-- The queue holds Q, the law's own list (value rv) reads R; they share no block. -/
def PlayM (w wr : World) (q room : Nat) (rv : Value) (R Q : List Int) : Prop :=
  ∃ vq, Below w.heap.size w wr ∧ QI wr q vq room (Q.map VI) ∧ OffRow wr 3 rv (R.map VI) ∧ (∀ g, vq.ownBlock = some g → w.heap.size ≤ g) ∧ (∀ g, rv.ownBlock = some g → w.heap.size ≤ g) ∧ (∀ g, vq.ownBlock = some g → rv.ownBlock ≠ some g) ∧ Q.length ≤ room
theorem PlayM.mono {w wr w' : World} {q room : Nat} {rv : Value} {R Q : List Int} (h : PlayM w wr q room rv R Q) (hb : Below wr.heap.size wr w') : PlayM w w' q room rv R Q := by
  obtain ⟨vq, h1, h2, h3, h4, h5, h6, h7⟩ := h
  exact ⟨vq, h1.trans (hb.mono h1.size), h2.mono hb, h3.mono hb, h4, h5, h6, h7⟩
theorem PlayM.below {w wr : World} {q room : Nat} {rv : Value} {R Q : List Int} (h : PlayM w wr q room rv R Q) : Below w.heap.size w wr := by
  obtain ⟨vq, h1, -⟩ := h; exact h1
theorem PlayM.form {w wr : World} {q room : Nat} {rv : Value} {R Q : List Int} (h : PlayM w wr q room rv R Q) : ∃ a c, rv = .slice a R.length c ∧ R.length ≤ c ∧ c ≤ maxLen := by
  obtain ⟨vq, -, -, h3, -⟩ := h
  rcases h3 with ⟨rfl, h⟩ | ⟨g, off, cap, rfl, h1, h2, -⟩
  · exact ⟨none, 0, by rw [List.map_eq_nil_iff.1 h]; rfl, by rw [List.map_eq_nil_iff.1 h]; simp, by simp⟩
  · exact ⟨_, cap, by rw [List.length_map], by simpa using h1, h2⟩
theorem AcOk.reads {w w' : World} {v : Value} {zs : List Int} (h : Reads w v (zs.map VI)) (hb : Below w.heap.size w w') : Reads w' v (zs.map VI) := h.mono hb
theorem PlayM.push {w wr : World} {q room : Nat} {rv : Value} {R : List Int} (h : PlayM w wr q room rv R R) {lv : Value} {zs : List Int} (hl : Reads w lv (zs.map VI)) (hf : R.length + zs.length ≤ room) (h2 : room ≤ 65536) (hqw : w.heap.size ≤ q) :
    Calls Try.prog 12 #[.pointer (some ⟨q, 0, none⟩), lv] wr fun e w' => e = .returned (.bool true) ∧ Hid (PlayM w w' q room rv R (R ++ zs)) := by
  obtain ⟨vq, hb, hq, hr, ho1, ho2, hd, -⟩ := h
  refine (push_okI wr q vq room _ hq _ _ (hl.mono hb) VI_one (by simpa using hf) h2).mono ?_
  rintro e w' ⟨he, v', p1, p2, p3⟩
  refine ⟨he, v', hb.trans (p2.below hb.size (fun k _ hk => ?_)), by rw [List.map_append]; exact p1, hr.but p2 (fun g hg hA => ?_), fun g hg => ?_, ho2, fun g hg hr' => ?_, by simpa using hf⟩
  · rcases hk with rfl | hk
    · exact hqw
    · exact ho1 k hk
  · rcases hA with rfl | hA
    · exact hr.ne hq.1 (show 60 ≠ 3 by decide) hg rfl
    · exact hd g hA hg
  · rcases p3 with p3 | p3 | ⟨g', p3, p4⟩
    · exact ho1 g (by rw [← p3]; exact hg)
    · rw [p3] at hg; cases hg
    · rw [p3] at hg; cases hg; exact Nat.le_trans hb.size p4
  · rcases p3 with p3 | p3 | ⟨g', p3, p4⟩
    · exact hd g (by rw [← p3]; exact hg) hr'
    · rw [p3] at hg; cases hg
    · rw [p3] at hg; cases hg; have := hr.lt hr'; omega
theorem PlayM.pushNo {w wr : World} {q room : Nat} {rv : Value} {R : List Int} (h : PlayM w wr q room rv R R) {lv : Value} {zs : List Int} (hl : Reads w lv (zs.map VI)) (hf : room < R.length + zs.length) (h2 : room ≤ 65536) :
    Calls Try.prog 12 #[.pointer (some ⟨q, 0, none⟩), lv] wr fun e w' => e = .returned (.bool false) ∧ Hid (PlayM w w' q room rv R R) := by
  obtain ⟨vq, hb, hq, hr, ho1, ho2, hd, hle⟩ := h
  refine (push_noI wr q vq room _ hq _ _ (hl.mono hb) (by simpa using hf) h2).mono ?_
  rintro e w' ⟨he, n, rfl⟩
  have hbn : Below wr.heap.size wr (wr.drewN n) := bdN n (Below.refl _ _)
  exact ⟨he, vq, hb.trans (hbn.mono hb.size), hq.mono hbn, hr.mono hbn, ho1, ho2, hd, hle⟩
theorem PlayM.grew {w wr w' : World} {q room : Nat} {rv v' : Value} {R Q zs : List Int} (h : PlayM w wr q room rv R Q) (hg : Grew wr 3 rv (R.map VI ++ zs.map VI) v' w') : PlayM w w' q room v' (R ++ zs) Q := by
  obtain ⟨vq, hb, hq, hr, ho1, ho2, hd, hle⟩ := h
  obtain ⟨g1, g2, g3, -⟩ := hg
  have ht := Touch.grown g2
  refine ⟨vq, hb.trans (ht.below hb.size (fun k _ hk => ho2 k hk.symm)), hq.but ht (fun e => hr.ne hq.1 (show 60 ≠ 3 by decide) e.symm rfl) (fun g hgq e => hd g hgq e.symm), by rw [List.map_append]; exact g1, ho1, fun g hgv => ?_, fun g hgq hgv => ?_, hle⟩
  · rcases g3 with g3 | ⟨g', g3, g4⟩
    · exact ho2 g (by rw [← g3]; exact hgv)
    · rw [g3] at hgv; cases hgv; exact Nat.le_trans hb.size g4
  · rcases g3 with g3 | ⟨g', g3, g4⟩
    · exact hd g hgq (by rw [← g3]; exact hgv)
    · rw [g3] at hgv; cases hgv; have := hq.2.lt hgq; omega
theorem PlayM.popNil {w wr : World} {q room : Nat} {rv : Value} (h : PlayM w wr q room rv [] []) :
    Calls Try.prog 13 #[.pointer (some ⟨q, 0, none⟩)] wr fun e w' => e = .returned (.tuple #[.int .i64 0, .bool false]) ∧ Hid (PlayM w w' q room rv [] []) := by
  obtain ⟨vq, hb, hq, -⟩ := id h
  refine (pop_nilI wr q vq room hq).mono ?_
  rintro e w' ⟨he, rfl⟩
  exact ⟨he, h.mono ((Below.refl _ _).alloc (Nat.le_refl _) _)⟩
theorem PlayM.popCons {w wr : World} {q room : Nat} {rv : Value} {x : Int} {R Q : List Int} (h : PlayM w wr q room rv R (x :: Q)) (hqw : w.heap.size ≤ q) :
    Calls Try.prog 13 #[.pointer (some ⟨q, 0, none⟩)] wr fun e w' => e = .returned (.tuple #[.int .i64 x, .bool true]) ∧ Hid (PlayM w w' q room rv R Q) := by
  obtain ⟨vq, hb, hq, hr, ho1, ho2, hd, hle⟩ := h
  refine (pop_consI wr q vq room _ _ hq).mono ?_
  rintro e w' ⟨he, v', p1, p2, p3⟩
  refine ⟨he, v', hb.trans (p2.below hb.size (fun k _ hk => ?_)), p1, hr.but p2 (fun g hg hA => ?_), fun g hg => ?_, ho2, fun g hg hr' => ?_, by simp at hle; omega⟩
  · rcases hk with rfl | hk
    · exact hqw
    · exact ho1 k hk
  · rcases hA with rfl | hA
    · exact hr.ne hq.1 (show 60 ≠ 3 by decide) hg rfl
    · exact hd g hA hg
  · rcases p3 with p3 | p3 | ⟨g', p3, p4⟩
    · exact ho1 g (by rw [← p3]; exact hg)
    · rw [p3] at hg; cases hg
    · rw [p3] at hg; cases hg; exact Nat.le_trans hb.size p4
  · rcases p3 with p3 | p3 | ⟨g', p3, p4⟩
    · exact hd g (by rw [← p3]; exact hg) hr'
    · rw [p3] at hg; cases hg
    · rw [p3] at hg; cases hg; have := hr.lt hr'; omega
theorem PlayM.cells {w wr : World} {q room : Nat} {a : Option Addr} {n c : Nat} {R Q : List Int} (h : PlayM w wr q room (.slice a n c) R Q) (hR : 0 < R.length) :
    ∃ g off, a = some ⟨g, off, none⟩ ∧ ∀ j (h : j < R.length), wr.cell? ⟨g, off + j, none⟩ = some (.int .i64 R[j]) := by
  obtain ⟨vq, -, -, hr, -⟩ := h
  rcases hr with ⟨_, h0⟩ | ⟨g, off, cap, h1, -, -, -, h4⟩
  · rw [List.map_eq_nil_iff.1 h0] at hR; simp at hR
  · exact ⟨g, off, (Value.slice.inj h1).1, fun j hj => by have := h4 j (by simpa using hj); simpa using this⟩
/-- 'r = r[1:]'. -/
theorem PlayM.tail {w wr : World} {q room : Nat} {a : Option Addr} {n c : Nat} {x : Int} {R Q : List Int} (h : PlayM w wr q room (.slice a n c) (x :: R) Q) :
    ∃ g off, a = some ⟨g, off, none⟩ ∧ wr.cell? ⟨g, off, none⟩ = some (.int .i64 x) ∧ ∀ off' c', c' = c - 1 → off' ≤ off + 1 → (R.length ≠ 0 ∨ c ≠ 1 → off' = off + 1) → PlayM w wr q room (.slice (some ⟨g, off', none⟩) R.length c') R Q := by
  obtain ⟨vq, hb, hq, hr, ho1, ho2, hd, hle⟩ := h
  rcases hr with ⟨_, h0⟩ | ⟨g, off, cap, h1, h2, h3, ⟨cur, h5, h6⟩, h4⟩
  · cases h0
  · obtain ⟨rfl, -, rfl⟩ := Value.slice.inj h1
    simp only [List.map_cons, List.length_cons, List.length_map] at h2
    refine ⟨g, off, rfl, by have := h4 0 (by simp); simpa using this, fun off' c' hc ho hoff => ⟨vq, hb, hq, ?_, ho1, ho2, hd, hle⟩⟩
    refine .inr ⟨g, off', c', by rw [List.length_map], by rw [List.length_map]; omega, by omega, ⟨cur, h5, by omega⟩, fun j hj => ?_⟩
    have hoe : off' = off + 1 := hoff (.inl (by simp at hj; omega))
    have := h4 (j + 1) (by simp at hj ⊢; omega)
    rw [hoe, show off + 1 + j = off + (j + 1) by omega, this]
    simp
set_option maxRecDepth 100000 in
theorem plays_bad (w : World) (room : Int) (a : Option Addr) (len cap : Nat) (h : room < 1 ∨ 65536 < room) :
    Calls Try.prog 3 #[.int .i64 room, .slice a len cap] w fun e w' => e = .returned (.bool true) ∧ Below w.heap.size w w' := by
  have hn := new_noI w room h
  have HN := Lib.hid hn
  clear hn
  by_cases h1 : room < 1
  · have hd1 : decide (room < 1) = true := decide_eq_true h1
    go_enter Try.func3, Try.ntmps3
    go_wp2_with fail
    refine HN.out.mono ?_
    rintro e w' ⟨rfl, rfl⟩
    go_wp2_with fail
    refine (wakes_any _).mono ?_
    rintro e w9 ⟨rfl, h9⟩
    go_wp2_with fail
    go_ret
    exact ⟨rfl, h9⟩
  · have hd1 : decide (room < 1) = false := decide_eq_false h1
    have hd2 : decide (65536 < room) = true := decide_eq_true (by omega)
    go_enter Try.func3, Try.ntmps3
    go_wp2_with fail
    refine HN.out.mono ?_
    rintro e w' ⟨rfl, rfl⟩
    go_wp2_with fail
    refine (wakes_any _).mono ?_
    rintro e w9 ⟨rfl, h9⟩
    go_wp2_with fail
    go_ret
    exact ⟨rfl, h9⟩
set_option maxRecDepth 100000 in
theorem plays_long (w : World) (room : Nat) (a : Option Addr) (len cap : Nat) (h1 : 1 ≤ room) (h2 : room ≤ 65536) (h : 200 < len) (hm : len ≤ maxLen) :
    Calls Try.prog 3 #[.int .i64 room, .slice a len cap] w fun e w' => e = .returned (.bool true) ∧ Below w.heap.size w w' := by
  have hn := (new_okI w room h1 h2).mono (R' := fun e w' => e = .returned (.tuple #[.pointer (some ⟨w.heap.size, 0, none⟩), .int .i64 0]) ∧ Below w.heap.size w w') (by
    rintro e w' ⟨he, rfl⟩
    exact ⟨he, (Below.refl _ _).alloc (Nat.le_refl _) _⟩)
  have HN := Lib.hid hn
  unfold maxLen at hm
  have hd1 : decide ((room : Int) < 1) = false := decide_eq_false (by omega)
  have hd2 : decide (65536 < (room : Int)) = false := decide_eq_false (by omega)
  have hd3 : decide (200 < (len : Int)) = true := decide_eq_true (by omega)
  clear hn
  go_enter Try.func3, Try.ntmps3
  go_wp2_with fail
  refine HN.out.mono ?_
  rintro e w' ⟨rfl, hb⟩
  go_wp2_with fail
  refine (wakes_any _).mono ?_
  rintro e w9 ⟨rfl, h9⟩
  go_wp2_with fail
  go_ret
  exact ⟨rfl, hb.trans (h9.mono hb.size)⟩
set_option maxRecDepth 100000 in
set_option maxHeartbeats 8000000 in
theorem plays_walk (w : World) (room : Nat) (a : Option Addr) (cap : Nat) (xs : List Ac) (h1 : 1 ≤ room) (h2 : room ≤ 65536) (hl : xs.length ≤ 200) (hx : ArgAc w a xs) (hok : ∀ x ∈ xs, AcOk w x) :
    Calls Try.prog 3 #[.int .i64 room, .slice a xs.length cap] w fun e w' => e = .returned (.bool true) ∧ Below w.heap.size w w' := by
  obtain ⟨q, hqe⟩ : ∃ q, q = w.heap.size := ⟨_, rfl⟩
  have hn := (new_okI w room h1 h2).mono (R' := fun e w' => e = .returned (.tuple #[.pointer (some ⟨w.heap.size, 0, none⟩), .int .i64 0]) ∧ Hid (PlayM w w' q room (.slice none 0 0) [] [])) (by
    rintro e w' ⟨he, rfl⟩
    exact ⟨he, _, (Below.refl _ _).alloc (Nat.le_refl _) _, ⟨new_at hqe, OffRow.nil _ _⟩, OffRow.nil _ _, by simp [Value.ownBlock], by simp [Value.ownBlock], by simp [Value.ownBlock], by simp⟩)
  rw [← hqe] at hn
  have hqw : w.heap.size ≤ q := by omega
  have HN := Lib.hid hn
  have HX := Lib.hid hx
  have HO := Lib.hid hok
  have hd1 : decide ((room : Int) < 1) = false := decide_eq_false (by omega)
  have hd2 : decide (65536 < (room : Int)) = false := decide_eq_false (by omega)
  have hd3 : decide (200 < (xs.length : Int)) = false := decide_eq_false (by omega)
  obtain ⟨i0, hi, hz0, hz1, hz2⟩ := infoI'
  clear hn hx hok hqe
  go_enter Try.func3, Try.ntmps3
  go_wp2_with fail
  refine HN.out.mono ?_
  rintro e w1 ⟨rfl, hM⟩
  clear HN
  go_wp2_with fail
  go_loopw [7, 8] (fun rv i wr => ∃ (k : Nat) (R : List Int) (ra : Option Addr) (rc : Nat), k ≤ xs.length ∧ i = .int .i64 k ∧ rv = .slice ra R.length rc ∧ R.length ≤ rc ∧ rc ≤ 9223372036854775807 ∧ R.length ≤ room ∧ Hid (PlayM w wr q room (.slice ra R.length rc) R R)) (fun _ i _ => xs.length - (intOf i).toNat)
  case atStart => exact ⟨0, [], none, 0, Nat.zero_le _, rfl, rfl, by simp, by simp, by simp, hM⟩
  case round =>
    clear hM
    obtain ⟨k, R, ra, rc, hk, rfl, rfl, hrc, hrm, hRr, hM⟩ := hrel
    by_cases hlt : k < xs.length
    · obtain ⟨b, off, rfl, hbb, hcell⟩ := HX.out (by omega)
      obtain ⟨k0, k1, k2⟩ := hcell k hlt
      obtain ⟨hd, hn, hl⟩ := HO.out xs[k] (List.getElem_mem hlt)
      obtain ⟨act, hact⟩ : ∃ act, act = xs[k] := ⟨_, rfl⟩
      rw [← hact] at k0 k1 k2 hd hn hl
      have hbel := hM.out.below
      have KC := Lib.hid (fun w' (h : Below w.heap.size w w') => (⟨(h.cell (p := ⟨b, off + k * 3, none⟩) hbb).trans k0, (h.cell (p := ⟨b, off + k * 3 + 1, none⟩) hbb).trans k1, (h.cell (p := ⟨b, off + k * 3 + 2, none⟩) hbb).trans k2⟩ : w'.cell? ⟨b, off + k * 3, none⟩ = some (.int .i64 act.d) ∧ w'.cell? ⟨b, off + k * 3 + 1, none⟩ = some (.int .i64 act.n) ∧ w'.cell? ⟨b, off + k * 3 + 2, none⟩ = some act.l))
      clear k0 k1 k2 hcell hact
      obtain ⟨d0, d1, d2⟩ := KC.out wr hbel
      obtain ⟨la, lc, hlv, hl1, hl2, -⟩ := id hl
      rw [List.length_map] at hlv hl1
      unfold maxLen at hl2
      rw [hlv] at d2 hl
      have hki : (k : Int) < (xs.length : Int) := by omega
      have hlv := Lib.hid hlv
      have hl := Lib.hid hl
      rename_i hlv0 hl0
      clear hlv0 hl0 hbel
      by_cases hlong : 100 < act.zs.length
      · have hdl : decide (100 < (act.zs.length : Int)) = true := decide_eq_true (by omega)
        go_wp2_with fail
        refine (wakes_any _).mono ?_
        rintro e w9 ⟨rfl, h9⟩
        go_wp2_with fail
        go_returns
        exact ⟨rfl, hM.out.below.trans (h9.mono hM.out.below.size)⟩
      · have hdl : decide (100 < (act.zs.length : Int)) = false := decide_eq_false (by omega)
        have hm1 := Int.emod_nonneg act.d (show (4 : Int) ≠ 0 by omega)
        have hm2 := Int.emod_lt_of_pos act.d (show (0 : Int) < 4 by omega)
        obtain ⟨m, hm⟩ : ∃ m : Nat, act.d % (4 : Nat) = m := ⟨(act.d % 4).toNat, by omega⟩
        have hm3 : m < 4 := by omega
        have hwi := within_all wr act.d 4 hd.1 hd.2 (by omega) (by omega)
        rw [hm] at hwi
        have HW := Lib.hid hwi
        clear hwi hm hm1 hm2 hlong
        have hcase : m = 0 ∨ m = 1 ∨ m = 2 ∨ m = 3 := by omega
        rcases hcase with rfl | rfl | rfl | rfl
        · go_wp2_with fail
          refine HW.out.mono ?_
          rintro e w' ⟨rfl, rfl⟩
          by_cases hfit : R.length + act.zs.length ≤ room
          · have hdf : decide ((act.zs.length : Int) ≤ (room : Int) - (R.length : Int)) = true := decide_eq_true (by omega)
            have hp := hM.out.push hl.out hfit h2 hqw
            have HP := Lib.hid hp
            clear hp d0 d1 d2
            obtain ⟨d0, d1, d2⟩ := KC.out wr hM.out.below
            rw [hlv.out] at d2
            go_wp2_with fail
            refine HP.out.mono ?_
            rintro e w2 ⟨rfl, hM1⟩
            clear d0 d1 d2 HP
            obtain ⟨d0, d1, d2⟩ := KC.out w2 hM1.out.below
            rw [hlv.out] at d2
            have hor : Hid (OffRow w2 3 (.slice ra R.length rc) (R.map VI)) := by obtain ⟨vq1, g1, g2, g3, -⟩ := hM1.out; exact g3
            have hl2' := Lib.hid (AcOk.reads hl.out (hM1.out.below))
            go_wp2_with (at_builtin; refine wpList_append_off _ rfl _ _ 28 28 rfl (e := 3) (i := i0) (z := .int .i64 0) (bytes := 8) Try.underlying28 hi hz0 hz1 hz2 rfl rfl hor.out _ (act.zs.map VI) rfl (Reads.src Try.underlying28 hl2'.out VI_one) (by unfold maxLen; simp; omega) (by simp; omega) ?_; intro v' w3 hg; have hM2 := Lib.hid (hM1.out.grew hg); obtain ⟨R2, hR2⟩ : ∃ R2, R2 = R ++ act.zs := ⟨_, rfl⟩; rw [← hR2] at hM2; obtain ⟨ra2, rc2, rfl, hrc2, hrm2⟩ := hM2.out.form; unfold maxLen at hrm2; clear hg hR2)
            have hL2 : Calls Try.prog 15 #[.pointer (some ⟨q, 0, none⟩)] w3 fun e w' => e = .returned (.int .i64 R2.length) ∧ w3 = w' := by
              obtain ⟨vq2, -, hq2, -⟩ := hM2.out
              have := len_anyI _ _ _ _ _ hq2
              rw [List.length_map] at this
              exact this
            have HL2 := Lib.hid hL2
            obtain ⟨-, -, -, -, -, -, -, hr2⟩ := hM2.out
            clear hL2
            go_wp2_with fail
            refine HL2.out.mono ?_
            rintro e w' ⟨rfl, rfl⟩
            go_wp2_with fail
            go_roundw
            case rel => exact ⟨k + 1, R2, _, _, by omega, by go_num, rfl, hrc2, hrm2, hr2, hM2⟩
            case measure => simp [intOf]; omega
          · have hdf : decide ((act.zs.length : Int) ≤ (room : Int) - (R.length : Int)) = false := decide_eq_false (by omega)
            have hp := hM.out.pushNo hl.out (by omega) h2
            have HP := Lib.hid hp
            clear hp
            go_wp2_with fail
            refine HP.out.mono ?_
            rintro e w2 ⟨rfl, hM2⟩
            have hL2 : Calls Try.prog 15 #[.pointer (some ⟨q, 0, none⟩)] w2 fun e w' => e = .returned (.int .i64 R.length) ∧ w2 = w' := by
              obtain ⟨vq2, -, hq2, -⟩ := hM2.out
              have := len_anyI _ _ _ _ _ hq2
              rw [List.length_map] at this
              exact this
            have HL2 := Lib.hid hL2
            obtain ⟨-, -, -, -, -, -, -, hr2⟩ := hM2.out
            clear hL2
            go_wp2_with fail
            refine HL2.out.mono ?_
            rintro e w' ⟨rfl, rfl⟩
            go_wp2_with fail
            go_roundw
            case rel => exact ⟨k + 1, R, _, _, by omega, by go_num, rfl, hrc, hrm, hr2, hM2⟩
            case measure => simp [intOf]; omega
        · go_wp2_with fail
          refine HW.out.mono ?_
          rintro e w' ⟨rfl, rfl⟩
          by_cases hfit : R.length + act.zs.length ≤ room
          · have hdf : decide ((act.zs.length : Int) ≤ (room : Int) - (R.length : Int)) = true := decide_eq_true (by omega)
            have hp := hM.out.push hl.out hfit h2 hqw
            have HP := Lib.hid hp
            clear hp d0 d1 d2
            obtain ⟨d0, d1, d2⟩ := KC.out wr hM.out.below
            rw [hlv.out] at d2
            go_wp2_with fail
            refine HP.out.mono ?_
            rintro e w2 ⟨rfl, hM1⟩
            clear d0 d1 d2 HP
            obtain ⟨d0, d1, d2⟩ := KC.out w2 hM1.out.below
            rw [hlv.out] at d2
            have hor : Hid (OffRow w2 3 (.slice ra R.length rc) (R.map VI)) := by obtain ⟨vq1, g1, g2, g3, -⟩ := hM1.out; exact g3
            have hl2' := Lib.hid (AcOk.reads hl.out (hM1.out.below))
            go_wp2_with (at_builtin; refine wpList_append_off _ rfl _ _ 28 28 rfl (e := 3) (i := i0) (z := .int .i64 0) (bytes := 8) Try.underlying28 hi hz0 hz1 hz2 rfl rfl hor.out _ (act.zs.map VI) rfl (Reads.src Try.underlying28 hl2'.out VI_one) (by unfold maxLen; simp; omega) (by simp; omega) ?_; intro v' w3 hg; have hM2 := Lib.hid (hM1.out.grew hg); obtain ⟨R2, hR2⟩ : ∃ R2, R2 = R ++ act.zs := ⟨_, rfl⟩; rw [← hR2] at hM2; obtain ⟨ra2, rc2, rfl, hrc2, hrm2⟩ := hM2.out.form; unfold maxLen at hrm2; clear hg hR2)
            have hL2 : Calls Try.prog 15 #[.pointer (some ⟨q, 0, none⟩)] w3 fun e w' => e = .returned (.int .i64 R2.length) ∧ w3 = w' := by
              obtain ⟨vq2, -, hq2, -⟩ := hM2.out
              have := len_anyI _ _ _ _ _ hq2
              rw [List.length_map] at this
              exact this
            have HL2 := Lib.hid hL2
            obtain ⟨-, -, -, -, -, -, -, hr2⟩ := hM2.out
            clear hL2
            go_wp2_with fail
            refine HL2.out.mono ?_
            rintro e w' ⟨rfl, rfl⟩
            go_wp2_with fail
            go_roundw
            case rel => exact ⟨k + 1, R2, _, _, by omega, by go_num, rfl, hrc2, hrm2, hr2, hM2⟩
            case measure => simp [intOf]; omega
          · have hdf : decide ((act.zs.length : Int) ≤ (room : Int) - (R.length : Int)) = false := decide_eq_false (by omega)
            have hp := hM.out.pushNo hl.out (by omega) h2
            have HP := Lib.hid hp
            clear hp
            go_wp2_with fail
            refine HP.out.mono ?_
            rintro e w2 ⟨rfl, hM2⟩
            have hL2 : Calls Try.prog 15 #[.pointer (some ⟨q, 0, none⟩)] w2 fun e w' => e = .returned (.int .i64 R.length) ∧ w2 = w' := by
              obtain ⟨vq2, -, hq2, -⟩ := hM2.out
              have := len_anyI _ _ _ _ _ hq2
              rw [List.length_map] at this
              exact this
            have HL2 := Lib.hid hL2
            obtain ⟨-, -, -, -, -, -, -, hr2⟩ := hM2.out
            clear hL2
            go_wp2_with fail
            refine HL2.out.mono ?_
            rintro e w' ⟨rfl, rfl⟩
            go_wp2_with fail
            go_roundw
            case rel => exact ⟨k + 1, R, _, _, by omega, by go_num, rfl, hrc, hrm, hr2, hM2⟩
            case measure => simp [intOf]; omega
        · go_wp2_with fail
          refine HW.out.mono ?_
          rintro e w' ⟨rfl, rfl⟩
          cases R with
          | nil =>
            have hp := hM.out.popNil
            have HP := Lib.hid hp
            clear hp
            simp only [List.length_nil] at *
            go_wp2_with fail
            refine HP.out.mono ?_
            rintro e w2 ⟨rfl, hM2⟩
            have hL2 : Calls Try.prog 15 #[.pointer (some ⟨q, 0, none⟩)] w2 fun e w' => e = .returned (.int .i64 ([] : List Int).length) ∧ w2 = w' := by
              obtain ⟨vq2, -, hq2, -⟩ := hM2.out
              have := len_anyI _ _ _ _ _ hq2
              rw [List.length_map] at this
              exact this
            have HL2 := Lib.hid hL2
            obtain ⟨-, -, -, -, -, -, -, hr2⟩ := hM2.out
            clear hL2
            go_wp2_with fail
            refine HL2.out.mono ?_
            rintro e w' ⟨rfl, rfl⟩
            go_wp2_with fail
            go_roundw
            case rel => exact ⟨k + 1, ([] : List Int), _, _, by omega, by go_num, rfl, by simp, hrm, hr2, hM2⟩
            case measure => simp [intOf]; omega
          | cons x R2 =>
            have hp := hM.out.popCons hqw
            have HP := Lib.hid hp
            clear hp
            simp only [List.length_cons] at *
            go_wp2_with fail
            refine HP.out.mono ?_
            rintro e w2 ⟨rfl, hM1⟩
            obtain ⟨g, go, rfl, hcg, htail⟩ := hM1.out.tail
            have HT := Lib.hid htail
            have hr0 : (0 : Int) < (R2.length : Int) + 1 := by omega
            have hrc1 : (1 : Int) ≤ (rc : Int) := by omega
            clear htail
            by_cases hr1 : rc = 1
            · subst hr1
              obtain rfl : R2 = [] := List.eq_nil_of_length_eq_zero (by omega)
              have hM2 := Lib.hid (HT.out go 0 (by omega) (by simp) (by simp))
              simp only [List.length_nil] at *
              have hL2 : Calls Try.prog 15 #[.pointer (some ⟨q, 0, none⟩)] w2 fun e w' => e = .returned (.int .i64 ([] : List Int).length) ∧ w2 = w' := by
                obtain ⟨vq2, -, hq2, -⟩ := hM2.out
                have := len_anyI _ _ _ _ _ hq2
                rw [List.length_map] at this
                exact this
              have HL2 := Lib.hid hL2
              obtain ⟨-, -, -, -, -, -, -, hr2⟩ := hM2.out
              clear hL2
              go_wp2_with fail
              refine HL2.out.mono ?_
              rintro e w' ⟨rfl, rfl⟩
              go_wp2_with fail
              go_roundw
              case rel => exact ⟨k + 1, ([] : List Int), _, _, by omega, by go_num, rfl, by simp, by omega, hr2, hM2⟩
              case measure => simp [intOf]; omega
            · have hrc2 : (1 : Int) < (rc : Int) := by omega
              have hM2 := Lib.hid (HT.out (go + 1) (rc - 1) (by omega) (by omega) (by intro _; rfl))
              have hL2 : Calls Try.prog 15 #[.pointer (some ⟨q, 0, none⟩)] w2 fun e w' => e = .returned (.int .i64 R2.length) ∧ w2 = w' := by
                obtain ⟨vq2, -, hq2, -⟩ := hM2.out
                have := len_anyI _ _ _ _ _ hq2
                rw [List.length_map] at this
                exact this
              have HL2 := Lib.hid hL2
              obtain ⟨-, -, -, -, -, -, -, hr2⟩ := hM2.out
              clear hL2
              go_wp2_with fail
              refine HL2.out.mono ?_
              rintro e w' ⟨rfl, rfl⟩
              go_wp2_with fail
              go_roundw
              case rel => exact ⟨k + 1, R2, _, _, by omega, by go_num, rfl, by omega, by omega, hr2, hM2⟩
              case measure => simp [intOf]; omega
        · go_wp2_with fail
          refine HW.out.mono ?_
          rintro e w' ⟨rfl, rfl⟩
          by_cases hin : 0 ≤ act.n ∧ act.n < R.length
          · obtain ⟨j, hj⟩ : ∃ j : Nat, act.n = j := ⟨act.n.toNat, by omega⟩
            have hjl : j < R.length := by omega
            have hp : Calls Try.prog 14 #[.pointer (some ⟨q, 0, none⟩), .int .i64 j] wr fun e w' => e = .returned (.tuple #[.int .i64 R[j], .bool true]) ∧ wr = w' := by
              obtain ⟨vq1, -, hq1, -⟩ := hM.out
              have := at_inI wr q vq1 room _ hq1 j (by simpa using hjl)
              simpa using this
            have HP := Lib.hid hp
            obtain ⟨g, go, rfl, hcg⟩ := hM.out.cells (by omega)
            have hc := hcg j hjl
            rw [hj] at d1
            generalize R[j] = x at hc HP
            have hji : (j : Int) < (R.length : Int) := by omega
            clear hp hin hcg hj
            go_wp2_with fail
            refine HP.out.mono ?_
            rintro e w2 ⟨rfl, rfl⟩
            have hM2 := hM
            have hL2 : Calls Try.prog 15 #[.pointer (some ⟨q, 0, none⟩)] wr fun e w' => e = .returned (.int .i64 R.length) ∧ wr = w' := by
              obtain ⟨vq2, -, hq2, -⟩ := hM2.out
              have := len_anyI _ _ _ _ _ hq2
              rw [List.length_map] at this
              exact this
            have HL2 := Lib.hid hL2
            obtain ⟨-, -, -, -, -, -, -, hr2⟩ := hM2.out
            clear hL2
            go_wp2_with fail
            refine HL2.out.mono ?_
            rintro e w' ⟨rfl, rfl⟩
            go_wp2_with fail
            go_roundw
            case rel => exact ⟨k + 1, R, _, _, by omega, by go_num, rfl, hrc, hrm, hr2, hM2⟩
            case measure => simp [intOf]; omega
          · have hp : Calls Try.prog 14 #[.pointer (some ⟨q, 0, none⟩), .int .i64 act.n] wr fun e w' => e = .returned (.tuple #[.int .i64 0, .bool false]) ∧ Hid (PlayM w w' q room (.slice ra R.length rc) R R) := by
              obtain ⟨vq1, -, hq1, -⟩ := id hM.out
              refine (at_outI wr q vq1 room _ hq1 act.n (by rw [List.length_map]; omega)).mono ?_
              rintro e w' ⟨he, rfl⟩
              exact ⟨he, hM.out.mono ((Below.refl _ _).alloc (Nat.le_refl _) _)⟩
            have HP := Lib.hid hp
            clear hp
            by_cases h0 : 0 ≤ act.n
            · have hda : decide (0 ≤ act.n) = true := decide_eq_true h0
              have hdb : decide (act.n < (R.length : Int)) = false := decide_eq_false (by omega)
              clear hin
              go_wp2_with fail
              refine HP.out.mono ?_
              rintro e w2 ⟨rfl, hM2⟩
              clear d0 d1 d2
              obtain ⟨d0, d1, d2⟩ := KC.out w2 hM2.out.below
              have hL2 : Calls Try.prog 15 #[.pointer (some ⟨q, 0, none⟩)] w2 fun e w' => e = .returned (.int .i64 R.length) ∧ w2 = w' := by
                obtain ⟨vq2, -, hq2, -⟩ := hM2.out
                have := len_anyI _ _ _ _ _ hq2
                rw [List.length_map] at this
                exact this
              have HL2 := Lib.hid hL2
              obtain ⟨-, -, -, -, -, -, -, hr2⟩ := hM2.out
              clear hL2
              go_wp2_with fail
              refine HL2.out.mono ?_
              rintro e w' ⟨rfl, rfl⟩
              go_wp2_with fail
              go_roundw
              case rel => exact ⟨k + 1, R, _, _, by omega, by go_num, rfl, hrc, hrm, hr2, hM2⟩
              case measure => simp [intOf]; omega
            · have hda : decide (0 ≤ act.n) = false := decide_eq_false h0
              clear hin
              go_wp2_with fail
              refine HP.out.mono ?_
              rintro e w2 ⟨rfl, hM2⟩
              clear d0 d1 d2
              obtain ⟨d0, d1, d2⟩ := KC.out w2 hM2.out.below
              have hL2 : Calls Try.prog 15 #[.pointer (some ⟨q, 0, none⟩)] w2 fun e w' => e = .returned (.int .i64 R.length) ∧ w2 = w' := by
                obtain ⟨vq2, -, hq2, -⟩ := hM2.out
                have := len_anyI _ _ _ _ _ hq2
                rw [List.length_map] at this
                exact this
              have HL2 := Lib.hid hL2
              obtain ⟨-, -, -, -, -, -, -, hr2⟩ := hM2.out
              clear hL2
              go_wp2_with fail
              refine HL2.out.mono ?_
              rintro e w' ⟨rfl, rfl⟩
              go_wp2_with fail
              go_roundw
              case rel => exact ⟨k + 1, R, _, _, by omega, by go_num, rfl, hrc, hrm, hr2, hM2⟩
              case measure => simp [intOf]; omega
    · obtain rfl : k = xs.length := by omega
      go_wp2_with fail
      refine (all_any wr q).mono ?_
      rintro e w5 ⟨rfl, rfl⟩
      obtain ⟨W5, hW5⟩ : ∃ W5, W5 = wr.alloc (.cells #[.pointer (some ⟨q, 0, none⟩)] 23) := ⟨_, rfl⟩
      obtain ⟨B5, hB5⟩ : ∃ B5, B5 = wr.heap.size := ⟨_, rfl⟩
      have b5 : Below wr.heap.size wr W5 := by rw [hW5]; exact (Below.refl _ _).alloc (Nat.le_refl _) _
      have hblk : W5.heap[B5]? = some (.cells #[.pointer (some ⟨q, 0, none⟩)] 23 (0, 0)) := by rw [hW5]; exact new_at hB5
      rw [← hW5, ← hB5]
      have hM5 := Lib.hid (hM.out.mono b5)
      obtain ⟨vq, hb5, hq5, hr5, -⟩ := hM5.out
      have hl := list_all W5 B5 q vq room R (by omega) hblk hq5
      have HL := Lib.hid hl
      have hb5 := Lib.hid hb5
      have hr5 := Lib.hid hr5
      rename_i hb50 hr50
      clear hl hW5 hB5 b5 hblk hb50 hr50 hq5
      go_wp2_with fail
      refine HL.out.mono ?_
      rintro e w6 ⟨v6, rfl, hf⟩
      have hb6 := Lib.hid (hb5.out.trans (hf.2.1.mono hb5.out.size))
      have hr6 := Lib.hid hf.1.reads
      have hr7 := (hr5.out.mono hf.2.1).reads
      have hi := ints_any w6 v6 _ R R hr6.out hr7 true (by simp)
      have HI := Lib.hid hi
      clear hf hi hr7 HL
      go_wp2_with fail
      refine HI.out.mono ?_
      rintro e w7 ⟨rfl, hb7⟩
      have hb8 := Lib.hid (hb6.out.trans (hb7.mono hb6.out.size))
      clear hb7 HI
      go_wp2_with fail
      refine (wakes_any w7).mono ?_
      rintro e w8 ⟨rfl, hb9⟩
      go_wp2_with fail
      go_ret
      exact ⟨rfl, hb8.out.trans (hb9.mono hb8.out.size)⟩
theorem plays_any (w : World) (n0 : Int) (r0 : InR n0) (a : Option Addr) (len cap : Nat) (h : len ≤ maxLen ∧ ∃ xs : List Ac, xs.length = len ∧ ArgAc w a xs ∧ ∀ x ∈ xs, AcOk w x) :
    Calls Try.prog 3 #[.int .i64 n0, .slice a len cap] w fun e w' => e = .returned (.bool true) ∧ Below w.heap.size w w' := by
  obtain ⟨hm, xs, rfl, hx, hok⟩ := h
  by_cases hb : n0 < 1 ∨ 65536 < n0
  · exact plays_bad w n0 a _ cap hb
  · obtain ⟨room, rfl⟩ : ∃ room : Nat, n0 = room := ⟨n0.toNat, by omega⟩
    by_cases hl : 200 < xs.length
    · exact plays_long w room a _ cap (by omega) (by omega) hl hm
    · exact plays_walk w room a cap xs (by omega) (by omega) (by omega) hx hok
end Go.Proofs.Ythieabhemiikhaa
