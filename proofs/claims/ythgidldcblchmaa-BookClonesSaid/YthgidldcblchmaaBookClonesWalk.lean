/-
  The walk of the law BookClones. No condition.
-/
import Derived.Test.YthgidldcblchmaaBookFilled
import Derived.Test.YthgidldcblchmaaBookDropP
import Derived.Test.YthgidldcblchmaaBookCloneP
namespace Go.Proofs.Ythgidldcblchmaa
set_option linter.unusedVariables false
open Go.RowKit
theorem MapP.but {w w' : World} {b s b2 s2 : Nat} {xs ys : List Pr} (h : MapP w b2 s2 ys) (hg : w.grownBy w' (some s)) (hM : MapP w b s xs) (hne : s2 ≠ s) : MapP w' b2 s2 ys := by
  obtain ⟨-, p, T, hc, -⟩ := hM
  have hb : b2 ≠ s := by
    rintro rfl
    have h1 := h.1
    rw [hc] at h1; simp at h1
  exact ⟨(hg.block b2 (heap_lt h.1) (by simpa using hb)).trans h.1, h.2.but hg hc (by decide) hne⟩
theorem MapP.touched {w w' : World} {b s : Nat} {xs ys : List Pr} (h : MapP w b s xs) : s < w.heap.size := IsSet.lt h.2
theorem clones_long (w : World) (a a2 : Option Addr) (n cap n2 cap2 : Nat) (hn : n ≤ maxLen) (hn2 : n2 ≤ maxLen) (h : 60 < n ∨ n ≤ 60 ∧ 60 < n2) : Calls Try.prog 8 #[.slice a n cap, .slice a2 n2 cap2] w fun e w' => e = .returned (.bool true) ∧ Below w.heap.size w w' := by
  unfold maxLen at hn hn2
  rcases h with h | ⟨h, h2⟩
  · have hd : decide (60 < (n : Int)) = true := by simp; omega
    go_enter Try.func8, Try.ntmps8
    go_wp2_with (go_at_call 22; refine (bwakes_any _).mono ?_; rintro e w2 ⟨rfl, hb2⟩)
    go_ret
    exact ⟨rfl, hb2⟩
  · have hd : decide (60 < (n : Int)) = false := by simp; omega
    have hd2 : decide (60 < (n2 : Int)) = true := by simp; omega
    go_enter Try.func8, Try.ntmps8
    go_wp2_with (go_at_call 22; refine (bwakes_any _).mono ?_; rintro e w2 ⟨rfl, hb2⟩)
    go_ret
    exact ⟨rfl, hb2⟩
set_option maxRecDepth 100000 in
set_option maxHeartbeats 8000000 in
theorem clones_walk (w : World) (a a2 : Option Addr) (cap cap2 : Nat) (xs ys : List Sy) (hz : xs.length ≤ 60) (hz2 : ys.length ≤ 60) (he : ∀ s, w.heap.size ≤ s → ListAt w s a xs) (he2 : ∀ s, w.heap.size ≤ s → ListAt w s a2 ys) :
    Calls Try.prog 8 #[.slice a xs.length cap, .slice a2 ys.length cap2] w fun e w' => e = .returned (.bool true) ∧ Below w.heap.size w w' := by
  have hd0 : decide (60 < (xs.length : Int)) = false := by simp; omega
  have hd1 : decide (60 < (ys.length : Int)) = false := by simp; omega
  have hfill := filled_any w a cap xs (by omega) he
  have HFill := Lib.hid hfill
  have HL2 := Lib.hid (he2 w.heap.size (Nat.le_refl _))
  have hfl := fill_length xs xs.length
  obtain ⟨ps, hps⟩ : ∃ ps, ps = fillTo xs xs.length := ⟨_, rfl⟩
  rw [← hps] at HFill hfl
  have hpl : ps.length ≤ 60 := by omega
  clear hfill hps he he2 hfl
  go_enter Try.func8, Try.ntmps8
  go_wp2_with fail
  refine HFill.out.mono ?_
  rintro e w1 ⟨b, s, B, rfl, hb1, hbo⟩
  have HB1 := Lib.hid hb1
  have HBo := Lib.hid hbo
  have hcl := clone_mapP w1 b s ps hbo.1
  have HCl := Lib.hid hcl
  clear hb1 hbo hcl
  go_wp2_with fail
  refine HCl.out.mono ?_
  rintro e w2 ⟨mb, rfl, hmb, hb2, hMC⟩
  have HBo2 := HBo.out.mono hb2
  have hsl := MapP.touched HBo.out.1 (w' := w1) (ys := ps)
  obtain ⟨s2, hs2⟩ : ∃ s2, s2 = w1.heap.size := ⟨_, rfl⟩
  rw [← hs2] at hMC hsl
  have hne : s2 ≠ s := by omega
  have hbase : w.heap.size ≤ s := HBo.out.2.1
  have HB2 := Lib.hid (HB1.out.trans (hb2.mono HB1.out.size))
  have h0 : Hid (MapP w2 b s ps ∧ MapP w2 mb s2 ps ∧ ∃ v1 v2, PlainAt w2 w.heap.size B v1 v2 ps) := Lib.hid ⟨HBo2.1, hMC, HBo2.2.2⟩
  clear hmb hb2 hMC HBo2 hsl hs2 HBo HB1 HFill HCl
  go_wp2_with fail
  go_loopw [8] (fun i wr => ∃ k : Nat, k ≤ ys.length ∧ i = .int .i64 k ∧ Hid (Below w.heap.size w wr) ∧ Hid ((∃ qs : List Pr, qs.length ≤ 60 + k ∧ MapP wr b s qs) ∧ MapP wr mb s2 ps ∧ ∃ v1 v2, PlainAt wr w.heap.size B v1 v2 ps)) (fun i _ => ys.length - (intOf i).toNat)
  case atStart => exact ⟨0, Nat.zero_le _, rfl, HB2, Lib.hid ⟨⟨ps, by omega, h0.out.1⟩, h0.out.2.1, h0.out.2.2⟩⟩
  case round =>
    obtain ⟨k, hk, rfl, hBr, hI⟩ := hrel
    by_cases hlt : k < ys.length
    · obtain ⟨⟨qs, hq, hM⟩, hC, v1, v2, hP⟩ := hI.out
      obtain ⟨j, hj⟩ : ∃ j : Nat, j = (k * 5) % ys.length := ⟨_, rfl⟩
      have hjl : j < ys.length := by rw [hj]; exact Nat.mod_lt _ (by omega)
      have hwi := fun w' => (within_any w' ((k : Int) * 5) ys.length (by omega) (by omega) (by omega)).mono (R' := fun e w2 => e = .returned (.int .i64 (j : Int)) ∧ w2 = w') (by
        rintro e w2 ⟨h1, h2⟩
        refine ⟨?_, h2⟩
        rw [h1, if_neg (by omega), hj]; norm_cast)
      have HWi := Lib.hid hwi
      have hji : (j : Int) < (ys.length : Int) := by omega
      obtain ⟨bo, off, rfl, -, c0, c1, c2⟩ := (HL2.out.kc (KC.below hBr.out)) k hlt
      have hki : (k : Int) < (ys.length : Int) := by omega
      have hel := fun w' (h : Below w.heap.size w w') => (HL2.out.kc (KC.below h)) j hjl
      generalize ys[k] = x at c0 c1 c2
      obtain ⟨y, hy⟩ : ∃ y, y = ys[j] := ⟨_, rfl⟩
      simp only [← hy] at hel
      have HEl := Lib.hid hel
      have hput := put_mapP wr b s ⟨x, 1000 + k⟩ qs hM (by omega)
      have HPut := Lib.hid hput
      have hfr : ∀ w' : World, wr.grownBy w' (some s) → MapP w' mb s2 ps ∧ ∃ v1 v2, PlainAt w' w.heap.size B v1 v2 ps := fun w' hg => ⟨hC.but hg hM hne, v1, v2, hP.but hg hM.2⟩
      have HFr := Lib.hid hfr
      have hsz := hBr.out.size
      have hpq := put_length ⟨x, 1000 + k⟩ qs
      clear hwi hel hy hput hfr hM hC hP hj hI
      go_wp2_with fail
      refine HPut.out.mono ?_
      rintro e w3 ⟨q, rfl, hg, hM3⟩
      obtain ⟨hC3, u1, u2, hP3⟩ := HFr.out w3 hg
      have hB3 := Lib.hid (hBr.out.trans (belowg hg hsz hbase))
      obtain ⟨bo', off', e1, -, d0, d1, d2⟩ := HEl.out w3 hB3.out
      obtain ⟨rfl, rfl⟩ : bo' = bo ∧ off' = off := by simp at e1; exact ⟨e1.1.symm, e1.2.symm⟩
      have hdrop := drop_mapP w3 b s y (putLP ⟨x, 1000 + k⟩ qs) hM3 (by omega) _ _ rfl rfl
      have HDrop := Lib.hid hdrop
      have HG3 := Lib.hid hg
      have HR3 : Hid (MapP w3 mb s2 ps ∧ PlainAt w3 w.heap.size B u1 u2 ps ∧ MapP w3 b s (putLP ⟨x, 1000 + k⟩ qs)) := Lib.hid ⟨hC3, hP3, hM3⟩
      clear hdrop hM3 hC3 hP3 hg c0 c1 c2 e1
      go_wp2_with fail
      refine (HWi.out w3).mono ?_
      rintro e w4 ⟨rfl, rfl⟩
      go_wp2_with fail
      refine HDrop.out.mono ?_
      rintro e w5 ⟨rfl, hg5, hM5⟩
      have hdl : (del cmpP (⟨y, 0⟩ : Pr) (putLP ⟨x, 1000 + k⟩ qs)).length ≤ 60 + (k + 1) := Nat.le_trans (del_length _ _) (by omega)
      have hB5 := Lib.hid (hB3.out.trans (belowg hg5 hB3.out.size hbase))
      have hN : Hid ((∃ qs : List Pr, qs.length ≤ 60 + (k + 1) ∧ MapP w5 b s qs) ∧ MapP w5 mb s2 ps ∧ ∃ v1 v2, PlainAt w5 w.heap.size B v1 v2 ps) := Lib.hid ⟨⟨_, hdl, hM5⟩, HR3.out.1.but hg5 HR3.out.2.2 hne, u1, u2, HR3.out.2.1.but hg5 HR3.out.2.2.2⟩
      clear hg5 hM5 hdl hpq hq d0 d1 d2
      go_wp2_with fail
      go_roundw
      case rel => exact ⟨k + 1, by omega, by go_num, hB5, hN⟩
      case measure => simp [intOf]; omega
    · obtain rfl : k = ys.length := by omega
      obtain ⟨-, hC, v1, v2, hP⟩ := hI.out
      have hpr := pairs_any wr mb s2 ⟨0, ⟨#[]⟩, 0⟩ ps hC (by omega)
      have HPr := Lib.hid hpr
      have HP := Lib.hid hP
      clear hpr hC hP hI
      go_wp2_with fail
      refine HPr.out.mono ?_
      rintro e w5 ⟨vk, vv, rfl, hb5, hrk, hrv⟩
      have hP5 := HP.out.mono hb5
      have c0 : w5.cell? ⟨B, 0, none⟩ = some v1 := by rw [cells_of hP5.1]; rfl
      have c1 : w5.cell? ⟨B, 1, none⟩ = some v2 := by rw [cells_of hP5.1]; rfl
      rw [keys_flat] at hrk
      have hsy := syms_self w5 vk v1 (keysL ps) (by simp; omega) (slice_own hrk (keys_length ps).symm rfl) (slice_own hP5.2.2.1 (keys_length ps).symm rfl)
      have e2 : (List.map (fun p : Pr => Value.int .i64 p.v) ps) = (ps.map Pr.v).map VI := vals_int ps
      have hr1 : Reads w5 vv ((ps.map Pr.v).map VI) := reads_own (e2 ▸ hrv)
      have hr2 : Reads w5 v2 ((ps.map Pr.v).map VI) := (by rw [← e2]; exact (e2 ▸ reads_own (base := w.heap.size) (n := ps.length) (e := 3) (zs := ps.map Pr.v) (by rw [← e2]; exact hP5.2.2.2)))
      have hin := fun w' (h : Below w5.heap.size w5 w') => ints_any w' vv v2 (ps.map Pr.v) (ps.map Pr.v) (hr1.mono h) (hr2.mono h) true (by simp)
      have hcell := fun w' (h : Below w5.heap.size w5 w') => (h.cell (p := ⟨B, 1, none⟩) hP5.lt).trans c1
      have HSy := Lib.hid hsy
      have HIn := Lib.hid hin
      have HCell := Lib.hid hcell
      have HB5 := Lib.hid (hBr.out.trans (hb5.mono hBr.out.size))
      clear hsy hin hcell hr1 hr2 e2 hP5 hrk hrv hb5 c1
      go_wp2_with fail
      refine HSy.out.mono ?_
      rintro e w6 ⟨rfl, hb6⟩
      have c1 := HCell.out w6 hb6
      have HIn6 := Lib.hid (HIn.out w6 hb6)
      have HB6 := Lib.hid (HB5.out.trans (hb6.mono HB5.out.size))
      clear hb6 c0
      go_wp2_with fail
      refine HIn6.out.mono ?_
      rintro e w7 ⟨rfl, hb7⟩
      have HB7 := Lib.hid (HB6.out.trans (hb7.mono HB6.out.size))
      clear hb7
      go_wp2_with fail
      refine (bwakes_any _).mono ?_
      rintro e w8 ⟨rfl, hb8⟩
      go_wp2_with fail
      go_ret
      exact ⟨rfl, HB7.out.trans (hb8.mono HB7.out.size)⟩
end Go.Proofs.Ythgidldcblchmaa
