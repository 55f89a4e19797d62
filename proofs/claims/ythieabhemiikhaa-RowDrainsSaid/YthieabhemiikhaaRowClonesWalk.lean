/-
  A queue's Clone; the walk of RowClones.
-/
import Derived.BigQuiet
import Derived.Deep.RegionHeld3
import Derived.Test.YthieabhemiikhaaRowList
import Derived.Test.YthieabhemiikhaaRowWakes
namespace Go.Proofs.Ythieabhemiikhaa
set_option linter.unusedVariables false
open Go.RowKit
def QClone (w : World) (room : Nat) (xs : List Value) (e : Ending) (w' : World) : Prop :=
  ∃ c v, e = .returned (.pointer (some ⟨c, 0, none⟩)) ∧ w.heap.size ≤ c ∧ QI w' c v room xs ∧ Below w.heap.size w w' ∧ ∀ g, v.ownBlock = some g → w.heap.size ≤ g
set_option maxHeartbeats 1000000 in
theorem qclone_any (w : World) (q : Nat) (v : Value) (room : Nat) (zs : List Int) (h : QI w q v room (zs.map VI)) (hn : zs.length ≤ 1000000) :
    Calls Try.prog 29 #[.pointer (some ⟨q, 0, none⟩)] w (QClone w room (zs.map VI)) := by
  obtain ⟨a0, c0, rfl, l0, m0⟩ := h.form
  have hcl := fun w' (hb : Below w.heap.size w w') => (clone_any w' _ zs (h.2.mono hb) hn).mono (R' := fun e w2 => ∃ a n c, e = .returned (.slice a n c) ∧ Hid (Fresh w' w2 (.slice a n c) (zs.map VI))) (by
    rintro e w2 ⟨v', he, hf⟩
    rcases id hf.1 with ⟨rfl, _⟩ | ⟨g, off, cap, rfl, _⟩
    · exact ⟨_, _, _, he, hf⟩
    · exact ⟨_, _, _, he, hf⟩)
  have hk : ∀ w', Below w.heap.size w w' → w'.cell? ⟨q, 0, none⟩ = some (.slice a0 (zs.map VI).length c0) ∧ w'.cell? ⟨q, 1, none⟩ = some (.int .i64 room) := fun w' hb => ⟨(h.mono hb).cells.1, (h.mono hb).cells.2.1⟩
  have hfin : ∀ w1 w2 a n c, Below w.heap.size w w1 → Fresh w1 w2 (.slice a n c) (zs.map VI) → QClone w room (zs.map VI) (.returned (.pointer (some ⟨w2.heap.size, 0, none⟩))) (w2.alloc (.cells #[.slice a n c, .int .i64 room] 60)) := by
    rintro w1 w2 a n c hb ⟨f1, f2, f3⟩
    have hb2 := hb.trans (f2.mono hb.size)
    have hA : Below w2.heap.size w2 (w2.alloc (.cells #[.slice a n c, .int .i64 room] 60)) := (Below.refl _ _).alloc (Nat.le_refl _) _
    exact ⟨_, _, rfl, hb2.size, ⟨new_at rfl, f1.mono hA⟩, hb2.trans (hA.mono hb2.size), fun g hg => Nat.le_trans hb.size (f3 g hg)⟩
  simp only [List.length_map] at hcl hk
  obtain ⟨k0, k1⟩ := hk w (Below.refl _ _)
  have HC := Lib.hid hcl
  have HK := Lib.hid hk
  have HF := Lib.hid hfin
  unfold maxLen at m0
  clear hcl hk hfin h l0
  go_enter Try.func29, Try.ntmps29
  go_wp2_with fail
  have hB0 : Hid (Below w.heap.size w w.drew) := Lib.hid (Below.refl _ _).drew
  go_region_held3 (fun w' => Below w.heap.size w w' ∧ w'.cell? ⟨q, 0, none⟩ = some (.slice a0 zs.length c0) ∧ w'.cell? ⟨q, 1, none⟩ = some (.int .i64 room))
    (first | exact ⟨hB0.out, HK.out _ hB0.out⟩ | exact ⟨hB1.out, HK.out _ hB1.out⟩ | exact ⟨hB1.out.alloc hB1.out.size _, HK.out _ (hB1.out.alloc hB1.out.size _)⟩ | go_keep)
    (first | (go_at_call 31; refine (HC.out _ hB0.out).mono ?_; rintro e w2 ⟨a2, n2, c2, rfl, hf2⟩; have hB1 : Hid (Below w.heap.size w w2) := Lib.hid (hB0.out.trans (hf2.out.2.1.mono hB0.out.size))))
  go_wp2_with fail
  go_ret
  exact HF.out _ _ _ _ _ hB0.out hf2.out
theorem ArgI.elim {w : World} {a : Option Addr} {len cap : Nat} {zs : List Int} (h : ArgI w a len cap zs) : len = zs.length ∧ Reads w (.slice a len cap) (zs.map VI) ∧ len ≤ maxLen ∧ ∀ z ∈ zs, InR z := by
  obtain ⟨rfl, h, hr⟩ := h
  obtain ⟨a', cap', he, h1, h2, -⟩ := id h
  exact ⟨rfl, h, by simp at h1; omega, hr⟩
theorem clones_long (w : World) (a0 : Option Addr) (len0 cap0 : Nat) (z0 : List Int) (h0 : ArgI w a0 len0 cap0 z0) (a1 : Option Addr) (len1 cap1 : Nat) (z1 : List Int) (h1 : ArgI w a1 len1 cap1 z1) (h : 100 < len0 ∨ 100 < len1) :
    Calls Try.prog 8 #[.slice a0 len0 cap0, .slice a1 len1 cap1] w fun e w' => e = .returned (.bool true) ∧ Below w.heap.size w w' := by
  obtain ⟨-, -, m0, -⟩ := h0.elim
  obtain ⟨-, -, m1, -⟩ := h1.elim
  unfold maxLen at m0 m1
  clear h0 h1
  by_cases h2 : 100 < len0
  · have hd : decide (100 < (len0 : Int)) = true := decide_eq_true (by omega)
    go_enter Try.func8, Try.ntmps8
    go_wp2_with fail
    refine (wakes_any _).mono ?_
    rintro e w9 ⟨rfl, h9⟩
    go_wp2_with fail
    go_ret
    exact ⟨rfl, h9⟩
  · have hd : decide (100 < (len0 : Int)) = false := decide_eq_false (by omega)
    have hd1 : decide (100 < (len1 : Int)) = true := decide_eq_true (by omega)
    go_enter Try.func8, Try.ntmps8
    go_wp2_with fail
    refine (wakes_any _).mono ?_
    rintro e w9 ⟨rfl, h9⟩
    go_wp2_with fail
    go_ret
    exact ⟨rfl, h9⟩
/-- What a call on the queue q leaves of the clone c, and of old memory. -/
def AftC (w w' : World) (c : Nat) (xs : List Value) : Prop := Below w.heap.size w w' ∧ ∃ v, QI w' c v 1000 xs
set_option maxRecDepth 100000 in
set_option maxHeartbeats 4000000 in
theorem clones_walk (w : World) (a0 : Option Addr) (len0 cap0 : Nat) (z0 : List Int) (h0 : ArgI w a0 len0 cap0 z0) (a1 : Option Addr) (len1 cap1 : Nat) (z1 : List Int) (h1 : ArgI w a1 len1 cap1 z1) :
    Calls Try.prog 8 #[.slice a0 len0 cap0, .slice a1 len1 cap1] w fun e w' => e = .returned (.bool true) ∧ Below w.heap.size w w' := by
  by_cases hlong : 100 < len0 ∨ 100 < len1
  · exact clones_long w a0 len0 cap0 z0 h0 a1 len1 cap1 z1 h1 hlong
  obtain ⟨e0, r0, m0, -⟩ := h0.elim
  obtain ⟨e1, r1, m1, -⟩ := h1.elim
  have hd : decide (100 < (len0 : Int)) = false := decide_eq_false (by omega)
  have hd1 : decide (100 < (len1 : Int)) = false := decide_eq_false (by omega)
  have hmade := made_any w _ _ r0 VI_one (by simp; omega)
  have HM := Lib.hid hmade
  have HR0 := Lib.hid r0
  have HR1 := Lib.hid r1
  have hlen0 : z0.length ≤ 100 := by omega
  have hlen1 : z1.length ≤ 100 := by omega
  clear hmade r0 r1 h0 h1 hlong e0 e1 m0 m1
  go_enter Try.func8, Try.ntmps8
  go_wp2_with fail
  refine HM.out.mono ?_
  rintro e w1 ⟨q, v, rfl, hq, hQ, hB1, hv⟩
  have hcl := qclone_any w1 q v 1000 z0 hQ (by omega)
  have HC := Lib.hid hcl
  have HQ := Lib.hid hQ
  have HB1 := Lib.hid hB1
  have HV := Lib.hid hv
  clear hcl hQ hB1 hv HM
  go_wp2_with fail
  refine HC.out.mono ?_
  rintro e w2 ⟨c, vc, rfl, hc, hQc, hB2, hvc⟩
  have hq2 := HQ.out.mono hB2
  have hb2 := HB1.out.trans (hB2.mono HB1.out.size)
  have hqc : q < c := Nat.lt_of_lt_of_le HQ.out.lt hc
  have hcq : ∀ g, vc.ownBlock = some g → ¬ Own2 q v g := by
    rintro g hg (rfl | h)
    · have := hvc _ hg; have := HQ.out.lt; omega
    · have := hvc _ hg; have := HQ.out.2.lt h; omega
  have hcn : ¬ Own2 q v c := by
    rintro (h | h)
    · omega
    · have := HQ.out.2.lt h; omega
  have hp := (push_okI w2 q v 1000 _ hq2 _ _ (HR1.out.mono hb2) VI_one (by simp; omega) (by omega)).mono (R' := fun e w' => e = .returned (.bool true) ∧ Hid (Below w.heap.size w w' ∧ QI w' c vc 1000 (z0.map VI) ∧ ∃ v', QI w' q v' 1000 (z0.map VI ++ z1.map VI) ∧ (∀ g, v'.ownBlock = some g → w.heap.size ≤ g ∧ vc.ownBlock ≠ some g ∧ g ≠ c))) (by
    rintro e w' ⟨he, v', p1, p2, p3⟩
    refine ⟨he, hb2.trans (p2.below hb2.size (fun k _ hk => ?_)), hQc.but p2 hcn hcq, v', p1, fun g hg => ?_⟩
    · rcases hk with rfl | hk
      · exact hq
      · exact HV.out k hk
    · rcases p3 with p3 | p3 | ⟨g', p3, p4⟩
      · rw [p3] at hg
        exact ⟨HV.out g hg, fun e => hcq g e (.inr hg), fun e => hcn (by rw [← e]; exact .inr hg)⟩
      · rw [p3] at hg; cases hg
      · rw [p3] at hg; cases hg
        exact ⟨Nat.le_trans hb2.size p4, fun e => by have := hQc.2.lt e; omega, fun e => by have := hQc.lt; omega⟩)
  have HP := Lib.hid hp
  have hcW : w.heap.size ≤ c := by omega
  obtain ⟨ac, cc, rfl, -, -⟩ := hQc.form
  clear hp hQc hB2 hvc hq2 hb2 hcq hcn HC
  go_wp2_with fail
  refine HP.out.mono ?_
  rintro e w3 ⟨rfl, h3⟩
  obtain ⟨hb3, hc3, v3, hq3, ho3⟩ := h3.out
  have hpop : Calls Try.prog 13 #[.pointer (some ⟨q, 0, none⟩)] w3 fun e w' => (∃ x y, e = .returned (.tuple #[x, y])) ∧ Hid (AftC w w' c (z0.map VI)) := by
    generalize z0.map VI ++ z1.map VI = ys at hq3
    cases ys with
    | nil =>
      refine (pop_nilI w3 q v3 1000 hq3).mono ?_
      rintro e w' ⟨rfl, rfl⟩
      have hA : Below w3.heap.size w3 (w3.alloc (.cells #[.int .i64 0] 3)) := (Below.refl _ _).alloc (Nat.le_refl _) _
      exact ⟨⟨_, _, rfl⟩, hb3.trans (hA.mono hb3.size), _, hc3.mono hA⟩
    | cons x ys =>
      refine (pop_consI w3 q v3 1000 x ys hq3).mono ?_
      rintro e w' ⟨rfl, v4, p1, p2, p3⟩
      refine ⟨⟨_, _, rfl⟩, hb3.trans (p2.below hb3.size (fun k _ hk => ?_)), _, hc3.but p2 ?_ ?_⟩
      · rcases hk with rfl | hk
        · exact hq
        · exact (ho3 k hk).1
      · rintro (h | h)
        · omega
        · exact (ho3 c h).2.2 rfl
      · rintro g hg (rfl | h)
        · have := hc3.2.ne hq3.1 (show 60 ≠ 3 by decide) hg; omega
        · exact (ho3 g h).2.1 hg
  have HPP := Lib.hid hpop
  clear hpop hb3 hc3 hq3 ho3 h3 HP
  go_wp2_with fail
  refine HPP.out.mono ?_
  rintro e w4 ⟨⟨x, y, rfl⟩, h4⟩
  go_wp2_with fail
  refine (all_any w4 c).mono ?_
  rintro e w5 ⟨rfl, rfl⟩
  obtain ⟨W5, hW5⟩ : ∃ W5, W5 = w4.alloc (.cells #[.pointer (some ⟨c, 0, none⟩)] 23) := ⟨_, rfl⟩
  obtain ⟨B5, hB5⟩ : ∃ B5, B5 = w4.heap.size := ⟨_, rfl⟩
  have b5 : Below w4.heap.size w4 W5 := by rw [hW5]; exact (Below.refl _ _).alloc (Nat.le_refl _) _
  have hblk : W5.heap[B5]? = some (.cells #[.pointer (some ⟨c, 0, none⟩)] 23 (0, 0)) := by rw [hW5]; exact new_at hB5
  rw [← hW5, ← hB5]
  obtain ⟨hb4, v4, hq4⟩ := h4.out
  have hl := list_all W5 B5 c v4 1000 z0 (by omega) hblk (hq4.mono b5)
  have HL := Lib.hid hl
  have hb5 := Lib.hid (hb4.trans (b5.mono hb4.size))
  clear hl hW5 hB5 b5 hblk hb4 hq4 h4 HPP
  go_wp2_with fail
  refine HL.out.mono ?_
  rintro e w6 ⟨v6, rfl, hf⟩
  have hb6 := Lib.hid (hb5.out.trans (hf.2.1.mono hb5.out.size))
  have hr6 := Lib.hid hf.1.reads
  have hi := ints_any w6 v6 _ z0 z0 hr6.out (HR0.out.mono hb6.out) true (by simp)
  have HI := Lib.hid hi
  clear hf hi HL
  go_wp2_with fail
  refine HI.out.mono ?_
  rintro e w7 ⟨rfl, hb7⟩
  have hb8 := Lib.hid (hb6.out.trans (hb7.mono hb6.out.size))
  clear hb7 HI
  go_wp2_with fail
  refine (wakes_any w7).mono ?_
  rintro e w8 ⟨rfl, hb9⟩
  go_wp2_with fail
  go_ret
  exact ⟨rfl, hb8.out.trans (hb9.mono hb8.out.size)⟩
end Go.Proofs.Ythieabhemiikhaa
