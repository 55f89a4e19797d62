/-
  filled of ponderlaw02. No condition but a bound on sizes.
-/
import Derived.BigQuiet
import Derived.Test.YthgidldcblchmaaBookPlPut
import Derived.Test.YthgidldcblchmaaBookWakes
namespace Go.Proofs.Ythgidldcblchmaa
set_option linter.unusedVariables false
open Go.RowKit
attribute [local go_sem] Oper.semAt_some
abbrev VI (z : Int) : Value := .int .i64 z
/-- v reads as xs: elements of one cell. -/
def Reads (w : World) (v : Value) (xs : List Value) : Prop :=
  ∃ a cap, v = .slice a xs.length cap ∧ xs.length ≤ cap ∧ cap ≤ maxLen ∧ (cap = 0 ∨ ∃ b off, a = some ⟨b, off, none⟩ ∧ b < w.heap.size ∧ ∀ j (h : j < xs.length), w.cell? ⟨b, off + j, none⟩ = some xs[j])
theorem Reads.mono {w w' : World} {v : Value} {xs : List Value} (h : Reads w v xs) (hb : Below w.heap.size w w') : Reads w' v xs := by
  obtain ⟨a, cap, h1, h2, h3, h4⟩ := h
  refine ⟨a, cap, h1, h2, h3, ?_⟩
  rcases h4 with h4 | ⟨b, off, h4, h5, h6⟩
  · exact .inl h4
  · exact .inr ⟨b, off, h4, Nat.lt_of_lt_of_le h5 hb.size, fun j hj => (hb.cell (p := ⟨b, off + j, none⟩) h5).trans (h6 j hj)⟩

theorem ints_any (w : World) (va vb : Value) (xs ys : List Int) (ha : Reads w va (xs.map VI)) (hb : Reads w vb (ys.map VI)) (b : Bool) (hbe : b = decide (xs = ys)) :
    Calls Try.prog 34 #[va, vb] w fun e w' => e = .returned (.bool b) ∧ Below w.heap.size w w' := by
  obtain ⟨pa, ca, rfl, la, ma, ha⟩ := ha
  obtain ⟨pb, cb, rfl, lb, mb, hb⟩ := hb
  simp only [List.length_map] at *
  unfold maxLen at ma mb
  by_cases hl : xs.length = ys.length
  · have hd : ((xs.length : Int) != (ys.length : Int)) = false := by simp [hl]
    have HL := Lib.hid hl
    have HBE := Lib.hid hbe
    have HA := Lib.hid ha
    have HBB := Lib.hid hb
    clear hl ha hb hbe
    go_enter Try.func34, Try.ntmps34
    go_wp2_with fail
    go_loopw [5] (fun i wr => ∃ k : Nat, k ≤ xs.length ∧ i = .int .i64 k ∧ Hid (xs.take k = ys.take k) ∧ Below w.heap.size w wr) (fun i _ => xs.length - (intOf i).toNat)
    case atStart => exact ⟨0, Nat.zero_le _, rfl, Lib.hid (by simp), Below.refl _ _⟩
    case round =>
      obtain ⟨k, hk, rfl, he, hbw⟩ := hrel
      by_cases hlt : k < xs.length
      · have hlt2 : k < ys.length := by have := HL.out; omega
        obtain ⟨ba, oa, rfl, hba, hca⟩ : ∃ b off, pa = some ⟨b, off, none⟩ ∧ b < w.heap.size ∧ ∀ j (h : j < xs.length), w.cell? ⟨b, off + j, none⟩ = some (.int .i64 xs[j]) := by
          rcases HA.out with h0 | ⟨b, off, h1, h2, h3⟩
          · omega
          · exact ⟨b, off, h1, h2, fun j hj => by have := h3 j hj; simpa using this⟩
        obtain ⟨bb, ob, rfl, hbb, hcb⟩ : ∃ b off, pb = some ⟨b, off, none⟩ ∧ b < w.heap.size ∧ ∀ j (h : j < ys.length), w.cell? ⟨b, off + j, none⟩ = some (.int .i64 ys[j]) := by
          rcases HBB.out with h0 | ⟨b, off, h1, h2, h3⟩
          · omega
          · exact ⟨b, off, h1, h2, fun j hj => by have := h3 j hj; simpa using this⟩
        have ka := (hbw.cell (p := ⟨ba, oa + k, none⟩) hba).trans (hca k hlt)
        have kb := (hbw.cell (p := ⟨bb, ob + k, none⟩) hbb).trans (hcb k hlt2)
        have hki : (k : Int) < (xs.length : Int) := by omega
        have hki2 : (k : Int) < (ys.length : Int) := by omega
        by_cases heq : xs[k] = ys[k]
        · have hn : Hid (xs.take (k + 1) = ys.take (k + 1)) := Lib.hid (by rw [List.take_succ_eq_append_getElem hlt, List.take_succ_eq_append_getElem hlt2, he.out, heq])
          rw [← heq] at kb
          generalize xs[k] = x at ka kb
          clear hca hcb heq he
          go_wp2_with fail
          go_quiet (fail)
          go_wp2_with fail
          go_roundw
          case rel => exact ⟨k + 1, by omega, by go_num, hn, bdN _ hbw⟩
          case measure => simp [intOf]; omega
        · have hne : (xs[k] != ys[k]) = true := by simpa using heq
          have hbf : b = false := by
            rw [HBE.out]; apply decide_eq_false
            rintro rfl; exact heq rfl
          subst hbf
          generalize xs[k] = x at ka hne
          generalize ys[k] = y at kb hne
          clear hca hcb heq he
          go_wp2_with fail
          go_quiet (fail)
          go_wp2_with fail
          go_returns
          exact ⟨rfl, bdN _ hbw⟩
      · obtain rfl : k = xs.length := by omega
        have hbt : b = true := by
          rw [HBE.out]; apply decide_eq_true
          have h1 := he.out
          rw [List.take_length, HL.out, List.take_length] at h1
          exact h1
        subst hbt
        go_wp2_with fail
        go_ret
        exact ⟨rfl, hbw⟩
  · have hd : ((xs.length : Int) != (ys.length : Int)) = true := by simp; omega
    have hbf : b = false := by
      rw [hbe]; apply decide_eq_false
      rintro rfl; exact hl rfl
    subst hbf
    clear hl ha hb hbe
    go_enter Try.func34, Try.ntmps34
    go_wp2_with fail
    go_ret
    exact ⟨rfl, Below.refl _ _⟩
theorem within_any (w : World) (v : Int) (n : Nat) (hv : 0 ≤ v) (hv2 : v ≤ 1000000) (hn : n ≤ 1000000) :
    Calls Try.prog 24 #[.int .i64 v, .int .i64 n] w fun e w' => e = .returned (.int .i64 (if n = 0 then 0 else v % n)) ∧ w' = w := by
  by_cases h0 : n = 0
  · subst h0
    go_enter Try.func24, Try.ntmps24
    go_wp2_with fail
    go_ret
    exact ⟨rfl, rfl⟩
  · have hd : decide ((n : Int) < 1) = false := by simp; omega
    have hz : ((n : Int) == 0) = false := by simp; omega
    have hm1 : 0 ≤ v % (n : Int) := Int.emod_nonneg _ (by omega)
    have hm2 : v % (n : Int) < n := Int.emod_lt_of_pos _ (by omega)
    have hd2 : decide (v % (n : Int) < 0) = false := by simp; omega
    have ht : v.tmod n = v % n := Int.tmod_eq_emod_of_nonneg hv
    go_enter Try.func24, Try.ntmps24
    go_wp2_with fail
    go_ret
    exact ⟨rfl, rfl⟩

theorem reads_own {w : World} {base : Nat} {e : TypeId} {v : Value} {n : Nat} {zs : List Int} (h : w.ownsRow base e 1 v n (zs.map VI)) : Reads w v (zs.map VI) := by
  have hn : n = zs.length := by have := h.1; simp at this; omega
  subst hn
  rcases owns_cells h with ⟨h1, h2⟩ | ⟨g, cap, h1, h2, h3, h4, h5⟩
  · obtain rfl := List.eq_nil_of_length_eq_zero h2
    exact ⟨none, 0, by rw [h1]; rfl, by simp, by simp, .inl rfl⟩
  · refine ⟨_, cap, by rw [h1]; simp, by simpa using h4.1, h4.2, .inr ⟨g, 0, rfl, h3, fun j hj => ?_⟩⟩
    rw [Nat.zero_add]; exact h5 j _ (List.getElem?_eq_getElem hj)
theorem keys_flat (ps : List Pr) : (ps.flatMap fun p => encS p.k) = (keysL ps).flatMap encS := by
  induction ps with
  | nil => rfl
  | cons p ps ih => simp [List.flatMap_cons, ih]
theorem vals_int (ps : List Pr) : valsL ps = (ps.map Pr.v).map VI := by simp
open Go.RowKit
/-- What the first k of a list make: each with its place. -/
def fillTo (xs : List Sy) : Nat → List Pr
  | 0 => []
  | k + 1 => if h : k < xs.length then putLP ⟨xs[k], k⟩ (fillTo xs k) else fillTo xs k
theorem fill_succ {xs : List Sy} {k : Nat} (h : k < xs.length) : fillTo xs (k + 1) = putLP ⟨xs[k], k⟩ (fillTo xs k) := by unfold fillTo; rw [dif_pos h]; cases k <;> rfl
theorem fill_sorted (xs : List Sy) : ∀ k, Sorted cmpP (fillTo xs k)
  | 0 => List.Pairwise.nil
  | k + 1 => by
    have ih := fill_sorted xs k
    by_cases h : k < xs.length
    · rw [fill_succ h]; exact put_sorted ih
    · unfold fillTo; rw [dif_neg h]; exact ih
theorem fill_length (xs : List Sy) : ∀ k, (fillTo xs k).length ≤ k
  | 0 => by simp [fillTo]
  | k + 1 => by
    have ih := fill_length xs k
    by_cases h : k < xs.length
    · rw [fill_succ h]
      have := put_length ⟨xs[k], k⟩ (fillTo xs k)
      omega
    · unfold fillTo; rw [dif_neg h]; omega
/-- A map and a plain one that hold the same. -/
def Both (w : World) (base b s B : Nat) (ps : List Pr) : Prop := MapP w b s ps ∧ base ≤ s ∧ ∃ v1 v2, PlainAt w base B v1 v2 ps
theorem Both.put {w w' : World} {base b s B : Nat} {ps : List Pr} (h : Both w base b s B ps) {qs : List Pr} (hg : w.grownBy w' (some s)) (hM : MapP w' b s qs) : ∃ v1 v2, PlainAt w' base B v1 v2 ps := by
  obtain ⟨⟨-, hS⟩, -, v1, v2, hP⟩ := h
  exact ⟨v1, v2, hP.but hg hS⟩
theorem Both.mono {w w' : World} {base b s B : Nat} {ps : List Pr} (h : Both w base b s B ps) (hb : Below w.heap.size w w') : Both w' base b s B ps := by
  obtain ⟨h1, h2, v1, v2, h3⟩ := h
  exact ⟨h1.mono hb, h2, v1, v2, h3.mono hb⟩
def FillOut (w : World) (ps : List Pr) (e : Ending) (w' : World) : Prop := ∃ b s B, e = .returned (.tuple #[.pointer (some ⟨b, 0, none⟩), .pointer (some ⟨B, 0, none⟩)]) ∧ Below w.heap.size w w' ∧ Both w' w.heap.size b s B ps
set_option maxRecDepth 100000 in
set_option maxHeartbeats 4000000 in
theorem filled_any (w : World) (a : Option Addr) (cap : Nat) (xs : List Sy) (hz : xs.length ≤ 1000) (he : ∀ s, w.heap.size ≤ s → ListAt w s a xs) :
    Calls Try.prog 35 #[.slice a xs.length cap] w (FillOut w (fillTo xs xs.length)) := by
  have HL := Lib.hid (he w.heap.size (Nat.le_refl _))
  clear he
  go_enter Try.func35, Try.ntmps35
  go_wp2_with fail
  refine (new_mapP w).mono ?_
  rintro e w1 ⟨b, s, rfl, hs, hsb, hb1, hM1⟩
  obtain ⟨W2, hW2⟩ : ∃ W2, W2 = w1.alloc (.cells #[.slice none 0 0, .slice none 0 0] 47) := ⟨_, rfl⟩
  obtain ⟨B, hBB⟩ : ∃ B, B = w1.heap.size := ⟨_, rfl⟩
  have HW := Lib.hid hW2
  have HBB := Lib.hid hBB
  have hb2 : Below w1.heap.size w1 W2 := by rw [hW2]; go_grown
  have hboth : Both W2 w.heap.size b s B (fillTo xs 0) := ⟨hM1.mono hb2, hs, .slice none 0 0, .slice none 0 0, by rw [hW2, hBB]; exact new_at rfl, by rw [hBB]; exact hb1.size, World.ownsRow_nil _ _ _ _, World.ownsRow_nil _ _ _ _⟩
  have HBoth := Lib.hid hboth
  have HB2 := Lib.hid (hb1.trans (hb2.mono hb1.size))
  clear hs hsb hb1 hM1 hW2 hBB hb2 hboth
  go_wp2_with fail
  rw [← HW.out, ← HBB.out]
  go_loopw [6] (fun i wr => ∃ k : Nat, k ≤ xs.length ∧ i = .int .i64 k ∧ Hid (Below w.heap.size w wr) ∧ Hid (Both wr w.heap.size b s B (fillTo xs k))) (fun i _ => xs.length - (intOf i).toNat)
  case atStart => exact ⟨0, Nat.zero_le _, rfl, HB2, HBoth⟩
  case round =>
    obtain ⟨k, hk, rfl, hBr, hbo⟩ := hrel
    by_cases hlt : k < xs.length
    · obtain ⟨bo, off, rfl, -, c0, c1, c2⟩ := (HL.out.kc (KC.below hBr.out)) k hlt
      have hki : (k : Int) < (xs.length : Int) := by omega
      have hf := fill_succ hlt
      have hl := fill_length xs k
      have hso := fill_sorted xs k
      have hel := fun w' (h : Below w.heap.size w w') => (HL.out.kc (KC.below h)) k hlt
      obtain ⟨x, hx⟩ : ∃ x, x = xs[k] := ⟨_, rfl⟩
      rw [← hx] at c0 c1 c2 hf
      simp only [← hx] at hel
      obtain ⟨ps, hps⟩ : ∃ ps, ps = fillTo xs k := ⟨_, rfl⟩
      rw [← hps] at hbo hf hl hso
      have HEl := Lib.hid hel
      have HF := Lib.hid hf
      have HSo := Lib.hid hso
      clear hel hf hx hps hso
      have hput := put_mapP wr b s ⟨x, k⟩ ps hbo.out.1 (by omega)
      have HPut := Lib.hid hput
      clear hput
      go_wp2_with fail
      refine HPut.out.mono ?_
      rintro e w3 ⟨q, rfl, hg, hM3⟩
      obtain ⟨v1, v2, hP3⟩ := hbo.out.put hg hM3
      have hB3 := Lib.hid (hBr.out.trans (belowg hg hBr.out.size hbo.out.2.1))
      obtain ⟨bo', off', e1, -, d0, d1, d2⟩ := HEl.out w3 hB3.out
      obtain ⟨rfl, rfl⟩ : bo' = bo ∧ off' = off := by simp at e1; exact ⟨e1.1.symm, e1.2.symm⟩
      have hpl := put_plain w3 w.heap.size B v1 v2 ps x k HSo.out hB3.out.size (by omega) hP3
      have HPl := Lib.hid hpl
      have HM3 := Lib.hid hM3
      clear hpl hM3 hP3 hg c0 c1 c2 e1
      go_wp2_with fail
      refine HPl.out.mono ?_
      rintro e w4 ⟨rfl, hT, v1', v2', hP4⟩
      have hB4 := Lib.hid (hB3.out.trans hT.below)
      have hbo4 : Hid (Both w4 w.heap.size b s B (fillTo xs (k + 1))) := Lib.hid (by rw [HF.out]; exact ⟨HM3.out.kn hT.kn, hbo.out.2.1, v1', v2', hP4⟩)
      clear hT hP4
      go_wp2_with fail
      go_roundw
      case rel => exact ⟨k + 1, by omega, by go_num, hB4, hbo4⟩
      case measure => simp [intOf]; omega
    · obtain rfl : k = xs.length := by omega
      go_wp2_with fail
      go_ret2
      exact ⟨b, s, B, rfl, hBr.out, hbo.out⟩
end Go.Proofs.Ythgidldcblchmaa
