/-
  filled of ponderlaw02. No condition but a bound on sizes.
-/
import Derived.Test.YthgidldcblchmaaBookHelp
import Derived.Test.YthgidldcblchmaaBookWakes
namespace Go.Proofs.Ythgidldcblchmaa
set_option linter.unusedVariables false
open Go.RowKit
/-- What the first k of a list make: each with its place. -/
def fillTo (xs : List Sy) : Nat → List Pr
  | 0 => []
  | k + 1 => if h : k < xs.length then putLP ⟨xs[k], k⟩ (fillTo xs k) else fillTo xs k
theorem fill_succ {xs : List Sy} {k : Nat} (h : k < xs.length) : fillTo xs (k + 1) = putLP ⟨xs[k], k⟩ (fillTo xs k) := by unfold fillTo; rw [dif_pos h]; cases k <;> rfl
theorem fill_sorted (xs : List Sy) : ∀ k, Sorted cmpP (fillTo xs k)
  | 0 => List.Pairwise.nil
  | k + 1 => by
    have ih := fill_sorted xs k
    by_cases h : k < xs.length
    · rw [fill_succ h]; exact put_sorted ih
    · unfold fillTo; rw [dif_neg h]; exact ih
theorem fill_length (xs : List Sy) : ∀ k, (fillTo xs k).length ≤ k
  | 0 => by simp [fillTo]
  | k + 1 => by
    have ih := fill_length xs k
    by_cases h : k < xs.length
    · rw [fill_succ h]
      have := put_length ⟨xs[k], k⟩ (fillTo xs k)
      omega
    · unfold fillTo; rw [dif_neg h]; omega
/-- A map and a plain one that hold the same. -/
def Both (w : World) (base b s B : Nat) (ps : List Pr) : Prop := MapP w b s ps ∧ base ≤ s ∧ ∃ v1 v2, PlainAt w base B v1 v2 ps
theorem Both.put {w w' : World} {base b s B : Nat} {ps : List Pr} (h : Both w base b s B ps) {qs : List Pr} (hg : w.grownBy w' (some s)) (hM : MapP w' b s qs) : ∃ v1 v2, PlainAt w' base B v1 v2 ps := by
  obtain ⟨⟨-, hS⟩, -, v1, v2, hP⟩ := h
  exact ⟨v1, v2, hP.but hg hS⟩
theorem Both.mono {w w' : World} {base b s B : Nat} {ps : List Pr} (h : Both w base b s B ps) (hb : Below w.heap.size w w') : Both w' base b s B ps := by
  obtain ⟨h1, h2, v1, v2, h3⟩ := h
  exact ⟨h1.mono hb, h2, v1, v2, h3.mono hb⟩
def FillOut (w : World) (ps : List Pr) (e : Ending) (w' : World) : Prop := ∃ b s B, e = .returned (.tuple #[.pointer (some ⟨b, 0, none⟩), .pointer (some ⟨B, 0, none⟩)]) ∧ Below w.heap.size w w' ∧ Both w' w.heap.size b s B ps
set_option maxRecDepth 100000 in
set_option maxHeartbeats 4000000 in
theorem filled_any (w : World) (a : Option Addr) (cap : Nat) (xs : List Sy) (hz : xs.length ≤ 1000) (he : ∀ s, w.heap.size ≤ s → ListAt w s a xs) :
    Calls Try.prog 35 #[.slice a xs.length cap] w (FillOut w (fillTo xs xs.length)) := by
  have HL := Lib.hid (he w.heap.size (Nat.le_refl _))
  clear he
  go_enter Try.func35, Try.ntmps35
  go_wp2_with fail
  refine (new_mapP w).mono ?_
  rintro e w1 ⟨b, s, rfl, hs, hsb, hb1, hM1⟩
  obtain ⟨W2, hW2⟩ : ∃ W2, W2 = w1.alloc (.cells #[.slice none 0 0, .slice none 0 0] 47) := ⟨_, rfl⟩
  obtain ⟨B, hBB⟩ : ∃ B, B = w1.heap.size := ⟨_, rfl⟩
  have HW := Lib.hid hW2
  have HBB := Lib.hid hBB
  have hb2 : Below w1.heap.size w1 W2 := by rw [hW2]; go_grown
  have hboth : Both W2 w.heap.size b s B (fillTo xs 0) := ⟨hM1.mono hb2, hs, .slice none 0 0, .slice none 0 0, by rw [hW2, hBB]; exact new_at rfl, by rw [hBB]; exact hb1.size, World.ownsRow_nil _ _ _ _, World.ownsRow_nil _ _ _ _⟩
  have HBoth := Lib.hid hboth
  have HB2 := Lib.hid (hb1.trans (hb2.mono hb1.size))
  clear hs hsb hb1 hM1 hW2 hBB hb2 hboth
  go_wp2_with fail
  rw [← HW.out, ← HBB.out]
  go_loopw [6] (fun i wr => ∃ k : Nat, k ≤ xs.length ∧ i = .int .i64 k ∧ Hid (Below w.heap.size w wr) ∧ Hid (Both wr w.heap.size b s B (fillTo xs k))) (fun i _ => xs.length - (intOf i).toNat)
  case atStart => exact ⟨0, Nat.zero_le _, rfl, HB2, HBoth⟩
  case round =>
    obtain ⟨k, hk, rfl, hBr, hbo⟩ := hrel
    by_cases hlt : k < xs.length
    · obtain ⟨bo, off, rfl, -, c0, c1, c2⟩ := (HL.out.kc (KC.below hBr.out)) k hlt
      have hki : (k : Int) < (xs.length : Int) := by omega
      have hf := fill_succ hlt
      have hl := fill_length xs k
      have hso := fill_sorted xs k
      have hel := fun w' (h : Below w.heap.size w w') => (HL.out.kc (KC.below h)) k hlt
      obtain ⟨x, hx⟩ : ∃ x, x = xs[k] := ⟨_, rfl⟩
      rw [← hx] at c0 c1 c2 hf
      simp only [← hx] at hel
      obtain ⟨ps, hps⟩ : ∃ ps, ps = fillTo xs k := ⟨_, rfl⟩
      rw [← hps] at hbo hf hl hso
      have HEl := Lib.hid hel
      have HF := Lib.hid hf
      have HSo := Lib.hid hso
      clear hel hf hx hps hso
      have hput := put_mapP wr b s ⟨x, k⟩ ps hbo.out.1 (by omega)
      have HPut := Lib.hid hput
      clear hput
      go_wp2_with fail
      refine HPut.out.mono ?_
      rintro e w3 ⟨q, rfl, hg, hM3⟩
      obtain ⟨v1, v2, hP3⟩ := hbo.out.put hg hM3
      have hB3 := Lib.hid (hBr.out.trans (belowg hg hBr.out.size hbo.out.2.1))
      obtain ⟨bo', off', e1, -, d0, d1, d2⟩ := HEl.out w3 hB3.out
      obtain ⟨rfl, rfl⟩ : bo' = bo ∧ off' = off := by simp at e1; exact ⟨e1.1.symm, e1.2.symm⟩
      have hpl := put_plain w3 w.heap.size B v1 v2 ps x k HSo.out hB3.out.size (by omega) hP3
      have HPl := Lib.hid hpl
      have HM3 := Lib.hid hM3
      clear hpl hM3 hP3 hg c0 c1 c2 e1
      go_wp2_with fail
      refine HPl.out.mono ?_
      rintro e w4 ⟨rfl, hT, v1', v2', hP4⟩
      have hB4 := Lib.hid (hB3.out.trans hT.below)
      have hbo4 : Hid (Both w4 w.heap.size b s B (fillTo xs (k + 1))) := Lib.hid (by rw [HF.out]; exact ⟨HM3.out.kn hT.kn, hbo.out.2.1, v1', v2', hP4⟩)
      clear hT hP4
      go_wp2_with fail
      go_roundw
      case rel => exact ⟨k + 1, by omega, by go_num, hB4, hbo4⟩
      case measure => simp [intOf]; omega
    · obtain rfl : k = xs.length := by omega
      go_wp2_with fail
      go_ret2
      exact ⟨b, s, B, rfl, hBr.out, hbo.out⟩
end Go.Proofs.Ythgidldcblchmaa
