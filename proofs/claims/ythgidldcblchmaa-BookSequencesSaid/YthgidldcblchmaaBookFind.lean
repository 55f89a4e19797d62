/-
  plain of ponderlaw02: find. No condition.
-/
import Derived.Test.YthgidldcblchmaaOfS
import Derived.BigQuiet
namespace Go.Proofs.Ythgidldcblchmaa
set_option linter.unusedVariables false
open Go.RowKit
namespace Plain
theorem sy_iff {x y : Sy} : x = y ↔ x.k = y.k ∧ x.t.toList = y.t.toList ∧ x.n = y.n := by
  constructor
  · rintro rfl; exact ⟨rfl, rfl, rfl⟩
  · rintro ⟨h1, h2, h3⟩
    cases x; cases y
    simp only [Lib.toList_data] at h2
    simp only at h1 h3
    subst h1; subst h3
    rw [ByteArray.ext (Array.toList_inj.mp h2)]
theorem eqY_run (x y : Sy) (w : World) : (binOp .eql 27 (.agg #[.int .i64 x.k, .string x.t, .int .i64 x.n]) (.agg #[.int .i64 y.k, .string y.t, .int .i64 y.n])).run Try.prog w = .ok (.bool (decide (x = y))) w := by
  simp only [sy_iff]
  simp [go_sem]
  split <;> (try split) <;> (try split) <;> simp_all
theorem neY_run (x y : Sy) (w : World) : (binOp .neq 27 (.agg #[.int .i64 x.k, .string x.t, .int .i64 x.n]) (.agg #[.int .i64 y.k, .string y.t, .int .i64 y.n])).run Try.prog w = .ok (.bool (!decide (x = y))) w := by
  simp only [sy_iff]
  simp [go_sem]
  split <;> (try split) <;> (try split) <;> simp_all
theorem eqY_yes {x y : Sy} (h : x = y) (w : World) : (binOp .eql 27 (.agg #[.int .i64 x.k, .string x.t, .int .i64 x.n]) (.agg #[.int .i64 y.k, .string y.t, .int .i64 y.n])).run Try.prog w = .ok (.bool true) w := by rw [eqY_run]; simp [h]
theorem eqY_no {x y : Sy} (h : x ≠ y) (w : World) : (binOp .eql 27 (.agg #[.int .i64 x.k, .string x.t, .int .i64 x.n]) (.agg #[.int .i64 y.k, .string y.t, .int .i64 y.n])).run Try.prog w = .ok (.bool false) w := by rw [eqY_run]; simp [h]
theorem neY_yes {x y : Sy} (h : x ≠ y) (w : World) : (binOp .neq 27 (.agg #[.int .i64 x.k, .string x.t, .int .i64 x.n]) (.agg #[.int .i64 y.k, .string y.t, .int .i64 y.n])).run Try.prog w = .ok (.bool true) w := by rw [neY_run]; simp [h]
theorem neY_no {x y : Sy} (h : x = y) (w : World) : (binOp .neq 27 (.agg #[.int .i64 x.k, .string x.t, .int .i64 x.n]) (.agg #[.int .i64 y.k, .string y.t, .int .i64 y.n])).run Try.prog w = .ok (.bool false) w := by rw [neY_run]; simp [h]

end Plain
/-- A plain map at block B: its keys' and its values' slices. -/
def PlainBox (w : World) (B : Nat) (a1 : Option Addr) (n1 c1 : Nat) (a2 : Option Addr) (n2 c2 : Nat) : Prop := w.heap[B]? = some (.cells #[.slice a1 n1 c1, .slice a2 n2 c2] 47 (0, 0))
/-- Where does a key stand? -/
def FindIs (ks : List Sy) (x : Sy) (r : Int) : Prop := (r = -1 ∧ ∀ i (h : i < ks.length), ks[i] ≠ x) ∨ ∃ k, ∃ h : k < ks.length, r = k ∧ ks[k] = x ∧ ∀ i (h2 : i < k), ks[i] ≠ x
set_option maxRecDepth 100000 in
set_option maxHeartbeats 2000000 in
theorem find_plain (w : World) (B s : Nat) (a1 : Option Addr) (c1 : Nat) (a2 : Option Addr) (n2 c2 : Nat) (ks : List Sy) (x : Sy) (hz : ks.length ≤ 1000000) (hB : PlainBox w B a1 ks.length c1 a2 n2 c2) (hL : ListAt w s a1 ks) :
    Calls Try.prog 23 #[.pointer (some ⟨B, 0, none⟩), .agg #[.int .i64 x.k, .string x.t, .int .i64 x.n]] w fun e w' => (∃ r, e = .returned (.int .i64 r) ∧ FindIs ks x r) ∧ Below w.heap.size w w' := by
  obtain ⟨W2, hW2⟩ : ∃ W2, W2 = w.alloc (.cells #[.int .i64 x.k, .string x.t, .int .i64 x.n] 27) := ⟨_, rfl⟩
  have hBl : Below w.heap.size w W2 := by rw [hW2]; go_grown
  have hx : W2.heap[w.heap.size]? = some (.cells #[.int .i64 x.k, .string x.t, .int .i64 x.n] 27 (0, 0)) := by rw [hW2]; exact new_at rfl
  have hcell : ∀ w', Below W2.heap.size W2 w' → (w'.cell? ⟨B, 0, none⟩ = some (.slice a1 ks.length c1) ∧ w'.cell? ⟨w.heap.size, 0, none⟩ = some (.int .i64 x.k) ∧ w'.cell? ⟨w.heap.size, 1, none⟩ = some (.string x.t) ∧ w'.cell? ⟨w.heap.size, 2, none⟩ = some (.int .i64 x.n)) ∧ ListAt w' s a1 ks := fun w' h => by
    have hb := hBl.trans (h.mono hBl.size)
    have h1 := (hb.block _ (heap_lt hB)).trans hB
    have h2 := (h.block _ (heap_lt hx)).trans hx
    exact ⟨⟨by rw [cells_of h1]; rfl, by rw [cells_of h2]; rfl, by rw [cells_of h2]; rfl, by rw [cells_of h2]; rfl⟩, hL.kc (KC.below hb)⟩
  have HC := Lib.hid hcell
  have HB := Lib.hid hBl
  have HW := Lib.hid hW2
  clear hcell hBl hx hW2 hB hL
  go_enter Try.func23, Try.ntmps23
  go_wp2_with fail
  rw [← HW.out]
  go_loopw [5] (fun i wr => ∃ k : Nat, k ≤ ks.length ∧ i = .int .i64 k ∧ Hid (∀ i (h : i < ks.length), i < k → ks[i] ≠ x) ∧ Hid (Below W2.heap.size W2 wr)) (fun i _ => ks.length - (intOf i).toNat)
  case atStart => exact ⟨0, Nat.zero_le _, rfl, Lib.hid (fun i _ hi => absurd hi (by omega)), Lib.hid (Below.refl _ _)⟩
  case round =>
    obtain ⟨k, hk, rfl, hno, hBr⟩ := hrel
    obtain ⟨⟨p0, x0, x1, x2⟩, hl⟩ := HC.out wr hBr.out
    by_cases hlt : k < ks.length
    · obtain ⟨b, off, rfl, -, c0, c1, c2⟩ := hl k hlt
      have hki : (k : Int) < (ks.length : Int) := by omega
      obtain ⟨y, hy⟩ : ∃ y, y = ks[k] := ⟨_, rfl⟩
      rw [← hy] at c0 c1 c2
      by_cases hyx : y = x
      · have hq := Plain.eqY_yes hyx
        have HR := Lib.hid (show FindIs ks x k from .inr ⟨k, hlt, rfl, by rw [← hy, hyx], fun i hi => hno.out i (by omega) hi⟩)
        have HB2 := Lib.hid (HB.out.trans (hBr.out.mono HB.out.size))
        clear hl hy hyx hno
        go_wp2_with fail
        go_quiet (fail)
        go_wp2_with fail
        go_ret
        exact ⟨⟨_, rfl, HR.out⟩, bdN _ HB2.out⟩
      · have hq := Plain.eqY_no hyx
        have HN : Hid (∀ i (h : i < ks.length), i < k + 1 → ks[i] ≠ x) := Lib.hid (fun i h hi => by
          rcases Nat.lt_or_ge i k with h1 | h1
          · exact hno.out i h h1
          · obtain rfl : i = k := by omega
            rw [← hy]; exact hyx)
        clear hl hy hyx hno
        go_wp2_with fail
        go_quiet (fail)
        go_wp2_with fail
        go_roundw
        case rel => exact ⟨k + 1, by omega, by go_num, HN, Lib.hid (bdN _ hBr.out)⟩
        case measure => simp [intOf]; omega
    · obtain rfl : k = ks.length := by omega
      have HR := Lib.hid (show FindIs ks x (-1) from .inl ⟨rfl, fun i h => hno.out i h h⟩)
      have HB2 := Lib.hid (HB.out.trans (hBr.out.mono HB.out.size))
      clear hl hno
      go_wp2_with fail
      go_ret
      exact ⟨⟨_, rfl, HR.out⟩, HB2.out⟩
end Go.Proofs.Ythgidldcblchmaa
