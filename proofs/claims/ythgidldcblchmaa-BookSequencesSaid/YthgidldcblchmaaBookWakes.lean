/-
  First of a map that holds something; the law's own example.
-/
import Derived.Test.YthgidldcblchmaaAtP
import Derived.Test.YthgidldcblchmaaBookP
namespace Go.Proofs.Ythgidldcblchmaa
set_option linter.unusedVariables false
open Go.RowKit
set_option maxHeartbeats 1000000 in
theorem first_cons (w : World) (b s : Nat) (x : Pr) (xs : List Pr) (h : MapP w b s (x :: xs)) (hz : xs.length ≤ 10000000) :
    Calls Try.prog 30 #[.pointer (some ⟨b, 0, none⟩)] w fun e w' => e = .returned (.tuple #[.agg #[.int .i64 x.k.k, .string x.k.t, .int .i64 x.k.n], .int .i64 x.v, .bool true]) ∧ Below w.heap.size w w' := by
  obtain ⟨hb, hS⟩ := h
  have hB : Below w.heap.size w (w.alloc (.cells #[.int .i64 0, .string ⟨#[]⟩, .int .i64 0] 27)) := by go_grown
  have c0 : (w.alloc (.cells #[.int .i64 0, .string ⟨#[]⟩, .int .i64 0] 27)).cell? ⟨b, 0, none⟩ = some (.pointer (some ⟨s, 0, none⟩)) := by rw [cells_of ((hB.block b (heap_lt hb)).trans hb)]; rfl
  have hat := (at_setP 0 _ s (x :: xs) (IsSet.mono hS hB) (by omega) (by omega) (by simp; omega)).mono (R' := fun e w1 => e = .returned (.tuple #[.agg #[.int .i64 x.k.k, .string x.k.t, .int .i64 x.k.n, .int .i64 x.v], .bool true]) ∧
      Hid (Below w.heap.size w w1 ∧ w1.heap[w.heap.size]? = some (.cells #[.int .i64 0, .string ⟨#[]⟩, .int .i64 0] 27 (0, 0)))) (by
    rintro e w1 ⟨h1, h2⟩
    exact ⟨h2, hB.trans (h1.mono hB.size), (h1.block _ (by simp)).trans (new_at rfl)⟩)
  have Hat := Lib.hid hat
  have hlt := heap_lt hb
  clear hat hb hS hB
  go_enter Try.func30, Try.ntmps30
  go_wp2_with (go_at_call 65; (with_reducible refine Hat.out.mono ?_); rintro e w1 ⟨rfl, h1⟩)
  obtain ⟨W3, hW3⟩ : ∃ W3, W3 = w1.alloc (.cells #[.int .i64 x.k.k, .string x.k.t, .int .i64 x.k.n, .int .i64 x.v] 100) := ⟨_, rfl⟩
  have b3 : Below w1.heap.size w1 W3 := by rw [hW3]; go_grown
  have hk := (b3.block _ (heap_lt h1.out.2)).trans h1.out.2
  have hn : W3.heap[w1.heap.size]? = some (.cells #[.int .i64 x.k.k, .string x.k.t, .int .i64 x.k.n, .int .i64 x.v] 100 (0, 0)) := by rw [hW3]; exact new_at rfl
  have d0 : W3.cell? ⟨w1.heap.size, 0, none⟩ = some (.int .i64 x.k.k) := by rw [cells_of hn]; rfl
  have d1 : W3.cell? ⟨w1.heap.size, 1, none⟩ = some (.string x.k.t) := by rw [cells_of hn]; rfl
  have d2 : W3.cell? ⟨w1.heap.size, 2, none⟩ = some (.int .i64 x.k.n) := by rw [cells_of hn]; rfl
  have d3 : W3.cell? ⟨w1.heap.size, 3, none⟩ = some (.int .i64 x.v) := by rw [cells_of hn]; rfl
  have f0 : W3.frozen? ⟨w.heap.size, 0, none⟩ = false := frozen_of hk
  have f1 : W3.frozen? ⟨w.heap.size, 1, none⟩ = false := frozen_of hk
  have f2 : W3.frozen? ⟨w.heap.size, 2, none⟩ = false := frozen_of hk
  have e0 : W3.cell? ⟨w.heap.size, 0, none⟩ = some (.int .i64 0) := by rw [cells_of hk]; rfl
  have e1 : W3.cell? ⟨w.heap.size, 1, none⟩ = some (.string ⟨#[]⟩) := by rw [cells_of hk]; rfl
  have e2 : W3.cell? ⟨w.heap.size, 2, none⟩ = some (.int .i64 0) := by rw [cells_of hk]; rfl
  have hbb := Lib.hid (h1.out.1.trans (b3.mono h1.out.1.size))
  have hlt3 : w.heap.size < W3.heap.size := heap_lt hk
  have HK := Lib.hid hk
  have HW := Lib.hid hW3
  rw [← hW3]
  clear hk hn hW3 b3 h1
  go_region
  go_wp2_with fail
  obtain ⟨s0, s1, s2⟩ := set3 (a := .int .i64 x.k.k) (b := .string x.k.t) (c := .int .i64 x.k.n) HK.out
  refine bodyPost_ret (by simp [results, Try.results30, go_sem, s0, s1, s2]; rfl) rfl ?_
  exact ⟨rfl, (((hbb.out.setCell (by simp) _).setCell (by simp) _).setCell (by simp) _).drew⟩
theorem bwakes_ins : ins cmpP (⟨sSy 1, 7⟩ : Pr) (ins cmpP ⟨sSy 2, 5⟩ []) = [⟨sSy 1, 7⟩, ⟨sSy 2, 5⟩] := by
  have h1 : cmpP ⟨sSy 1, 7⟩ ⟨sSy 2, 5⟩ = -1 := by simp [cmpP, cmpY, sSy, cmpI, cmpS_cmp.refl]
  simp [ins, h1]
theorem bwakes_has : has cmpP (⟨sSy 1, 7⟩ : Pr) (ins cmpP ⟨sSy 2, 5⟩ []) = false := by
  have h1 : cmpP ⟨sSy 1, 7⟩ ⟨sSy 2, 5⟩ = -1 := by simp [cmpP, cmpY, sSy, cmpI, cmpS_cmp.refl]
  simp [ins, has, h1]
theorem bwakes_any (w : World) : Calls Try.prog 22 #[] w fun e w' => e = .returned (.bool true) ∧ Below w.heap.size w w' := by
  have hnew := (new_mapP w).mono (R' := fun e w1 => ∃ b s, e = .returned (.pointer (some ⟨b, 0, none⟩)) ∧ Hid (Below w.heap.size w w1 ∧ w.heap.size ≤ s ∧ MapP w1 b s [])) (by
    rintro e w1 ⟨b, s, h1, h2, -, h4, h5⟩
    exact ⟨b, s, h1, h4, h2, h5⟩)
  have Hnew := Lib.hid hnew
  clear hnew
  go_enter Try.func22, Try.ntmps22
  go_wp2_with (go_at_call 21; (with_reducible refine Hnew.out.mono ?_); rintro e w1 ⟨b, s, rfl, h1⟩)
  have hp1 := put_newP w1 b s ⟨sSy 2, 5⟩ [] h1.out.2.2 (by simp) rfl
  have Hp1 := Lib.hid hp1
  clear hp1
  go_wp2_with fail
  refine Hp1.out.mono ?_
  rintro e w2 ⟨rfl, g2, m2⟩
  have hp2 := put_newP w2 b s ⟨sSy 1, 7⟩ _ m2 (by simp [ins]) bwakes_has
  rw [bwakes_ins] at hp2
  have Hp2 := Lib.hid hp2
  have hb2 := Lib.hid (h1.out.1.trans (belowg g2 h1.out.1.size h1.out.2.1))
  clear hp2 g2 m2 Hp1
  go_wp2_with fail
  refine Hp2.out.mono ?_
  rintro e w3 ⟨rfl, g3, m3⟩
  have hf := first_cons w3 b s _ _ m3 (by simp)
  have Hf := Lib.hid hf
  have hb3 := Lib.hid (hb2.out.trans (belowg g3 hb2.out.size h1.out.2.1))
  clear hf g3 m3 Hp2
  go_wp2_with fail
  refine Hf.out.mono ?_
  rintro e w4 ⟨rfl, h4⟩
  have hb4 := hb3.out.trans (h4.mono hb3.out.size)
  clear h4
  have hz4 := hb4.size
  go_wp2_with fail
  go_ret
  exact ⟨rfl, by go_grown⟩
end Go.Proofs.Ythgidldcblchmaa
