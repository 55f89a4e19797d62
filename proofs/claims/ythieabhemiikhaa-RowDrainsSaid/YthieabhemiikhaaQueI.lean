/-
  The walks of a queue's own calls at int: New, Len, At, Push, Pop. No condition but bounds on numbers.
-/
import Derived.BigQuiet
import Derived.Deep.QuietTactic
import Derived.Test.YthieabhemiikhaaKitRow
import Derived.Test.YthieabhemiikhaaProg
namespace Go.Proofs.Ythieabhemiikhaa
set_option linter.unusedVariables false
open Go.RowKit

theorem infoI : (Try.prog.info? 3).map (fun i => (i.zero, i.size, i.bytes)) = some (some (.int .i64 0), 1, 8) := by kernel_rfl
abbrev QI (w : World) (q : Nat) (v : Value) (room : Nat) (xs : List Value) : Prop := QAt w 60 3 q v room xs
theorem new_okI (w : World) (room : Nat) (h1 : 1 ≤ room) (h2 : room ≤ 65536) :
    Calls Try.prog 9 #[.int .i64 room] w fun e w' => e = .returned (.tuple #[.pointer (some ⟨w.heap.size, 0, none⟩), .int .i64 0]) ∧ w' = w.alloc (.cells #[.slice none 0 0, .int .i64 room] 60) := by
  have hd1 : decide ((room : Int) < 1) = false := decide_eq_false (by omega)
  have hd2 : decide (65536 < (room : Int)) = false := decide_eq_false (by omega)
  go_enter Try.func9, Try.ntmps9
  go_wp2
  go_ret2
  exact ⟨rfl, rfl⟩
theorem new_noI (w : World) (room : Int) (h : room < 1 ∨ 65536 < room) :
    Calls Try.prog 9 #[.int .i64 room] w fun e w' => e = .returned (.tuple #[.pointer none, .int .i64 1]) ∧ w = w' := by
  by_cases h1 : room < 1
  · have hd1 : decide (room < 1) = true := decide_eq_true (by omega)
    go_enter Try.func9, Try.ntmps9
    go_wp2
    go_ret2
    exact ⟨rfl, rfl⟩
  · have hd1 : decide (room < 1) = false := decide_eq_false (by omega)
    have hd2 : decide (65536 < room) = true := decide_eq_true (by omega)
    go_enter Try.func9, Try.ntmps9
    go_wp2
    go_ret2
    exact ⟨rfl, rfl⟩
theorem len_anyI (w : World) (q : Nat) (v : Value) (room : Nat) (xs : List Value) (h : QI w q v room xs) :
    Calls Try.prog 15 #[.pointer (some ⟨q, 0, none⟩)] w fun e w' => e = .returned (.int .i64 xs.length) ∧ w = w' := by
  obtain ⟨a, c, rfl, h1, h2⟩ := h.form
  obtain ⟨c0, c1, hf⟩ := h.cells
  unfold maxLen at h2
  clear h hf
  go_enter Try.func15, Try.ntmps15
  go_wp2
  go_ret
  exact ⟨rfl, rfl⟩
theorem at_inI (w : World) (q : Nat) (v : Value) (room : Nat) (xs : List Value) (h : QI w q v room xs) (i : Nat) (hi : i < xs.length) :
    Calls Try.prog 14 #[.pointer (some ⟨q, 0, none⟩), .int .i64 i] w fun e w' => e = .returned (.tuple #[xs[i], .bool true]) ∧ w = w' := by
  obtain ⟨c0, c1, hf⟩ := h.cells
  rcases h.2 with ⟨-, rfl⟩ | ⟨g, off, cap, rfl, h1, h2, -, h4⟩
  · simp at hi
  have c2 := h4 i hi
  unfold maxLen at h2
  have hd1 : decide ((i : Int) < 0) = false := decide_eq_false (by omega)
  have hd2 : decide (xs.length ≤ i) = false := decide_eq_false (by omega)
  have hi2 : (i : Int) < (xs.length : Int) := by omega
  generalize xs[i] = x at c2
  clear h hf h4
  go_enter Try.func14, Try.ntmps14
  go_wp2
  go_ret2
  exact ⟨rfl, rfl⟩
theorem at_outI (w : World) (q : Nat) (v : Value) (room : Nat) (xs : List Value) (h : QI w q v room xs) (i : Int) (hi : i < 0 ∨ (xs.length : Int) ≤ i) :
    Calls Try.prog 14 #[.pointer (some ⟨q, 0, none⟩), .int .i64 i] w fun e w' => e = .returned (.tuple #[.int .i64 0, .bool false]) ∧ w' = w.alloc (.cells #[.int .i64 0] 3) := by
  obtain ⟨c0, c1, hf⟩ := h.cells
  obtain ⟨a, c, rfl, h1, h2⟩ := h.form
  unfold maxLen at h2
  clear h hf
  by_cases h0 : i < 0
  · have hd1 : decide (i < 0) = true := decide_eq_true (by omega)
    go_enter Try.func14, Try.ntmps14
    go_wp2
    go_ret2
    exact ⟨rfl, rfl⟩
  · have hd1 : decide (i < 0) = false := decide_eq_false (by omega)
    have hd2 : decide ((xs.length : Int) ≤ i) = true := decide_eq_true (by omega)
    go_enter Try.func14, Try.ntmps14
    go_wp2
    go_ret2
    exact ⟨rfl, rfl⟩
def PushOutI (w : World) (q : Nat) (v : Value) (room : Nat) (xs ls : List Value) (e : Ending) (w' : World) : Prop :=
  e = .returned (.bool true) ∧ ∃ v', QI w' q v' room (xs ++ ls) ∧ Touch (Own2 q v) w w' ∧ Kin w v v'
theorem push_okI (w : World) (q : Nat) (v : Value) (room : Nat) (xs : List Value) (h : QI w q v room xs) (lv : Value) (ls : List Value) (hl : Reads w lv ls) (h1 : ∀ u ∈ ls, u.oneCell' = true) (hr : xs.length + ls.length ≤ room) (hr2 : room ≤ 65536) :
    Calls Try.prog 12 #[.pointer (some ⟨q, 0, none⟩), lv] w (PushOutI w q v room xs ls) := by
  have hfin : ∀ w0 : World, QI w0 q v room xs → Touch (Own2 q v) w w0 → (w0.heap.size = w.heap.size) → ∀ v' w1, Grew w0 3 v (xs ++ ls) v' w1 → PushOutI w q v room xs ls (.returned (.bool true)) (w1.setCell ⟨q, 0, none⟩ v') := by
    intro w0 h0 ht hz v' w1 hg
    obtain ⟨r1, r2, r3⟩ := h0.pushed (by decide) hg
    exact ⟨rfl, v', r1, ht.trans r2, by unfold Kin at *; rw [hz] at r3; exact r3⟩
  obtain ⟨i0, hi, hz0, hz1, hz2⟩ : ∃ i, Try.prog.info? 3 = some i ∧ i.zero = some (.int .i64 0) ∧ i.size = 1 ∧ i.bytes = 8 := by
    have := infoI
    cases hq : Try.prog.info? 3 with
    | none => rw [hq] at this; cases this
    | some i => rw [hq] at this; simp at this; exact ⟨i, rfl, this.1, this.2.1, this.2.2⟩
  obtain ⟨c0, c1, hf⟩ := h.cells
  obtain ⟨a, c, rfl, h3, h4⟩ := h.form
  obtain ⟨al, cl, rfl, h5, h6, -⟩ := id hl
  unfold maxLen at h4 h6
  have hle : decide ((room : Int) - (xs.length : Int) < (ls.length : Int)) = false := decide_eq_false (by omega)
  have hfz := hf 0
  have H := Lib.hid h
  have HL := Lib.hid hl
  have H1 := Lib.hid h1
  have Hfin := Lib.hid hfin
  clear h hl h1 hfin hf
  go_enter Try.func12, Try.ntmps12
  go_wp2_with fail
  go_quiet (fail)
  rename_i nq
  have hgrew : ∀ v' w', Grew (w.drewN nq) 3 (.slice a xs.length c) (xs ++ ls) v' w' → (w'.cell? ⟨q, 0, none⟩ = some (.slice a xs.length c) ∧ w'.frozen? ⟨q, 0, none⟩ = false) := by
    intro v' w' hg
    have hne := fun g => (H.out.2).ne H.out.1 (show 60 ≠ 3 by decide) (g := g)
    have hb : w'.heap[q]? = w.heap[q]? := hg.2.1.block q H.out.lt (fun e' => hne q e'.symm rfl)
    have := hb.trans H.out.1
    exact ⟨by rw [cells_of this]; rfl, frozen_of this⟩
  have Hgrew := Lib.hid hgrew
  clear hgrew
  go_wp2_with (at_builtin; refine wpList_append_off _ rfl _ _ 28 28 rfl (e := 3) (i := i0) (z := .int .i64 0) (bytes := 8) Try.underlying28 hi hz0 hz1 hz2 (by kernel_rfl) rfl ((H.out.2).but (Touch.drewN nq (Touch.refl (fun _ => False) w)) (fun _ _ h => h)) _ ls rfl (Reads.src Try.underlying28 ((HL.out).but (Touch.drewN nq (Touch.refl (fun _ => False) w)) (fun _ _ h => h)) H1.out) (by unfold maxLen; omega) (by omega) ?_; intro v' w1 hg; obtain ⟨hc0, hf0⟩ := Hgrew.out _ _ hg; have HG := Lib.hid hg; obtain ⟨a', n', c', rfl⟩ := hg.2.2.2; clear hg)
  go_ret
  exact Hfin.out (w.drewN nq) ((H.out).but (Touch.drewN nq (Touch.refl (fun _ => False) w)) (fun h => h) (fun _ _ h => h)) (Touch.drewN nq (Touch.refl _ w)) rfl _ _ HG.out
theorem push_noI (w : World) (q : Nat) (v : Value) (room : Nat) (xs : List Value) (h : QI w q v room xs) (lv : Value) (ls : List Value) (hl : Reads w lv ls) (hr : room < xs.length + ls.length) (hr2 : room ≤ 65536) :
    Calls Try.prog 12 #[.pointer (some ⟨q, 0, none⟩), lv] w fun e w' => e = .returned (.bool false) ∧ ∃ n, w' = w.drewN n := by
  obtain ⟨c0, c1, hf⟩ := h.cells
  obtain ⟨a, c, rfl, h3, h4⟩ := h.form
  obtain ⟨al, cl, rfl, h5, h6, -⟩ := hl
  unfold maxLen at h4 h6
  have hle : decide ((room : Int) - (xs.length : Int) < (ls.length : Int)) = true := decide_eq_true (by omega)
  clear h hf
  go_enter Try.func12, Try.ntmps12
  go_wp2_with fail
  go_quiet (fail)
  go_wp2_with fail
  go_ret
  exact ⟨rfl, _, rfl⟩

def PopOutI (w : World) (q : Nat) (v : Value) (room : Nat) (x : Value) (xs : List Value) (e : Ending) (w' : World) : Prop :=
  e = .returned (.tuple #[x, .bool true]) ∧ ∃ v', QI w' q v' room xs ∧ Touch (Own2 q v) w w' ∧ Kin w v v'
set_option maxHeartbeats 1000000 in
theorem pop_consI (w : World) (q : Nat) (v : Value) (room : Nat) (x : Value) (xs : List Value) (h : QI w q v room (x :: xs)) :
    Calls Try.prog 13 #[.pointer (some ⟨q, 0, none⟩)] w (PopOutI w q v room x xs) := by
  have hat := at_inI w q v room (x :: xs) h 0 (by simp)
  simp only [List.getElem_cons_zero, Int.cast_ofNat_Int] at hat
  have Hat := Lib.hid hat
  clear hat
  obtain ⟨c0, c1, hf⟩ := h.cells
  rcases h.2 with ⟨-, h0⟩ | ⟨g, off, cap, rfl, h1, h2, ⟨cur, h3, h5⟩, h4⟩
  · cases h0
  have hgq : g ≠ q := h.2.ne h.1 (show 60 ≠ 3 by decide) rfl
  have hcap : 0 < cap := by simp at h1; omega
  obtain ⟨W1, hW1⟩ : ∃ W1, W1 = w.setCell ⟨g, off, none⟩ (.int .i64 0) := ⟨_, rfl⟩
  have hcl : ∀ ty, (Builtin.clear_ #[28] ty #[.slice (some ⟨g, off, none⟩) 1 cap]).run Try.prog w = .ok (.tuple #[]) W1 := by
    intro ty
    rw [hW1]
    have hzv : ∀ w', (zeroValue 3).run Try.prog w' = .ok (.int .i64 0) w' := fun w' => by kernel_rfl
    have hst := run_storeCells_cells (P := Try.prog) g off [.int .i64 0] 0 w (fun j hj => by
      have : j = 0 := by simpa using hj
      subst this; exact cell_some h3 (by omega)) (fun j _ => frozen_of h3) (by simp [Value.oneCell'])
    have hzc : (Builtin.zeroCells (.int .i64 0 : Value).cells 1).toList = [.int .i64 0] := by simp [Builtin.zeroCells, Value.cells]
    simp [Builtin.clear_, run_underlying Try.underlying28, hzv, hzc]
    simp only [Nat.add_zero] at hst
    simp [hst, World.setCells]
  have hq1 : W1.heap[q]? = some (.cells #[.slice (some ⟨g, off, none⟩) (x :: xs).length cap, .int .i64 room] 60 (0, 0)) := by
    rw [hW1]; exact (Below.heap_setCell _ _ _ _ (by simpa using hgq.symm)).trans h.1
  have hg1 : W1.heap[g]? = some (.cells (cur.setIfInBounds off (.int .i64 0)) 3 (0, 0)) := by
    rw [hW1]; simp [World.setCell, Array.getElem?_modify, h3]
  have c0' : W1.cell? ⟨q, 0, none⟩ = some (.slice (some ⟨g, off, none⟩) (x :: xs).length cap) := by rw [cells_of hq1]; rfl
  have f0' : W1.frozen? ⟨q, 0, none⟩ = false := frozen_of hq1
  have ht1 : Touch (Own2 q (.slice (some ⟨g, off, none⟩) (x :: xs).length cap)) w W1 := by
    rw [hW1]; exact (Touch.set w g off _).mono (fun k _ hk => .inr (by rw [hk]; rfl))
  have hrest : ∀ j (hj : j < xs.length), W1.cell? ⟨g, off + 1 + j, none⟩ = some xs[j] := by
    intro j hj
    rw [hW1, World.cell?_setCell_other _ _ _ _ (by simp only [ne_eq, Addr.mk.injEq, true_and, and_true]; omega)]
    have := h4 (j + 1) (by simp; omega)
    rw [show off + (j + 1) = off + 1 + j by omega] at this
    simpa using this
  have hfin : ∀ off' cap', cap' = cap - 1 → off' + cap' ≤ cur.size → (xs.length ≠ 0 → off' = off + 1) → PopOutI w q (.slice (some ⟨g, off, none⟩) (x :: xs).length cap) room x xs (.returned (.tuple #[x, .bool true])) (W1.setCell ⟨q, 0, none⟩ (.slice (some ⟨g, off', none⟩) xs.length cap')) := by
    intro off' cap' hc' hs' ho'
    refine ⟨rfl, _, ⟨set_heap2 hq1, .inr ⟨g, off', cap', rfl, by simp at h1; omega, by omega, ⟨_, (Below.heap_setCell _ _ _ _ (by simpa using hgq)).trans hg1, by simpa using hs'⟩, fun j hj => ?_⟩⟩, ht1.trans ((Touch.set W1 q 0 _).mono (fun k _ hk => .inl hk)), .inl rfl⟩
    rw [World.cell?_setCell_other _ _ _ _ (fun e' => hgq (by simpa using (congrArg Addr.block e').symm)), ho' (by omega)]
    exact hrest j hj
  have Hfin := Lib.hid hfin
  have hl : ((x :: xs).length : Int) = (xs.length : Int) + 1 := by simp
  unfold maxLen at h2
  simp only [List.length_cons] at *
  have hcap1 : (1 : Int) ≤ (cap : Int) := by omega
  have HW := Lib.hid hW1
  clear h hf h4 hrest hfin hq1 hg1 ht1 h3 hW1 hl
  by_cases hk : cap = 1
  · subst hk
    obtain rfl : xs = [] := List.eq_nil_of_length_eq_zero (by omega)
    go_enter Try.func13, Try.ntmps13
    go_wp2_with (go_at_call 14; refine Hat.out.mono ?_; rintro e w' ⟨rfl, rfl⟩)
    go_ret2
    exact Hfin.out off 0 (by omega) (by omega) (by simp)
  · have hk2 : (1 : Int) < (cap : Int) := by omega
    go_enter Try.func13, Try.ntmps13
    go_wp2_with (go_at_call 14; refine Hat.out.mono ?_; rintro e w' ⟨rfl, rfl⟩)
    go_ret2
    exact Hfin.out (off + 1) (cap - 1) rfl (by omega) (fun _ => rfl)
theorem pop_nilI (w : World) (q : Nat) (v : Value) (room : Nat) (h : QI w q v room []) :
    Calls Try.prog 13 #[.pointer (some ⟨q, 0, none⟩)] w fun e w' => e = .returned (.tuple #[.int .i64 0, .bool false]) ∧ w' = w.alloc (.cells #[.int .i64 0] 3) := by
  have hat := at_outI w q v room [] h 0 (.inr (by simp))
  have Hat := Lib.hid hat
  clear hat h
  go_enter Try.func13, Try.ntmps13
  go_wp2_with (go_at_call 14; refine Hat.out.mono ?_; rintro e w' ⟨rfl, rfl⟩)
  go_ret2
  exact ⟨rfl, rfl⟩

end Go.Proofs.Ythieabhemiikhaa
