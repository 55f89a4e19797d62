/-
  slices.Clone at int, a queue's Clone, its All as an iterator. No condition.
-/
import Derived.RangeFuncNested
import Derived.RangeFuncBound
import Derived.RangeFuncCalls
import Derived.RangeFuncLeaves
import Derived.RangeFuncBox
import Derived.Shelf.Abstract
import Derived.Shelf.RegionOpen
import Derived.WalkKit
import Derived.WalkSpells
import Derived.OwnWalkIn
import Derived.TacticsInMore
import Derived.LoopNIn
import Derived.LoopIn
import Derived.BigGuardIn
import Derived.Test.YthieabhemiikhaaQueI
import Derived.Test.YthieabhemiikhaaRowArg
namespace Go.Proofs.Ythieabhemiikhaa
set_option linter.unusedVariables false
open Go.RowKit Go.Shelf
attribute [local go_sem] Oper.semAt_some
/-- What the body of a loop may write, told for each world: all other blocks of cells lie as they lay. -/
structure KO (O : World → Nat → Prop) (W W' : World) : Prop where
  size : W.heap.size ≤ W'.heap.size
  block : ∀ k c t f, W.heap[k]? = some (.cells c t f) → ¬ O W k → W'.heap[k]? = some (.cells c t f)
  own : ∀ k, k < W.heap.size → O W' k → O W k
theorem KO.trans {O : World → Nat → Prop} {A B C : World} (h : KO O A B) (k : KO O B C) : KO O A C :=
  ⟨Nat.le_trans h.size k.size, fun i c t f hi hn => k.block i c t f (h.block i c t f hi hn) (fun ho => hn (h.own i (heap_lt hi) ho)), fun i hi ho => h.own i hi (k.own i (Nat.lt_of_lt_of_le hi h.size) ho)⟩
def Fresh (w w' : World) (v : Value) (xs : List Value) : Prop := OffRow w' 3 v xs ∧ Below w.heap.size w w' ∧ ∀ g, v.ownBlock = some g → w.heap.size ≤ g
def CloneOut (w : World) (xs : List Value) (e : Ending) (w' : World) : Prop := ∃ v, e = .returned v ∧ Fresh w w' v xs
theorem infoI' : ∃ i, Try.prog.info? 3 = some i ∧ i.zero = some (.int .i64 0) ∧ i.size = 1 ∧ i.bytes = 8 := by
  have := infoI
  cases hq : Try.prog.info? 3 with
  | none => rw [hq] at this; cases this
  | some i => rw [hq] at this; simp at this; exact ⟨i, rfl, this.1, this.2.1, this.2.2⟩
theorem VI_one {zs : List Int} : ∀ u ∈ zs.map VI, u.oneCell' = true := by
  intro u hu
  obtain ⟨z, _, rfl⟩ := List.mem_map.1 hu
  rfl
theorem clone_any (w : World) (v : Value) (zs : List Int) (h : OffRow w 3 v (zs.map VI)) (hn : zs.length ≤ 1000000) :
    Calls Try.prog 31 #[v] w (CloneOut w (zs.map VI)) := by
  rcases h with ⟨rfl, h0⟩ | ⟨g, off, cap, rfl, h1, h2, ⟨cur, h3, h5⟩, h4⟩
  · rw [h0]
    have hq := fun (w : World) => Lib.run_eql_slice_nil (P := Try.prog) w 28 3 none 0 0 0 0 Try.underlying28
    go_enter Try.func31, Try.ntmps31
    go_wp2
    go_ret
    exact ⟨_, rfl, OffRow.nil _ _, Below.refl _ _, by simp [Value.ownBlock]⟩
  · obtain ⟨i0, hi, hz0, hz1, hz2⟩ := infoI'
    obtain ⟨W1, hW1⟩ : ∃ W1, W1 = w.alloc (.cells #[] 3) := ⟨_, rfl⟩
    have b1 : Below w.heap.size w W1 := by rw [hW1]; exact (Below.refl _ _).alloc (Nat.le_refl _) _
    have hr : Reads w (.slice (some ⟨g, off, none⟩) (zs.map VI).length cap) (zs.map VI) := ⟨_, cap, rfl, h1, h2, .inr ⟨g, off, rfl, heap_lt h3, h4⟩⟩
    have hr1 := hr.mono b1
    have h0 : OffRow W1 3 (.slice (some ⟨w.heap.size, 0, none⟩) 0 0) [] := .inr ⟨w.heap.size, 0, 0, rfl, by simp, by simp, ⟨#[], by rw [hW1]; exact new_at rfl, by simp⟩, fun j hj => by simp at hj⟩
    have hfin : ∀ v' w', Grew W1 3 (.slice (some ⟨w.heap.size, 0, none⟩) 0 0) (zs.map VI) v' w' → CloneOut w (zs.map VI) (.returned v') w' := by
      rintro v' w' ⟨g1, g2, g3, -⟩
      refine ⟨v', rfl, g1, b1.grown g2 b1.size (fun k hk => by cases hk; exact Nat.le_refl _), fun g hg => ?_⟩
      rcases g3 with g3 | ⟨g', g3, g4⟩
      · rw [g3] at hg; cases hg; exact Nat.le_refl _
      · rw [g3] at hg; cases hg; exact Nat.le_trans b1.size g4
    have H0 := Lib.hid h0
    have HR := Lib.hid hr1
    have HF := Lib.hid hfin
    have hlen : (zs.map VI).length ≤ 1000000 := by simpa using hn
    have HW := Lib.hid hW1
    have hq := fun (w : World) (a : Addr) (n c : Nat) => Lib.run_eql_slice_nil (P := Try.prog) w 28 3 (some a) n c 0 0 Try.underlying28
    simp only [Option.isNone_some] at hq
    unfold maxLen at h2
    clear h0 hr hr1 hfin h3 h4 h5 b1 hW1
    go_enter Try.func31, Try.ntmps31
    go_wp2_with (at_builtin; rw [← HW.out]; refine wpList_append_off _ rfl _ _ 28 28 rfl (e := 3) (i := i0) (z := .int .i64 0) (bytes := 8) Try.underlying28 hi hz0 hz1 hz2 rfl rfl H0.out _ (zs.map VI) rfl (Reads.src Try.underlying28 HR.out VI_one) (by unfold maxLen; simp at hlen ⊢; omega) (by simp at hlen ⊢; omega) ?_; intro v' w1 hg; have HG := Lib.hid hg; obtain ⟨a', n', c', rfl⟩ := hg.2.2.2; clear hg)
    go_ret
    exact HF.out _ _ HG.out
theorem all_any (w : World) (q : Nat) : Calls Try.prog 18 #[.pointer (some ⟨q, 0, none⟩)] w fun e w' => e = .returned (.func (.func 30) #[] #[.pointer (some ⟨w.heap.size, 0, none⟩)]) ∧ w' = w.alloc (.cells #[.pointer (some ⟨q, 0, none⟩)] 23) := by
  go_enter Try.func18, Try.ntmps18
  go_wp2
  go_ret
  exact ⟨rfl, rfl⟩
set_option maxRecDepth 100000 in
set_option maxHeartbeats 4000000 in
theorem all1_in (O : World → Nat → Prop) (n : Nat) (l Bt q : Nat) (v : Value) (room : Nat) (zs : List Int) (hn : zs.length ≤ 1000000) (J Jx : List Int → World → Prop) (W : World)
    (hY : ∀ pre x W, J pre W → pre.length < zs.length → YieldAt Fence.wide (n - 1) Try.prog l #[.int .i64 x] W fun e W' =>
      (e = .returned (.bool true) ∧ J (pre ++ [x]) W' ∧ KO O W W') ∨ (e = .returned (.bool false) ∧ Jx (pre ++ [x]) W'))
    (hJ : AbidesFrom W.heap.size J) (hBt : W.heap[Bt]? = some (.cells #[.pointer (some ⟨q, 0, none⟩)] 23 (0, 0))) (hQ : QI W q v room (zs.map VI))
    (hO : ∀ W1 k, Below W.heap.size W W1 → O W1 k → k < W.heap.size) (h0 : J [] W) :
    CallsIn Fence.wide n Try.prog 30 #[.func (.yield l) #[] #[], .pointer (some ⟨Bt, 0, none⟩)] W fun e W' => (∃ v, e = .returned v) ∧
      ((∃ ys, ys = zs ∧ J ys W') ∨ (∃ pre, pre <+: zs ∧ Jx pre W')) := by
  have cB : W.cell? ⟨Bt, 0, none⟩ = some (.pointer (some ⟨q, 0, none⟩)) := by rw [cells_of hBt]; rfl
  obtain ⟨c0, -, -⟩ := hQ.cells
  have hcl := (clone_any W v zs hQ.2 hn).mono (R' := fun e w' => ∃ v', e = .returned v' ∧ (∃ a c, v' = .slice a zs.length c ∧ c ≤ maxLen) ∧ Hid (Fresh W w' v' (zs.map VI) ∧ J [] w')) (by
    rintro e w' ⟨v', he, hf⟩
    refine ⟨v', he, ?_, hf, hJ _ _ _ none h0 ⟨hf.2.1.os, hf.2.1.tape, hf.2.1.output, hf.2.1.size, fun k hk _ => hf.2.1.block k hk⟩ (by simp)⟩
    rcases hf.1 with ⟨rfl, hz⟩ | ⟨g, off, cap, rfl, h1, h2, -⟩
    · exact ⟨none, 0, by rw [List.map_eq_nil_iff.1 hz]; rfl, by simp⟩
    · exact ⟨_, cap, by rw [List.length_map], h2⟩)
  obtain ⟨a0, cc0, rfl, -, -⟩ := hQ.form
  simp only [List.length_map] at hcl c0
  have HC := Lib.hid (callsIn_wide (n := n - 1).2 hcl)
  have HY := Lib.hid hY
  have HO := Lib.hid hO
  clear hcl hBt hQ hY hO hJ h0
  refine callsIn_of_wp Try.func30 rfl trivial ?_ rfl
  simp only [Try.ntmps30, List.size_toArray, List.length_cons, List.length_nil, Nat.reduceAdd, Nat.reduceSub, Array.replicate_succ, Array.replicate_zero, List.push_toArray, List.append_toArray, List.nil_append, List.cons_append]
  gi_wp2_with fail
  refine ⟨trivial, fun h => (by cases h), ?_⟩
  refine HC.out.mono ?_
  rintro e W2 ⟨v', rfl, ⟨a, c, rfl, hc⟩, hf⟩
  unfold maxLen at hc
  gi_wp2_with fail
  gi_loopw [11] (fun i wr => ∃ k : Nat, k ≤ zs.length ∧ i = .int .i64 k ∧ Hid (J (zs.take k) wr ∧ (0 < zs.length → ∃ g off, a = some ⟨g, off, none⟩ ∧ W.heap.size ≤ g ∧ wr.heap[g]? = W2.heap[g]? ∧ ¬ O wr g))) (fun i _ => zs.length - (intOf i).toNat)
  case atStart =>
    refine ⟨0, Nat.zero_le _, rfl, by simpa using hf.out.2, fun hz => ?_⟩
    rcases hf.out.1.1 with ⟨_, h0⟩ | ⟨g, off, cap, h1, -⟩
    · rw [List.map_eq_nil_iff.1 h0] at hz; simp at hz
    · have ha : a = some ⟨g, off, none⟩ := (Value.slice.inj h1).1
      have hg : W.heap.size ≤ g := hf.out.1.2.2 g (by rw [ha]; rfl)
      exact ⟨g, off, ha, hg, rfl, fun ho => by have := HO.out W2 g hf.out.1.2.1 ho; omega⟩
  case round =>
    obtain ⟨k, hk, rfl, hI⟩ := hrel
    by_cases hlt : k < zs.length
    · obtain ⟨g, off, rfl, hg1, hg2, hg3⟩ := hI.out.2 (by omega)
      obtain ⟨fn, tmps, assign, body, hy, hR⟩ := HY.out (zs.take k) zs[k] wr hI.out.1 (by rw [List.length_take]; omega)
      have hcell : wr.cell? ⟨g, off + k, none⟩ = some (.int .i64 zs[k]) := by
        rw [World.cell?_of_block (w := W2) (a := ⟨g, off + k, none⟩) hg2]
        rcases hf.out.1.1 with ⟨h0, _⟩ | ⟨g', off', cap, h1, -, -, -, h4⟩
        · cases h0
        · have he : some (⟨g, off, none⟩ : Addr) = some ⟨g', off', none⟩ := (Value.slice.inj h1).1
          cases he
          have := h4 k (by simpa using hlt)
          simpa using this
      have hgl : g < wr.heap.size := World.block_lt_of_cell? wr _ hcell
      have htk : zs.take k ++ [zs[k]] = zs.take (k + 1) := (List.take_succ_eq_append_getElem hlt).symm
      rw [htk] at hR
      have hR2 := hR.mono (R' := fun e W' => (e = .returned (.bool true) ∧ Hid (J (zs.take (k + 1)) W' ∧ (0 < zs.length → ∃ g' off', some (⟨g, off, none⟩ : Addr) = some ⟨g', off', none⟩ ∧ W.heap.size ≤ g' ∧ W'.heap[g']? = W2.heap[g']? ∧ ¬ O W' g'))) ∨ (e = .returned (.bool false) ∧ Hid (Jx (zs.take (k + 1)) W'))) (by
        rintro e W' (⟨he, hj, hko⟩ | ⟨he, hj⟩)
        · refine .inl ⟨he, hj, fun _ => ⟨g, off, rfl, hg1, ?_, fun ho => hg3 (hko.own g hgl ho)⟩⟩
          obtain ⟨o, ho, hoc⟩ := cells_of_cell hcell
          have ho' : wr.heap[g]? = some o := ho
          cases o <;> first | (simp [Obj.isCells] at hoc; done) | skip
          rw [hko.block g _ _ _ ho' hg3, ← hg2, ho']
        · exact .inr ⟨he, hj⟩)
      have hki : (k : Int) < (zs.length : Int) := by omega
      generalize zs[k] = x at hcell hy
      clear hR hI hg1 hg2 hg3 htk hf
      gi_wp2_with ((try refine ⟨fun h => (by cases h), ?_⟩); refine hR2.mono ?_; clear hR2; rintro e W3 (⟨rfl, h3⟩ | ⟨rfl, h3⟩))
      · go_roundw
        case rel => exact ⟨k + 1, by omega, by go_num, h3⟩
        case measure => simp [intOf]; omega
      · refine bodyPost_ret (results_none rfl _ _ _) rfl ?_
        exact ⟨⟨_, rfl⟩, .inr ⟨_, List.take_prefix _ _, h3.out⟩⟩
    · obtain rfl : k = zs.length := by omega
      gi_wp2_with fail
      go_end0
      exact ⟨⟨_, rfl⟩, .inl ⟨_, rfl, by simpa using hI.out.1⟩⟩
theorem all_stops (O : World → Nat → Prop) (n : Nat) (Bt q : Nat) (v : Value) (room : Nat) (zs : List Int) (hn : zs.length ≤ 1000000) (w : World) (hBt : w.heap[Bt]? = some (.cells #[.pointer (some ⟨q, 0, none⟩)] 23 (0, 0))) (hQ : QI w q v room (zs.map VI))
    (hO : ∀ W1 k, Below w.heap.size w W1 → O W1 k → k < w.heap.size) :
    SeqStopsK Fence.wide n Try.prog 30 #[.pointer (some ⟨Bt, 0, none⟩)] (fun x : Int => #[.int .i64 x]) (KO O) (fun ys => ys = zs) (fun pre => pre <+: zs) zs.length w := fun l J Jx W hW hJ _ hY h0 =>
  all1_in O n l Bt q v room zs hn J Jx W hY hJ ((hW.block Bt (heap_lt hBt)).trans hBt) (hQ.mono hW) (fun W1 k h1 ho => Nat.lt_of_lt_of_le (hO W1 k (hW.trans (h1.mono hW.size)) ho) hW.size) h0
end Go.Proofs.Ythieabhemiikhaa
