/-
  Walks over package order at ponder/api.Sym: Clone, Union, Less.
-/
import Derived.RangeFuncNested
import Derived.RangeFuncBound
import Derived.RangeFuncCalls
import Derived.RangeFuncLeaves
import Derived.Shelf.Abstract
import Derived.Shelf.RegionOpen
import Derived.WalkKit
import Derived.OwnWalkIn
import Derived.TacticsInMore
import Derived.LoopNIn
import Derived.LoopIn
import Derived.Test.YtggijlblipmfaaaKitOwn
import Derived.Test.YtggijlblipmfaaaAllS
import Derived.Test.YtggijlblipmfaaaDropS
namespace Go.Proofs.Ytggijlblipmfaaa
set_option linter.unusedVariables false
open Go.RowKit Go.Shelf
attribute [local go_sem] Oper.semAt_some
theorem clone_anyS (w : World) (b : Nat) (xs : List Sy) (h : SetS w b xs) : Calls Try.prog 56 #[.pointer (some ⟨b, 0, none⟩)] w fun e w' => e = .returned (.pointer (some ⟨w.heap.size, 0, none⟩)) ∧ Below w.heap.size w w' ∧ SetS w' w.heap.size xs := by
  obtain ⟨p, T, hr, ht, hx, hs⟩ := h
  have h0 : w.cell? ⟨b, 0, none⟩ = some (.pointer p) := by rw [cells_of hr]; rfl
  have hfin : SetS (w.alloc (.cells #[.pointer p] 118)) w.heap.size xs := ⟨p, T, new_at rfl, ht.mono (by go_grown), hx, hs⟩
  have Hfin := Lib.hid hfin
  clear hfin hr ht hx hs
  go_enter Try.func56, Try.ntmps56
  go_wp2
  go_ret
  exact ⟨rfl, by go_grown, Hfin.out⟩
/-- The world's word on a set that a call made out of two. -/
def MadeS (w : World) (xs : List Sy) (e : Ending) (w' : World) : Prop := ∃ b, e = .returned (.pointer (some ⟨b, 0, none⟩)) ∧ w.heap.size ≤ b ∧ Below w.heap.size w w' ∧ SetS w' b xs
set_option maxRecDepth 100000 in
set_option maxHeartbeats 4000000 in
theorem union_in (n : Nat) (hn : 3 ≤ n) (w : World) (a b : Nat) (xs ys : List Sy) (ha : SetS w a xs) (hb : SetS w b ys) (hz : xs.length + ys.length ≤ 1000000) :
    CallsIn Fence.wide n Try.prog 42 #[.pointer (some ⟨a, 0, none⟩), .pointer (some ⟨b, 0, none⟩)] w (MadeS w (insAll cmpY xs ys)) := by
  have h1 : 1 ≤ n := by omega
  have hcl := callsIn_wide (n := n - 1).2 (clone_anyS w a xs ha)
  have hall := fun W => callsIn_wide (n := n - 1).2 (all_anyS W b)
  have Hb := Lib.hid hb
  clear ha hb
  refine callsIn_of_wp_marks Try.func42 rfl trivial ?_ rfl
  simp only [Try.ntmps42, List.size_toArray, List.length_cons, List.length_nil, Nat.reduceAdd, Nat.reduceSub, Array.replicate_succ, Array.replicate_zero, List.push_toArray, List.append_toArray, List.nil_append, List.cons_append]
  gi_wp2_with (first
    | (refine ⟨trivial, ?_⟩; gi_at_call 56; refine hcl.mono ?_; clear hcl; rintro e w1 ⟨rfl, hb1, hs1⟩)
    | (refine ⟨trivial, ?_⟩; gi_at_call 39; refine (hall _).mono ?_; rintro e w2 ⟨rfl, rfl⟩))
  have hlt1 : w.heap.size < w1.heap.size := IsSet.lt hs1
  obtain ⟨W0, hW0⟩ : ∃ W0, W0 = (w1.alloc (.cells #[.pointer (some ⟨w.heap.size, 0, none⟩)] 23)).alloc (.cells #[.pointer (some ⟨b, 0, none⟩)] 23) := ⟨_, rfl⟩
  have hz0 : W0.heap.size = w1.heap.size + 2 := by rw [hW0]; simp
  have hBW1 : Below w1.heap.size w1 W0 := by rw [hW0]; exact ((Below.refl _ _).alloc (Nat.le_refl _) _).alloc (by simp) _
  have hBu : W0.heap[w1.heap.size]? = some (.cells #[.pointer (some ⟨w.heap.size, 0, none⟩)] 23 (0, 0)) := by rw [hW0]; exact (Below.heap_alloc _ _ _ (by simp)).trans (new_at rfl)
  have hBs : W0.heap[w1.heap.size + 1]? = some (.cells #[.pointer (some ⟨b, 0, none⟩)] 23 (0, 0)) := by rw [hW0]; exact new_at (by simp)
  have hset0 : SetS W0 w.heap.size xs := IsSet.mono hs1 hBW1
  have hBW : Below w.heap.size w W0 := hb1.trans (hBW1.mono hb1.size)
  have hsb : SetS W0 b ys := IsSet.mono Hb.out hBW
  rw [← hW0]
  clear hW0 hall hs1
  refine wpIn_rangeFunc_ownH rfl h1 (gf := 93) (lb := #[.pointer (some ⟨w1.heap.size + 1, 0, none⟩)]) rfl trivial (enters_of Try.func93 (by kernel_rfl) rfl)
    (all_stopsS Fence.wide rfl (n - 1) trivial trivial rfl (w1.heap.size + 1) b ys W0 hBs hsb) (fun h k => KN.trans h k) (fun W l o o' _ h hc _ => KN.put _ W l o o' h hc) (Below.refl _ _) (fun _ => rfl)
    (fun pre W => Below w.heap.size w W ∧ (W.heap[w1.heap.size]? = some (.cells #[.pointer (some ⟨w.heap.size, 0, none⟩)] 23 (0, 0)) ∧ SetS W w.heap.size (insAll cmpY xs pre)))
    (fun _ _ _ => False)
    (OwnFrom.and (ownFrom_below (Nat.le_refl _) hBW.size) (Own.from (own_and (cells_own _ _ _) (set_own encS 167 118 cmpY w.heap.size (fun pre => insAll cmpY xs pre))) _))
    (fun _ _ _ _ _ hs _ _ => hs)
    ⟨hBW, hBu, hset0⟩
    (fun x a' W => ∃ Bx, W.heap[Bx]? = some (.cells #[.int .i64 x.k, .string x.t, .int .i64 x.n] 26 (0, 0)) ∧ a' = { tmps := #[.pointer (some ⟨a, 0, none⟩), .pointer (some ⟨b, 0, none⟩), undef, undef, .pointer none, .pointer (some ⟨w1.heap.size, 0, none⟩), .pointer (some ⟨Bx, 0, none⟩), .pointer (some ⟨a, 0, none⟩), .pointer (some ⟨w.heap.size, 0, none⟩), .pointer (some ⟨b, 0, none⟩), .func (.func 93) #[] #[.pointer (some ⟨w1.heap.size + 1, 0, none⟩)], .agg #[.int .i64 x.k, .string x.t, .int .i64 x.n], undef, undef, undef, undef], defers := [] })
    (fun x a' => by
      rintro s X Y row ⟨Bx, h2, h3⟩ hg hrow
      exact ⟨Bx, kept_block h2 hg (fun r e => (hrow r e).2), h3⟩) ?assign ?body ?done ?stop
  case assign =>
    rintro l pre x W K ⟨hB, hu, hs⟩ hK
    have hsz := hB.size
    gi_wp2
    refine hK _ _ ((KeepsOthers.alloc _ _).from _) (KN.below ((Below.refl _ W).alloc (Nat.le_refl _) _)) ⟨hB.alloc hsz _, (Below.heap_alloc _ _ _ (heap_lt hu)).trans hu, IsSet.mono hs ((Below.refl _ W).alloc (Nat.le_refl _) _)⟩ ⟨W.heap.size, new_at rfl, rfl⟩
  case body =>
    rintro l pre x a' W hl ⟨r, hr⟩ ⟨hB, hu, hs⟩ ⟨Bx, hx, rfl⟩ hlt
    have hlen := insAll_length cmpY pre xs
    have cu : W.cell? ⟨w1.heap.size, 0, none⟩ = some (.pointer (some ⟨w.heap.size, 0, none⟩)) := by rw [cells_of hu]; rfl
    obtain ⟨x0, x1, x2, -, -, -, -⟩ := box_cells hx (Below.refl _ _)
    have hput := CallsIn.inRound l (callsIn_wide (n := n - 1 - 1 - 1).2 (put_anyS W w.heap.size x _ hs (by omega)))
    obtain ⟨rp, rT, hroot, -, -, -⟩ := hs
    have hroot' := Lib.hid hroot
    have hu' := Lib.hid hu
    clear hu hx hroot
    gi_wp2_with (refine ⟨trivial, (fun h => by cases h), ?_⟩; gi_at_call 19; refine hput.mono ?_; unfold PutOutS; rintro e w2 ⟨rfl, hg2, hs2⟩)
    exact ⟨KeepsFrom.of_grownBy hg2 (fun j e => by cases e; omega), KN.but hg2 hroot'.out (by decide), hB.trans (belowg hg2 hB.size (Nat.le_refl _)), (hg2.block _ (heap_lt hu'.out) (by simp; omega)).trans hu'.out, by rw [insAll_snoc]; exact hs2⟩
  case done =>
    rintro D zs W hD rfl ⟨hB, hu, hs⟩ hK
    have cu : W.cell? ⟨w1.heap.size, 0, none⟩ = some (.pointer (some ⟨w.heap.size, 0, none⟩)) := by rw [cells_of hu]; rfl
    gi_wp2
    refine ⟨by simp, .inl ⟨_, _, rfl, run_takeDeferred hK, ?_⟩⟩
    exact ⟨_, results_tmp rfl _ _ _, w.heap.size, rfl, Nat.le_refl _, hB.trans (belowK_b (w := w) (Nat.le_refl _) W D _ _ (by omega) hK rfl rfl), (set_own encS 167 118 cmpY w.heap.size (fun _ : Unit => insAll cmpY xs zs)).putObj (s := ()) _ hs hK rfl⟩
  case stop =>
    rintro D c pre W _ _ h _
    exact h.elim
def delAll {α : Type} (c : α → α → Int) (acc : List α) (xs : List α) : List α := xs.foldl (fun a x => del c x a) acc
theorem delAll_length {α : Type} (c : α → α → Int) : ∀ (xs acc : List α), (delAll c acc xs).length ≤ acc.length
  | [], acc => by simp [delAll]
  | x :: xs, acc => by
    have h1 := delAll_length c xs (del c x acc)
    have h2 := del_length (c := c) x acc
    simp only [delAll, List.foldl_cons] at *; omega
theorem delAll_snoc {α : Type} (c : α → α → Int) (xs acc : List α) (x : α) : delAll c acc (xs ++ [x]) = del c x (delAll c acc xs) := by simp [delAll]
set_option maxRecDepth 100000 in
set_option maxHeartbeats 4000000 in
theorem less_in (n : Nat) (hn : 3 ≤ n) (w : World) (a b : Nat) (xs ys : List Sy) (ha : SetS w a xs) (hb : SetS w b ys) (hz : xs.length + ys.length ≤ 1000000) :
    CallsIn Fence.wide n Try.prog 44 #[.pointer (some ⟨a, 0, none⟩), .pointer (some ⟨b, 0, none⟩)] w (MadeS w (delAll cmpY xs ys)) := by
  have h1 : 1 ≤ n := by omega
  have hcl := callsIn_wide (n := n - 1).2 (clone_anyS w a xs ha)
  have hall := fun W => callsIn_wide (n := n - 1).2 (all_anyS W b)
  have Hb := Lib.hid hb
  clear ha hb
  refine callsIn_of_wp_marks Try.func44 rfl trivial ?_ rfl
  simp only [Try.ntmps44, List.size_toArray, List.length_cons, List.length_nil, Nat.reduceAdd, Nat.reduceSub, Array.replicate_succ, Array.replicate_zero, List.push_toArray, List.append_toArray, List.nil_append, List.cons_append]
  gi_wp2_with (first
    | (refine ⟨trivial, ?_⟩; gi_at_call 56; refine hcl.mono ?_; clear hcl; rintro e w1 ⟨rfl, hb1, hs1⟩)
    | (refine ⟨trivial, ?_⟩; gi_at_call 39; refine (hall _).mono ?_; rintro e w2 ⟨rfl, rfl⟩))
  have hlt1 : w.heap.size < w1.heap.size := IsSet.lt hs1
  obtain ⟨W0, hW0⟩ : ∃ W0, W0 = (w1.alloc (.cells #[.pointer (some ⟨w.heap.size, 0, none⟩)] 23)).alloc (.cells #[.pointer (some ⟨b, 0, none⟩)] 23) := ⟨_, rfl⟩
  have hz0 : W0.heap.size = w1.heap.size + 2 := by rw [hW0]; simp
  have hBW1 : Below w1.heap.size w1 W0 := by rw [hW0]; exact ((Below.refl _ _).alloc (Nat.le_refl _) _).alloc (by simp) _
  have hBu : W0.heap[w1.heap.size]? = some (.cells #[.pointer (some ⟨w.heap.size, 0, none⟩)] 23 (0, 0)) := by rw [hW0]; exact (Below.heap_alloc _ _ _ (by simp)).trans (new_at rfl)
  have hBs : W0.heap[w1.heap.size + 1]? = some (.cells #[.pointer (some ⟨b, 0, none⟩)] 23 (0, 0)) := by rw [hW0]; exact new_at (by simp)
  have hset0 : SetS W0 w.heap.size xs := IsSet.mono hs1 hBW1
  have hBW : Below w.heap.size w W0 := hb1.trans (hBW1.mono hb1.size)
  have hsb : SetS W0 b ys := IsSet.mono Hb.out hBW
  rw [← hW0]
  clear hW0 hall hs1
  refine wpIn_rangeFunc_ownH rfl h1 (gf := 93) (lb := #[.pointer (some ⟨w1.heap.size + 1, 0, none⟩)]) rfl trivial (enters_of Try.func93 (by kernel_rfl) rfl)
    (all_stopsS Fence.wide rfl (n - 1) trivial trivial rfl (w1.heap.size + 1) b ys W0 hBs hsb) (fun h k => KN.trans h k) (fun W l o o' _ h hc _ => KN.put _ W l o o' h hc) (Below.refl _ _) (fun _ => rfl)
    (fun pre W => Below w.heap.size w W ∧ (W.heap[w1.heap.size]? = some (.cells #[.pointer (some ⟨w.heap.size, 0, none⟩)] 23 (0, 0)) ∧ SetS W w.heap.size (delAll cmpY xs pre)))
    (fun _ _ _ => False)
    (OwnFrom.and (ownFrom_below (Nat.le_refl _) hBW.size) (Own.from (own_and (cells_own _ _ _) (set_own encS 167 118 cmpY w.heap.size (fun pre => delAll cmpY xs pre))) _))
    (fun _ _ _ _ _ hs _ _ => hs)
    ⟨hBW, hBu, hset0⟩
    (fun x a' W => ∃ Bx, W.heap[Bx]? = some (.cells #[.int .i64 x.k, .string x.t, .int .i64 x.n] 26 (0, 0)) ∧ a' = { tmps := #[.pointer (some ⟨a, 0, none⟩), .pointer (some ⟨b, 0, none⟩), undef, undef, .pointer none, .pointer (some ⟨w1.heap.size, 0, none⟩), .pointer (some ⟨Bx, 0, none⟩), .pointer (some ⟨a, 0, none⟩), .pointer (some ⟨w.heap.size, 0, none⟩), .pointer (some ⟨b, 0, none⟩), .func (.func 93) #[] #[.pointer (some ⟨w1.heap.size + 1, 0, none⟩)], .agg #[.int .i64 x.k, .string x.t, .int .i64 x.n], undef, undef, undef, undef], defers := [] })
    (fun x a' => by
      rintro s X Y row ⟨Bx, h2, h3⟩ hg hrow
      exact ⟨Bx, kept_block h2 hg (fun r e => (hrow r e).2), h3⟩) ?assign ?body ?done ?stop
  case assign =>
    rintro l pre x W K ⟨hB, hu, hs⟩ hK
    have hsz := hB.size
    gi_wp2
    refine hK _ _ ((KeepsOthers.alloc _ _).from _) (KN.below ((Below.refl _ W).alloc (Nat.le_refl _) _)) ⟨hB.alloc hsz _, (Below.heap_alloc _ _ _ (heap_lt hu)).trans hu, IsSet.mono hs ((Below.refl _ W).alloc (Nat.le_refl _) _)⟩ ⟨W.heap.size, new_at rfl, rfl⟩
  case body =>
    rintro l pre x a' W hl ⟨r, hr⟩ ⟨hB, hu, hs⟩ ⟨Bx, hx, rfl⟩ hlt
    have hlen := delAll_length cmpY pre xs
    have cu : W.cell? ⟨w1.heap.size, 0, none⟩ = some (.pointer (some ⟨w.heap.size, 0, none⟩)) := by rw [cells_of hu]; rfl
    obtain ⟨x0, x1, x2, -, -, -, -⟩ := box_cells hx (Below.refl _ _)
    have hput := CallsIn.inRound l (callsIn_wide (n := n - 1 - 1 - 1).2 (drop_anyS W w.heap.size x _ hs (by omega)))
    obtain ⟨rp, rT, hroot, -, -, -⟩ := hs
    have hroot' := Lib.hid hroot
    have hu' := Lib.hid hu
    clear hu hx hroot
    gi_wp2_with (refine ⟨trivial, (fun h => by cases h), ?_⟩; gi_at_call 21; refine hput.mono ?_; unfold DropOutS; rintro e w2 ⟨rfl, hg2, hs2⟩)
    exact ⟨KeepsFrom.of_grownBy hg2 (fun j e => by cases e; omega), KN.but hg2 hroot'.out (by decide), hB.trans (belowg hg2 hB.size (Nat.le_refl _)), (hg2.block _ (heap_lt hu'.out) (by simp; omega)).trans hu'.out, by rw [delAll_snoc]; exact hs2⟩
  case done =>
    rintro D zs W hD rfl ⟨hB, hu, hs⟩ hK
    have cu : W.cell? ⟨w1.heap.size, 0, none⟩ = some (.pointer (some ⟨w.heap.size, 0, none⟩)) := by rw [cells_of hu]; rfl
    gi_wp2
    refine ⟨by simp, .inl ⟨_, _, rfl, run_takeDeferred hK, ?_⟩⟩
    exact ⟨_, results_tmp rfl _ _ _, w.heap.size, rfl, Nat.le_refl _, hB.trans (belowK_b (w := w) (Nat.le_refl _) W D _ _ (by omega) hK rfl rfl), (set_own encS 167 118 cmpY w.heap.size (fun _ : Unit => delAll cmpY xs zs)).putObj (s := ()) _ hs hK rfl⟩
  case stop =>
    rintro D c pre W _ _ h _
    exact h.elim
end Go.Proofs.Ytggijlblipmfaaa
