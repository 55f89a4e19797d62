/-
  Package shape: what is wrong with a condition itself, of any kind; nested conditions. No condition but bounds on lengths.
-/
import Derived.Test.YtccphigpobnjmaaShCond
namespace Go.Proofs.Ytccphigpobnjmaa
set_option linter.unusedVariables false
open Go.RowKit
set_option maxHeartbeats 1000000 in
theorem group_any (c : Ch) (n : Nat) (depth : Int) (w : World) : Calls Try.prog 67 #[.agg #[.int .i64 c.kind, .bool c.goal, .string c.id, .slice c.aa c.attr.length c.ac, .slice c.va c.value.length c.vc, .bool c.acc, .slice c.ca n c.cc], .int .i64 depth] w fun e w' => e = .returned (.int .i64 (groupE c n depth)) ∧ Below w.heap.size w w' := by
  have hB : Below w.heap.size w (w.alloc (.cells #[.int .i64 c.kind, .bool c.goal, .string c.id, .slice c.aa c.attr.length c.ac, .slice c.va c.value.length c.vc, .bool c.acc, .slice c.ca n c.cc] 64)) := by go_grown
  cases g1 : c.goal with
  | true =>
    have HQ := Lib.hid (show groupE c n depth = 9 by unfold groupE; rw [if_pos (by simp [g1])])
    go_enter Try.func67, Try.ntmps67
    go_wp2_with fail
    go_ret
    exact ⟨by rw [HQ.out]; rfl, by go_grown⟩
  | false =>
  by_cases g2 : c.id.size = 0
  case neg =>
    have HQ := Lib.hid (show groupE c n depth = 9 by unfold groupE; rw [if_pos (by simp [g2])])
    have e1 : ¬ c.id.toList = [] := by rw [Lib.toList_data, bytes_cons _ (by omega)]; simp
    have e2 : c.id.toList.isEmpty = false := by rw [Lib.toList_data, bytes_cons _ (by omega)]; rfl
    clear g2
    go_enter Try.func67, Try.ntmps67
    go_wp2_with fail
    go_ret
    exact ⟨by rw [HQ.out]; rfl, by go_grown⟩
  have e1 : c.id.toList = [] := by rw [Lib.toList_data]; exact bytes_nil _ g2
  have e2 : c.id.toList.isEmpty = true := by rw [e1]; rfl
  by_cases g3 : 0 < c.attr.length
  · have HQ := Lib.hid (show groupE c n depth = 9 by unfold groupE; rw [if_pos (.inr (.inr (.inl g3)))])
    have d3 : decide (0 < c.attr.length) = true := decide_eq_true g3
    clear g2 g3
    go_enter Try.func67, Try.ntmps67
    go_wp2_with fail
    go_ret
    exact ⟨by rw [HQ.out]; rfl, by go_grown⟩
  have d3 : decide (0 < c.attr.length) = false := decide_eq_false g3
  by_cases g4 : 0 < c.value.length
  · have HQ := Lib.hid (show groupE c n depth = 9 by unfold groupE; rw [if_pos (.inr (.inr (.inr (.inl g4))))])
    have d4 : decide (0 < c.value.length) = true := decide_eq_true g4
    clear g2 g3 g4
    go_enter Try.func67, Try.ntmps67
    go_wp2_with fail
    go_ret
    exact ⟨by rw [HQ.out]; rfl, by go_grown⟩
  have d4 : decide (0 < c.value.length) = false := decide_eq_false g4
  cases g5 : c.acc with
  | true =>
    have HQ := Lib.hid (show groupE c n depth = 9 by unfold groupE; rw [if_pos (by simp [g5])])
    clear g2 g3 g4
    go_enter Try.func67, Try.ntmps67
    go_wp2_with fail
    go_ret
    exact ⟨by rw [HQ.out]; rfl, by go_grown⟩
  | false =>
  by_cases g6 : n = 0
  · have HQ := Lib.hid (show groupE c n depth = 9 by unfold groupE; rw [if_pos (by simp [g6])])
    have d6 : ((n : Int) == 0) = true := by simp [g6]
    clear g2 g3 g4 g6
    go_enter Try.func67, Try.ntmps67
    go_wp2_with fail
    go_ret
    exact ⟨by rw [HQ.out]; rfl, by go_grown⟩
  have d6 : ((n : Int) == 0) = false := by simp [g6]
  have HS := Lib.hid (show groupE c n depth = if 3 ≤ depth then 8 else 0 by unfold groupE; rw [if_neg (by rintro (h | h | h | h | h | h); exact absurd h (by simp [g1]); exact h g2; exact g3 h; exact g4 h; exact absurd h (by simp [g5]); exact g6 h)])
  clear g2 g3 g4 g6
  by_cases g7 : 3 ≤ depth
  · have HQ := Lib.hid (show groupE c n depth = 8 by rw [HS.out, if_pos g7])
    have d7 : decide (3 ≤ depth) = true := decide_eq_true g7
    clear g7
    go_enter Try.func67, Try.ntmps67
    go_wp2_with fail
    go_ret
    exact ⟨by rw [HQ.out]; rfl, by go_grown⟩
  · have HQ := Lib.hid (show groupE c n depth = 0 by rw [HS.out, if_neg g7])
    have d7 : decide (3 ≤ depth) = false := decide_eq_false g7
    clear g7
    go_enter Try.func67, Try.ntmps67
    go_wp2_with fail
    go_ret
    exact ⟨by rw [HQ.out]; rfl, by go_grown⟩
set_option maxHeartbeats 1000000 in
theorem cond_any (c : Ch) (n : Nat) (depth : Int) (w : World) (ha : TestsAt w c.aa c.attr) (hv : TestsAt w c.va c.value) : Calls Try.prog 40 #[.agg #[.int .i64 c.kind, .bool c.goal, .string c.id, .slice c.aa c.attr.length c.ac, .slice c.va c.value.length c.vc, .bool c.acc, .slice c.ca n c.cc], .int .i64 depth] w fun e w' => e = .returned (.int .i64 (condE c n depth)) ∧ Below w.heap.size w w' := by
  have hB : Below w.heap.size w (w.alloc (.cells #[.int .i64 c.kind, .bool c.goal, .string c.id, .slice c.aa c.attr.length c.ac, .slice c.va c.value.length c.vc, .bool c.acc, .slice c.ca n c.cc] 64)) := by go_grown
  have hs := single_any c n (w.alloc (.cells #[.int .i64 c.kind, .bool c.goal, .string c.id, .slice c.aa c.attr.length c.ac, .slice c.va c.value.length c.vc, .bool c.acc, .slice c.ca n c.cc] 64)) (ha.mono hB) (hv.mono hB)
  have hg := group_any c n depth (w.alloc (.cells #[.int .i64 c.kind, .bool c.goal, .string c.id, .slice c.aa c.attr.length c.ac, .slice c.va c.value.length c.vc, .bool c.acc, .slice c.ca n c.cc] 64))
  have HS := Lib.hid hs
  have HG := Lib.hid hg
  clear hs hg ha hv
  by_cases k1 : c.kind = 1
  · have b1 : (c.kind == 1) = true := by simp [k1]
    have HQ := Lib.hid (show condE c n depth = singleE c n by unfold condE; rw [if_pos (.inl k1)])
    clear k1
    go_enter Try.func40, Try.ntmps40
    go_wp2_with (go_at_call 66; refine HS.out.mono ?_; rintro e w2 ⟨rfl, hb⟩)
    go_ret
    exact ⟨by rw [HQ.out]; rfl, hB.trans (hb.mono hB.size)⟩
  have b1 : (c.kind == 1) = false := by simp [k1]
  by_cases k2 : c.kind = 2
  · have b2 : (c.kind == 2) = true := by simp [k2]
    have HQ := Lib.hid (show condE c n depth = singleE c n by unfold condE; rw [if_pos (.inr k2)])
    clear k1 k2
    go_enter Try.func40, Try.ntmps40
    go_wp2_with (go_at_call 66; refine HS.out.mono ?_; rintro e w2 ⟨rfl, hb⟩)
    go_ret
    exact ⟨by rw [HQ.out]; rfl, hB.trans (hb.mono hB.size)⟩
  have b2 : (c.kind == 2) = false := by simp [k2]
  by_cases k3 : c.kind = 3
  · have b3 : (c.kind == 3) = true := by simp [k3]
    have HQ := Lib.hid (show condE c n depth = groupE c n depth by unfold condE; rw [if_neg (by omega), if_pos k3])
    clear k1 k2 k3
    go_enter Try.func40, Try.ntmps40
    go_wp2_with (go_at_call 67; refine HG.out.mono ?_; rintro e w2 ⟨rfl, hb⟩)
    go_ret
    exact ⟨by rw [HQ.out]; rfl, hB.trans (hb.mono hB.size)⟩
  have b3 : (c.kind == 3) = false := by simp [k3]
  have HQ := Lib.hid (show condE c n depth = 9 by unfold condE; rw [if_neg (by omega), if_neg k3])
  clear k1 k2 k3
  go_enter Try.func40, Try.ntmps40
  go_wp2_with fail
  go_ret
  exact ⟨by rw [HQ.out]; rfl, hB⟩

/-- A condition with its inner ones. -/
inductive Co where
  | mk (h : Ch) (l : List Co)
namespace Co
def h : Co → Ch | mk h _ => h
def l : Co → List Co | mk _ l => l
end Co
def encC (c : Co) : List Value := encH c.h c.l.length
/-- Conditions at a place, with all that lies within them. -/
inductive CondsAt (w : World) : Option Addr → List Co → Prop
  | mk (a : Option Addr) (l : List Co) (he : EltsK encC 7 w a l) (ha : ∀ c ∈ l, TestsAt w c.h.aa c.h.attr) (hv : ∀ c ∈ l, TestsAt w c.h.va c.h.value) (hi : ∀ c ∈ l, CondsAt w c.h.ca c.l) : CondsAt w a l
theorem CondsAt.mono {w w' : World} (hb : Below w.heap.size w w') {a : Option Addr} {l : List Co} (h : CondsAt w a l) : CondsAt w' a l := by
  induction h with
  | mk a l he ha hv hi ih => exact .mk a l (he.mono hb) (fun c hc => (ha c hc).mono hb) (fun c hc => (hv c hc).mono hb) ih
/-- How many they are, with the inner ones. -/
def sizeL : List Co → Nat
  | [] => 0
  | .mk _ m :: l => 1 + sizeL m + sizeL l
/-- Each with its count and its depth, ahead of its inner ones, counted from n on. -/
def flatL : List Co → Nat → Nat → List (Nat × Nat × Co)
  | [], _, _ => []
  | .mk h m :: l, n, d => (n, d, .mk h m) :: (flatL m (n + 1) (d + 1) ++ flatL l (n + 1 + sizeL m) d)
theorem flat_len : ∀ (l : List Co) (n d : Nat), (flatL l n d).length = sizeL l
  | [], _, _ => by simp [flatL, sizeL]
  | .mk h m :: l, n, d => by
    have h1 := flat_len m (n + 1) (d + 1)
    have h2 := flat_len l (n + 1 + sizeL m) d
    simp only [flatL, sizeL, List.length_cons, List.length_append, h1, h2]; omega
theorem size_append : ∀ (a b : List Co), sizeL (a ++ b) = sizeL a + sizeL b
  | [], b => by simp [sizeL]
  | .mk h m :: a, b => by have := size_append a b; simp only [List.cons_append, sizeL, this]; omega
theorem size_take_succ (l : List Co) {k : Nat} (hk : k < l.length) : sizeL (l.take (k + 1)) = sizeL (l.take k) + (1 + sizeL l[k].l) := by
  rw [List.take_succ_eq_append_getElem hk, size_append]
  cases hc : l[k] with
  | mk h m => simp [sizeL, Co.l]
end Go.Proofs.Ytccphigpobnjmaa
