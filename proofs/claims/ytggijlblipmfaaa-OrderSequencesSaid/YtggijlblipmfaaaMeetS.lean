/-
  Walk over package order at ponder/api.Sym: Meet.
-/
import Derived.Test.YtggijlblipmfaaaUniS
import Derived.Test.YtggijlblipmfaaaFindS
namespace Go.Proofs.Ytggijlblipmfaaa
set_option linter.unusedVariables false
open Go.RowKit Go.Shelf
attribute [local go_sem] Oper.semAt_some
def meetL (xs ys : List Sy) : List Sy := xs.filter fun x => has cmpY x ys
set_option maxRecDepth 100000 in
set_option maxHeartbeats 4000000 in
theorem meet_in (n : Nat) (hn : 3 ≤ n) (w : World) (a b : Nat) (xs ys : List Sy) (ha : SetS w a xs) (hb : SetS w b ys) (hz : xs.length ≤ 1000000) :
    CallsIn Fence.wide n Try.prog 43 #[.pointer (some ⟨a, 0, none⟩), .pointer (some ⟨b, 0, none⟩)] w (MadeS w (insAll cmpY [] (meetL xs ys))) := by
  have h1 : 1 ≤ n := by omega
  have hnew := callsIn_wide (n := n - 1).2 (new_nilS (w.alloc (.cells #[.pointer (some ⟨b, 0, none⟩)] 23)))
  have hall := fun W => callsIn_wide (n := n - 1).2 (all_anyS W a)
  have Ha := Lib.hid ha
  have Hb := Lib.hid hb
  have hltb : b < w.heap.size := IsSet.lt hb
  clear ha hb
  refine callsIn_of_wp_marks Try.func43 rfl trivial ?_ rfl
  simp only [Try.ntmps43, List.size_toArray, List.length_cons, List.length_nil, Nat.reduceAdd, Nat.reduceSub, Array.replicate_succ, Array.replicate_zero, List.push_toArray, List.append_toArray, List.nil_append, List.cons_append]
  gi_wp2_with (first
    | (refine ⟨trivial, ?_⟩; gi_at_call 15; refine hnew.mono ?_; clear hnew; unfold NewOutS; rintro e w1 ⟨bm, rfl, hbm, hb1, hs1⟩)
    | (refine ⟨trivial, ?_⟩; gi_at_call 39; refine (hall _).mono ?_; rintro e w2 ⟨rfl, rfl⟩))
  rw [World.size_alloc] at hbm
  have hlt1 : bm < w1.heap.size := IsSet.lt hs1
  have hBB : Below w.heap.size w (w.alloc (.cells #[.pointer (some ⟨b, 0, none⟩)] 23)) := by go_grown
  have hbw1 := hBB.trans (hb1.mono hBB.size)
  have hbx1 := (hb1.block w.heap.size (by simp)).trans (new_at rfl)
  obtain ⟨W0, hW0⟩ : ∃ W0, W0 = (w1.alloc (.cells #[.pointer (some ⟨bm, 0, none⟩)] 23)).alloc (.cells #[.pointer (some ⟨a, 0, none⟩)] 23) := ⟨_, rfl⟩
  have hz0 : W0.heap.size = w1.heap.size + 2 := by rw [hW0]; simp
  have hBW1 : Below w1.heap.size w1 W0 := by rw [hW0]; exact ((Below.refl _ _).alloc (Nat.le_refl _) _).alloc (by simp) _
  have hBu : W0.heap[w1.heap.size]? = some (.cells #[.pointer (some ⟨bm, 0, none⟩)] 23 (0, 0)) := by rw [hW0]; exact (Below.heap_alloc _ _ _ (by simp)).trans (new_at rfl)
  have hBs : W0.heap[w1.heap.size + 1]? = some (.cells #[.pointer (some ⟨a, 0, none⟩)] 23 (0, 0)) := by rw [hW0]; exact new_at (by simp)
  have hBb : W0.heap[w.heap.size]? = some (.cells #[.pointer (some ⟨b, 0, none⟩)] 23 (0, 0)) := (hBW1.block _ (heap_lt hbx1)).trans hbx1
  have hset0 : SetS W0 bm (insAll cmpY [] (meetL [] ys)) := IsSet.mono hs1 hBW1
  have hBW : Below w.heap.size w W0 := hbw1.trans (hBW1.mono hbw1.size)
  have hsa : SetS W0 a xs := IsSet.mono Ha.out hBW
  have hsb : SetS W0 b ys := IsSet.mono Hb.out hBW
  have hsz1 := hbw1.size
  have hwlt := heap_lt hbx1
  rw [← hW0]
  clear hW0 hall hs1 hbx1
  refine wpIn_rangeFunc_ownH rfl h1 (gf := 93) (lb := #[.pointer (some ⟨w1.heap.size + 1, 0, none⟩)]) rfl trivial (enters_of Try.func93 (by kernel_rfl) rfl)
    (all_stopsS Fence.wide rfl (n - 1) trivial trivial rfl (w1.heap.size + 1) a xs W0 hBs hsa) (fun h k => KN.trans h k) (fun W l o o' _ h hc _ => KN.put _ W l o o' h hc) (Below.refl _ _) (fun _ => rfl)
    (fun pre W => Below w.heap.size w W ∧ (W.heap[w1.heap.size]? = some (.cells #[.pointer (some ⟨bm, 0, none⟩)] 23 (0, 0)) ∧ (W.heap[w.heap.size]? = some (.cells #[.pointer (some ⟨b, 0, none⟩)] 23 (0, 0)) ∧ (SetS W b ys ∧ SetS W bm (insAll cmpY [] (meetL pre ys))))))
    (fun _ _ _ => False)
    (OwnFrom.and (ownFrom_below (Nat.le_refl _) hBW.size) (Own.from (own_and (cells_own _ _ _) (own_and (cells_own _ _ _) (own_and (set_own encS 167 118 cmpY b (fun _ => ys)) (set_own encS 167 118 cmpY bm (fun pre => insAll cmpY [] (meetL pre ys)))))) _))
    (fun _ _ _ _ _ hs _ _ => hs)
    ⟨hBW, hBu, hBb, hsb, hset0⟩
    (fun x a' W => ∃ Bx, W.heap[Bx]? = some (.cells #[.int .i64 x.k, .string x.t, .int .i64 x.n] 26 (0, 0)) ∧ a' = { tmps := #[.pointer (some ⟨a, 0, none⟩), .pointer (some ⟨b, 0, none⟩), undef, .pointer (some ⟨w.heap.size, 0, none⟩), .pointer none, .pointer (some ⟨w1.heap.size, 0, none⟩), .pointer (some ⟨Bx, 0, none⟩), undef, undef, .pointer (some ⟨bm, 0, none⟩), .pointer (some ⟨a, 0, none⟩), .func (.func 93) #[] #[.pointer (some ⟨w1.heap.size + 1, 0, none⟩)], .agg #[.int .i64 x.k, .string x.t, .int .i64 x.n], undef, undef, undef, undef, undef, undef, undef, undef, undef, undef, undef], defers := [] })
    (fun x a' => by
      rintro s X Y row ⟨Bx, h2, h3⟩ hg hrow
      exact ⟨Bx, kept_block h2 hg (fun r e => (hrow r e).2), h3⟩) ?assign ?body ?done ?stop
  case assign =>
    rintro l pre x W K ⟨hB, hu, hbb, hsy, hs⟩ hK
    have hsz := hB.size
    gi_wp2
    have hA := (Below.refl W.heap.size W).alloc (Nat.le_refl _) (.cells #[.int .i64 x.k, .string x.t, .int .i64 x.n] 26)
    exact hK _ _ ((KeepsOthers.alloc _ _).from _) (KN.below hA) ⟨hB.alloc hsz _, (hA.block _ (heap_lt hu)).trans hu, (hA.block _ (heap_lt hbb)).trans hbb, IsSet.mono hsy hA, IsSet.mono hs hA⟩ ⟨W.heap.size, new_at rfl, rfl⟩
  case body =>
    rintro l pre x a' W hl ⟨r, hr⟩ ⟨hB, hu, hbb, hsy, hs⟩ ⟨Bx, hx, rfl⟩ hlt
    have hsz := hB.size
    have hlen := insAll_length cmpY (meetL pre ys) []
    have hlen2 : (meetL pre ys).length ≤ pre.length := List.length_filter_le _ _
    have cu : W.cell? ⟨w1.heap.size, 0, none⟩ = some (.pointer (some ⟨bm, 0, none⟩)) := by rw [cells_of hu]; rfl
    have cb : W.cell? ⟨w.heap.size, 0, none⟩ = some (.pointer (some ⟨b, 0, none⟩)) := by rw [cells_of hbb]; rfl
    obtain ⟨x0, x1, x2, -, -, -, -⟩ := box_cells hx (Below.refl _ _)
    have hgt := get_setS x W b ys hsy
    have hh := has_look (c := cmpY) (x := x) ys
    cases hc : look cmpY x ys with
    | none =>
      rw [hc] at hgt hh
      unfold FindOutS at hgt
      have hget := CallsIn.inRound l (callsIn_wide (n := n - 1 - 1 - 1).2 hgt)
      have hm : meetL (pre ++ [x]) ys = meetL pre ys := by simp [meetL, List.filter_append, hh]
      have HM := Lib.hid hm
      have hu' := Lib.hid hu
      have hbb' := Lib.hid hbb
      clear hu hbb hx hm hc hh hgt
      gi_wp2_with (refine ⟨trivial, (fun h => by cases h), ?_⟩; gi_at_call 23; refine hget.mono ?_; rintro e w2 ⟨hb2, rfl⟩)
      have hA : Below W.heap.size W (w2.alloc (.cells #[.int .i64 0, .string ⟨#[]⟩, .int .i64 0] 26)) := hb2.alloc hb2.size _
      exact ⟨KeepsFrom.of_grownBy (row := none) ⟨hA.os, hA.tape, hA.output, hA.size, fun i hi _ => hA.block i hi⟩ (fun j e => by cases e), KN.below hA, hB.trans (hA.mono hsz), (hA.block _ (heap_lt hu'.out)).trans hu'.out, (hA.block _ (heap_lt hbb'.out)).trans hbb'.out, IsSet.mono hsy hA, by rw [HM.out]; exact IsSet.mono hs hA⟩
    | some v =>
      rw [hc] at hgt hh
      unfold FindOutS at hgt
      have hget := CallsIn.inRound l (callsIn_wide (n := n - 1 - 1 - 1).2 hgt)
      have hm : meetL (pre ++ [x]) ys = meetL pre ys ++ [x] := by simp [meetL, List.filter_append, hh]
      have HM := Lib.hid hm
      have hu' := Lib.hid hu
      have hbb' := Lib.hid hbb
      have hput := fun W' (h : SetS W' bm (insAll cmpY [] (meetL pre ys))) => CallsIn.inRound l (callsIn_wide (n := n - 1 - 1 - 1).2 (put_anyS W' bm x _ h (by simp at hlen; omega)))
      have Hput := Lib.hid hput
      have hx' := Lib.hid hx
      clear hu hbb hx hm hc hh hgt hput
      gi_wp2_with (first
        | (refine ⟨trivial, (fun h => by cases h), ?_⟩; gi_at_call 23; refine hget.mono ?_; clear hget; rintro e w2 ⟨hb2, rfl⟩; have hsz2 := hb2.size; obtain ⟨y0, y1, y2, -, -, -, -⟩ := box_cells hx'.out hb2; have cu2 := (hb2.cell (p := ⟨w1.heap.size, 0, none⟩) (heap_lt hu'.out)).trans cu; have hbx2 := Nat.lt_of_lt_of_le (heap_lt hx'.out) hsz2; have hbu2 := Nat.lt_of_lt_of_le (heap_lt hu'.out) hsz2)
        | (refine ⟨trivial, (fun h => by cases h), ?_⟩; gi_at_call 19; refine (Hput.out _ (IsSet.mono hs (hb2.alloc hb2.size _))).mono ?_; unfold PutOutS; rintro e w3 ⟨rfl, hg3, hs3⟩))
      have hA : Below W.heap.size W (w2.alloc (.cells #[.int .i64 v.k, .string v.t, .int .i64 v.n] 26)) := hb2.alloc hb2.size _
      have hg := gtrans (gbelow (r := bm) hA) hg3
      obtain ⟨rp, rT, hroot, -, -, -⟩ := hs
      exact ⟨KeepsFrom.of_grownBy hg (fun j e => by cases e; omega), KN.but hg hroot (by decide), hB.trans (belowg hg hsz (by omega)), (hg.block _ (heap_lt hu'.out) (by simp; omega)).trans hu'.out, (hg.block _ (heap_lt hbb'.out) (by simp; omega)).trans hbb'.out, IsSet.but hsy hg hroot (by decide) (by omega), by rw [HM.out, insAll_snoc]; exact hs3⟩
  case done =>
    rintro D zs W hD rfl ⟨hB, hu, -, -, hs⟩ hK
    have cu : W.cell? ⟨w1.heap.size, 0, none⟩ = some (.pointer (some ⟨bm, 0, none⟩)) := by rw [cells_of hu]; rfl
    gi_wp2
    refine ⟨by simp, .inl ⟨_, _, rfl, run_takeDeferred hK, ?_⟩⟩
    exact ⟨_, results_tmp rfl _ _ _, bm, rfl, by omega, hB.trans (belowK_b (w := w) (Nat.le_refl _) W D _ _ (by omega) hK rfl rfl), (set_own encS 167 118 cmpY bm (fun _ : Unit => insAll cmpY [] (meetL zs ys))).putObj (s := ()) _ hs hK rfl⟩
  case stop =>
    rintro D c pre W _ _ h _
    exact h.elim
end Go.Proofs.Ytggijlblipmfaaa
