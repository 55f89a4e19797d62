/-
  Walk over package order at ponder/api.Sym: Same.
-/
import Derived.Test.YtggijlblipmfaaaUniS
import Derived.Test.YtggijlblipmfaaaFindS
import Derived.RegionIn
import Derived.Sort.QuietIn
namespace Go.Proofs.Ytggijlblipmfaaa
set_option linter.unusedVariables false
open Go.RowKit Go.Shelf
attribute [local go_sem] Oper.semAt_some
def sameL (xs ys : List Sy) : Bool := xs.length == ys.length && xs.all fun x => has cmpY x ys
theorem results_boolcell {fn : Func} {p : Tmp} (h : fn.results = #[.cell p 4]) (tmps : Array Value) (w : World) (g : Nat) (b : Bool)
    (hp : tmps.getD p undef = .pointer (some ⟨g, 0, none⟩)) (hc : w.cell? ⟨g, 0, none⟩ = some (.bool b)) :
    (results fn tmps).run Try.prog w = .ok (.bool b) w := by
  have hp' : tmps[p]?.getD undef = .pointer (some ⟨g, 0, none⟩) := by simpa using hp
  simp [results, h, hp', asAddr, loadVar, go_sem, hc]
set_option maxRecDepth 100000 in
set_option maxHeartbeats 4000000 in
theorem same_in (n : Nat) (hn : 3 ≤ n) (w : World) (a b : Nat) (xs ys : List Sy) (ha : SetS w a xs) (hb : SetS w b ys) (hz : xs.length ≤ 1000000) (hz2 : ys.length ≤ 1000000) :
    CallsIn Fence.wide n Try.prog 45 #[.pointer (some ⟨a, 0, none⟩), .pointer (some ⟨b, 0, none⟩)] w (fun e w' => e = .returned (.bool (sameL xs ys)) ∧ Below w.heap.size w w') := by
  have h1 : 1 ≤ n := by omega
  have hB1 : Below w.heap.size w ((w.alloc (.cells #[.pointer (some ⟨b, 0, none⟩)] 23)).alloc (.cells #[.bool false] 4)) := by go_grown
  have hla := fun k => (callsIn_wide (n := n - 1).2 (len_setS _ a xs (IsSet.mono ha (bdN k hB1)))).mono (R' := fun e w' => e = .returned (.int .i64 xs.length) ∧ w' = _) (fun _ _ h => ⟨h.1, h.2.symm⟩)
  have hlb := fun k => (callsIn_wide (n := n - 1).2 (len_setS _ b ys (IsSet.mono hb (bdN k hB1)))).mono (R' := fun e w' => e = .returned (.int .i64 ys.length) ∧ w' = _) (fun _ _ h => ⟨h.1, h.2.symm⟩)
  have HA := Lib.hid hla
  have HB := Lib.hid hlb
  clear hla hlb
  have hall := fun W => callsIn_wide (n := n - 1).2 (all_anyS W a)
  have Ha := Lib.hid ha
  have Hb := Lib.hid hb
  clear ha hb
  refine callsIn_of_wp_marks Try.func45 rfl trivial ?_ rfl
  simp only [Try.ntmps45, List.size_toArray, List.length_cons, List.length_nil, Nat.reduceAdd, Nat.reduceSub, Array.replicate_succ, Array.replicate_zero, List.push_toArray, List.append_toArray, List.nil_append, List.cons_append]
  gi_wp2_with fail
  refine wpIn_region_quiet_lit rfl (by kernel_rfl) (by kernel_rfl) ?_
  iterate 5 (refine wpQuietIn_step (fun _ _ _ _ => trivial) (fun K hK => ?_); go_simp; (first | (with_reducible refine hK _ ?_) | (with_reducible refine ⟨_, fun k => CallsIn.quiet_of_same (HA.out k), hK _ ?_⟩) | (with_reducible refine ⟨_, fun k => CallsIn.quiet_of_same (HB.out k), hK _ ?_⟩)); clear hK K)
  refine wpQuietIn_nil ?_
  intro _ hw'
  obtain ⟨nq, hw''⟩ := hw'
  subst hw''
  obtain ⟨W1, hW1⟩ : ∃ W1, W1 = ((w.alloc (.cells #[.pointer (some ⟨b, 0, none⟩)] 23)).alloc (.cells #[.bool false] 4)).drewN nq := ⟨_, rfl⟩
  have hB1' : Below w.heap.size w W1 := by rw [hW1]; exact bdN nq hB1
  have hz1 : W1.heap.size = w.heap.size + 2 := by rw [hW1]; simp
  have hbx : W1.heap[w.heap.size]? = some (.cells #[.pointer (some ⟨b, 0, none⟩)] 23 (0, 0)) := by rw [hW1]; exact (Below.heap_alloc _ _ _ (by simp)).trans (new_at rfl)
  have hrs : W1.heap[w.heap.size + 1]? = some (.cells #[.bool false] 4 (0, 0)) := by rw [hW1]; exact new_at (by simp)
  rw [← hW1]
  clear hW1 HA HB hB1
  have cr : W1.cell? ⟨w.heap.size + 1, 0, none⟩ = some (.bool false) := by rw [cells_of hrs]; rfl
  have fr : W1.frozen? ⟨w.heap.size + 1, 0, none⟩ = false := frozen_of hrs
  by_cases he : xs.length = ys.length
  case neg =>
    have hl1 : ((xs.length : Int) != (ys.length : Int)) = true := by simp [bne]; omega
    have hsame : sameL xs ys = false := by simp [sameL, he]
    gi_wp2_with fail
    refine ⟨_, results_boolcell rfl _ _ (w.heap.size + 1) false rfl (by rw [cells_of (set_heap hrs)]; rfl), by rw [hsame], hB1'.trans (belowg (gset _ _ _ _) hB1'.size (by omega))⟩
  have hl1 : ((xs.length : Int) != (ys.length : Int)) = false := by simp [bne, he]
  gi_wp2_with (refine ⟨trivial, ?_⟩; gi_at_call 39; refine (hall _).mono ?_; rintro e w2 ⟨rfl, rfl⟩)
  obtain ⟨W0, hW0⟩ : ∃ W0, W0 = W1.alloc (.cells #[.pointer (some ⟨a, 0, none⟩)] 23) := ⟨_, rfl⟩
  have hz0 : W0.heap.size = w.heap.size + 3 := by rw [hW0]; simp [hz1]
  have hBW1 : Below W1.heap.size W1 W0 := by rw [hW0]; exact (Below.refl _ _).alloc (Nat.le_refl _) _
  have hBs : W0.heap[w.heap.size + 2]? = some (.cells #[.pointer (some ⟨a, 0, none⟩)] 23 (0, 0)) := by rw [hW0]; exact new_at hz1.symm
  have hBb : W0.heap[w.heap.size]? = some (.cells #[.pointer (some ⟨b, 0, none⟩)] 23 (0, 0)) := (hBW1.block _ (heap_lt hbx)).trans hbx
  have hBr : W0.heap[w.heap.size + 1]? = some (.cells #[.bool false] 4 (0, 0)) := (hBW1.block _ (heap_lt hrs)).trans hrs
  have hBW : Below w.heap.size w W0 := hB1'.trans (hBW1.mono hB1'.size)
  have hsa : SetS W0 a xs := IsSet.mono Ha.out hBW
  have hsb : SetS W0 b ys := IsSet.mono Hb.out hBW
  rw [← hW0]
  clear hW0 hall hbx hrs cr fr
  refine wpIn_rangeFunc_ownH rfl h1 (gf := 93) (lb := #[.pointer (some ⟨w.heap.size + 2, 0, none⟩)]) rfl trivial (enters_of Try.func93 (by kernel_rfl) rfl)
    (all_stopsS Fence.wide rfl (n - 1) trivial trivial rfl (w.heap.size + 2) a xs W0 hBs hsa) (fun h k => KN.trans h k) (fun W l o o' _ h hc _ => KN.put _ W l o o' h hc) (Below.refl _ _) (fun _ => rfl)
    (fun pre W => Below w.heap.size w W ∧ (W.heap[w.heap.size]? = some (.cells #[.pointer (some ⟨b, 0, none⟩)] 23 (0, 0)) ∧ (W.heap[w.heap.size + 1]? = some (.cells #[.bool false] 4 (0, 0)) ∧ (SetS W b ys ∧ pre.all (fun x => has cmpY x ys) = true))))
    (fun c pre W => Below w.heap.size w W ∧ (W.heap[w.heap.size + 1]? = some (.cells #[.bool false] 4 (0, 0)) ∧ (c = .ret ∧ pre.all (fun x => has cmpY x ys) = false)))
    (OwnFrom.and (ownFrom_below (Nat.le_refl _) hBW.size) (Own.from (own_and (cells_own _ _ _) (own_and (cells_own _ _ _) (own_and (set_own encS 167 118 cmpY b (fun _ => ys)) (fun _ _ _ _ h _ _ => h)))) _))
    (fun c => OwnFrom.and (ownFrom_below (Nat.le_refl _) hBW.size) (Own.from (own_and (cells_own _ _ _) (fun _ _ _ _ h _ _ => h)) _))
    ⟨hBW, hBb, hBr, hsb, rfl⟩
    (fun x a' W => ∃ Bx, W.heap[Bx]? = some (.cells #[.int .i64 x.k, .string x.t, .int .i64 x.n] 26 (0, 0)) ∧ a' = { tmps := #[.pointer (some ⟨a, 0, none⟩), .pointer (some ⟨b, 0, none⟩), undef, .pointer (some ⟨w.heap.size, 0, none⟩), .pointer (some ⟨w.heap.size + 1, 0, none⟩), .pointer (some ⟨Bx, 0, none⟩), undef, undef, .pointer (some ⟨a, 0, none⟩), .int .i64 ys.length, .pointer (some ⟨b, 0, none⟩), .int .i64 ys.length, .bool false, .pointer (some ⟨a, 0, none⟩), .func (.func 93) #[] #[.pointer (some ⟨w.heap.size + 2, 0, none⟩)], .agg #[.int .i64 x.k, .string x.t, .int .i64 x.n], undef, undef, undef, undef, undef, undef, undef, undef], defers := [] })
    (fun x a' => by
      rintro s X Y row ⟨Bx, h2, h3⟩ hg hrow
      exact ⟨Bx, kept_block h2 hg (fun r e => (hrow r e).2), h3⟩) ?assign ?body ?done ?stop
  case assign =>
    rintro l pre x W K ⟨hB, hbb, hr, hsy, hp⟩ hK
    have hsz := hB.size
    gi_wp2
    have hA := (Below.refl W.heap.size W).alloc (Nat.le_refl _) (.cells #[.int .i64 x.k, .string x.t, .int .i64 x.n] 26)
    exact hK _ _ ((KeepsOthers.alloc _ _).from _) (KN.below hA) ⟨hB.alloc hsz _, (hA.block _ (heap_lt hbb)).trans hbb, (hA.block _ (heap_lt hr)).trans hr, IsSet.mono hsy hA, hp⟩ ⟨W.heap.size, new_at rfl, rfl⟩
  case body =>
    rintro l pre x a' W hl ⟨r, hr⟩ ⟨hB, hbb, hrc, hsy, hp⟩ ⟨Bx, hx, rfl⟩ hlt
    have hsz := hB.size
    have cb : W.cell? ⟨w.heap.size, 0, none⟩ = some (.pointer (some ⟨b, 0, none⟩)) := by rw [cells_of hbb]; rfl
    obtain ⟨x0, x1, x2, -, -, -, -⟩ := box_cells hx (Below.refl _ _)
    have hgt := get_setS x W b ys hsy
    have hh := has_look (c := cmpY) (x := x) ys
    cases hc : look cmpY x ys with
    | none =>
      rw [hc] at hgt hh
      unfold FindOutS at hgt
      have hget := CallsIn.inRound l (callsIn_wide (n := n - 1 - 1 - 1).2 hgt)
      have hm : (pre ++ [x]).all (fun x => has cmpY x ys) = false := by simp [hh]
      have HM := Lib.hid hm
      have hrc' := Lib.hid hrc
      have hbb' := Lib.hid hbb
      clear hrc hbb hx hm hc hh hgt
      gi_wp2_with (refine ⟨trivial, (fun h => by cases h), ?_⟩; gi_at_call 23; refine hget.mono ?_; rintro e w2 ⟨hb2, rfl⟩; have hA : Below W.heap.size W (w2.alloc (.cells #[.int .i64 0, .string ⟨#[]⟩, .int .i64 0] 26)) := hb2.alloc hb2.size _; have cr := (hb2.cell (p := ⟨w.heap.size + 1, 0, none⟩) (heap_lt hrc'.out)).trans (by rw [cells_of hrc'.out]; rfl : _ = some (Value.bool false)); have fr : w2.frozen? ⟨w.heap.size + 1, 0, none⟩ = false := frozen_of ((hb2.block _ (heap_lt hrc'.out)).trans hrc'.out); have hbx2 := Nat.lt_of_lt_of_le (heap_lt hrc'.out) hb2.size)
      have hA : Below W.heap.size W (w2.alloc (.cells #[.int .i64 0, .string ⟨#[]⟩, .int .i64 0] 26)) := hb2.alloc hb2.size _
      have hset := set_heap (u := .bool false) ((hb2.block _ (heap_lt hrc'.out)).trans hrc'.out)
      have hAl : Below (w2.setCell ⟨w.heap.size + 1, 0, none⟩ (.bool false)).heap.size (w2.setCell ⟨w.heap.size + 1, 0, none⟩ (.bool false)) ((w2.setCell ⟨w.heap.size + 1, 0, none⟩ (.bool false)).alloc (.cells #[.int .i64 0, .string ⟨#[]⟩, .int .i64 0] 26)) := (Below.refl _ _).alloc (Nat.le_refl _) _
      have hg := gtrans (gtrans (gbelow (r := w.heap.size + 1) hb2) (gset w2 (w.heap.size + 1) 0 (.bool false))) (gbelow hAl)
      exact ⟨KeepsFrom.of_grownBy hg (fun j e => by cases e; omega), hB.trans (belowg hg hsz (by omega)), (hAl.block _ (heap_lt hset)).trans hset, rfl, HM.out⟩
    | some v =>
      rw [hc] at hgt hh
      unfold FindOutS at hgt
      have hget := CallsIn.inRound l (callsIn_wide (n := n - 1 - 1 - 1).2 hgt)
      have hm : (pre ++ [x]).all (fun x => has cmpY x ys) = true := by simp [hh, hp] <;> simpa using hp
      have HM := Lib.hid hm
      have hrc' := Lib.hid hrc
      have hbb' := Lib.hid hbb
      clear hrc hbb hx hm hc hh hgt
      gi_wp2_with (refine ⟨trivial, (fun h => by cases h), ?_⟩; gi_at_call 23; refine hget.mono ?_; clear hget; rintro e w2 ⟨hb2, rfl⟩)
      have hA : Below W.heap.size W (w2.alloc (.cells #[.int .i64 v.k, .string v.t, .int .i64 v.n] 26)) := hb2.alloc hb2.size _
      exact ⟨KeepsFrom.of_grownBy (row := none) ⟨hA.os, hA.tape, hA.output, hA.size, fun i hi _ => hA.block i hi⟩ (fun j e => by cases e), KN.below hA, hB.trans (hA.mono hsz), (hA.block _ (heap_lt hbb'.out)).trans hbb'.out, (hA.block _ (heap_lt hrc'.out)).trans hrc'.out, IsSet.mono hsy hA, HM.out⟩
  case done =>
    rintro D zs W hD rfl ⟨hB, -, hrc, -, hp⟩ hK
    have cr : W.cell? ⟨w.heap.size + 1, 0, none⟩ = some (.bool false) := by rw [cells_of hrc]; rfl
    have fr : W.frozen? ⟨w.heap.size + 1, 0, none⟩ = false := frozen_of hrc
    have hsame : sameL zs ys = true := by simp only [sameL, he, hp]; simp
    gi_wp2
    have hne : D ≠ w.heap.size + 1 := by omega
    refine ⟨by simp, .inl ⟨_, _, rfl, run_takeDeferred ((Below.heap_setCell W _ _ _ hne).trans hK), ?_⟩⟩
    refine ⟨_, results_boolcell rfl _ _ (w.heap.size + 1) true rfl (by rw [cells_of ((cells_own (w.heap.size + 1) (fun _ : Unit => #[Value.bool true]) 4).putObj (s := ()) _ (set_heap hrc) ((Below.heap_setCell W _ _ _ hne).trans hK) rfl)]; rfl), by rw [hsame], ?_⟩
    exact (hB.trans (belowg (gset _ _ _ _) hB.size (by omega))).trans (belowK_b (w := w) (Nat.le_refl _) _ D _ _ (by omega) ((Below.heap_setCell W _ _ _ hne).trans hK) rfl rfl)
  case stop =>
    rintro D c pre W hD hpre ⟨hB, hrc, rfl, hp⟩ hK
    have hsame : sameL xs ys = false := by
      obtain ⟨zs, rfl⟩ := hpre
      simp only [sameL, List.all_append, hp]; simp
    gi_wp2
    refine ⟨by simp, .inl ⟨_, _, rfl, run_takeDeferred hK, ?_⟩⟩
    exact ⟨_, results_boolcell rfl _ _ (w.heap.size + 1) false rfl (by rw [cells_of ((cells_own (w.heap.size + 1) (fun _ : Unit => #[Value.bool false]) 4).putObj (s := ()) _ hrc hK rfl)]; rfl), by rw [hsame], hB.trans (belowK_b (w := w) (Nat.le_refl _) W D _ _ (by omega) hK rfl rfl)⟩
end Go.Proofs.Ytggijlblipmfaaa
