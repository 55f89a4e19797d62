/-
  The walk over BookLists.
-/
import Derived.Test.YtecokicpohgnoaaKitList
import Derived.Test.YtecokicpohgnoaaBookAllL
import Derived.Test.YtecokicpohgnoaaBookWakes
namespace Go.Proofs.Ytecokicpohgnoaa
set_option linter.unusedVariables false
open Go.RowKit Go.Shelf
attribute [local go_sem] Oper.semAt_some
theorem results_boolcell {fn : Func} {p : Tmp} (h : fn.results = #[.cell p 4]) (tmps : Array Value) (w : World) (g : Nat) (b : Bool)
    (hp : tmps.getD p undef = .pointer (some ⟨g, 0, none⟩)) (hc : w.cell? ⟨g, 0, none⟩ = some (.bool b)) :
    (results fn tmps).run Try.prog w = .ok (.bool b) w := by
  have hp' : tmps[p]?.getD undef = .pointer (some ⟨g, 0, none⟩) := by simpa using hp
  simp [results, h, hp', asAddr, loadVar, go_sem, hc]
theorem ownFrom_grown {β : Type} {B r : Nat} {w₀ : World} (hB : w₀.heap.size ≤ B) : OwnFrom B (fun (_ : β) W => w₀.grownBy W (some r)) :=
  fun _ X Y row hs hg hr => ⟨hg.os.trans hs.os, hg.tape.trans hs.tape, hg.output.trans hs.output, Nat.le_trans hs.size hg.size, fun i hi hne =>
    (hg.block i (Nat.lt_of_lt_of_le hi hs.size) (fun e => by have := (hr i e.symm).1; omega)).trans (hs.block i hi hne)⟩
def mkL (i : Nat) (x : Ls) : Pl := ⟨⟨2, ⟨#[]⟩, i⟩, x.a, x.zs.length, x.c⟩
def prs (xs : List Ls) : List Pl := xs.mapIdx mkL
theorem prs_length (xs : List Ls) : (prs xs).length = xs.length := by simp [prs]
theorem prs_snoc (xs : List Ls) (x : Ls) : prs (xs ++ [x]) = prs xs ++ [mkL xs.length x] := by simp [prs, List.mapIdx_append]
theorem cmp_mkL {n i : Nat} (x y : Ls) (h : i < n) : cmpL (mkL n x) (mkL i y) = 1 := by
  simp only [cmpL, mkL, cmpY, cmpI, cmpS_cmp.refl]
  simp
  omega
theorem prs_gt (xs : List Ls) (x : Ls) : ∀ y ∈ prs xs, 0 < cmpL (mkL xs.length x) y := by
  intro y hy
  simp only [prs, List.mem_mapIdx] at hy
  obtain ⟨i, hi, rfl⟩ := hy
  rw [cmp_mkL _ _ hi]; omega
theorem prs_has (xs : List Ls) (x : Ls) : has cmpL (mkL xs.length x) (prs xs) = false := by
  simp only [has, List.any_eq_false]
  intro y hy
  have := prs_gt xs x y hy
  simp; omega
theorem prs_ins (xs : List Ls) (x : Ls) : ins cmpL (mkL xs.length x) (prs xs) = prs (xs ++ [x]) := by
  have h := ins_skip (b := []) (prs_gt xs x)
  rw [List.append_nil] at h
  rw [h, prs_snoc]; rfl
set_option maxRecDepth 100000 in
set_option maxHeartbeats 4000000 in
theorem lists_long (w : World) (a0 : Option Addr) (len0 cap0 : Nat) (m0 : len0 ≤ maxLen) (h : 40 < len0) :
    Calls Try.prog 10 #[.slice a0 len0 cap0] w fun e w' => e = .returned (.bool true) ∧ Below w.heap.size w w' := by
  unfold maxLen at m0
  obtain ⟨W2, hW2⟩ : ∃ W2, W2 = (w.alloc (.cells #[.slice a0 len0 cap0] 86)).alloc (.cells #[.bool false] 4) := ⟨_, rfl⟩
  have bb : Below w.heap.size w W2 := by rw [hW2]; go_grown
  have b4 : Hid (W2.heap[w.heap.size + 1]? = some (.cells #[.bool false] 4 (0, 0))) := Lib.hid (by rw [hW2]; exact new_at (by simp))
  have HW2 := Lib.hid hW2
  clear hW2
  have hd1 : decide (40 < (len0 : Int)) = true := by simp; omega
  refine callsIn_wide.1 (callsIn_of_wp_marks (n := 3) Try.func10 rfl trivial (wpIn_wide.2 ?_) rfl)
  simp only [Try.ntmps10, List.size_toArray, List.length_cons, List.length_nil, Nat.reduceAdd, Nat.reduceSub, Array.replicate_succ, Array.replicate_zero, List.push_toArray, List.append_toArray, List.nil_append, List.cons_append]
  go_wp2_with fail
  rw [← HW2.out]
  refine (bwakes_any W2).mono ?_
  rintro e wd ⟨rfl, bc⟩
  have hb4 := (bc.block _ (heap_lt b4.out)).trans b4.out
  have ba := bb.trans (bc.mono bb.size)
  have c4 : wd.cell? ⟨w.heap.size + 1, 0, none⟩ = some (.bool false) := by rw [cells_of hb4]; rfl
  have f4 : wd.frozen? ⟨w.heap.size + 1, 0, none⟩ = false := frozen_of hb4
  have Hb4 := Lib.hid hb4
  clear hb4 bc
  go_wp2_with fail
  refine ⟨_, results_boolcell rfl _ _ (w.heap.size + 1) true rfl (by rw [cells_of (set_heap Hb4.out)]; rfl), rfl, ba.trans (belowg (gset _ _ _ _) ba.size (by omega))⟩
set_option maxRecDepth 100000 in
set_option maxHeartbeats 16000000 in
theorem lists_walk (w : World) (a0 : Option Addr) (len0 cap0 : Nat) (h0 : len0 ≤ maxLen ∧ ∃ xs : List Ls, xs.length = len0 ∧ ArgLs w a0 xs ∧ ∀ x ∈ xs, LsOk w x) :
    Calls Try.prog 10 #[.slice a0 len0 cap0] w fun e w' => e = .returned (.bool true) ∧ Below w.heap.size w w' := by
  obtain ⟨m0, xs, rfl, ha, hok⟩ := h0
  by_cases hlong : 40 < xs.length
  · exact lists_long w a0 _ cap0 m0 hlong
  have hd1 : decide (40 < (xs.length : Int)) = false := by simp; omega
  have HA := Lib.hid ha
  have HO := Lib.hid hok
  obtain ⟨W2, hW2⟩ : ∃ W2, W2 = (w.alloc (.cells #[.slice a0 xs.length cap0] 86)).alloc (.cells #[.bool false] 4) := ⟨_, rfl⟩
  have bb : Below w.heap.size w W2 := by rw [hW2]; go_grown
  have b3 : Hid (W2.heap[w.heap.size]? = some (.cells #[.slice a0 xs.length cap0] 86 (0, 0))) := Lib.hid (by rw [hW2]; exact (Below.heap_alloc _ _ _ (by simp)).trans (new_at rfl))
  have b4 : Hid (W2.heap[w.heap.size + 1]? = some (.cells #[.bool false] 4 (0, 0))) := Lib.hid (by rw [hW2]; exact new_at (by simp))
  have Z2 : Hid (W2.heap.size = w.heap.size + 2) := Lib.hid (by rw [hW2]; simp)
  have HW2 := Lib.hid hW2
  clear hW2 ha hok m0
  refine callsIn_wide.1 (callsIn_of_wp_marks (n := 3) Try.func10 rfl trivial (wpIn_wide.2 ?_) rfl)
  simp only [Try.ntmps10, List.size_toArray, List.length_cons, List.length_nil, Nat.reduceAdd, Nat.reduceSub, Array.replicate_succ, Array.replicate_zero, List.push_toArray, List.append_toArray, List.nil_append, List.cons_append]
  go_wp2_with fail
  rw [← HW2.out]
  refine (new_mapL W2).mono ?_
  unfold NewMOutL
  rintro e w1 ⟨b, s, rfl, hs, hsb, ba, mx⟩
  have b3 := Lib.hid ((ba.block _ (heap_lt b3.out)).trans b3.out)
  have b4 := Lib.hid ((ba.block _ (heap_lt b4.out)).trans b4.out)
  have bb := bb.trans (ba.mono bb.size)
  have BB := Lib.hid bb
  have MX := Lib.hid mx
  have HS := Lib.hid (⟨by have := Z2.out; omega, IsSet.lt mx.2⟩ : w.heap.size + 2 ≤ s ∧ s < w1.heap.size)
  clear ba mx hs hsb bb
  go_wp2_with fail
  go_loopw [4] (fun i wr => ∃ k : Nat, k ≤ xs.length ∧ i = .int .i64 k ∧ Hid (w1.grownBy wr (some s) ∧ MapL wr b s (prs (xs.take k)))) (fun i _ => xs.length - (intOf i).toNat)
  case atStart => exact ⟨0, Nat.zero_le _, rfl, Lib.hid ⟨gbelow (Below.refl _ _), MX.out⟩⟩
  case round =>
    obtain ⟨k, hk, rfl, hr⟩ := hrel
    obtain ⟨hs1, hs2⟩ := HS.out
    have hg := hr.out.1
    have hne3 : w.heap.size ≠ s := by omega
    have hne4 : w.heap.size + 1 ≠ s := by omega
    have b3' := (hg.block _ (heap_lt b3.out) (by simpa using hne3)).trans b3.out
    have b4' := (hg.block _ (heap_lt b4.out) (by simpa using hne4)).trans b4.out
    have c3 : wr.cell? ⟨w.heap.size, 0, none⟩ = some (.slice a0 xs.length cap0) := by rw [cells_of b3']; rfl
    have hbw : Below w.heap.size w wr := BB.out.trans (belowg hg BB.out.size (by omega))
    by_cases hlt : k < xs.length
    · obtain ⟨bo, boff, rfl, hbb, hbc⟩ := HA.out (by omega)
      have hc := (hbw.cell (p := ⟨bo, boff + k, none⟩) hbb).trans (hbc k hlt)
      have hki : (k : Int) < (xs.length : Int) := by omega
      have hst : prs (xs.take (k + 1)) = ins cmpL (mkL k xs[k]) (prs (xs.take k)) := by
        have := prs_ins (xs.take k) xs[k]
        rw [List.length_take, Nat.min_eq_left (by omega)] at this
        rw [this, List.take_succ_eq_append_getElem hlt]
      have hhas : has cmpL (mkL k xs[k]) (prs (xs.take k)) = false := by
        have := prs_has (xs.take k) xs[k]
        rwa [List.length_take, Nat.min_eq_left (by omega)] at this
      have hpl : (prs (xs.take k)).length ≤ 1000000 := by rw [prs_length, List.length_take]; omega
      have hput := put_newL wr b s (mkL k xs[k]) _ hr.out.2 hpl hhas
      rw [← hst] at hput
      have Hst := Lib.hid hst
      generalize xs[k] = x at hc hput
      have hput' : Calls Try.prog 52 #[.pointer (some ⟨b, 0, none⟩), .agg #[.int .i64 2, .string ⟨#[]⟩, .int .i64 k], .slice x.a x.zs.length x.c] wr (PutMOutL wr b s true (prs (xs.take (k + 1)))) := hput
      have Hp := Lib.hid hput'
      have HG := Lib.hid hg
      have B4 := Lib.hid b4'
      have HBW := Lib.hid hbw
      clear hhas hpl hput hput' hst hbc b3' hg hbw hs1 hs2
      by_cases h50 : 50 < x.zs.length
      · have hd5 : decide (50 < (x.zs.length : Int)) = true := by simp; omega
        have c4 : wr.cell? ⟨w.heap.size + 1, 0, none⟩ = some (.bool false) := by rw [cells_of b4']; rfl
        have f4 : wr.frozen? ⟨w.heap.size + 1, 0, none⟩ = false := frozen_of b4'
        clear b4' hr
        go_wp2_with fail
        exact ⟨_, results_boolcell rfl _ _ (w.heap.size + 1) true rfl (by rw [cells_of (set_heap B4.out)]; rfl), rfl, HBW.out.trans (belowg (gset _ _ _ _) HBW.out.size (by omega))⟩
      · have hd5 : decide (50 < (x.zs.length : Int)) = false := by simp; omega
        clear b4' hr
        go_wp2_with fail
        refine Hp.out.mono ?_
        unfold PutMOutL
        rintro e w2 ⟨rfl, g2, m2⟩
        have hnx := Lib.hid (⟨gtrans HG.out g2, m2⟩ : w1.grownBy w2 (some s) ∧ MapL w2 b s (prs (xs.take (k + 1))))
        clear g2 m2
        go_wp2_with fail
        go_roundw
        case rel => exact ⟨k + 1, by omega, by go_num, hnx⟩
        case measure => simp [intOf]; omega
    · obtain rfl : k = xs.length := by omega
      have hm := hr.out.2
      rw [List.take_length] at hm
      obtain ⟨W5, hW5⟩ : ∃ W5, W5 = wr.alloc (.cells #[.int .i64 0] 3) := ⟨_, rfl⟩
      obtain ⟨B5, hB5⟩ : ∃ B5, B5 = wr.heap.size := ⟨_, rfl⟩
      have b45 : Below wr.heap.size wr W5 := by rw [hW5]; go_grown
      have b5 : W5.heap[B5]? = some (.cells #[.int .i64 0] 3 (0, 0)) := by rw [hW5, hB5]; exact new_at rfl
      have hsl := IsSet.lt hm.2
      have hr5 : w.heap.size + 2 ≤ wr.heap.size := by have := IsSet.lt hm.2; omega
      have hall := (all_mapL W5 b s (prs xs) (hm.mono b45)).mono (R' := fun e w6 => ∃ Bl, e = .returned (.func (.func 114) #[] #[.pointer (some ⟨Bl, 0, none⟩)]) ∧ Hid (∃ Bt, W5.heap.size ≤ Bl ∧ Below W5.heap.size W5 w6 ∧
          w6.heap[Bl]? = some (.cells #[.func (.func 115) #[] #[.pointer (some ⟨Bt, 0, none⟩)]] 148 (0, 0)) ∧ w6.heap[Bt]? = some (.cells #[.pointer (some ⟨s, 0, none⟩)] 137 (0, 0)))) (by
        rintro e w6 ⟨Bl, Bt, h1, h2, h3, h4, h5⟩
        exact ⟨Bl, h1, Bt, h2, h3, h4, h5⟩)
      have Hall := Lib.hid hall
      have Hm := Lib.hid hm
      have B45 := Lib.hid b45
      have HB5 := Lib.hid b5
      have HBW := Lib.hid hbw
      have B3 := Lib.hid b3'
      have B4 := Lib.hid b4'
      have HW5 := Lib.hid hW5
      have HE5 := Lib.hid hB5
      have HN := Lib.hid (⟨hne3, hne4, by omega⟩ : w.heap.size ≠ s ∧ w.heap.size + 1 ≠ s ∧ s < B5)
      clear hall hm b45 b5 hbw b3' b4' hr hg hs1 hs2 hne3 hne4 hsl hW5 hB5
      go_wp2_with fail
      rw [← HW5.out, ← HE5.out]
      refine Hall.out.mono ?_
      rintro e w6 ⟨Bl, rfl, h6⟩
      have hef := eql_func_nilML (.func 114) #[] #[.pointer (some ⟨Bl, 0, none⟩)]
      go_wp2_with fail
      obtain ⟨Bt, hBl, b56, h1, h2⟩ := h6.out
      have b46 := B45.out.trans (b56.mono B45.out.size)
      have mx6 := Hm.out.mono b46
      have i6 := (b56.block _ (heap_lt HB5.out)).trans HB5.out
      have l6 : B5 < w6.heap.size := heap_lt i6
      have B3 := Lib.hid ((b46.block _ (heap_lt B3.out)).trans B3.out)
      have B4 := Lib.hid ((b46.block _ (heap_lt B4.out)).trans B4.out)
      have HBW := Lib.hid (HBW.out.trans (b46.mono HBW.out.size))
      have HW5l := Lib.hid (by have := B45.out.size; have := HE5.out; have := HBW.out.size; rw [HE5.out]; have := BB.out.size; have := hr5; omega : w.heap.size + 2 ≤ B5)
      refine (wpIn_wide (n := 3)).1 ?_
      refine wpIn_rangeFunc_over rfl rfl (gf := 114) (lb := #[.pointer (some ⟨Bl, 0, none⟩)]) rfl trivial (enters_of Try.func114 (by kernel_rfl) rfl)
        (seq_mapL 2 w6 s (prs xs) Bl Bt h1 h2 mx6.2 (fun pre x => ∃ post, prs xs = pre ++ x :: post) (fun a x b h => ⟨b, h⟩)) (fun h k => KPL.trans h k) (fun W l o o' _ h hc _ => KPL.put W l o o' h hc) (Below.refl _ _) (fun _ => rfl)
        (fun pre V => w6.grownBy V (some B5) ∧ V.heap[B5]? = some (.cells #[.int .i64 pre.length] 3 (0, 0))) (fun _ _ _ => False)
        (OwnFrom.and (ownFrom_grown (Nat.le_refl _)) (Own.from (cells_own B5 (fun pre : List Pl => #[Value.int .i64 pre.length]) _) _)) (fun _ _ _ _ _ hs _ _ => hs) ⟨gbelow (Below.refl _ _), i6⟩
        (fun x a' V => ∃ Bx, V.heap[Bx]? = some (.cells #[.int .i64 x.k.k, .string x.k.t, .int .i64 x.k.n] 27 (0, 0)) ∧ a' = { tmps := #[.slice a0 xs.length cap0, .pointer (some ⟨w.heap.size, 0, none⟩), .pointer (some ⟨w.heap.size + 1, 0, none⟩), .pointer (some ⟨b, 0, none⟩), .int .i64 xs.length, .pointer (some ⟨B5, 0, none⟩), .func (.func 114) #[] #[.pointer (some ⟨Bl, 0, none⟩)], .pointer (some ⟨Bx, 0, none⟩), .slice x.a x.l x.c, .slice a0 xs.length cap0, .int .i64 xs.length, .bool false, undef, .pointer (some ⟨b, 0, none⟩), .pointer (some ⟨b, 0, none⟩), .bool false, .int .i64 xs.length, .slice a0 xs.length cap0, .int .i64 xs.length, .bool false, u20, u21, u22, u23, u24, u25, u26, u27, u28, u29, u30, u31, u32, u33, u34, u35, u36, u37, u38, u39, u40, u41, u42, u43, u44, .pointer (some ⟨b, 0, none⟩), .func (.func 114) #[] #[.pointer (some ⟨Bl, 0, none⟩)], .func (.func 114) #[] #[.pointer (some ⟨Bl, 0, none⟩)], .bool false, .func (.func 114) #[] #[.pointer (some ⟨Bl, 0, none⟩)], .agg #[.int .i64 x.k.k, .string x.k.t, .int .i64 x.k.n], .slice x.a x.l x.c, undef, undef, undef, undef, undef, undef, undef, undef, undef, undef, undef, undef, undef, undef, undef, undef, undef, undef, undef, undef, undef, undef, undef, undef, undef, undef, undef, undef], defers := [] })
        (fun x a' => by
          rintro s X Y row ⟨Bx, h2, h3⟩ hg hrow
          exact ⟨Bx, kept_block h2 hg (fun r e => (hrow r e).2), h3⟩) ?assign ?body ?done ?stop
      case assign =>
        rintro l pre x V K ⟨hg, h5⟩ hK
        gi_wp2
        have hA := (Below.refl V.heap.size V).alloc (Nat.le_refl _) (.cells #[.int .i64 x.k.k, .string x.k.t, .int .i64 x.k.n] 27)
        exact hK _ _ ((KeepsOthers.alloc _ _).from _) ⟨KN.below hA, KN.below hA⟩ ⟨gtrans hg (gbelow hA), (hA.block _ (heap_lt h5)).trans h5⟩ ⟨V.heap.size, new_at rfl, rfl⟩
      case body =>
        rintro l pre x a' V hl ⟨r, hr⟩ ⟨hg, h5⟩ ⟨Bx, hx, rfl⟩ ⟨post, hp⟩
        have hlt : pre.length < xs.length := by have := congrArg List.length hp; simp [prs_length] at this; omega
        have hxe : x = mkL pre.length xs[pre.length] := by
          have h : (prs xs)[pre.length]? = some x := by rw [hp]; simp
          simp [prs, hlt] at h
          exact h.symm
        subst hxe
        obtain ⟨bo, boff, rfl, hbb, hbc⟩ := HA.out (by omega)
        have hbw : Below w.heap.size w V := HBW.out.trans (belowg hg HBW.out.size (by have := HW5l.out; omega))
        have hc := (hbw.cell (p := ⟨bo, boff + pre.length, none⟩) hbb).trans (hbc pre.length hlt)
        have hrd := Reads.mono (show Reads w _ _ from HO.out _ (List.getElem_mem hlt)) hbw
        have hne3 : w.heap.size ≠ B5 := by have := HW5l.out; omega
        have c3 : V.cell? ⟨w.heap.size, 0, none⟩ = some (.slice (some ⟨bo, boff, none⟩) xs.length cap0) := by rw [cells_of ((hg.block _ (heap_lt B3.out) (by simpa using hne3)).trans B3.out)]; rfl
        have c5 : V.cell? ⟨B5, 0, none⟩ = some (.int .i64 pre.length) := by rw [cells_of h5]; rfl
        have cx : V.cell? ⟨Bx, 2, none⟩ = some (.int .i64 pre.length) := by rw [cells_of hx]; rfl
        have hge : decide ((xs.length : Int) ≤ (pre.length : Int)) = false := by simp; omega
        have hki : (pre.length : Int) < (xs.length : Int) := by omega
        have hk50 : pre.length < 40 := by omega
        simp only [mkL]
        clear hp hx hbc hr
        generalize xs[pre.length] = y at hc hrd ⊢
        have hi := CallsIn.inRound l (callsIn_wide (n := 3 - 1 - 1 - 1).2 ((ints_any V (vLs y) (vLs y) y.zs y.zs hrd hrd true (by simp)).mono (R' := fun e w2 => e = .returned (.bool true) ∧ Hid (Below V.heap.size V w2)) (fun e w2 h => h)))
        have Hi := Lib.hid hi
        have HG := Lib.hid hg
        have H5 := Lib.hid h5
        clear hi hrd hg h5 hbw
        gi_wp2_with (first
          | (refine ⟨trivial, (fun h => by cases h), ?_⟩; gi_at_call 35; refine Hi.out.mono ?_; rintro e w2 ⟨rfl, b2⟩; have H52 := Lib.hid ((b2.out.block _ (heap_lt H5.out)).trans H5.out); have c52 : w2.cell? ⟨B5, 0, none⟩ = some (.int .i64 pre.length) := (by rw [cells_of H52.out]; rfl); have f52 : w2.frozen? ⟨B5, 0, none⟩ = false := frozen_of H52.out)
          | (refine ⟨trivial, ?_⟩; gi_at_call 35; refine Hi.out.mono ?_; rintro e w2 ⟨rfl, b2⟩; have H52 := Lib.hid ((b2.out.block _ (heap_lt H5.out)).trans H5.out); have c52 : w2.cell? ⟨B5, 0, none⟩ = some (.int .i64 pre.length) := (by rw [cells_of H52.out]; rfl); have f52 : w2.frozen? ⟨B5, 0, none⟩ = false := frozen_of H52.out))
        have hgw : V.grownBy (w2.setCell ⟨B5, 0, none⟩ (.int .i64 (pre.length + 1))) (some B5) := gtrans (gbelow b2.out) (gset _ _ _ _)
        exact ⟨KeepsFrom.of_grownBy hgw (fun j e => by cases e; exact l6), ⟨KN.but hgw H5.out (by decide), KN.but hgw H5.out (by decide)⟩, gtrans HG.out hgw, by rw [set_heap H52.out]; simp⟩
      case done =>
        rintro D zs V hD rfl ⟨hg, h5⟩ hK
        rw [prs_length] at h5
        have hne3 : w.heap.size ≠ B5 := by have := HW5l.out; omega
        have hne4 : w.heap.size + 1 ≠ B5 := by have := HW5l.out; omega
        have hneD : D ≠ w.heap.size + 1 := by have h7 := HW5l.out; omega
        have hDw : w.heap.size ≤ D := by have := HW5l.out; omega
        have c3 : V.cell? ⟨w.heap.size, 0, none⟩ = some (.slice a0 xs.length cap0) := by rw [cells_of ((hg.block _ (heap_lt B3.out) (by simpa using hne3)).trans B3.out)]; rfl
        have c5 : V.cell? ⟨B5, 0, none⟩ = some (.int .i64 xs.length) := by rw [cells_of h5]; rfl
        have b4V := Lib.hid ((hg.block _ (heap_lt B4.out) (by simpa using hne4)).trans B4.out)
        have bbV := Lib.hid (HBW.out.trans (belowg hg HBW.out.size (by have := HW5l.out; omega)))
        have HKD := Lib.hid hK
        have HnD := Lib.hid hneD
        have HDw := Lib.hid hDw
        clear hg h5 hne3 hne4 hneD hDw hK
        go_wp2_with fail
        refine (bwakes_any V).mono ?_
        rintro e wd ⟨rfl, bc⟩
        have hb4 := (bc.block _ (heap_lt b4V.out)).trans b4V.out
        have hKe := (bc.block _ (heap_lt HKD.out)).trans HKD.out
        have bf := Lib.hid (bbV.out.trans (bc.mono bbV.out.size))
        have c4 : wd.cell? ⟨w.heap.size + 1, 0, none⟩ = some (.bool false) := by rw [cells_of hb4]; rfl
        have f4 : wd.frozen? ⟨w.heap.size + 1, 0, none⟩ = false := frozen_of hb4
        have Hb4 := Lib.hid hb4
        have HKe := Lib.hid hKe
        clear hb4 hKe bc
        go_wp2_with fail
        have hKs := (Below.heap_setCell wd ⟨w.heap.size + 1, 0, none⟩ (.bool true) D HnD.out).trans HKe.out
        refine ⟨by simp, .inl ⟨_, _, rfl, run_takeDeferred hKs, ?_⟩⟩
        refine ⟨_, results_boolcell rfl _ _ (w.heap.size + 1) true rfl (by rw [cells_of ((cells_own (w.heap.size + 1) (fun _ : Unit => #[Value.bool true]) 4).putObj (s := ()) _ (set_heap Hb4.out) hKs rfl)]; rfl), rfl, ?_⟩
        exact (bf.out.trans (belowg (gset _ _ _ _) bf.out.size (by omega))).trans (belowK_b (w := w) (Nat.le_refl _) _ D _ _ HDw.out hKs rfl rfl)
      case stop =>
        rintro D c pre W _ _ h _
        exact h.elim
end Go.Proofs.Ytecokicpohgnoaa
