/-
  The walk over OrderMeanwhile.
-/
import Derived.Test.YtggijlblipmfaaaRefLawS
import Derived.Test.YtggijlblipmfaaaJoinsWalk
import Derived.Stop.RegionWithIn
namespace Go.Proofs.Ytggijlblipmfaaa
set_option linter.unusedVariables false
open Go.RowKit Go.Shelf
attribute [local go_sem] Oper.semAt_some
theorem ownFrom_grown {β : Type} {B r : Nat} {w₀ : World} (hB : w₀.heap.size ≤ B) : OwnFrom B (fun (_ : β) W => w₀.grownBy W (some r)) :=
  fun _ X Y row hs hg hr => ⟨hg.os.trans hs.os, hg.tape.trans hs.tape, hg.output.trans hs.output, Nat.le_trans hs.size hg.size, fun i hi hne =>
    (hg.block i (Nat.lt_of_lt_of_le hi hs.size) (fun e => by have := (hr i e.symm).1; omega)).trans (hs.block i hi hne)⟩
theorem row_ne {W : World} {base : Nat} {e : TypeId} {size : Nat} {v : Value} {n : Nat} {xs : List Value} {s : Nat} {cs : Array Value} {t : TypeId} {f : Nat × Nat} (hrow : W.ownsRow base e size v n xs) (hs : W.heap[s]? = some (.cells cs t f)) (ht : t ≠ e) : v.ownBlock = none ∨ v.ownBlock ≠ some s := by
  rcases hrow.2 with ⟨rfl, -⟩ | ⟨g, cap, cur, rfl, -, hg, -⟩
  · exact .inl rfl
  · refine .inr fun h => ?_
    obtain rfl : g = s := by simpa [Value.ownBlock] using h
    rw [hs] at hg
    simp at hg
    exact ht hg.2.1
theorem grown_below {W5 w3 wf : World} {s n : Nat} (h : W5.grownBy w3 (some s)) (hb : Below n w3 wf) (hn : W5.heap.size ≤ n) : W5.grownBy wf (some s) :=
  ⟨hb.os.trans h.os, hb.tape.trans h.tape, hb.output.trans h.output, Nat.le_trans h.size hb.size, fun i hi hne => (hb.block i (by omega)).trans (h.block i hi hne)⟩
theorem IsSet.kn {α : Type} {enc : α → List Value} {nt st : Nat} {c : α → α → Int} {w w' : World} {b : Nat} {xs : List α} (h : IsSet enc nt st c w b xs) (hk : KN nt w w') (hr : w'.heap[b]? = w.heap[b]?) : IsSet enc nt st c w' b xs := by
  obtain ⟨p, T, h1, h2, h3, h4⟩ := h
  exact ⟨p, T, hr.trans h1, hk.tree h2, h3, h4⟩
/-- What the set is behind some rounds: each puts one of more, while there is one, and drops what it tells. -/
def meanStep (B : List Sy) (n : Nat) (Z : List Sy) (x : Sy) : List Sy := del cmpY x (if h : n < B.length then ins cmpY B[n] Z else Z)
def meanAll (B X : List Sy) (pre : List Sy) : List Sy := (pre.foldl (fun (s : Nat × List Sy) x => (s.1 + 1, meanStep B s.1 s.2 x)) (0, X)).2
theorem meanStep_length (B : List Sy) (n : Nat) (Z : List Sy) (x : Sy) : (meanStep B n Z x).length ≤ Z.length + 1 := by
  unfold meanStep
  have h1 := del_length (c := cmpY) x (if h : n < B.length then ins cmpY B[n] Z else Z)
  split at h1
  · rename_i h; rw [dif_pos h]; have := ins_length (c := cmpY) B[n] Z; omega
  · rename_i h; rw [dif_neg h]; omega
theorem mean_fold (B : List Sy) : ∀ (pre : List Sy) (n : Nat) (Z : List Sy), (pre.foldl (fun (s : Nat × List Sy) x => (s.1 + 1, meanStep B s.1 s.2 x)) (n, Z)).1 = n + pre.length ∧ (pre.foldl (fun (s : Nat × List Sy) x => (s.1 + 1, meanStep B s.1 s.2 x)) (n, Z)).2.length ≤ Z.length + pre.length
  | [], n, Z => by simp
  | x :: pre, n, Z => by
    have ih := mean_fold B pre (n + 1) (meanStep B n Z x)
    have h1 := meanStep_length B n Z x
    simp only [List.foldl_cons, List.length_cons]
    exact ⟨by rw [ih.1]; omega, by omega⟩
theorem mean_length (B X pre : List Sy) : (meanAll B X pre).length ≤ X.length + pre.length := (mean_fold B pre 0 X).2
theorem mean_snoc (B X pre : List Sy) (x : Sy) : meanAll B X (pre ++ [x]) = meanStep B pre.length (meanAll B X pre) x := by
  unfold meanAll
  rw [List.foldl_append]
  simp only [List.foldl_cons, List.foldl_nil]
  rw [(mean_fold B pre 0 X).1, Nat.zero_add]
set_option maxRecDepth 100000 in
set_option maxHeartbeats 16000000 in
theorem mean_walk (w : World) (p1 p2 : Option Addr) (c1 c2 : Nat) (A B : List Sy) (hA : ArgAt w (.slice p1 A.length c1) A) (hB : ArgAt w (.slice p2 B.length c2) B) (l1 : A.length ≤ 40) (l2 : B.length ≤ 40) :
    Calls Try.prog 6 #[.slice p1 A.length c1, .slice p2 B.length c2] w fun e w' => e = .returned (.bool true) ∧ Below w.heap.size w w' := by
  have hd1 : decide (40 < (A.length : Int)) = false := by simp; omega
  have hd2 : decide (40 < (B.length : Int)) = false := by simp; omega
  have hX := insAll_length cmpY A []
  obtain ⟨X, hXe⟩ : ∃ X, X = insAll cmpY [] A := ⟨_, rfl⟩
  rw [← hXe] at hX
  simp only [List.length_nil, Nat.zero_add] at hX
  have HX := Lib.hid hXe
  have HA := Lib.hid hA
  have HB := Lib.hid hB
  clear hA hB hXe
  obtain ⟨W2, hW2⟩ : ∃ W2, W2 = (w.alloc (.cells #[.slice p2 B.length c2] 28)).alloc (.cells #[.bool false] 4) := ⟨_, rfl⟩
  have bb : Below w.heap.size w W2 := by rw [hW2]; go_grown
  have b3 : Hid (W2.heap[w.heap.size]? = some (.cells #[.slice p2 B.length c2] 28 (0, 0))) := Lib.hid (by rw [hW2]; exact (Below.heap_alloc _ _ _ (by simp)).trans (new_at rfl))
  have b4 : Hid (W2.heap[w.heap.size + 1]? = some (.cells #[.bool false] 4 (0, 0))) := Lib.hid (by rw [hW2]; exact new_at (by simp))
  have HW2 := Lib.hid hW2
  clear hW2
  refine callsIn_wide.1 (callsIn_of_wp_marks (n := 3) Try.func6 rfl trivial (wpIn_wide.2 ?_) rfl)
  simp only [Try.ntmps6, List.size_toArray, List.length_cons, List.length_nil, Nat.reduceAdd, Nat.reduceSub, Array.replicate_succ, Array.replicate_zero, List.push_toArray, List.append_toArray, List.nil_append, List.cons_append]
  go_wp2_with fail
  rw [← HW2.out]
  refine (new_argS W2 _ A (ArgAt.mono HA.out bb) (by omega)).mono ?_
  rintro e w1 ⟨s, rfl, hs, ba, sx⟩
  rw [← HX.out] at sx
  have sx := Lib.hid sx
  have b3 := Lib.hid ((ba.block _ (heap_lt b3.out)).trans b3.out)
  have b4 := Lib.hid ((ba.block _ (heap_lt b4.out)).trans b4.out)
  have bb := bb.trans (ba.mono bb.size)
  have hsW : w.heap.size + 2 ≤ s := by have := HW2.out; rw [this] at hs; simpa using hs
  clear ba hs
  obtain ⟨W3, hW3⟩ : ∃ W3, W3 = w1.alloc (.cells #[.pointer (some ⟨s, 0, none⟩)] 23) := ⟨_, rfl⟩
  have ba : Below w1.heap.size w1 W3 := by rw [hW3]; go_grown
  have b5 : Hid (W3.heap[w1.heap.size]? = some (.cells #[.pointer (some ⟨s, 0, none⟩)] 23 (0, 0))) := Lib.hid (by rw [hW3]; exact new_at rfl)
  have hs1 : s < w1.heap.size := IsSet.lt sx.out
  obtain ⟨B5, hB5⟩ : ∃ B5, B5 = w1.heap.size := ⟨_, rfl⟩
  have HW3 := Lib.hid hW3
  have HB5 := Lib.hid hB5
  rw [← hB5] at b5
  clear hW3 hB5
  have sx := Lib.hid (IsSet.mono sx.out ba)
  have b3 := Lib.hid ((ba.block _ (heap_lt b3.out)).trans b3.out)
  have b4 := Lib.hid ((ba.block _ (heap_lt b4.out)).trans b4.out)
  have bb := bb.trans (ba.mono bb.size)
  clear ba
  have c5 : W3.cell? ⟨B5, 0, none⟩ = some (.pointer (some ⟨s, 0, none⟩)) := by rw [cells_of b5.out]; rfl
  go_wp2_with fail
  rw [← HW3.out, ← HB5.out]
  refine (list_setS W3 s X (by omega) sx.out).mono ?_
  rintro e w4 ⟨v6, rfl, ba, s6⟩
  obtain ⟨p6, c6, rfl⟩ := slice_form s6
  have s6 := Lib.hid s6
  have sx := Lib.hid (IsSet.mono sx.out ba)
  have b3 := Lib.hid ((ba.block _ (heap_lt b3.out)).trans b3.out)
  have b4 := Lib.hid ((ba.block _ (heap_lt b4.out)).trans b4.out)
  have b5 := Lib.hid ((ba.block _ (heap_lt b5.out)).trans b5.out)
  have bb := bb.trans (ba.mono bb.size)
  clear ba c5
  have c5 : w4.cell? ⟨B5, 0, none⟩ = some (.pointer (some ⟨s, 0, none⟩)) := by rw [cells_of b5.out]; rfl
  go_wp2_with fail
  refine (all_anyS w4 s).mono ?_
  rintro e w5 ⟨rfl, rfl⟩
  clear c5
  obtain ⟨W5, hW5⟩ : ∃ W5, W5 = w4.alloc (.cells #[.pointer (some ⟨s, 0, none⟩)] 23) := ⟨_, rfl⟩
  obtain ⟨B7, hB7⟩ : ∃ B7, B7 = w4.heap.size := ⟨_, rfl⟩
  have ba : Below w4.heap.size w4 W5 := by rw [hW5]; go_grown
  have b7 : Hid (W5.heap[B7]? = some (.cells #[.pointer (some ⟨s, 0, none⟩)] 23 (0, 0))) := Lib.hid (by rw [hW5, hB7]; exact new_at rfl)
  have z5 : W5.heap.size = B7 + 1 := by rw [hW5, hB7]; simp
  have hsB : s < B7 := by rw [hB7]; exact IsSet.lt sx.out
  have hB57 : B5 < B7 := by rw [hB7]; exact heap_lt b5.out
  have sx := Lib.hid (IsSet.mono sx.out ba)
  have s6 := Lib.hid (SliceAt.mono s6.out ba)
  have b3 := Lib.hid ((ba.block _ (heap_lt b3.out)).trans b3.out)
  have b4 := Lib.hid ((ba.block _ (heap_lt b4.out)).trans b4.out)
  have b5 := Lib.hid ((ba.block _ (heap_lt b5.out)).trans b5.out)
  have bb := bb.trans (ba.mono bb.size)
  have hBw : w.heap.size + 2 ≤ B7 := by omega
  obtain ⟨W0, hW0⟩ : ∃ W0, W0 = W5.alloc (.cells #[.slice none 0 0] 28) := ⟨_, rfl⟩
  have b50 : Below W5.heap.size W5 W0 := by rw [hW0]; go_grown
  have b8 : Hid (Boxed W0 (B7 + 1) 28 (.slice none 0 0)) := Lib.hid (by rw [hW0]; exact new_at z5.symm)
  have z0 : W0.heap.size = B7 + 2 := by rw [hW0]; simp [z5]
  have HsX := Lib.hid (IsSet.srt sx.out)
  obtain ⟨rp, rT, hroot, -, -, -⟩ := sx.out
  have Hroot := Lib.hid hroot
  have HW0 := Lib.hid hW0
  have HW5 := Lib.hid hW5
  have HB7 := Lib.hid hB7
  have Z0 := Lib.hid z0
  have Z5 := Lib.hid z5
  have B50 := Lib.hid b50
  have HH := Lib.hid (⟨hsW, hs1, hsB, hB57, hBw⟩ : w.heap.size + 2 ≤ s ∧ s < w1.heap.size ∧ s < B7 ∧ B5 < B7 ∧ w.heap.size + 2 ≤ B7)
  clear ba hW0 hB7 z0 hW5 z5 b50 hroot hsW hs1 hsB hB57 hBw
  obtain ⟨i0, hi, hz0, hz1, hz2⟩ := info_parts infoS
  go_wp2_with fail
  rw [← HW5.out, ← HW0.out, ← HB7.out]
  refine (wpIn_wide (n := 3)).1 ?_
  refine wpIn_rangeFunc_ownH rfl (by omega) (gf := 93) (lb := #[.pointer (some ⟨B7, 0, none⟩)]) rfl trivial (enters_of Try.func93 (by kernel_rfl) rfl)
    (all_stopsS Fence.wide rfl 2 trivial trivial rfl B7 s X W0 ((B50.out.block _ (heap_lt b7.out)).trans b7.out) (IsSet.mono sx.out B50.out)) (fun h k => KN.trans h k) (fun W l o o' _ h hc _ => KN.put _ W l o o' h hc) (Below.refl _ _) (fun _ => rfl)
    (fun pre W => W5.grownBy W (some s) ∧ (SetS W s (meanAll B X pre) ∧ (∃ v, Boxed W (B7 + 1) 28 v ∧ W.ownsRow (B7 + 1) 26 3 v pre.length (pre.flatMap encS) ∧ True)))
    (fun _ _ _ => False)
    (OwnFrom.and (ownFrom_grown (by rw [Z5.out, Z0.out]; omega)) (Own.from (own_and (set_own encS 167 118 cmpY s (fun pre => meanAll B X pre)) (holdsRow_own (B7 + 1) (B7 + 1) 28 26 3 (fun pre => pre.length) (fun pre => pre.flatMap encS) (fun _ _ => True))) _))
    (fun _ _ _ _ _ hs _ _ => hs)
    ⟨gbelow B50.out, IsSet.mono sx.out B50.out, _, b8.out, World.ownsRow_nil _ _ _ _, trivial⟩
    (fun x a' W => ∃ Bx, W.heap[Bx]? = some (.cells #[.int .i64 x.k, .string x.t, .int .i64 x.n] 26 (0, 0)) ∧ a' = { tmps := #[.slice p1 A.length c1, .slice p2 B.length c2, undef, .pointer (some ⟨w.heap.size, 0, none⟩), .pointer (some ⟨w.heap.size + 1, 0, none⟩), .pointer (some ⟨B5, 0, none⟩), .slice p6 X.length c6, .func (.func 93) #[] #[.pointer (some ⟨B7, 0, none⟩)], .pointer (some ⟨B7 + 1, 0, none⟩), .pointer (some ⟨Bx, 0, none⟩), undef, undef, undef, .slice p1 A.length c1, .int .i64 A.length, .bool false, .bool false, .slice p2 B.length c2, .int .i64 B.length, .bool false, .bool false, undef, .slice p1 A.length c1, .pointer (some ⟨s, 0, none⟩), .pointer (some ⟨s, 0, none⟩), .bool false, .pointer (some ⟨s, 0, none⟩), .slice p6 X.length c6, .pointer (some ⟨s, 0, none⟩), .func (.func 93) #[] #[.pointer (some ⟨B7, 0, none⟩)], .func (.func 93) #[] #[.pointer (some ⟨B7, 0, none⟩)], .agg #[.int .i64 x.k, .string x.t, .int .i64 x.n], undef, undef, undef, undef, undef, undef, undef, undef, undef, undef, undef, undef, undef, undef, undef, undef, undef, undef, undef, undef, undef, undef, undef, undef, undef, undef, undef, undef, undef, undef, undef, undef, undef, undef, undef, undef, undef, undef, undef, undef, undef, undef, undef, undef, undef, undef, undef, undef, undef, undef, undef, undef, undef, undef, undef, undef, undef, undef, undef, undef, undef, undef, undef, undef, undef, undef, undef], defers := [] })
    (fun x a' => by
      rintro s X Y row ⟨Bx, h2, h3⟩ hg hrow
      exact ⟨Bx, kept_block h2 hg (fun r e => (hrow r e).2), h3⟩) ?assign ?body ?done ?stop
  case assign =>
    rintro l pre x W K ⟨hg, hS, v, hv, hrow, -⟩ hK
    have hsz := hg.size
    gi_wp2
    have hA := (Below.refl W.heap.size W).alloc (Nat.le_refl _) (.cells #[.int .i64 x.k, .string x.t, .int .i64 x.n] 26)
    exact hK _ _ ((KeepsOthers.alloc _ _).from _) (KN.below hA) ⟨gtrans hg (gbelow hA), IsSet.mono hS hA, v, hv.alloc _, hrow.alloc _, trivial⟩ ⟨W.heap.size, new_at rfl, rfl⟩
  case body =>
    rintro l pre x a' W hl ⟨r, hr⟩ ⟨hg, hS, v, hv, hrow, -⟩ ⟨Bx, hx, rfl⟩ hlt
    obtain ⟨g1, g2, g3, g4, g5⟩ := HH.out
    have hlt3 : w.heap.size ≠ s := by omega
    have hlt5 : B5 ≠ s := by
      rintro rfl
      have h1 := b5.out
      rw [Hroot.out] at h1
      simp at h1
    have hlt8 : B7 + 1 ≠ s := by omega
    have b3' := (hg.block _ (heap_lt b3.out) (by simpa using hlt3)).trans b3.out
    have b5' := (hg.block _ (heap_lt b5.out) (by simpa using hlt5)).trans b5.out
    have hrt := (fun h => by obtain ⟨rp, rT, hroot, -⟩ := h; exact ⟨rp, hroot⟩ : SetS W s (meanAll B X pre) → ∃ rp, W.heap[s]? = some (.cells #[.pointer rp] 118 (0, 0))) hS
    obtain ⟨rp, hroot⟩ := hrt
    have hxs : Bx ≠ s := by
      rintro rfl
      rw [hroot] at hx
      simp at hx
    have hvf : ∃ q c, v = .slice q pre.length c := by
      rcases hrow.2 with ⟨h1, h2⟩ | ⟨g, cap, cur, h1, -⟩
      · exact ⟨none, 0, by rw [h1, h2]⟩
      · exact ⟨_, _, h1⟩
    obtain ⟨q, cq, rfl⟩ := hvf
    have c3 : W.cell? ⟨w.heap.size, 0, none⟩ = some (.slice p2 B.length c2) := by rw [cells_of b3']; rfl
    have c5 : W.cell? ⟨B5, 0, none⟩ = some (.pointer (some ⟨s, 0, none⟩)) := by rw [cells_of b5']; rfl
    have c8 := hv.cell
    obtain ⟨x0, x1, x2, -, -, -, -⟩ := box_cells hx (Below.refl _ _)
    have hml := mean_length B X pre
    have hsz : W5.heap.size ≤ W.heap.size := hg.size
    have hz5 := Z5.out
    have hz0 := Z0.out
    have hstep : meanAll B X (pre ++ [x]) = meanStep B pre.length (meanAll B X pre) x := mean_snoc B X pre x
    generalize meanAll B X pre = Z at hS hml hstep
    by_cases hm : pre.length < B.length
    · obtain ⟨bo, boff, rfl, hbb, hbc⟩ := HB.out.at (by omega)
      have HO : Hid (meanAll B X (pre ++ [x]) = del cmpY x (ins cmpY B[pre.length] Z)) := Lib.hid (by rw [hstep]; unfold meanStep; rw [dif_pos hm])
      have hww : Below w.heap.size w W := bb.trans (belowg hg bb.size (by omega))
      obtain ⟨e0, e1, e2⟩ := (CellsAt.mono hbc hbb hww).three hm
      have hly := ins_length (c := cmpY) B[pre.length] Z
      generalize B[pre.length] = y at e0 e1 e2 HO hly
      have hkm : (pre.length : Int) < (B.length : Int) := by omega
      have hput := CallsIn.inRound l (callsIn_wide (n := 3 - 1 - 1 - 1).2 (put_anyS W.drew s y Z (IsSet.mono hS (Below.refl _ _).drew) (by omega)))
      have Hp := Lib.hid hput
      have Hx := Lib.hid hx
      have Hg := Lib.hid hg
      have Hv := Lib.hid hv
      have Hrow := Lib.hid hrow
      have Hrt := Lib.hid hroot
      have Hb3 := Lib.hid b3'
      have Hb5 := Lib.hid b5'
      have Hr := Lib.hid hr
      clear hstep hput hx hg hv hrow hroot b3' b5' hr hz5 hz0 hbc
      gi_wp2_with fail
      gi_region_with (refine ⟨trivial, ?_⟩; gi_at_call 19; refine Hp.out.mono ?_; unfold PutOutS; rintro e w2 ⟨rfl, hg2, hs2⟩)
      all_goals
        have hgW : W.grownBy w2 (some s) := gtrans (gbelow (Below.refl _ _).drew) hg2
        have hx2 := (hgW.block _ (heap_lt Hx.out) (by simpa using hxs)).trans Hx.out
        have b52 := (hgW.block _ (heap_lt Hb5.out) (by simpa using hlt5)).trans Hb5.out
        have hv2 := Hv.out.kept hgW (by simpa using hlt8)
        have hrow2 := Hrow.out.kept hgW (row_ne Hrow.out Hrt.out (by decide))
        have HWv := Lib.hid hgW
        have HKf : Hid (KeepsFrom W0.heap.size W w2) := Lib.hid (KeepsFrom.of_grownBy hgW (fun j e => by cases e; have := Z0.out; omega))
        have HKn : Hid (KN 167 W w2) := Lib.hid (KN.but hgW Hrt.out (by decide))
        clear c3 c5 c8 x0 x1 x2 e0 e1 e2 Hp hgW hg2 Hx Hv Hrow Hrt Hb5
        have hdrop := CallsIn.inRound l (callsIn_wide (n := 3 - 1 - 1 - 1).2 (drop_anyS w2 s x _ hs2 (by omega)))
        obtain ⟨rp2, rT2, hroot2, -, -, -⟩ := hs2
        have c5 : w2.cell? ⟨B5, 0, none⟩ = some (.pointer (some ⟨s, 0, none⟩)) := by rw [cells_of b52]; rfl
        have c8 := hv2.cell
        obtain ⟨x0, x1, x2, -, -, -, -⟩ := box_cells hx2 (Below.refl _ _)
        have Hd := Lib.hid hdrop
        have Hx := Lib.hid hx2
        have Hv := Lib.hid hv2
        have Hrow := Lib.hid hrow2
        have Hrt := Lib.hid hroot2
        clear hdrop hx2 hv2 hrow2 hroot2 b52
        gi_wp2_with (first
          | (refine ⟨trivial, ?_⟩; gi_at_call 21; refine Hd.out.mono ?_; unfold DropOutS; rintro e w3 ⟨rfl, hg3, hs3⟩; have hv3 := Hv.out.kept hg3 (by simpa using hlt8); have hrow3 := Hrow.out.kept hg3 (row_ne Hrow.out Hrt.out (by decide)); have hx3 := (hg3.block _ (heap_lt Hx.out) (by simpa using hxs)).trans Hx.out; obtain ⟨y0, y1, y2, -, -, -, -⟩ := box_cells hx3 (Below.refl _ _); have c83 := hv3.cell; have hz3 : B7 + 1 ≤ w3.heap.size := Nat.le_trans (by have := Z5.out; omega) (Nat.le_trans HWv.out.size hg3.size); have Hg3 := Lib.hid hg3; have Hv3 := Lib.hid hv3; have Hrow3 := Lib.hid hrow3; have Hs3 := Lib.hid hs3; clear hg3 hv3 hrow3 hx3 hs3)
          | (gi_at_builtin; refine wpListIn_append_own _ rfl _ _ 28 rfl (B7 + 1) 26 i0 (.agg #[.int .i64 0, .string ⟨#[]⟩, .int .i64 0]) 3 32 Try.underlying28 hi hz0 hz1 hz2 rfl (by decide) _ _ _ rfl (Hrow3.out.alloc _) ⟨w3.heap.size, 0, none⟩ 1 1 (encS x) rfl rfl (cell_three_new _ _ _) (by simp [encS, Value.oneCell']) (by unfold maxLen; omega) (by omega) (by simp; omega) ?_; intro v' w4 hown' hgrow _; obtain ⟨g', cap', rfl⟩ := ownsRow_succ hown'; have hkn := appended_KN (nt := 167) (v' := .slice (some ⟨g', 0, none⟩) (pre.length + 1) cap') Hv3.out (by decide) (by decide) (by decide) Hrow3.out hgrow; obtain ⟨hv1, hv2, hr2, hk2, hb2⟩ := Hv3.out.appended (by decide) Hrow3.out hz3 (Nat.le_refl _) hown' hgrow; have hc1 := hv1.cell; have hf1 := hv1.frozen; have hc2 := hv2.cell; have Hkn := Lib.hid hkn; have Hv2 := Lib.hid hv2; have Hr2 := Lib.hid hr2; have Hk2 := Lib.hid hk2; have Hb2 := Lib.hid hb2; clear hkn hv1 hv2 hr2 hk2 hb2 hown' hgrow))
        have hgt := grown_below (gtrans (gtrans Hg.out HWv.out) Hg3.out) Hb2.out (by have := Z5.out; omega)
        exact ⟨(HKf.out.trans (KeepsFrom.of_grownBy Hg3.out (fun j e => by cases e; have := Z0.out; omega))).trans (Hk2.out.from _), HKn.out.trans ((KN.but Hg3.out Hrt.out (by decide)).trans Hkn.out), hgt, by rw [HO.out]; exact IsSet.kn Hs3.out Hkn.out (Hb2.out.block s (by omega)), _, Hv2.out, by simpa [List.flatMap_append] using Hr2.out, trivial⟩
    · have hkm : decide (pre.length < B.length) = false := by simpa using hm
      have HO : Hid (meanAll B X (pre ++ [x]) = del cmpY x Z) := Lib.hid (by rw [hstep]; unfold meanStep; rw [dif_neg hm])
      clear hstep
      have hdrop := CallsIn.inRound l (callsIn_wide (n := 3 - 1 - 1 - 1).2 (drop_anyS W s x Z hS (by omega)))
      have Hd := Lib.hid hdrop
      have Hx := Lib.hid hx
      have Hg := Lib.hid hg
      have Hv := Lib.hid hv
      have Hrow := Lib.hid hrow
      have Hrt := Lib.hid hroot
      have Hb3 := Lib.hid b3'
      have Hb5 := Lib.hid b5'
      have Hr := Lib.hid hr
      clear hdrop hx hg hv hrow hroot b3' b5' hr hz5 hz0
      have HWv : Hid (W.grownBy W (some s)) := Lib.hid (gbelow (Below.refl _ _))
      have HKf : Hid (KeepsFrom W0.heap.size W W) := Lib.hid (KeepsFrom.refl _ _)
      have HKn : Hid (KN 167 W W) := Lib.hid (KN.refl _ _)
      gi_wp2_with (first
        | (refine ⟨trivial, ?_⟩; gi_at_call 21; refine Hd.out.mono ?_; unfold DropOutS; rintro e w3 ⟨rfl, hg3, hs3⟩; have hv3 := Hv.out.kept hg3 (by simpa using hlt8); have hrow3 := Hrow.out.kept hg3 (row_ne Hrow.out Hrt.out (by decide)); have hx3 := (hg3.block _ (heap_lt Hx.out) (by simpa using hxs)).trans Hx.out; obtain ⟨y0, y1, y2, -, -, -, -⟩ := box_cells hx3 (Below.refl _ _); have c83 := hv3.cell; have hz3 : B7 + 1 ≤ w3.heap.size := Nat.le_trans (by have := Z5.out; omega) (Nat.le_trans HWv.out.size hg3.size); have Hg3 := Lib.hid hg3; have Hv3 := Lib.hid hv3; have Hrow3 := Lib.hid hrow3; have Hs3 := Lib.hid hs3; clear hg3 hv3 hrow3 hx3 hs3)
        | (gi_at_builtin; refine wpListIn_append_own _ rfl _ _ 28 rfl (B7 + 1) 26 i0 (.agg #[.int .i64 0, .string ⟨#[]⟩, .int .i64 0]) 3 32 Try.underlying28 hi hz0 hz1 hz2 rfl (by decide) _ _ _ rfl (Hrow3.out.alloc _) ⟨w3.heap.size, 0, none⟩ 1 1 (encS x) rfl rfl (cell_three_new _ _ _) (by simp [encS, Value.oneCell']) (by unfold maxLen; omega) (by omega) (by simp; omega) ?_; intro v' w4 hown' hgrow _; obtain ⟨g', cap', rfl⟩ := ownsRow_succ hown'; have hkn := appended_KN (nt := 167) (v' := .slice (some ⟨g', 0, none⟩) (pre.length + 1) cap') Hv3.out (by decide) (by decide) (by decide) Hrow3.out hgrow; obtain ⟨hv1, hv2, hr2, hk2, hb2⟩ := Hv3.out.appended (by decide) Hrow3.out hz3 (Nat.le_refl _) hown' hgrow; have hc1 := hv1.cell; have hf1 := hv1.frozen; have hc2 := hv2.cell; have Hkn := Lib.hid hkn; have Hv2 := Lib.hid hv2; have Hr2 := Lib.hid hr2; have Hk2 := Lib.hid hk2; have Hb2 := Lib.hid hb2; clear hkn hv1 hv2 hr2 hk2 hb2 hown' hgrow))
      have hgt := grown_below (gtrans (gtrans Hg.out HWv.out) Hg3.out) Hb2.out (by have := Z5.out; omega)
      exact ⟨(HKf.out.trans (KeepsFrom.of_grownBy Hg3.out (fun j e => by cases e; have := Z0.out; omega))).trans (Hk2.out.from _), HKn.out.trans ((KN.but Hg3.out Hrt.out (by decide)).trans Hkn.out), hgt, by rw [HO.out]; exact IsSet.kn Hs3.out Hkn.out (Hb2.out.block s (by omega)), _, Hv2.out, by simpa [List.flatMap_append] using Hr2.out, trivial⟩
  case done =>
    rintro D zs W hD rfl ⟨hg, hS, v, hv, hrow, -⟩ hK
    obtain ⟨g1, g2, g3, g4, g5⟩ := HH.out
    have hne4 : D ≠ w.heap.size + 1 := by have := Z0.out; omega
    have hDw : w.heap.size ≤ D := by have := Z0.out; omega
    have hlt4 : w.heap.size + 1 ≠ s := by omega
    have hlt3 : w.heap.size ≠ s := by omega
    have hlt7 : B7 ≠ s := by omega
    have s6 := Lib.hid (SliceAt.but s6.out hg Hroot.out)
    have b3 := Lib.hid ((hg.block _ (heap_lt b3.out) (by simpa using hlt3)).trans b3.out)
    have b4 := Lib.hid ((hg.block _ (heap_lt b4.out) (by simpa using hlt4)).trans b4.out)
    have b7 := Lib.hid ((hg.block _ (heap_lt b7.out) (by simpa using hlt7)).trans b7.out)
    have bb := bb.trans (belowg hg bb.size (by omega))
    have sv := slice_own hrow rfl rfl
    obtain ⟨q, cq, rfl⟩ := slice_form sv
    have sv := Lib.hid sv
    have hS := Lib.hid hS
    have hK := Lib.hid hK
    have c8 := hv.cell
    have hE := Lib.hid hne4
    have hml := mean_length B zs zs
    clear hg hrow hv sx b5 Hroot hlt3 hlt4 hlt7 hne4
    go_wp2_with fail
    refine (syms_eq W _ _ zs zs true (by simp) (by omega) (by omega) sv.out s6.out).mono ?_
    rintro e wa ⟨rfl, ba⟩
    clear c8 sv
    go_wp2_with fail
    go_loopw [10, 11] (fun o i wr => ∃ k : Nat, k ≤ zs.length ∧ i = .int .i64 k ∧ Below W.heap.size W wr ∧ Hid (SliceAt encS 3 wr o (insAll cmpY [] (zs.take k)))) (fun _ i _ => zs.length - (intOf i).toNat)
    case atStart => exact ⟨0, Nat.zero_le _, rfl, ba, Lib.hid (.inl ⟨rfl, rfl⟩)⟩
    case round =>
      clear ba
      obtain ⟨k, hk, rfl, ba, so⟩ := hrel
      by_cases hlt : k < zs.length
      · obtain ⟨b, off, rfl, hb, hcell⟩ := slice_cells s6.out (by omega)
        have hc3 := (CellsAt.mono hcell hb ba).three hlt
        have hlo := insAll_length cmpY (zs.take k) []
        have hlk : (zs.take k).length ≤ k := List.length_take_le _ _
        have HO := Lib.hid (insAll_take_succ (Z := []) hlt)
        have hki : (k : Int) < (zs.length : Int) := by omega
        simp only [List.length_nil, Nat.zero_add] at hlo
        generalize zs[k] = z at hc3 HO
        clear hcell
        generalize insAll cmpY [] (zs.take k) = LO at so HO hlo
        obtain ⟨d0, d1, d2⟩ := hc3
        go_wp2_with fail
        refine (put_ref _ _ LO z so.out (by omega)).mono ?_
        rintro e wb ⟨v1, rfl, bc, so1⟩
        have ba := ba.trans (bc.mono ba.size)
        clear bc so d0 d1 d2
        have so := Lib.hid so1
        clear so1
        go_wp2_with fail
        go_roundw
        case rel => exact ⟨k + 1, by omega, by go_num, ba, by rw [HO.out]; exact so⟩
        case measure => simp [intOf]; omega
      · obtain rfl : k = zs.length := by omega
        have so : Hid (SliceAt encS 3 wr u10 (meanAll B zs (zs.take 0))) := Lib.hid (by
          have h1 := so.out
          rw [List.take_length, insAll_nil_self HsX.out] at h1
          exact h1)
        obtain ⟨wo, rfl⟩ : ∃ wo : World, wo = wr := ⟨_, rfl⟩
        have hm0 := mean_length B zs (zs.take 0)
        go_wp2_with fail
        go_loopw [10, 12] (fun o i wr => ∃ k : Nat, k ≤ zs.length ∧ i = .int .i64 k ∧ Below W.heap.size W wr ∧ Hid (SliceAt encS 3 wr o (meanAll B zs (zs.take k)))) (fun _ i _ => zs.length - (intOf i).toNat)
        case atStart => exact ⟨0, Nat.zero_le _, rfl, ba, so⟩
        case round =>
          clear ba so
          obtain ⟨k, hk, rfl, ba, so⟩ := hrel
          by_cases hlt : k < zs.length
          · obtain ⟨b, off, rfl, hb, hcell⟩ := slice_cells s6.out (by omega)
            have hc3 := fun w' (h : Below W.heap.size W w') => (CellsAt.mono hcell hb h).three hlt
            have hlo := mean_length B zs (zs.take k)
            have hlk : (zs.take k).length = k := by rw [List.length_take]; omega
            have hst : meanAll B zs (zs.take (k + 1)) = meanStep B k (meanAll B zs (zs.take k)) zs[k] := by rw [List.take_succ_eq_append_getElem hlt, mean_snoc, hlk]
            rw [hlk] at hlo
            have HO := Lib.hid hst
            have hki : (k : Int) < (zs.length : Int) := by omega
            generalize zs[k] = z at hc3 HO
            clear hcell hst hlk
            generalize meanAll B zs (zs.take k) = LO at so HO hlo
            have Hc := Lib.hid hc3
            clear hc3
            have c3 : wr.cell? ⟨w.heap.size, 0, none⟩ = some (.slice p2 B.length c2) := by rw [cells_of ((ba.block _ (heap_lt b3.out)).trans b3.out)]; rfl
            by_cases hm : k < B.length
            · obtain ⟨bo, boff, rfl, hbb, hbc⟩ := HB.out.at (by omega)
              have hd3 := fun w' (h : Below W.heap.size W w') => (CellsAt.mono hbc hbb (bb.trans (h.mono bb.size))).three hm
              have HO2 : Hid (meanAll B zs (zs.take (k + 1)) = del cmpY z (ins cmpY B[k] LO)) := Lib.hid (by rw [HO.out]; unfold meanStep; rw [dif_pos hm])
              generalize B[k] = y at hd3 HO2
              have hkm : (k : Int) < (B.length : Int) := by omega
              have hly := ins_length (c := cmpY) y LO
              obtain ⟨d0, d1, d2⟩ := hd3 wr ba
              clear hd3 hbc
              go_wp2_with fail
              refine (put_ref _ _ LO y so.out (by omega)).mono ?_
              rintro e wb ⟨v1, rfl, bc, so1⟩
              have ba := ba.trans (bc.mono ba.size)
              clear bc so d0 d1 d2 c3
              have so := Lib.hid so1
              clear so1
              obtain ⟨d0, d1, d2⟩ := Hc.out _ ba
              go_wp2_with fail
              refine (without_ref _ _ _ z so.out (by omega)).mono ?_
              rintro e wc ⟨v2, rfl, bc, so1⟩
              have ba := ba.trans (bc.mono ba.size)
              clear bc so d0 d1 d2
              have so := Lib.hid so1
              clear so1
              go_wp2_with fail
              go_roundw
              case rel => exact ⟨k + 1, by omega, by go_num, ba, by rw [HO2.out]; exact so⟩
              case measure => simp [intOf]; omega
            · have HO2 : Hid (meanAll B zs (zs.take (k + 1)) = del cmpY z LO) := Lib.hid (by rw [HO.out]; unfold meanStep; rw [dif_neg hm])
              have hkm : decide (k < B.length) = false := by simpa using hm
              obtain ⟨d0, d1, d2⟩ := Hc.out _ ba
              go_wp2_with fail
              refine (without_ref _ _ _ z so.out (by omega)).mono ?_
              rintro e wc ⟨v2, rfl, bc, so1⟩
              have ba := ba.trans (bc.mono ba.size)
              clear bc so d0 d1 d2
              have so := Lib.hid so1
              clear so1
              go_wp2_with fail
              go_roundw
              case rel => exact ⟨k + 1, by omega, by go_num, ba, by rw [HO2.out]; exact so⟩
              case measure => simp [intOf]; omega
          · obtain rfl : k = zs.length := by omega
            rw [List.take_length] at so
            have hl := callsIn_wide.1 (list_inS Fence.wide 3 trivial rfl (by omega) 93 _ trivial (enters_of Try.func93 (by kernel_rfl) rfl) (meanAll B zs zs) (by omega) _ _ (Below.refl _ _)
              (all_stopsS Fence.wide rfl (3 - 1) trivial trivial rfl B7 s (meanAll B zs zs) wr ((ba.block _ (heap_lt b7.out)).trans b7.out) (IsSet.mono hS.out ba)))
            have Hl := Lib.hid hl
            clear hl
            go_wp2_with fail
            refine Hl.out.mono ?_
            unfold ListOutS
            rintro e wb ⟨v1, rfl, hown, -, bc⟩
            have sl := Lib.hid (slice_of_owns hown)
            have so := Lib.hid (SliceAt.mono so.out bc)
            have ba := ba.trans (bc.mono ba.size)
            clear bc hown Hl
            go_wp2_with fail
            refine (syms_eq wb _ _ _ _ true (by simp) (by omega) (by omega) sl.out so.out).mono ?_
            rintro e wc ⟨rfl, bc⟩
            have ba := ba.trans (bc.mono ba.size)
            clear bc sl so
            go_wp2_with fail
            refine (wakes_any wc).mono ?_
            rintro e wd ⟨rfl, bc⟩
            have ba := ba.trans (bc.mono ba.size)
            clear bc
            have hb4 := (ba.block _ (heap_lt b4.out)).trans b4.out
            have hKe := (ba.block _ (heap_lt hK.out)).trans hK.out
            have c4 : wd.cell? ⟨w.heap.size + 1, 0, none⟩ = some (.bool false) := by rw [cells_of hb4]; rfl
            have f4 : wd.frozen? ⟨w.heap.size + 1, 0, none⟩ = false := frozen_of hb4
            have Hb4 := Lib.hid hb4
            have HKe := Lib.hid hKe
            clear hb4 hKe
            go_wp2_with fail
            refine ⟨by simp, .inl ⟨_, _, rfl, run_takeDeferred ((Below.heap_setCell wd _ _ _ hE.out).trans HKe.out), ?_⟩⟩
            refine ⟨_, results_boolcell rfl _ _ (w.heap.size + 1) true rfl (by rw [cells_of ((cells_own (w.heap.size + 1) (fun _ : Unit => #[Value.bool true]) 4).putObj (s := ()) _ (set_heap Hb4.out) ((Below.heap_setCell wd _ _ _ hE.out).trans HKe.out) rfl)]; rfl), rfl, ?_⟩
            have bf := bb.trans (ba.mono bb.size)
            exact (bf.trans (belowg (gset _ _ _ _) bf.size (by omega))).trans (belowK_b (w := w) (Nat.le_refl _) _ D _ _ (by omega) ((Below.heap_setCell wd _ _ _ hE.out).trans HKe.out) rfl rfl)
  case stop =>
    rintro D c pre W _ _ h _
    exact h.elim
end Go.Proofs.Ytggijlblipmfaaa
