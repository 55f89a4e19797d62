/-
  The walk over OrderJoins.
-/
import Derived.Test.YtggijlblipmfaaaRefMoreS
import Derived.Test.YtggijlblipmfaaaAlgS
namespace Go.Proofs.Ytggijlblipmfaaa
set_option linter.unusedVariables false
open Go.RowKit
theorem sub_sorted : ∀ {ys xs : List Sy}, Sorted cmpY xs → Sorted cmpY ys → (∀ z ∈ xs, has cmpY z ys = true) → List.Sublist xs ys
  | _, [], _, _, _ => List.nil_sublist _
  | [], x :: xs, _, _, h => by have := h x (by simp); simp [has] at this
  | y :: ys, x :: xs, h1, h2, h => by
    have h1' := List.pairwise_cons.1 h1
    have h2' := List.pairwise_cons.1 h2
    by_cases e : cmpY x y = 0
    · obtain rfl := cmpY_eq e
      refine List.Sublist.cons_cons _ (sub_sorted h1'.2 h2'.2 fun z hz => ?_)
      have hz2 := h z (by simp [hz])
      rw [has_cons] at hz2
      have := h1'.1 z hz
      have := cmpY_cmp.flip x z
      have h3 : (cmpY z x == 0) = false := by simp; omega
      rw [h3] at hz2; simpa using hz2
    · have hx := h x (by simp)
      rw [has_cons] at hx
      have h3 : (cmpY x y == 0) = false := by simp [e]
      rw [h3] at hx
      simp only [Bool.false_or, has, List.any_eq_true, beq_iff_eq] at hx
      obtain ⟨z, hz, ez⟩ := hx
      obtain rfl := cmpY_eq ez
      have hyx := h2'.1 x hz
      refine List.Sublist.cons _ (sub_sorted h1 h2'.2 fun z hz => ?_)
      have hz2 := h z hz
      rw [has_cons] at hz2
      have hyz : cmpY y z < 0 := by
        rcases List.mem_cons.1 hz with rfl | hz
        · exact hyx
        · exact cmpY_cmp.lt_trans hyx (h1'.1 z hz)
      have := cmpY_cmp.flip y z
      have h4 : (cmpY z y == 0) = false := by simp; omega
      rw [h4] at hz2; simpa using hz2
theorem sameL_ext {xs ys : List Sy} (h1 : Sorted cmpY xs) (h2 : Sorted cmpY ys) (hl : xs.length = ys.length) (h : ∀ x ∈ xs, has cmpY x ys = true) : xs = ys := (sub_sorted h1 h2 h).eq_of_length hl
theorem delAll_sorted : ∀ (ys : List Sy) {xs : List Sy}, Sorted cmpY xs → Sorted cmpY (delAll cmpY xs ys)
  | [], _, h => h
  | y :: ys, xs, h => by
    have := delAll_sorted ys (del_sorted (x := y) h)
    simpa [delAll] using this
theorem same_eq (W : World) (a b : Nat) (xs ys : List Sy) (r : Bool) (hr : decide (xs = ys) = r) (ha : SetS W a xs) (hb : SetS W b ys) (hz : xs.length ≤ 1000000) (hz2 : ys.length ≤ 1000000) :
    Calls Try.prog 45 #[.pointer (some ⟨a, 0, none⟩), .pointer (some ⟨b, 0, none⟩)] W (fun e w' => e = .returned (.bool r) ∧ Below W.heap.size W w') := by
  have e : sameL xs ys = r := by
    rw [← hr]
    by_cases h : xs = ys
    · subst h; simp [sameL_self]
    · simp only [h, decide_false]
      cases hs : sameL xs ys with
      | false => rfl
      | true =>
        exfalso; apply h
        simp only [sameL, Bool.and_eq_true, beq_iff_eq, List.all_eq_true] at hs
        exact sameL_ext ha.srt hb.srt hs.1 hs.2
  refine (callsIn_wide.1 (same_in 3 (by omega) W a b xs ys ha hb hz hz2)).mono fun e' w' ⟨h1, h2⟩ => ⟨?_, h2⟩
  rw [h1, e]
theorem syms_eq (w : World) (va vb : Value) (xs ys : List Sy) (r : Bool) (hr : decide (xs = ys) = r) (hz : xs.length ≤ 1000000) (hz2 : ys.length ≤ 1000000) (ha : SliceAt encS 3 w va xs) (hb : SliceAt encS 3 w vb ys) :
    Calls Try.prog 28 #[va, vb] w fun e w' => e = .returned (.bool r) ∧ Below w.heap.size w w' := by
  have := syms_any w va vb xs ys hz hz2 ha hb
  rwa [hr] at this
theorem insAll_nil_self {X : List Sy} (h : Sorted cmpY X) : insAll cmpY [] X = X := sorted_ext (insAll_sorted cmpY_cmp _ _ List.Pairwise.nil) h fun z => by rw [has_uni]; rfl
theorem filter_take_yes {p : Sy → Bool} {X : List Sy} {k : Nat} (h : k < X.length) (hp : p X[k] = true) : insAll cmpY [] ((X.take (k + 1)).filter p) = ins cmpY X[k] (insAll cmpY [] ((X.take k).filter p)) := by
  rw [List.take_succ_eq_append_getElem h, List.filter_append, List.filter_cons_of_pos hp, List.filter_nil, insAll_snoc]
theorem filter_take_no {p : Sy → Bool} {X : List Sy} {k : Nat} (h : k < X.length) (hp : p X[k] = false) : insAll cmpY [] ((X.take (k + 1)).filter p) = insAll cmpY [] ((X.take k).filter p) := by
  rw [List.take_succ_eq_append_getElem h, List.filter_append, List.filter_cons_of_neg (by simp [hp]), List.filter_nil, List.append_nil]
theorem insAll_take_succ {Z X : List Sy} {k : Nat} (h : k < X.length) : insAll cmpY Z (X.take (k + 1)) = ins cmpY X[k] (insAll cmpY Z (X.take k)) := by
  rw [List.take_succ_eq_append_getElem h, insAll_snoc]
theorem less_filter {X Y : List Sy} (h : Sorted cmpY X) : insAll cmpY [] (X.filter fun x => !has cmpY x Y) = delAll cmpY X Y := by
  refine sorted_ext (insAll_sorted cmpY_cmp _ _ List.Pairwise.nil) (delAll_sorted _ h) fun z => ?_
  rw [has_uni, has_delAll, Bool.eq_iff_iff]
  simp only [has, List.any_nil, Bool.false_or, List.any_eq_true, List.mem_filter, Bool.and_eq_true, beq_iff_eq, Bool.not_eq_true']
  constructor
  · rintro ⟨y, ⟨hy, hn⟩, e⟩
    obtain rfl := cmpY_eq e
    exact ⟨⟨_, hy, e⟩, hn⟩
  · rintro ⟨⟨y, hy, e⟩, hn⟩
    obtain rfl := cmpY_eq e
    exact ⟨_, ⟨hy, hn⟩, e⟩
theorem slice_form {w : World} {v : Value} {xs : List Sy} (h : SliceAt encS 3 w v xs) : ∃ p c, v = .slice p xs.length c := by
  rcases h with ⟨rfl, rfl⟩ | ⟨b, off, cap, rfl, -⟩
  · exact ⟨none, 0, rfl⟩
  · exact ⟨_, _, rfl⟩
theorem slice_cells {w : World} {p : Option Addr} {n c : Nat} {xs : List Sy} (h : SliceAt encS 3 w (.slice p n c) xs) (h0 : 0 < xs.length) : ∃ b off, p = some ⟨b, off, none⟩ ∧ b < w.heap.size ∧ CellsAt w b off xs := by
  rcases h with ⟨-, rfl⟩ | ⟨b, off, cap, h1, h2, -, h4⟩
  · simp at h0
  · cases h1; exact ⟨b, off, rfl, h2, h4⟩
def nine : Sy := ⟨9, ⟨#[]⟩, 0⟩
set_option maxRecDepth 100000 in
set_option maxHeartbeats 16000000 in
theorem joins_walk (w : World) (p1 p2 : Option Addr) (c1 c2 : Nat) (A B : List Sy) (hA : ArgAt w (.slice p1 A.length c1) A) (hB : ArgAt w (.slice p2 B.length c2) B) (l1 : A.length ≤ 60) (l2 : B.length ≤ 60) :
    Calls Try.prog 7 #[.slice p1 A.length c1, .slice p2 B.length c2] w fun e w' => e = .returned (.bool true) ∧ Below w.heap.size w w' := by
  have hd1 : decide (60 < (A.length : Int)) = false := by simp; omega
  have hd2 : decide (60 < (B.length : Int)) = false := by simp; omega
  have hX := insAll_length cmpY A []
  have hY := insAll_length cmpY B []
  have sX : Sorted cmpY (insAll cmpY [] A) := insAll_sorted cmpY_cmp _ _ List.Pairwise.nil
  have sY : Sorted cmpY (insAll cmpY [] B) := insAll_sorted cmpY_cmp _ _ List.Pairwise.nil
  obtain ⟨X, hXe⟩ : ∃ X, X = insAll cmpY [] A := ⟨_, rfl⟩
  obtain ⟨Y, hYe⟩ : ∃ Y, Y = insAll cmpY [] B := ⟨_, rfl⟩
  rw [← hXe] at hX sX
  rw [← hYe] at hY sY
  simp only [List.length_nil, Nat.zero_add] at hX hY
  have hU := insAll_length cmpY Y X
  have hM := insAll_length cmpY (meetL X Y) []
  have hM2 : (meetL X Y).length ≤ X.length := List.length_filter_le _ _
  have hD := delAll_length cmpY Y X
  simp only [List.length_nil, Nat.zero_add] at hM
  have HX := Lib.hid hXe
  have HY := Lib.hid hYe
  have HA := Lib.hid hA
  have HB := Lib.hid hB
  have HsX := Lib.hid sX
  have HsY := Lib.hid sY
  clear hA hB hXe hYe sX sY
  go_enter Try.func7, Try.ntmps7
  go_wp2_with fail
  refine (new_argS w _ A HA.out (by omega)).mono ?_
  rintro e w1 ⟨x, rfl, hx, b1, sx⟩
  have lx := IsSet.lt sx
  have z1 := b1.size
  rw [← HX.out] at sx
  have sx := Lib.hid sx
  go_wp2_with fail
  refine (new_argS w1 _ B (ArgAt.mono HB.out b1) (by omega)).mono ?_
  rintro e w2 ⟨y, rfl, hy, b2, sy⟩
  have ly := IsSet.lt sy
  have z2 := b2.size
  rw [← HY.out] at sy
  have sy := Lib.hid sy
  have sx := Lib.hid (IsSet.mono sx.out b2)
  have bb := b1.trans (b2.mono b1.size)
  clear b1 b2
  go_wp2_with fail
  refine (list_setS w2 x X (by omega) sx.out).mono ?_
  rintro e w3 ⟨vp, rfl, b3, sp⟩
  have z3 := b3.size
  obtain ⟨pp, cp, rfl⟩ := slice_form sp
  have sp := Lib.hid sp
  have sx := Lib.hid (IsSet.mono sx.out b3)
  have sy := Lib.hid (IsSet.mono sy.out b3)
  have bb := bb.trans (b3.mono bb.size)
  clear b3
  go_wp2_with fail
  refine (list_setS w3 y Y (by omega) sy.out).mono ?_
  rintro e w4 ⟨vq, rfl, b4, sq⟩
  have z4 := b4.size
  obtain ⟨pq, cq, rfl⟩ := slice_form sq
  have sq := Lib.hid sq
  have sp := Lib.hid (SliceAt.mono sp.out b4)
  have sx := Lib.hid (IsSet.mono sx.out b4)
  have sy := Lib.hid (IsSet.mono sy.out b4)
  have bb := bb.trans (b4.mono bb.size)
  clear b4
  go_wp2_with fail
  refine (union_a w4 x y X Y sx.out sy.out (by omega)).mono ?_
  rintro e w5 ⟨u, rfl, hu, b5, su⟩
  have lu := IsSet.lt su
  have z5 := b5.size
  have su := Lib.hid su
  have sq := Lib.hid (SliceAt.mono sq.out b5)
  have sp := Lib.hid (SliceAt.mono sp.out b5)
  have sx := Lib.hid (IsSet.mono sx.out b5)
  have sy := Lib.hid (IsSet.mono sy.out b5)
  have bb := bb.trans (b5.mono bb.size)
  clear b5
  go_wp2_with fail
  refine (meet_a w5 x y X Y sx.out sy.out (by omega)).mono ?_
  rintro e w6 ⟨m, rfl, hm, b6, sm⟩
  have lm := IsSet.lt sm
  have z6 := b6.size
  have sm := Lib.hid sm
  have su := Lib.hid (IsSet.mono su.out b6)
  have sq := Lib.hid (SliceAt.mono sq.out b6)
  have sp := Lib.hid (SliceAt.mono sp.out b6)
  have sx := Lib.hid (IsSet.mono sx.out b6)
  have sy := Lib.hid (IsSet.mono sy.out b6)
  have bb := bb.trans (b6.mono bb.size)
  clear b6
  go_wp2_with fail
  refine (less_a w6 x y X Y sx.out sy.out (by omega)).mono ?_
  rintro e w7 ⟨d, rfl, hd, b7, sd⟩
  have hxy : x ≠ u ∧ x ≠ m ∧ x ≠ d ∧ y ≠ u ∧ y ≠ m ∧ y ≠ d ∧ u ≠ m ∧ u ≠ d ∧ m ≠ d ∧ w.heap.size ≤ u ∧ w.heap.size ≤ m ∧ w.heap.size ≤ d := by have := bb.size; omega
  have Hxy := Lib.hid hxy
  clear hxy lx ly lu lm z1 z2 z3 z4 z5 z6 hx hy hu hm hd
  have sd := Lib.hid sd
  have sm := Lib.hid (IsSet.mono sm.out b7)
  have su := Lib.hid (IsSet.mono su.out b7)
  have sq := Lib.hid (SliceAt.mono sq.out b7)
  have sp := Lib.hid (SliceAt.mono sp.out b7)
  have sx := Lib.hid (IsSet.mono sx.out b7)
  have sy := Lib.hid (IsSet.mono sy.out b7)
  have bb := bb.trans (b7.mono bb.size)
  clear b7
  go_wp2_with fail
  go_loopw [12, 13, 14, 15] (fun o a n i wr => ∃ k : Nat, k ≤ X.length ∧ i = .int .i64 k ∧ Below w7.heap.size w7 wr ∧ Hid (SliceAt encS 3 wr o (insAll cmpY [] (X.take k))) ∧ Hid (SliceAt encS 3 wr a (insAll cmpY [] ((X.take k).filter fun z => has cmpY z Y))) ∧ Hid (SliceAt encS 3 wr n (insAll cmpY [] ((X.take k).filter fun z => !has cmpY z Y)))) (fun _ _ _ i _ => X.length - (intOf i).toNat)
  case atStart => exact ⟨0, Nat.zero_le _, rfl, Below.refl _ _, Lib.hid (.inl ⟨rfl, rfl⟩), Lib.hid (.inl ⟨rfl, rfl⟩), Lib.hid (.inl ⟨rfl, rfl⟩)⟩
  case round =>
    rename_i vo va vn _ wr
    obtain ⟨k, hk, rfl, hbk, so, sa, sn⟩ := hrel
    by_cases hlt : k < X.length
    · obtain ⟨b, off, rfl, hb, hcell⟩ := slice_cells sp.out (by omega)
      have hc3 := fun w' (h : Below w7.heap.size w7 w') => (CellsAt.mono hcell hb h).three hlt
      have hlo := insAll_length cmpY (X.take k) []
      have hla := insAll_length cmpY ((X.take k).filter fun z => has cmpY z Y) []
      have hln := insAll_length cmpY ((X.take k).filter fun z => !has cmpY z Y) []
      have hlk : (X.take k).length ≤ k := List.length_take_le _ _
      have hlka : ((X.take k).filter fun z => has cmpY z Y).length ≤ k := Nat.le_trans (List.length_filter_le _ _) hlk
      have hlkn : ((X.take k).filter fun z => !has cmpY z Y).length ≤ k := Nat.le_trans (List.length_filter_le _ _) hlk
      have HO := Lib.hid (insAll_take_succ (Z := []) hlt)
      have hki : (k : Int) < (X.length : Int) := by omega
      by_cases hh : has cmpY X[k] Y = true
      · have HAk := Lib.hid (filter_take_yes (p := fun z => has cmpY z Y) hlt hh)
        have HNk := Lib.hid (filter_take_no (p := fun z => !has cmpY z Y) hlt (by simp [hh]))
        have hhas := fun W v (h : SliceAt encS 3 W v Y) => has_ref W v Y X[k] h (by omega)
        rw [hh] at hhas
        have Hhas := Lib.hid hhas
        generalize X[k] = z at hc3 HO HAk HNk Hhas
        have Hc := Lib.hid hc3
        clear hc3 hcell hh hhas
        generalize insAll cmpY [] (X.take k) = LO at so HO hlo
        generalize insAll cmpY [] ((X.take k).filter fun z => has cmpY z Y) = LA at sa HAk hla
        generalize insAll cmpY [] ((X.take k).filter fun z => !has cmpY z Y) = LN at sn HNk hln
        simp only [List.length_nil, Nat.zero_add] at hlo hla hln
        obtain ⟨d0, d1, d2⟩ := Hc.out _ hbk
        go_wp2_with fail
        refine (put_ref wr _ LO z so.out (by omega)).mono ?_
        rintro e wa ⟨v1, rfl, ba, so1⟩
        have so := Lib.hid so1
        have sa := Lib.hid (SliceAt.mono sa.out ba)
        have sn := Lib.hid (SliceAt.mono sn.out ba)
        have hbk := hbk.trans (ba.mono hbk.size)
        clear ba so1 d0 d1 d2
        obtain ⟨d0, d1, d2⟩ := Hc.out _ hbk
        go_wp2_with fail
        refine (Hhas.out wa _ (SliceAt.mono sq.out hbk)).mono ?_
        rintro e wb ⟨rfl, ba⟩
        have so := Lib.hid (SliceAt.mono so.out ba)
        have sa := Lib.hid (SliceAt.mono sa.out ba)
        have sn := Lib.hid (SliceAt.mono sn.out ba)
        have hbk := hbk.trans (ba.mono hbk.size)
        clear ba d0 d1 d2
        obtain ⟨d0, d1, d2⟩ := Hc.out _ hbk
        go_wp2_with fail
        refine (put_ref wb _ LA z sa.out (by omega)).mono ?_
        rintro e wc ⟨v2, rfl, ba, sa1⟩
        have so := Lib.hid (SliceAt.mono so.out ba)
        have sa := Lib.hid sa1
        have sn := Lib.hid (SliceAt.mono sn.out ba)
        have hbk := hbk.trans (ba.mono hbk.size)
        clear ba sa1 d0 d1 d2
        go_wp2_with fail
        go_roundw
        case rel => exact ⟨k + 1, by omega, by go_num, hbk, by rw [HO.out]; exact so, by rw [HAk.out]; exact sa, by rw [HNk.out]; exact sn⟩
        case measure => simp [intOf]; omega
      · have hh : has cmpY X[k] Y = false := by simpa using hh
        have HAk := Lib.hid (filter_take_no (p := fun z => has cmpY z Y) hlt hh)
        have HNk := Lib.hid (filter_take_yes (p := fun z => !has cmpY z Y) hlt (by simp [hh]))
        have hhas := fun W v (h : SliceAt encS 3 W v Y) => has_ref W v Y X[k] h (by omega)
        rw [hh] at hhas
        have Hhas := Lib.hid hhas
        generalize X[k] = z at hc3 HO HAk HNk Hhas
        have Hc := Lib.hid hc3
        clear hc3 hcell hh hhas
        generalize insAll cmpY [] (X.take k) = LO at so HO hlo
        generalize insAll cmpY [] ((X.take k).filter fun z => has cmpY z Y) = LA at sa HAk hla
        generalize insAll cmpY [] ((X.take k).filter fun z => !has cmpY z Y) = LN at sn HNk hln
        simp only [List.length_nil, Nat.zero_add] at hlo hla hln
        obtain ⟨d0, d1, d2⟩ := Hc.out _ hbk
        go_wp2_with fail
        refine (put_ref wr _ LO z so.out (by omega)).mono ?_
        rintro e wa ⟨v1, rfl, ba, so1⟩
        have so := Lib.hid so1
        have sa := Lib.hid (SliceAt.mono sa.out ba)
        have sn := Lib.hid (SliceAt.mono sn.out ba)
        have hbk := hbk.trans (ba.mono hbk.size)
        clear ba so1 d0 d1 d2
        obtain ⟨d0, d1, d2⟩ := Hc.out _ hbk
        go_wp2_with fail
        refine (Hhas.out wa _ (SliceAt.mono sq.out hbk)).mono ?_
        rintro e wb ⟨rfl, ba⟩
        have so := Lib.hid (SliceAt.mono so.out ba)
        have sa := Lib.hid (SliceAt.mono sa.out ba)
        have sn := Lib.hid (SliceAt.mono sn.out ba)
        have hbk := hbk.trans (ba.mono hbk.size)
        clear ba d0 d1 d2
        obtain ⟨d0, d1, d2⟩ := Hc.out _ hbk
        go_wp2_with fail
        refine (put_ref wb _ LN z sn.out (by omega)).mono ?_
        rintro e wc ⟨v2, rfl, ba, sn1⟩
        have so := Lib.hid (SliceAt.mono so.out ba)
        have sa := Lib.hid (SliceAt.mono sa.out ba)
        have sn := Lib.hid sn1
        have hbk := hbk.trans (ba.mono hbk.size)
        clear ba sn1 d0 d1 d2
        go_wp2_with fail
        go_roundw
        case rel => exact ⟨k + 1, by omega, by go_num, hbk, by rw [HO.out]; exact so, by rw [HAk.out]; exact sa, by rw [HNk.out]; exact sn⟩
        case measure => simp [intOf]; omega
    · obtain rfl : k = X.length := by omega
      rw [List.take_length] at so sa sn
      rw [insAll_nil_self HsX.out] at so
      rw [less_filter HsX.out] at sn
      have sd := Lib.hid (IsSet.mono sd.out hbk)
      have sm := Lib.hid (IsSet.mono sm.out hbk)
      have su := Lib.hid (IsSet.mono su.out hbk)
      have sq := Lib.hid (SliceAt.mono sq.out hbk)
      have sp := Lib.hid (SliceAt.mono sp.out hbk)
      have sx := Lib.hid (IsSet.mono sx.out hbk)
      have sy := Lib.hid (IsSet.mono sy.out hbk)
      have bb := bb.trans (hbk.mono bb.size)
      clear hbk
      obtain ⟨w8, rfl⟩ : ∃ w8 : World, w8 = wr := ⟨_, rfl⟩
      go_wp2_with fail
      go_loopw [12, 16] (fun o i wr => ∃ k : Nat, k ≤ Y.length ∧ i = .int .i64 k ∧ Below w8.heap.size w8 wr ∧ Hid (SliceAt encS 3 wr o (insAll cmpY X (Y.take k)))) (fun _ i _ => Y.length - (intOf i).toNat)
      case atStart => exact ⟨0, Nat.zero_le _, rfl, Below.refl _ _, so⟩
      case round =>
        clear so
        obtain ⟨k, hk, rfl, hbk, so⟩ := hrel
        by_cases hlt : k < Y.length
        · obtain ⟨b, off, rfl, hb, hcell⟩ := slice_cells sq.out (by omega)
          have hc3 := (CellsAt.mono hcell hb hbk).three hlt
          have hlo := insAll_length cmpY (Y.take k) X
          have hlk : (Y.take k).length ≤ k := List.length_take_le _ _
          have HO := Lib.hid (insAll_take_succ (Z := X) hlt)
          have hki : (k : Int) < (Y.length : Int) := by omega
          generalize Y[k] = z at hc3 HO
          clear hcell
          generalize insAll cmpY X (Y.take k) = LO at so HO hlo
          obtain ⟨d0, d1, d2⟩ := hc3
          go_wp2_with fail
          refine (put_ref _ _ LO z so.out (by omega)).mono ?_
          rintro e wa ⟨v1, rfl, ba, so1⟩
          have hbk := hbk.trans (ba.mono hbk.size)
          clear ba so d0 d1 d2
          have so := Lib.hid so1
          clear so1
          go_wp2_with fail
          go_roundw
          case rel => exact ⟨k + 1, by omega, by go_num, hbk, by rw [HO.out]; exact so⟩
          case measure => simp [intOf]; omega
        · obtain rfl : k = Y.length := by omega
          rw [List.take_length] at so
          have sa := Lib.hid (SliceAt.mono sa.out hbk)
          have sn := Lib.hid (SliceAt.mono sn.out hbk)
          have sd := Lib.hid (IsSet.mono sd.out hbk)
          have sm := Lib.hid (IsSet.mono sm.out hbk)
          have su := Lib.hid (IsSet.mono su.out hbk)
          have sq := Lib.hid (SliceAt.mono sq.out hbk)
          have sp := Lib.hid (SliceAt.mono sp.out hbk)
          have sx := Lib.hid (IsSet.mono sx.out hbk)
          have sy := Lib.hid (IsSet.mono sy.out hbk)
          have bb := bb.trans (hbk.mono bb.size)
          clear hbk
          obtain ⟨w9, rfl⟩ : ∃ w9 : World, w9 = wr := ⟨_, rfl⟩
          go_wp2_with fail
          refine (list_setS w9 u _ (by omega) su.out).mono ?_
          rintro e wa ⟨v1, rfl, ba, t1⟩
          have so := Lib.hid (SliceAt.mono so.out ba)
          have sa := Lib.hid (SliceAt.mono sa.out ba)
          have sn := Lib.hid (SliceAt.mono sn.out ba)
          have sq := Lib.hid (SliceAt.mono sq.out ba)
          have sp := Lib.hid (SliceAt.mono sp.out ba)
          have sd := Lib.hid (IsSet.mono sd.out ba)
          have sm := Lib.hid (IsSet.mono sm.out ba)
          have su := Lib.hid (IsSet.mono su.out ba)
          have sx := Lib.hid (IsSet.mono sx.out ba)
          have sy := Lib.hid (IsSet.mono sy.out ba)
          have bb := bb.trans (ba.mono bb.size)
          clear ba
          have t1 := Lib.hid t1
          go_wp2_with fail
          refine (syms_eq wa _ _ _ _ true (by simp) (by omega) (by omega) t1.out so.out).mono ?_
          rintro e wb ⟨rfl, ba⟩
          clear t1
          have sa := Lib.hid (SliceAt.mono sa.out ba)
          have sn := Lib.hid (SliceAt.mono sn.out ba)
          have sq := Lib.hid (SliceAt.mono sq.out ba)
          have sp := Lib.hid (SliceAt.mono sp.out ba)
          have sd := Lib.hid (IsSet.mono sd.out ba)
          have sm := Lib.hid (IsSet.mono sm.out ba)
          have su := Lib.hid (IsSet.mono su.out ba)
          have sx := Lib.hid (IsSet.mono sx.out ba)
          have sy := Lib.hid (IsSet.mono sy.out ba)
          have bb := bb.trans (ba.mono bb.size)
          clear ba
          go_wp2_with fail
          refine (list_setS wb m _ (by omega) sm.out).mono ?_
          rintro e wc ⟨v2, rfl, ba, t1⟩
          have sa := Lib.hid (SliceAt.mono sa.out ba)
          have sn := Lib.hid (SliceAt.mono sn.out ba)
          have sq := Lib.hid (SliceAt.mono sq.out ba)
          have sp := Lib.hid (SliceAt.mono sp.out ba)
          have sd := Lib.hid (IsSet.mono sd.out ba)
          have sm := Lib.hid (IsSet.mono sm.out ba)
          have su := Lib.hid (IsSet.mono su.out ba)
          have sx := Lib.hid (IsSet.mono sx.out ba)
          have sy := Lib.hid (IsSet.mono sy.out ba)
          have bb := bb.trans (ba.mono bb.size)
          clear ba
          have t1 := Lib.hid t1
          go_wp2_with fail
          refine (syms_eq wc _ _ _ _ true (by simp [meetL]) (by omega) (by unfold meetL at hM hM2; omega) t1.out sa.out).mono ?_
          rintro e wd ⟨rfl, ba⟩
          clear t1
          have sn := Lib.hid (SliceAt.mono sn.out ba)
          have sq := Lib.hid (SliceAt.mono sq.out ba)
          have sp := Lib.hid (SliceAt.mono sp.out ba)
          have sd := Lib.hid (IsSet.mono sd.out ba)
          have sm := Lib.hid (IsSet.mono sm.out ba)
          have su := Lib.hid (IsSet.mono su.out ba)
          have sx := Lib.hid (IsSet.mono sx.out ba)
          have sy := Lib.hid (IsSet.mono sy.out ba)
          have bb := bb.trans (ba.mono bb.size)
          clear ba
          go_wp2_with fail
          refine (list_setS wd d _ (by omega) sd.out).mono ?_
          rintro e we ⟨v3, rfl, ba, t1⟩
          have sn := Lib.hid (SliceAt.mono sn.out ba)
          have sq := Lib.hid (SliceAt.mono sq.out ba)
          have sp := Lib.hid (SliceAt.mono sp.out ba)
          have sd := Lib.hid (IsSet.mono sd.out ba)
          have sm := Lib.hid (IsSet.mono sm.out ba)
          have su := Lib.hid (IsSet.mono su.out ba)
          have sx := Lib.hid (IsSet.mono sx.out ba)
          have sy := Lib.hid (IsSet.mono sy.out ba)
          have bb := bb.trans (ba.mono bb.size)
          clear ba
          have t1 := Lib.hid t1
          go_wp2_with fail
          refine (syms_eq we _ _ _ _ true (by simp) (by omega) (by omega) t1.out sn.out).mono ?_
          rintro e wf ⟨rfl, ba⟩
          clear t1
          have sq := Lib.hid (SliceAt.mono sq.out ba)
          have sp := Lib.hid (SliceAt.mono sp.out ba)
          have sd := Lib.hid (IsSet.mono sd.out ba)
          have sm := Lib.hid (IsSet.mono sm.out ba)
          have su := Lib.hid (IsSet.mono su.out ba)
          have sx := Lib.hid (IsSet.mono sx.out ba)
          have sy := Lib.hid (IsSet.mono sy.out ba)
          have bb := bb.trans (ba.mono bb.size)
          clear ba
          obtain ⟨n1, n2, n3, n4, n5, n6, n7, n8, n9, g1, g2, g3⟩ := Hxy.out
          go_wp2_with fail
          refine (put_anyS wf u nine _ su.out (by omega)).mono ?_
          unfold PutOutS
          rintro e wg ⟨rfl, hg, su2⟩
          obtain ⟨rp, rT, hroot, -, -, -⟩ := su.out
          have sq := Lib.hid (SliceAt.but sq.out hg hroot)
          have sp := Lib.hid (SliceAt.but sp.out hg hroot)
          have sd := Lib.hid (IsSet.but sd.out hg hroot (by decide) n8.symm)
          have sm := Lib.hid (IsSet.but sm.out hg hroot (by decide) n7.symm)
          have sx := Lib.hid (IsSet.but sx.out hg hroot (by decide) n1)
          have sy := Lib.hid (IsSet.but sy.out hg hroot (by decide) n4)
          have bb := bb.trans (belowg hg bb.size g1)
          clear hg hroot
          go_wp2_with fail
          refine (put_anyS wg m nine _ sm.out (by omega)).mono ?_
          unfold PutOutS
          rintro e wh ⟨rfl, hg, sm2⟩
          obtain ⟨rp, rT, hroot, -, -, -⟩ := sm.out
          have sq := Lib.hid (SliceAt.but sq.out hg hroot)
          have sp := Lib.hid (SliceAt.but sp.out hg hroot)
          have sd := Lib.hid (IsSet.but sd.out hg hroot (by decide) n9.symm)
          have sx := Lib.hid (IsSet.but sx.out hg hroot (by decide) n2)
          have sy := Lib.hid (IsSet.but sy.out hg hroot (by decide) n5)
          have bb := bb.trans (belowg hg bb.size g2)
          clear hg hroot
          go_wp2_with fail
          refine (put_anyS wh d nine _ sd.out (by omega)).mono ?_
          unfold PutOutS
          rintro e wi ⟨rfl, hg, sd2⟩
          obtain ⟨rp, rT, hroot, -, -, -⟩ := sd.out
          have sq := Lib.hid (SliceAt.but sq.out hg hroot)
          have sp := Lib.hid (SliceAt.but sp.out hg hroot)
          have sx := Lib.hid (IsSet.but sx.out hg hroot (by decide) n3)
          have sy := Lib.hid (IsSet.but sy.out hg hroot (by decide) n6)
          have bb := bb.trans (belowg hg bb.size g3)
          clear hg hroot
          clear sd sm su su2 sm2 sd2 n1 n2 n3 n4 n5 n6 n7 n8 n9
          go_wp2_with fail
          refine (list_setS wi x X (by omega) sx.out).mono ?_
          rintro e wj ⟨v4, rfl, ba, t1⟩
          have sq := Lib.hid (SliceAt.mono sq.out ba)
          have sp := Lib.hid (SliceAt.mono sp.out ba)
          have sx := Lib.hid (IsSet.mono sx.out ba)
          have sy := Lib.hid (IsSet.mono sy.out ba)
          have bb := bb.trans (ba.mono bb.size)
          clear ba
          have t1 := Lib.hid t1
          go_wp2_with fail
          refine (syms_eq wj _ _ X X true (by simp) (by omega) (by omega) t1.out sp.out).mono ?_
          rintro e wk ⟨rfl, ba⟩
          clear t1
          have sq := Lib.hid (SliceAt.mono sq.out ba)
          have sp := Lib.hid (SliceAt.mono sp.out ba)
          have sx := Lib.hid (IsSet.mono sx.out ba)
          have sy := Lib.hid (IsSet.mono sy.out ba)
          have bb := bb.trans (ba.mono bb.size)
          clear ba
          go_wp2_with fail
          refine (list_setS wk y Y (by omega) sy.out).mono ?_
          rintro e wl ⟨v5, rfl, ba, t1⟩
          have sq := Lib.hid (SliceAt.mono sq.out ba)
          have sp := Lib.hid (SliceAt.mono sp.out ba)
          have sx := Lib.hid (IsSet.mono sx.out ba)
          have sy := Lib.hid (IsSet.mono sy.out ba)
          have bb := bb.trans (ba.mono bb.size)
          clear ba
          have t1 := Lib.hid t1
          go_wp2_with fail
          refine (syms_eq wl _ _ Y Y true (by simp) (by omega) (by omega) t1.out sq.out).mono ?_
          rintro e wm ⟨rfl, ba⟩
          clear t1
          have sq := Lib.hid (SliceAt.mono sq.out ba)
          have sp := Lib.hid (SliceAt.mono sp.out ba)
          have sx := Lib.hid (IsSet.mono sx.out ba)
          have sy := Lib.hid (IsSet.mono sy.out ba)
          have bb := bb.trans (ba.mono bb.size)
          clear ba
          obtain ⟨r, hr⟩ : ∃ r, decide (X = Y) = r := ⟨_, rfl⟩
          have Hr := Lib.hid hr
          clear hr
          go_wp2_with fail
          refine (same_eq wm x y X Y r Hr.out sx.out sy.out (by omega) (by omega)).mono ?_
          rintro e wn ⟨rfl, ba⟩
          have sq := Lib.hid (SliceAt.mono sq.out ba)
          have sp := Lib.hid (SliceAt.mono sp.out ba)
          have sx := Lib.hid (IsSet.mono sx.out ba)
          have sy := Lib.hid (IsSet.mono sy.out ba)
          have bb := bb.trans (ba.mono bb.size)
          clear ba
          go_wp2_with fail
          refine (syms_eq wn _ _ X Y r Hr.out (by omega) (by omega) sp.out sq.out).mono ?_
          rintro e wo ⟨rfl, ba⟩
          have sq := Lib.hid (SliceAt.mono sq.out ba)
          have sp := Lib.hid (SliceAt.mono sp.out ba)
          have sx := Lib.hid (IsSet.mono sx.out ba)
          have sy := Lib.hid (IsSet.mono sy.out ba)
          have bb := bb.trans (ba.mono bb.size)
          clear ba
          clear sq sp sx sy
          cases r
          all_goals
            go_wp2_with fail
            refine (wakes_any wo).mono ?_
            rintro e wq ⟨rfl, ba⟩
            go_wp2_with fail
            go_ret
            exact ⟨rfl, bb.trans (ba.mono bb.size)⟩
theorem joins_long (w : World) (p1 p2 : Option Addr) (n1 n2 c1 c2 : Nat) (m1 : n1 ≤ maxLen) (m2 : n2 ≤ maxLen) (h : 60 < n1 ∨ 60 < n2) :
    Calls Try.prog 7 #[.slice p1 n1 c1, .slice p2 n2 c2] w fun e w' => e = .returned (.bool true) ∧ Below w.heap.size w w' := by
  unfold maxLen at m1 m2
  by_cases h1 : 60 < n1
  · have hd1 : decide (60 < (n1 : Int)) = true := by simp; omega
    go_enter Try.func7, Try.ntmps7
    go_wp2_with (go_at_call 16; refine (wakes_any _).mono ?_; rintro e w6 ⟨rfl, hb6⟩)
    go_ret
    exact ⟨rfl, hb6⟩
  · have hd1 : decide (60 < (n1 : Int)) = false := by simp; omega
    have hd2 : decide (60 < (n2 : Int)) = true := by simp; omega
    go_enter Try.func7, Try.ntmps7
    go_wp2_with (go_at_call 16; refine (wakes_any _).mono ?_; rintro e w6 ⟨rfl, hb6⟩)
    go_ret
    exact ⟨rfl, hb6⟩
end Go.Proofs.Ytggijlblipmfaaa
