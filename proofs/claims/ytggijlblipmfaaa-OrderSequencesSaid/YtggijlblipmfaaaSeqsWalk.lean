/-
  The walk over OrderSequences.
-/
import Derived.Test.YtggijlblipmfaaaRefLawS
import Derived.Test.YtggijlblipmfaaaJoinsWalk
import Derived.Test.YtggijlblipmfaaaFromS
import Derived.Test.YtggijlblipmfaaaBackS
import Derived.Test.YtggijlblipmfaaaFirstS
namespace Go.Proofs.Ytggijlblipmfaaa
set_option linter.unusedVariables false
open Go.RowKit
theorem bwd_anyS (w : World) (b : Nat) : Calls Try.prog 38 #[.pointer (some ⟨b, 0, none⟩)] w fun e w' => e = .returned (.func (.func 91) #[] #[.pointer (some ⟨w.heap.size, 0, none⟩)]) ∧ w' = w.alloc (.cells #[.pointer (some ⟨b, 0, none⟩)] 23) := back_anyS w b
/-- List of any such iterator. -/
theorem list_seq (gf : Nat) (lb : Array Value) (eg : ∀ args w, (callFunc gf args).run Try.prog w = .ok (.enter gf args) w) (xs : List Sy) (hlen : xs.length ≤ 1000000) (w : World)
    (hseq : Go.SeqStopsK Fence.wide 2 Try.prog gf lb (fun x : Sy => #[.agg #[.int .i64 x.k, .string x.t, .int .i64 x.n]]) (KN 167) (fun ys => ys = xs) (fun pre => pre <+: xs) xs.length w) :
    Calls Try.prog 37 #[.func (.func gf) #[] lb] w (ListedS w xs) :=
  (callsIn_wide.1 (list_inS Fence.wide 3 trivial rfl (by omega) gf lb trivial eg xs hlen w w (Below.refl _ _) hseq)).mono fun e w' ⟨v, h1, h2, _, h4⟩ => ⟨v, h1, h4, slice_of_owns h2⟩
theorem first_zero (gf : Nat) (lb : Array Value) (w : World) : Calls Try.prog 40 #[.func (.func gf) #[] lb, .int .i64 0] w (ListedS w []) := by
  have hef := eql_func_nilS (.func gf) #[] lb
  go_enter Try.func40, Try.ntmps40
  go_wp2
  go_ret
  exact ListedS.of (by go_grown) (.inl ⟨rfl, rfl⟩)
theorem first_seq (gf : Nat) (lb : Array Value) (eg : ∀ args w, (callFunc gf args).run Try.prog w = .ok (.enter gf args) w) (k : Nat) (hk2 : k ≤ 1000000) (xs : List Sy) (hlen : xs.length ≤ 1000000) (w : World)
    (hseq : Go.SeqStopsK Fence.wide 2 Try.prog gf lb (fun x : Sy => #[.agg #[.int .i64 x.k, .string x.t, .int .i64 x.n]]) (KN 167) (fun ys => ys = xs) (fun pre => pre <+: xs) xs.length w) :
    Calls Try.prog 40 #[.func (.func gf) #[] lb, .int .i64 k] w (ListedS w (xs.take k)) := by
  by_cases h0 : k = 0
  · subst h0; rw [List.take_zero]; exact first_zero gf lb w
  · exact (callsIn_wide.1 (first_inS gf lb eg k (by omega) hk2 xs hlen w w (Below.refl _ _) hseq)).mono fun e w' ⟨v, h1, h2, _, h4⟩ => ⟨v, h1, h4, slice_of_owns h2⟩
theorem sub_take {w : World} {b off n cap : Nat} {xs : List Sy} (h : CellsAt w b off xs) (hb : b < w.heap.size) (hn : n ≤ xs.length) (hc : xs.length ≤ cap ∧ cap ≤ maxLen) : SliceAt encS 3 w (.slice (some ⟨b, off, none⟩) n cap) (xs.take n) :=
  .inr ⟨b, off, cap, by rw [List.length_take, Nat.min_eq_left hn], hb, by rw [List.length_take]; omega, h.take n⟩
theorem sub_drop {w : World} {b off n cap : Nat} {xs : List Sy} (h : CellsAt w b off xs) (hb : b < w.heap.size) (hc : xs.length ≤ cap ∧ cap ≤ maxLen) : SliceAt encS 3 w (.slice (some ⟨b, off + n * 3, none⟩) (xs.length - n) (cap - n)) (xs.drop n) :=
  .inr ⟨b, off + n * 3, cap - n, by rw [List.length_drop], hb, by rw [List.length_drop]; omega, h.drop n⟩
theorem since_drop {a : Sy} {X : List Sy} (h : Sorted cmpY X) : since cmpY a X = X.drop (place cmpY a X) := by
  induction X with
  | nil => rfl
  | cons x X ih =>
    have h' := List.pairwise_cons.1 h
    have hf := cmpY_cmp.flip x a
    by_cases h1 : 0 < cmpY a x
    · have e1 : since cmpY a (x :: X) = since cmpY a X := by unfold since; rw [List.filter_cons_of_neg]; simp; omega
      rw [e1, ih h'.2, place_cons, if_pos (by omega), Nat.add_comm, List.drop_succ_cons]
    · have e1 : since cmpY a (x :: X) = x :: X := since_all cmpY_cmp (by omega) h'.1
      have e2 : place cmpY a (x :: X) = 0 := by
        rw [place_cons, if_neg (by omega), place_of_gt cmpY_cmp (x := a) (v := x) (by omega) h'.1]
      rw [e1, e2, List.drop_zero]
set_option maxRecDepth 100000 in
set_option maxHeartbeats 16000000 in
theorem seqs_walk (w : World) (p1 : Option Addr) (c1 : Nat) (A : List Sy) (a : Sy) (nn : Int) (hA : ArgAt w (.slice p1 A.length c1) A) (l1 : A.length ≤ 60) :
    Calls Try.prog 5 #[.slice p1 A.length c1, .agg #[.int .i64 a.k, .string a.t, .int .i64 a.n], .int .i64 nn] w fun e w' => e = .returned (.bool true) ∧ Below w.heap.size w w' := by
  have hd1 : decide (60 < (A.length : Int)) = false := by simp; omega
  have hX := insAll_length cmpY A []
  obtain ⟨X, hXe⟩ : ∃ X, X = insAll cmpY [] A := ⟨_, rfl⟩
  rw [← hXe] at hX
  simp only [List.length_nil, Nat.zero_add] at hX
  have hpl := place_le (c := cmpY) a X
  obtain ⟨kk, hkk⟩ : ∃ kk, place cmpY a X = kk := ⟨_, rfl⟩
  rw [hkk] at hpl
  have HKK := Lib.hid hkk
  clear hkk
  have HX := Lib.hid hXe
  have HA := Lib.hid hA
  clear hA hXe
  obtain ⟨W2, hW2⟩ : ∃ W2, W2 = w.alloc (.cells #[.int .i64 a.k, .string a.t, .int .i64 a.n] 26) := ⟨_, rfl⟩
  have bb : Below w.heap.size w W2 := by rw [hW2]; go_grown
  have bx : Hid (W2.heap[w.heap.size]? = some (.cells #[.int .i64 a.k, .string a.t, .int .i64 a.n] 26 (0, 0))) := Lib.hid (by rw [hW2]; exact new_at rfl)
  have HW2 := Lib.hid hW2
  clear hW2
  go_enter Try.func5, Try.ntmps5
  go_wp2_with fail
  rw [← HW2.out]
  refine (new_argS W2 _ A (ArgAt.mono HA.out bb) (by omega)).mono ?_
  rintro e w1 ⟨s, rfl, hs, ba, sx⟩
  rw [← HX.out] at sx
  have HsX := Lib.hid (IsSet.srt sx)
  have sx := Lib.hid sx
  have bx := Lib.hid ((ba.block _ (heap_lt bx.out)).trans bx.out)
  have bb := bb.trans (ba.mono bb.size)
  clear ba hs
  go_wp2_with fail
  go_loopw [8, 9] (fun o i wr => ∃ k : Nat, k ≤ A.length ∧ i = .int .i64 k ∧ Below w1.heap.size w1 wr ∧ Hid (SliceAt encS 3 wr o (insAll cmpY [] (A.take k)))) (fun _ i _ => A.length - (intOf i).toNat)
  case atStart => exact ⟨0, Nat.zero_le _, rfl, Below.refl _ _, Lib.hid (.inl ⟨rfl, rfl⟩)⟩
  case round =>
    obtain ⟨k, hk, rfl, ba, so⟩ := hrel
    by_cases hlt : k < A.length
    · obtain ⟨b, off, rfl, hb, hcell⟩ := HA.out.at (by omega)
      have hc3 := (CellsAt.mono hcell hb (bb.trans (ba.mono bb.size))).three hlt
      have hlo := insAll_length cmpY (A.take k) []
      have hlk : (A.take k).length ≤ k := List.length_take_le _ _
      have HO := Lib.hid (insAll_take_succ (Z := []) hlt)
      have hki : (k : Int) < (A.length : Int) := by omega
      simp only [List.length_nil, Nat.zero_add] at hlo
      generalize A[k] = z at hc3 HO
      clear hcell
      generalize insAll cmpY [] (A.take k) = LO at so HO hlo
      obtain ⟨d0, d1, d2⟩ := hc3
      go_wp2_with fail
      refine (put_ref _ _ LO z so.out (by omega)).mono ?_
      rintro e wb ⟨v1, rfl, bc, so1⟩
      have ba := ba.trans (bc.mono ba.size)
      clear bc so d0 d1 d2
      have so := Lib.hid so1
      clear so1
      go_wp2_with fail
      go_roundw
      case rel => exact ⟨k + 1, by omega, by go_num, ba, by rw [HO.out]; exact so⟩
      case measure => simp [intOf]; omega
    · obtain rfl : k = A.length := by omega
      rw [List.take_length, ← HX.out] at so
      have sx := Lib.hid (IsSet.mono sx.out ba)
      have bx := Lib.hid ((ba.block _ (heap_lt bx.out)).trans bx.out)
      have bb := bb.trans (ba.mono bb.size)
      clear ba
      obtain ⟨wo, rfl⟩ : ∃ wo : World, wo = wr := ⟨_, rfl⟩
      obtain ⟨x0, x1, x2, -, -, -, -⟩ := box_cells bx.out (Below.refl _ _)
      obtain ⟨pr, cr, rfl⟩ := slice_form so.out
      have hbl := below_ref wo _ X a so.out (by omega)
      rw [HKK.out] at hbl
      have Hbl := Lib.hid hbl
      clear hbl
      go_wp2_with fail
      refine Hbl.out.mono ?_
      clear Hbl
      rintro e w3 ⟨rfl, ba⟩
      clear x0 x1 x2
      have bx := Lib.hid ((ba.block _ (heap_lt bx.out)).trans bx.out)
      have sx := Lib.hid (IsSet.mono sx.out ba)
      have so := Lib.hid (SliceAt.mono so.out ba)
      have bb := bb.trans (ba.mono bb.size)
      clear ba
      go_wp2_with fail
      refine (bwd_anyS w3 s).mono ?_
      rintro e w4 ⟨rfl, rfl⟩
      have ba : Below w3.heap.size w3 (w3.alloc (.cells #[.pointer (some ⟨s, 0, none⟩)] 23)) := by go_grown
      have hbk := list_seq 91 #[.pointer (some ⟨w3.heap.size, 0, none⟩)] (enters_of Try.func91 (by kernel_rfl) rfl) X.reverse (by simp; omega) (w3.alloc (.cells #[.pointer (some ⟨s, 0, none⟩)] 23))
        (back_stopsS Fence.wide rfl 2 trivial trivial rfl w3.heap.size s X.reverse _ (new_at rfl) (by rw [List.reverse_reverse]; exact IsSet.mono sx.out ba))
      have Hbk := Lib.hid hbk
      clear hbk
      have bx := Lib.hid ((ba.block _ (heap_lt bx.out)).trans bx.out)
      have sx := Lib.hid (IsSet.mono sx.out ba)
      have so := Lib.hid (SliceAt.mono so.out ba)
      have bb := bb.trans (ba.mono bb.size)
      clear ba
      go_wp2_with fail
      refine Hbk.out.mono ?_
      rintro e w5 ⟨vb, rfl, ba, sb⟩
      obtain ⟨pb, cb, rfl⟩ := slice_form sb
      have sb := Lib.hid sb
      rw [List.length_reverse]
      clear Hbk
      have bx := Lib.hid ((ba.block _ (heap_lt bx.out)).trans bx.out)
      have sx := Lib.hid (IsSet.mono sx.out ba)
      have so := Lib.hid (SliceAt.mono so.out ba)
      have bb := bb.trans (ba.mono bb.size)
      clear ba
      have hnn : ((X.length : Int) != (X.length : Int)) = false := by simp
      go_wp2_with fail
      go_loopw [12] (fun i wr => ∃ k : Nat, k ≤ X.length ∧ i = .int .i64 k ∧ Below w5.heap.size w5 wr) (fun i _ => X.length - (intOf i).toNat)
      case atStart => exact ⟨0, Nat.zero_le _, rfl, Below.refl _ _⟩
      case round =>
        obtain ⟨k, hk, rfl, ba⟩ := hrel
        by_cases hlt : k < X.length
        · obtain ⟨ob, ooff, rfl, hob, hoc⟩ := slice_cells so.out (by omega)
          obtain ⟨bk, bkoff, hbe, hbb, hbc⟩ := slice_cells (xs := X.reverse) (by have := sb.out; rw [List.length_reverse] at this; exact this) (by rw [List.length_reverse]; omega)
          subst hbe
          obtain ⟨q, hq⟩ : ∃ q : Nat, (X.length : Int) - 1 = (q : Int) := ⟨X.length - 1, by omega⟩
          obtain ⟨m, hm⟩ : ∃ m : Nat, (q : Int) - (k : Int) = (m : Int) := ⟨q - k, by omega⟩
          have hmx : m < X.length := by omega
          have hme : X.length - 1 - k = m := by omega
          obtain ⟨c0, c1, c2⟩ := (CellsAt.mono hoc hob ba).three hmx
          have hkr : k < X.reverse.length := by rw [List.length_reverse]; exact hlt
          obtain ⟨d0, d1, d2⟩ := (CellsAt.mono hbc hbb ba).three hkr
          have hrev : X.reverse[k] = X[m] := by rw [List.getElem_reverse]; congr 1
          rw [hrev] at d0 d1 d2
          have hne := neY_no (x := X[m]) (y := X[m]) rfl
          generalize X[m] = z at c0 c1 c2 d0 d1 d2 hne
          have hki : (k : Int) < (X.length : Int) := by omega
          have hmi : (m : Int) < (X.length : Int) := by omega
          clear hrev hkr hme hoc hbc
          go_wp2_with fail
          go_quiet (fail)
          go_wp2_with fail
          go_roundw
          case rel => exact ⟨k + 1, by omega, by go_num, bdN _ ba⟩
          case measure => simp [intOf]; omega
        · obtain rfl : k = X.length := by omega
          clear sb hnn
          have bx := Lib.hid ((ba.block _ (heap_lt bx.out)).trans bx.out)
          have sx := Lib.hid (IsSet.mono sx.out ba)
          have so := Lib.hid (SliceAt.mono so.out ba)
          have bb := bb.trans (ba.mono bb.size)
          clear ba
          obtain ⟨wp, rfl⟩ : ∃ wp : World, wp = wr := ⟨_, rfl⟩
          have hw := within_full wp nn (X.length + 2) (by omega) (by omega)
          rw [show (((X.length + 2 : Nat)) : Int) = (X.length : Int) + 2 by omega] at hw
          have Hw := Lib.hid hw
          clear hw
          go_wp2_with fail
          refine Hw.out.mono ?_
          rintro e w6 ⟨⟨m, hm, rfl⟩, rfl⟩
          clear Hw
          have hall := all_anyS w6 s
          have Hall := Lib.hid hall
          obtain ⟨W7, hW7⟩ : ∃ W7, W7 = w6.alloc (.cells #[.pointer (some ⟨s, 0, none⟩)] 23) := ⟨_, rfl⟩
          obtain ⟨B7, hB7⟩ : ∃ B7, B7 = w6.heap.size := ⟨_, rfl⟩
          have ba : Below w6.heap.size w6 W7 := by rw [hW7]; go_grown
          have b7 : W7.heap[B7]? = some (.cells #[.pointer (some ⟨s, 0, none⟩)] 23 (0, 0)) := by rw [hW7, hB7]; exact new_at rfl
          have HW7 := Lib.hid hW7
          have HB7 := Lib.hid hB7
          clear hW7 hB7 hall
          have bx := Lib.hid ((ba.block _ (heap_lt bx.out)).trans bx.out)
          have sx := Lib.hid (IsSet.mono sx.out ba)
          have so := Lib.hid (SliceAt.mono so.out ba)
          have bb := bb.trans (ba.mono bb.size)
          clear ba
          have hseq := fun w' (h : Below W7.heap.size W7 w') => all_stopsS Fence.wide rfl 2 trivial trivial rfl B7 s X w' ((h.block _ (heap_lt b7)).trans b7) (IsSet.mono sx.out h)
          have Hfi := Lib.hid (fun w' (h : Below W7.heap.size W7 w') => first_seq 93 _ (enters_of Try.func93 (by kernel_rfl) rfl) m (by omega) X (by omega) w' (hseq w' h))
          have Hli := Lib.hid (fun w' (h : Below W7.heap.size W7 w') => list_seq 93 _ (enters_of Try.func93 (by kernel_rfl) rfl) X (by omega) w' (hseq w' h))
          have hsl : (since cmpY a X).length ≤ X.length := List.length_filter_le _ _
          have hlf : ∀ w', Below W7.heap.size W7 w' → Calls Try.prog 37 #[.func (.func 95) #[] #[.pointer (some ⟨w'.heap.size, 0, none⟩), .pointer (some ⟨w'.heap.size + 1, 0, none⟩)]] ((w'.alloc (.cells #[.pointer (some ⟨s, 0, none⟩)] 23)).alloc (.cells #[.int .i64 a.k, .string a.t, .int .i64 a.n] 26)) (ListedS ((w'.alloc (.cells #[.pointer (some ⟨s, 0, none⟩)] 23)).alloc (.cells #[.int .i64 a.k, .string a.t, .int .i64 a.n] 26)) (since cmpY a X)) := by
            intro w' h
            have hb2 : Below w'.heap.size w' ((w'.alloc (.cells #[.pointer (some ⟨s, 0, none⟩)] 23)).alloc (.cells #[.int .i64 a.k, .string a.t, .int .i64 a.n] 26)) := by go_grown
            exact list_seq _ _ (enters_of Try.func95 (by kernel_rfl) rfl) _ (by omega) _
              (from_stops 2 (by omega) w'.heap.size (w'.heap.size + 1) s a X _ ((Below.heap_alloc _ _ _ (by simp)).trans (new_at rfl)) (new_at (by simp)) (IsSet.mono sx.out (h.trans (hb2.mono h.size))))
          have Hlf := Lib.hid hlf
          have hsd : since cmpY a X = X.drop kk := by rw [since_drop HsX.out, HKK.out]
          have HSd := Lib.hid hsd
          have hK := Lib.hid (fun w' (h : Below W7.heap.size W7 w') => box_cells bx.out h)
          have Hso := Lib.hid (fun w' (h : Below W7.heap.size W7 w') => SliceAt.mono so.out h)
          clear hlf hsd hseq b7 hsl bx sx
          rcases so.out with ⟨hso1, hso2⟩ | ⟨ob, ooff, ocap, hso1, hob, hcap, hoc⟩
          · subst hso2
            obtain ⟨rfl, rfl⟩ : pr = none ∧ cr = 0 := by simpa using hso1
            obtain rfl : kk = 0 := by simpa using hpl
            have Hs1 : Hid (∀ w', Below W7.heap.size W7 w' → SliceAt encS 3 w' (.slice none 0 0) ([] : List Sy)) := Lib.hid (fun _ _ => .inl ⟨rfl, rfl⟩)
            have Hs3 : Hid (∀ w', Below W7.heap.size W7 w' → SliceAt encS 3 w' (.slice none 0 0) ([] : List Sy)) := Lib.hid (fun _ _ => .inl ⟨rfl, rfl⟩)
            clear so hso1
            obtain rfl | rfl : m = 0 ∨ m = 1 := by simp at hm; omega
            all_goals
              go_wp2_with fail
              refine Hall.out.mono ?_
              rintro e w8 ⟨rfl, rfl⟩
              rw [← HW7.out, ← HB7.out]
              go_wp2_with fail
              have j1 : Hid (0 = 0) := Lib.hid rfl
              have j2 : Hid (0 = 0) := Lib.hid rfl
              have j3 : Hid (0 = 0) := Lib.hid rfl
              go_region_held3 (fun w' => Below W7.heap.size W7 w' ∧ w'.cell? ⟨w.heap.size, 0, none⟩ = some (.int .i64 a.k) ∧ w'.cell? ⟨w.heap.size, 1, none⟩ = some (.string a.t) ∧ w'.cell? ⟨w.heap.size, 2, none⟩ = some (.int .i64 a.n))
                (first | exact ⟨hB8.out, (hK.out _ hB8.out).1, (hK.out _ hB8.out).2.1, (hK.out _ hB8.out).2.2.1⟩ | exact ⟨hB7.out, (hK.out _ hB7.out).1, (hK.out _ hB7.out).2.1, (hK.out _ hB7.out).2.2.1⟩ | exact ⟨hB6.out, (hK.out _ hB6.out).1, (hK.out _ hB6.out).2.1, (hK.out _ hB6.out).2.2.1⟩ | exact ⟨hB5.out, (hK.out _ hB5.out).1, (hK.out _ hB5.out).2.1, (hK.out _ hB5.out).2.2.1⟩ | exact ⟨hB4.out, (hK.out _ hB4.out).1, (hK.out _ hB4.out).2.1, (hK.out _ hB4.out).2.2.1⟩ | exact ⟨hB3.out, (hK.out _ hB3.out).1, (hK.out _ hB3.out).2.1, (hK.out _ hB3.out).2.2.1⟩ | exact ⟨hB2.out, (hK.out _ hB2.out).1, (hK.out _ hB2.out).2.1, (hK.out _ hB2.out).2.2.1⟩ | exact ⟨hB1.out, (hK.out _ hB1.out).1, (hK.out _ hB1.out).2.1, (hK.out _ hB1.out).2.2.1⟩ | exact ⟨(Below.refl _ _).drew, (hK.out _ (Below.refl _ _).drew).1, (hK.out _ (Below.refl _ _).drew).2.1, (hK.out _ (Below.refl _ _).drew).2.2.1⟩ | go_keep)
                (first
                  | (go_at_call 40; refine (Hfi.out _ (Below.refl _ _).drew).mono ?_; rintro e wa ⟨v1, rfl, ba, t1⟩; have T1 := Lib.hid t1; have hB1 := Lib.hid ((Below.refl W7.heap.size W7).drew.trans ba); clear ba t1)
                  | (have _t := j1; go_at_call 28; refine (syms_eq wa _ _ _ _ true (by simp) (by first | omega | (rw [List.length_take]; omega) | simp) (by first | omega | (rw [List.length_take]; omega) | simp) T1.out (Hs1.out _ hB1.out)).mono ?_; rintro e wb ⟨rfl, ba⟩; have hB2 := Lib.hid (hB1.out.trans (ba.mono hB1.out.size)); clear ba T1 j1)
                  | (have _t := j2; go_at_call 37; refine (Hli.out _ hB2.out).mono ?_; rintro e wc ⟨v2, rfl, ba, t1⟩; have T2 := Lib.hid t1; have hB3 := Lib.hid (hB2.out.trans (ba.mono hB2.out.size)); clear ba t1 j2)
                  | (have _t := j3; go_at_call 28; refine (syms_eq wc _ _ _ _ true (by simp) (by first | omega | simp) (by first | omega | simp) T2.out (Hso.out _ hB3.out)).mono ?_; rintro e wd ⟨rfl, ba⟩; have hB4 := Lib.hid (hB3.out.trans (ba.mono hB3.out.size)); clear ba T2 j3)
                  | (go_at_call 41; refine (from_any wd s a).mono ?_; rintro e we ⟨rfl, rfl⟩; have hB5 := Lib.hid ((hB4.out.alloc hB4.out.size (.cells #[.pointer (some ⟨s, 0, none⟩)] 23)).alloc (by have := hB4.out.size; simp; omega) (.cells #[.int .i64 a.k, .string a.t, .int .i64 a.n] 26)))
                  | (go_at_call 37; refine (Hlf.out wd hB4.out).mono ?_; rintro e wf ⟨v3, rfl, ba, t1⟩; have T3 := Lib.hid t1; have hB6 := Lib.hid (hB5.out.trans (ba.mono hB5.out.size)); clear ba t1)
                  | (go_at_call 28; refine (syms_eq wf _ _ _ _ true (by rw [HSd.out]; simp) (by rw [HSd.out]; first | omega | (rw [List.length_drop]; omega) | simp) (by first | omega | (rw [List.length_drop]; omega) | simp) T3.out (Hs3.out _ hB6.out)).mono ?_; rintro e wg ⟨rfl, ba⟩; have hB7 := Lib.hid (hB6.out.trans (ba.mono hB6.out.size)); clear ba T3)
                  | (go_at_call 16; refine (wakes_any wg).mono ?_; rintro e wh ⟨rfl, ba⟩; have hB8 := Lib.hid (hB7.out.trans (ba.mono hB7.out.size)); clear ba))
              go_wp2_with fail
              go_ret
              exact ⟨rfl, bb.trans (hB8.out.mono bb.size)⟩
          · obtain ⟨rfl, rfl⟩ : pr = some ⟨ob, ooff, none⟩ ∧ cr = ocap := by simpa using hso1
            have HC := Lib.hid hoc
            have hc1 := hcap.1
            have hc2 := hcap.2
            unfold maxLen at hc2
            clear so hso1 hoc hcap
            have hm0 : (0 : Int) ≤ (m : Int) := by omega
            have hk0 : (0 : Int) ≤ (kk : Int) := by omega
            have hkx : (kk : Int) ≤ (X.length : Int) := by omega
            by_cases hmn : m ≤ X.length
            · have Hs1 := Lib.hid (fun w' (h : Below W7.heap.size W7 w') => sub_take (n := m) (CellsAt.mono HC.out hob h) (Nat.lt_of_lt_of_le hob h.size) hmn ⟨hc1, show cr ≤ maxLen by unfold maxLen; omega⟩)
              have hmi : (m : Int) ≤ (X.length : Int) := by omega
              have hmc : (m : Int) ≤ (cr : Int) := by omega
              have hmc2 : m ≤ cr := by omega
              by_cases hkc : kk < cr
              · have Hs3 := Lib.hid (fun w' (h : Below W7.heap.size W7 w') => sub_drop (n := kk) (CellsAt.mono HC.out hob h) (Nat.lt_of_lt_of_le hob h.size) ⟨hc1, show cr ≤ maxLen by unfold maxLen; omega⟩)
                go_wp2_with fail
                refine Hall.out.mono ?_
                rintro e w8 ⟨rfl, rfl⟩
                rw [← HW7.out, ← HB7.out]
                go_wp2_with fail
                have j1 : Hid (0 = 0) := Lib.hid rfl
                have j2 : Hid (0 = 0) := Lib.hid rfl
                have j3 : Hid (0 = 0) := Lib.hid rfl
                go_region_held3 (fun w' => Below W7.heap.size W7 w' ∧ w'.cell? ⟨w.heap.size, 0, none⟩ = some (.int .i64 a.k) ∧ w'.cell? ⟨w.heap.size, 1, none⟩ = some (.string a.t) ∧ w'.cell? ⟨w.heap.size, 2, none⟩ = some (.int .i64 a.n))
                  (first | exact ⟨hB8.out, (hK.out _ hB8.out).1, (hK.out _ hB8.out).2.1, (hK.out _ hB8.out).2.2.1⟩ | exact ⟨hB7.out, (hK.out _ hB7.out).1, (hK.out _ hB7.out).2.1, (hK.out _ hB7.out).2.2.1⟩ | exact ⟨hB6.out, (hK.out _ hB6.out).1, (hK.out _ hB6.out).2.1, (hK.out _ hB6.out).2.2.1⟩ | exact ⟨hB5.out, (hK.out _ hB5.out).1, (hK.out _ hB5.out).2.1, (hK.out _ hB5.out).2.2.1⟩ | exact ⟨hB4.out, (hK.out _ hB4.out).1, (hK.out _ hB4.out).2.1, (hK.out _ hB4.out).2.2.1⟩ | exact ⟨hB3.out, (hK.out _ hB3.out).1, (hK.out _ hB3.out).2.1, (hK.out _ hB3.out).2.2.1⟩ | exact ⟨hB2.out, (hK.out _ hB2.out).1, (hK.out _ hB2.out).2.1, (hK.out _ hB2.out).2.2.1⟩ | exact ⟨hB1.out, (hK.out _ hB1.out).1, (hK.out _ hB1.out).2.1, (hK.out _ hB1.out).2.2.1⟩ | exact ⟨(Below.refl _ _).drew, (hK.out _ (Below.refl _ _).drew).1, (hK.out _ (Below.refl _ _).drew).2.1, (hK.out _ (Below.refl _ _).drew).2.2.1⟩ | go_keep)
                  (first
                    | (go_at_call 40; refine (Hfi.out _ (Below.refl _ _).drew).mono ?_; rintro e wa ⟨v1, rfl, ba, t1⟩; have T1 := Lib.hid t1; have hB1 := Lib.hid ((Below.refl W7.heap.size W7).drew.trans ba); clear ba t1)
                    | (have _t := j1; go_at_call 28; refine (syms_eq wa _ _ _ _ true (by simp) (by first | omega | (rw [List.length_take]; omega) | simp) (by first | omega | (rw [List.length_take]; omega) | simp) T1.out (Hs1.out _ hB1.out)).mono ?_; rintro e wb ⟨rfl, ba⟩; have hB2 := Lib.hid (hB1.out.trans (ba.mono hB1.out.size)); clear ba T1 j1)
                    | (have _t := j2; go_at_call 37; refine (Hli.out _ hB2.out).mono ?_; rintro e wc ⟨v2, rfl, ba, t1⟩; have T2 := Lib.hid t1; have hB3 := Lib.hid (hB2.out.trans (ba.mono hB2.out.size)); clear ba t1 j2)
                    | (have _t := j3; go_at_call 28; refine (syms_eq wc _ _ _ _ true (by simp) (by first | omega | simp) (by first | omega | simp) T2.out (Hso.out _ hB3.out)).mono ?_; rintro e wd ⟨rfl, ba⟩; have hB4 := Lib.hid (hB3.out.trans (ba.mono hB3.out.size)); clear ba T2 j3)
                    | (go_at_call 41; refine (from_any wd s a).mono ?_; rintro e we ⟨rfl, rfl⟩; have hB5 := Lib.hid ((hB4.out.alloc hB4.out.size (.cells #[.pointer (some ⟨s, 0, none⟩)] 23)).alloc (by have := hB4.out.size; simp; omega) (.cells #[.int .i64 a.k, .string a.t, .int .i64 a.n] 26)))
                    | (go_at_call 37; refine (Hlf.out wd hB4.out).mono ?_; rintro e wf ⟨v3, rfl, ba, t1⟩; have T3 := Lib.hid t1; have hB6 := Lib.hid (hB5.out.trans (ba.mono hB5.out.size)); clear ba t1)
                    | (go_at_call 28; refine (syms_eq wf _ _ _ _ true (by rw [HSd.out]; simp) (by rw [HSd.out]; first | omega | (rw [List.length_drop]; omega) | simp) (by first | omega | (rw [List.length_drop]; omega) | simp) T3.out (Hs3.out _ hB6.out)).mono ?_; rintro e wg ⟨rfl, ba⟩; have hB7 := Lib.hid (hB6.out.trans (ba.mono hB6.out.size)); clear ba T3)
                    | (go_at_call 16; refine (wakes_any wg).mono ?_; rintro e wh ⟨rfl, ba⟩; have hB8 := Lib.hid (hB7.out.trans (ba.mono hB7.out.size)); clear ba))
                go_wp2_with fail
                go_ret
                exact ⟨rfl, bb.trans (hB8.out.mono bb.size)⟩
              · obtain rfl : kk = X.length := by omega
                obtain rfl : cr = X.length := by omega
                have Hs3 : Hid (∀ w', Below W7.heap.size W7 w' → SliceAt encS 3 w' (.slice (some ⟨ob, ooff, none⟩) 0 0) (X.drop X.length)) := Lib.hid (fun w' h => .inr ⟨ob, ooff, 0, by simp, Nat.lt_of_lt_of_le hob h.size, by simp, fun i hi => by simp at hi⟩)
                go_wp2_with fail
                refine Hall.out.mono ?_
                rintro e w8 ⟨rfl, rfl⟩
                rw [← HW7.out, ← HB7.out]
                go_wp2_with fail
                have j1 : Hid (0 = 0) := Lib.hid rfl
                have j2 : Hid (0 = 0) := Lib.hid rfl
                have j3 : Hid (0 = 0) := Lib.hid rfl
                go_region_held3 (fun w' => Below W7.heap.size W7 w' ∧ w'.cell? ⟨w.heap.size, 0, none⟩ = some (.int .i64 a.k) ∧ w'.cell? ⟨w.heap.size, 1, none⟩ = some (.string a.t) ∧ w'.cell? ⟨w.heap.size, 2, none⟩ = some (.int .i64 a.n))
                  (first | exact ⟨hB8.out, (hK.out _ hB8.out).1, (hK.out _ hB8.out).2.1, (hK.out _ hB8.out).2.2.1⟩ | exact ⟨hB7.out, (hK.out _ hB7.out).1, (hK.out _ hB7.out).2.1, (hK.out _ hB7.out).2.2.1⟩ | exact ⟨hB6.out, (hK.out _ hB6.out).1, (hK.out _ hB6.out).2.1, (hK.out _ hB6.out).2.2.1⟩ | exact ⟨hB5.out, (hK.out _ hB5.out).1, (hK.out _ hB5.out).2.1, (hK.out _ hB5.out).2.2.1⟩ | exact ⟨hB4.out, (hK.out _ hB4.out).1, (hK.out _ hB4.out).2.1, (hK.out _ hB4.out).2.2.1⟩ | exact ⟨hB3.out, (hK.out _ hB3.out).1, (hK.out _ hB3.out).2.1, (hK.out _ hB3.out).2.2.1⟩ | exact ⟨hB2.out, (hK.out _ hB2.out).1, (hK.out _ hB2.out).2.1, (hK.out _ hB2.out).2.2.1⟩ | exact ⟨hB1.out, (hK.out _ hB1.out).1, (hK.out _ hB1.out).2.1, (hK.out _ hB1.out).2.2.1⟩ | exact ⟨(Below.refl _ _).drew, (hK.out _ (Below.refl _ _).drew).1, (hK.out _ (Below.refl _ _).drew).2.1, (hK.out _ (Below.refl _ _).drew).2.2.1⟩ | go_keep)
                  (first
                    | (go_at_call 40; refine (Hfi.out _ (Below.refl _ _).drew).mono ?_; rintro e wa ⟨v1, rfl, ba, t1⟩; have T1 := Lib.hid t1; have hB1 := Lib.hid ((Below.refl W7.heap.size W7).drew.trans ba); clear ba t1)
                    | (have _t := j1; go_at_call 28; refine (syms_eq wa _ _ _ _ true (by simp) (by first | omega | (rw [List.length_take]; omega) | simp) (by first | omega | (rw [List.length_take]; omega) | simp) T1.out (Hs1.out _ hB1.out)).mono ?_; rintro e wb ⟨rfl, ba⟩; have hB2 := Lib.hid (hB1.out.trans (ba.mono hB1.out.size)); clear ba T1 j1)
                    | (have _t := j2; go_at_call 37; refine (Hli.out _ hB2.out).mono ?_; rintro e wc ⟨v2, rfl, ba, t1⟩; have T2 := Lib.hid t1; have hB3 := Lib.hid (hB2.out.trans (ba.mono hB2.out.size)); clear ba t1 j2)
                    | (have _t := j3; go_at_call 28; refine (syms_eq wc _ _ _ _ true (by simp) (by first | omega | simp) (by first | omega | simp) T2.out (Hso.out _ hB3.out)).mono ?_; rintro e wd ⟨rfl, ba⟩; have hB4 := Lib.hid (hB3.out.trans (ba.mono hB3.out.size)); clear ba T2 j3)
                    | (go_at_call 41; refine (from_any wd s a).mono ?_; rintro e we ⟨rfl, rfl⟩; have hB5 := Lib.hid ((hB4.out.alloc hB4.out.size (.cells #[.pointer (some ⟨s, 0, none⟩)] 23)).alloc (by have := hB4.out.size; simp; omega) (.cells #[.int .i64 a.k, .string a.t, .int .i64 a.n] 26)))
                    | (go_at_call 37; refine (Hlf.out wd hB4.out).mono ?_; rintro e wf ⟨v3, rfl, ba, t1⟩; have T3 := Lib.hid t1; have hB6 := Lib.hid (hB5.out.trans (ba.mono hB5.out.size)); clear ba t1)
                    | (go_at_call 28; refine (syms_eq wf _ _ _ _ true (by rw [HSd.out]; simp) (by rw [HSd.out]; first | omega | (rw [List.length_drop]; omega) | simp) (by first | omega | (rw [List.length_drop]; omega) | simp) T3.out (Hs3.out _ hB6.out)).mono ?_; rintro e wg ⟨rfl, ba⟩; have hB7 := Lib.hid (hB6.out.trans (ba.mono hB6.out.size)); clear ba T3)
                    | (go_at_call 16; refine (wakes_any wg).mono ?_; rintro e wh ⟨rfl, ba⟩; have hB8 := Lib.hid (hB7.out.trans (ba.mono hB7.out.size)); clear ba))
                go_wp2_with fail
                go_ret
                exact ⟨rfl, bb.trans (hB8.out.mono bb.size)⟩
            · have Hs1 : Hid (∀ w', Below W7.heap.size W7 w' → SliceAt encS 3 w' (.slice (some ⟨ob, ooff, none⟩) X.length cr) (X.take m)) := Lib.hid (fun w' h => by
                have := sub_take (n := X.length) (CellsAt.mono HC.out hob h) (Nat.lt_of_lt_of_le hob h.size) (Nat.le_refl _) ⟨hc1, show cr ≤ maxLen by unfold maxLen; omega⟩
                rw [List.take_length] at this
                rw [List.take_of_length_le (by omega)]
                exact this)
              have hmi : ¬ (m : Int) ≤ (X.length : Int) := by omega
              have hmc : (X.length : Int) ≤ (cr : Int) := by omega
              by_cases hkc : kk < cr
              · have Hs3 := Lib.hid (fun w' (h : Below W7.heap.size W7 w') => sub_drop (n := kk) (CellsAt.mono HC.out hob h) (Nat.lt_of_lt_of_le hob h.size) ⟨hc1, show cr ≤ maxLen by unfold maxLen; omega⟩)
                go_wp2_with fail
                refine Hall.out.mono ?_
                rintro e w8 ⟨rfl, rfl⟩
                rw [← HW7.out, ← HB7.out]
                go_wp2_with fail
                have j1 : Hid (0 = 0) := Lib.hid rfl
                have j2 : Hid (0 = 0) := Lib.hid rfl
                have j3 : Hid (0 = 0) := Lib.hid rfl
                go_region_held3 (fun w' => Below W7.heap.size W7 w' ∧ w'.cell? ⟨w.heap.size, 0, none⟩ = some (.int .i64 a.k) ∧ w'.cell? ⟨w.heap.size, 1, none⟩ = some (.string a.t) ∧ w'.cell? ⟨w.heap.size, 2, none⟩ = some (.int .i64 a.n))
                  (first | exact ⟨hB8.out, (hK.out _ hB8.out).1, (hK.out _ hB8.out).2.1, (hK.out _ hB8.out).2.2.1⟩ | exact ⟨hB7.out, (hK.out _ hB7.out).1, (hK.out _ hB7.out).2.1, (hK.out _ hB7.out).2.2.1⟩ | exact ⟨hB6.out, (hK.out _ hB6.out).1, (hK.out _ hB6.out).2.1, (hK.out _ hB6.out).2.2.1⟩ | exact ⟨hB5.out, (hK.out _ hB5.out).1, (hK.out _ hB5.out).2.1, (hK.out _ hB5.out).2.2.1⟩ | exact ⟨hB4.out, (hK.out _ hB4.out).1, (hK.out _ hB4.out).2.1, (hK.out _ hB4.out).2.2.1⟩ | exact ⟨hB3.out, (hK.out _ hB3.out).1, (hK.out _ hB3.out).2.1, (hK.out _ hB3.out).2.2.1⟩ | exact ⟨hB2.out, (hK.out _ hB2.out).1, (hK.out _ hB2.out).2.1, (hK.out _ hB2.out).2.2.1⟩ | exact ⟨hB1.out, (hK.out _ hB1.out).1, (hK.out _ hB1.out).2.1, (hK.out _ hB1.out).2.2.1⟩ | exact ⟨(Below.refl _ _).drew, (hK.out _ (Below.refl _ _).drew).1, (hK.out _ (Below.refl _ _).drew).2.1, (hK.out _ (Below.refl _ _).drew).2.2.1⟩ | go_keep)
                  (first
                    | (go_at_call 40; refine (Hfi.out _ (Below.refl _ _).drew).mono ?_; rintro e wa ⟨v1, rfl, ba, t1⟩; have T1 := Lib.hid t1; have hB1 := Lib.hid ((Below.refl W7.heap.size W7).drew.trans ba); clear ba t1)
                    | (have _t := j1; go_at_call 28; refine (syms_eq wa _ _ _ _ true (by simp) (by first | omega | (rw [List.length_take]; omega) | simp) (by first | omega | (rw [List.length_take]; omega) | simp) T1.out (Hs1.out _ hB1.out)).mono ?_; rintro e wb ⟨rfl, ba⟩; have hB2 := Lib.hid (hB1.out.trans (ba.mono hB1.out.size)); clear ba T1 j1)
                    | (have _t := j2; go_at_call 37; refine (Hli.out _ hB2.out).mono ?_; rintro e wc ⟨v2, rfl, ba, t1⟩; have T2 := Lib.hid t1; have hB3 := Lib.hid (hB2.out.trans (ba.mono hB2.out.size)); clear ba t1 j2)
                    | (have _t := j3; go_at_call 28; refine (syms_eq wc _ _ _ _ true (by simp) (by first | omega | simp) (by first | omega | simp) T2.out (Hso.out _ hB3.out)).mono ?_; rintro e wd ⟨rfl, ba⟩; have hB4 := Lib.hid (hB3.out.trans (ba.mono hB3.out.size)); clear ba T2 j3)
                    | (go_at_call 41; refine (from_any wd s a).mono ?_; rintro e we ⟨rfl, rfl⟩; have hB5 := Lib.hid ((hB4.out.alloc hB4.out.size (.cells #[.pointer (some ⟨s, 0, none⟩)] 23)).alloc (by have := hB4.out.size; simp; omega) (.cells #[.int .i64 a.k, .string a.t, .int .i64 a.n] 26)))
                    | (go_at_call 37; refine (Hlf.out wd hB4.out).mono ?_; rintro e wf ⟨v3, rfl, ba, t1⟩; have T3 := Lib.hid t1; have hB6 := Lib.hid (hB5.out.trans (ba.mono hB5.out.size)); clear ba t1)
                    | (go_at_call 28; refine (syms_eq wf _ _ _ _ true (by rw [HSd.out]; simp) (by rw [HSd.out]; first | omega | (rw [List.length_drop]; omega) | simp) (by first | omega | (rw [List.length_drop]; omega) | simp) T3.out (Hs3.out _ hB6.out)).mono ?_; rintro e wg ⟨rfl, ba⟩; have hB7 := Lib.hid (hB6.out.trans (ba.mono hB6.out.size)); clear ba T3)
                    | (go_at_call 16; refine (wakes_any wg).mono ?_; rintro e wh ⟨rfl, ba⟩; have hB8 := Lib.hid (hB7.out.trans (ba.mono hB7.out.size)); clear ba))
                go_wp2_with fail
                go_ret
                exact ⟨rfl, bb.trans (hB8.out.mono bb.size)⟩
              · obtain rfl : kk = X.length := by omega
                obtain rfl : cr = X.length := by omega
                have Hs3 : Hid (∀ w', Below W7.heap.size W7 w' → SliceAt encS 3 w' (.slice (some ⟨ob, ooff, none⟩) 0 0) (X.drop X.length)) := Lib.hid (fun w' h => .inr ⟨ob, ooff, 0, by simp, Nat.lt_of_lt_of_le hob h.size, by simp, fun i hi => by simp at hi⟩)
                go_wp2_with fail
                refine Hall.out.mono ?_
                rintro e w8 ⟨rfl, rfl⟩
                rw [← HW7.out, ← HB7.out]
                go_wp2_with fail
                have j1 : Hid (0 = 0) := Lib.hid rfl
                have j2 : Hid (0 = 0) := Lib.hid rfl
                have j3 : Hid (0 = 0) := Lib.hid rfl
                go_region_held3 (fun w' => Below W7.heap.size W7 w' ∧ w'.cell? ⟨w.heap.size, 0, none⟩ = some (.int .i64 a.k) ∧ w'.cell? ⟨w.heap.size, 1, none⟩ = some (.string a.t) ∧ w'.cell? ⟨w.heap.size, 2, none⟩ = some (.int .i64 a.n))
                  (first | exact ⟨hB8.out, (hK.out _ hB8.out).1, (hK.out _ hB8.out).2.1, (hK.out _ hB8.out).2.2.1⟩ | exact ⟨hB7.out, (hK.out _ hB7.out).1, (hK.out _ hB7.out).2.1, (hK.out _ hB7.out).2.2.1⟩ | exact ⟨hB6.out, (hK.out _ hB6.out).1, (hK.out _ hB6.out).2.1, (hK.out _ hB6.out).2.2.1⟩ | exact ⟨hB5.out, (hK.out _ hB5.out).1, (hK.out _ hB5.out).2.1, (hK.out _ hB5.out).2.2.1⟩ | exact ⟨hB4.out, (hK.out _ hB4.out).1, (hK.out _ hB4.out).2.1, (hK.out _ hB4.out).2.2.1⟩ | exact ⟨hB3.out, (hK.out _ hB3.out).1, (hK.out _ hB3.out).2.1, (hK.out _ hB3.out).2.2.1⟩ | exact ⟨hB2.out, (hK.out _ hB2.out).1, (hK.out _ hB2.out).2.1, (hK.out _ hB2.out).2.2.1⟩ | exact ⟨hB1.out, (hK.out _ hB1.out).1, (hK.out _ hB1.out).2.1, (hK.out _ hB1.out).2.2.1⟩ | exact ⟨(Below.refl _ _).drew, (hK.out _ (Below.refl _ _).drew).1, (hK.out _ (Below.refl _ _).drew).2.1, (hK.out _ (Below.refl _ _).drew).2.2.1⟩ | go_keep)
                  (first
                    | (go_at_call 40; refine (Hfi.out _ (Below.refl _ _).drew).mono ?_; rintro e wa ⟨v1, rfl, ba, t1⟩; have T1 := Lib.hid t1; have hB1 := Lib.hid ((Below.refl W7.heap.size W7).drew.trans ba); clear ba t1)
                    | (have _t := j1; go_at_call 28; refine (syms_eq wa _ _ _ _ true (by simp) (by first | omega | (rw [List.length_take]; omega) | simp) (by first | omega | (rw [List.length_take]; omega) | simp) T1.out (Hs1.out _ hB1.out)).mono ?_; rintro e wb ⟨rfl, ba⟩; have hB2 := Lib.hid (hB1.out.trans (ba.mono hB1.out.size)); clear ba T1 j1)
                    | (have _t := j2; go_at_call 37; refine (Hli.out _ hB2.out).mono ?_; rintro e wc ⟨v2, rfl, ba, t1⟩; have T2 := Lib.hid t1; have hB3 := Lib.hid (hB2.out.trans (ba.mono hB2.out.size)); clear ba t1 j2)
                    | (have _t := j3; go_at_call 28; refine (syms_eq wc _ _ _ _ true (by simp) (by first | omega | simp) (by first | omega | simp) T2.out (Hso.out _ hB3.out)).mono ?_; rintro e wd ⟨rfl, ba⟩; have hB4 := Lib.hid (hB3.out.trans (ba.mono hB3.out.size)); clear ba T2 j3)
                    | (go_at_call 41; refine (from_any wd s a).mono ?_; rintro e we ⟨rfl, rfl⟩; have hB5 := Lib.hid ((hB4.out.alloc hB4.out.size (.cells #[.pointer (some ⟨s, 0, none⟩)] 23)).alloc (by have := hB4.out.size; simp; omega) (.cells #[.int .i64 a.k, .string a.t, .int .i64 a.n] 26)))
                    | (go_at_call 37; refine (Hlf.out wd hB4.out).mono ?_; rintro e wf ⟨v3, rfl, ba, t1⟩; have T3 := Lib.hid t1; have hB6 := Lib.hid (hB5.out.trans (ba.mono hB5.out.size)); clear ba t1)
                    | (go_at_call 28; refine (syms_eq wf _ _ _ _ true (by rw [HSd.out]; simp) (by rw [HSd.out]; first | omega | (rw [List.length_drop]; omega) | simp) (by first | omega | (rw [List.length_drop]; omega) | simp) T3.out (Hs3.out _ hB6.out)).mono ?_; rintro e wg ⟨rfl, ba⟩; have hB7 := Lib.hid (hB6.out.trans (ba.mono hB6.out.size)); clear ba T3)
                    | (go_at_call 16; refine (wakes_any wg).mono ?_; rintro e wh ⟨rfl, ba⟩; have hB8 := Lib.hid (hB7.out.trans (ba.mono hB7.out.size)); clear ba))
                go_wp2_with fail
                go_ret
                exact ⟨rfl, bb.trans (hB8.out.mono bb.size)⟩
end Go.Proofs.Ytggijlblipmfaaa
