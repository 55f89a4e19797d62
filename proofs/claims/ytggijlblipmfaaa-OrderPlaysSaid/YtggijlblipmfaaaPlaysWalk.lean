/-
  The walk over OrderPlays.
-/
import Derived.Test.YtggijlblipmfaaaRefLawS
import Derived.Test.YtggijlblipmfaaaJoinsWalk
import Derived.Test.YtggijlblipmfaaaPlaceS
namespace Go.Proofs.Ytggijlblipmfaaa
set_option linter.unusedVariables false
open Go.RowKit
/-- The cells of a list that came in. -/
def ArgK {α : Type} (enc : α → List Value) (n : Nat) (w : World) (p : Option Addr) (xs : List α) : Prop :=
  0 < xs.length → ∃ b off, p = some ⟨b, off, none⟩ ∧ b < w.heap.size ∧ ∀ i (h : i < xs.length) j u, (enc xs[i])[j]? = some u → w.cell? ⟨b, off + i * n + j, none⟩ = some u
structure Ac where
  d : Int
  n : Int
  s : Sy
def encA (a : Ac) : List Value := [.int .i64 a.d, .int .i64 a.n, .int .i64 a.s.k, .string a.s.t, .int .i64 a.s.n]
theorem within6 (w : World) (v : Int) : Calls Try.prog 18 #[.int .i64 v, .int .i64 6] w fun e w' =>
    (e = .returned (.int .i64 0) ∨ e = .returned (.int .i64 1) ∨ e = .returned (.int .i64 2) ∨ e = .returned (.int .i64 3) ∨ e = .returned (.int .i64 4) ∨ e = .returned (.int .i64 5)) ∧ w' = w := by
  refine (within_full w v 6 (by omega) (by omega)).mono ?_
  rintro e w' ⟨⟨m, hm, rfl⟩, rfl⟩
  refine ⟨?_, rfl⟩
  match m, hm with
  | 0, _ => exact .inl rfl
  | 1, _ => exact .inr (.inl rfl)
  | 2, _ => exact .inr (.inr (.inl rfl))
  | 3, _ => exact .inr (.inr (.inr (.inl rfl)))
  | 4, _ => exact .inr (.inr (.inr (.inr (.inl rfl))))
  | 5, _ => exact .inr (.inr (.inr (.inr (.inr rfl))))
theorem get_yes {x : Sy} {w : World} {b : Nat} {xs : List Sy} (h : SetS w b xs) (hh : has cmpY x xs = true) : Calls Try.prog 23 #[.pointer (some ⟨b, 0, none⟩), .agg #[.int .i64 x.k, .string x.t, .int .i64 x.n]] w fun e w' => Below w.heap.size w w' ∧ e = .returned (.tuple #[.agg #[.int .i64 x.k, .string x.t, .int .i64 x.n], .bool true]) := by
  have := get_setS x w b xs h
  rw [look_of_has (fun a b => cmpY_eq) hh] at this
  exact this
theorem get_no {x : Sy} {w : World} {b : Nat} {xs : List Sy} (h : SetS w b xs) (hh : has cmpY x xs = false) : Calls Try.prog 23 #[.pointer (some ⟨b, 0, none⟩), .agg #[.int .i64 x.k, .string x.t, .int .i64 x.n]] w fun e w' => Below w.heap.size w w' ∧ e = .returned (.tuple #[.agg #[.int .i64 0, .string ⟨#[]⟩, .int .i64 0], .bool false]) := by
  have := get_setS x w b xs h
  have hn : look cmpY x xs = none := by
    have h2 := has_look (c := cmpY) (x := x) xs
    rw [hh] at h2
    cases hl : look cmpY x xs with
    | none => rfl
    | some y => rw [hl] at h2; cases h2
  rw [hn] at this
  exact this
theorem at_yes {n : Nat} {w : World} {b : Nat} {xs : List Sy} (h : SetS w b xs) (h1 : n < xs.length) (hz : xs.length ≤ 1000000) :
    Calls Try.prog 26 #[.pointer (some ⟨b, 0, none⟩), .int .i64 n] w fun e w' => Below w.heap.size w w' ∧ e = .returned (.tuple #[.agg #[.int .i64 xs[n].k, .string xs[n].t, .int .i64 xs[n].n], .bool true]) := by
  have := at_set n w b xs h (by omega) (by omega) (by omega)
  have e : getI xs (n : Int) = some xs[n] := by unfold getI; rw [if_neg (by omega)]; simp [h1]
  rw [e] at this
  exact this
theorem at_no {i : Int} {w : World} {b : Nat} {xs : List Sy} (h : SetS w b xs) (hn : ¬ (0 ≤ i ∧ i < xs.length)) (hi : -9223372036854775808 ≤ i) (hi2 : i ≤ 9223372036854775807) (hz : xs.length ≤ 100000000) :
    Calls Try.prog 26 #[.pointer (some ⟨b, 0, none⟩), .int .i64 i] w fun e w' => Below w.heap.size w w' ∧ e = .returned (.tuple #[.agg #[.int .i64 0, .string ⟨#[]⟩, .int .i64 0], .bool false]) := by
  have := at_set i w b xs h hi hi2 hz
  have e : getI xs i = none := by
    unfold getI
    by_cases h0 : i < 0
    · rw [if_pos h0]
    · rw [if_neg h0]; simp; omega
  rw [e] at this
  exact this
set_option maxRecDepth 100000 in
set_option maxHeartbeats 16000000 in
theorem plays_walk (w : World) (p : Option Addr) (c : Nat) (A : List Ac) (hA : ArgK encA 5 w p A) (hr : ∀ i (h : i < A.length), -9223372036854775808 ≤ A[i].n ∧ A[i].n ≤ 9223372036854775807) (l1 : A.length ≤ 200) :
    Calls Try.prog 3 #[.slice p A.length c] w fun e w' => e = .returned (.bool true) ∧ Below w.heap.size w w' := by
  have hd1 : decide (200 < (A.length : Int)) = false := by simp; omega
  have HA := Lib.hid hA
  have HR := Lib.hid hr
  clear hA hr
  go_enter Try.func3, Try.ntmps3
  go_wp2_with fail
  refine (new_nilS w).mono ?_
  rintro e w1 ⟨s, rfl, hs, b1, ss⟩
  have ss := Lib.hid ss
  go_wp2_with fail
  go_loopw [4, 5] (fun v i wr => ∃ (k : Nat) (X : List Sy), k ≤ A.length ∧ i = .int .i64 k ∧ X.length ≤ k ∧ Below w.heap.size w wr ∧ Hid (SetS wr s X) ∧ Hid (SliceAt encS 3 wr v X)) (fun _ i _ => A.length - (intOf i).toNat)
  case atStart => exact ⟨0, [], Nat.zero_le _, rfl, Nat.le_refl _, b1, ss, Lib.hid (.inl ⟨rfl, rfl⟩)⟩
  case round =>
    clear ss b1
    obtain ⟨k, X, hk, rfl, hXk, bb, ss, sv⟩ := hrel
    obtain ⟨pv, cv, rfl⟩ := slice_form sv.out
    by_cases hlt : k < A.length
    · obtain ⟨b, off, rfl, hb, hcell⟩ := HA.out (by omega)
      have hc := fun w' (h : Below w.heap.size w w') j u (hj : (encA A[k])[j]? = some u) => (h.cell (p := ⟨b, off + k * 5 + j, none⟩) hb).trans (hcell k hlt j u hj)
      have hrk := HR.out k hlt
      generalize A[k] = a at hc hrk
      obtain ⟨ad, an, x⟩ := a
      simp only at hrk
      obtain ⟨hn1, hn2⟩ := hrk
      have hc5 : ∀ w', Below w.heap.size w w' → w'.cell? ⟨b, off + k * 5, none⟩ = some (.int .i64 ad) ∧ w'.cell? ⟨b, off + k * 5 + 1, none⟩ = some (.int .i64 an) ∧ w'.cell? ⟨b, off + k * 5 + 2, none⟩ = some (.int .i64 x.k) ∧ w'.cell? ⟨b, off + k * 5 + 3, none⟩ = some (.string x.t) ∧ w'.cell? ⟨b, off + k * 5 + 4, none⟩ = some (.int .i64 x.n) :=
        fun w' h => ⟨hc w' h 0 _ rfl, hc w' h 1 _ rfl, hc w' h 2 _ rfl, hc w' h 3 _ rfl, hc w' h 4 _ rfl⟩
      have HC := Lib.hid hc5
      have hki : (k : Int) < (A.length : Int) := by omega
      clear hc hc5 hcell
      have hsB : s < wr.heap.size := IsSet.lt ss.out
      have ba : Below wr.heap.size wr (wr.alloc (.cells #[.int .i64 x.k, .string x.t, .int .i64 x.n] 26)) := by go_grown
      have bx : Hid ((wr.alloc (.cells #[.int .i64 x.k, .string x.t, .int .i64 x.n] 26)).heap[wr.heap.size]? = some (.cells #[.int .i64 x.k, .string x.t, .int .i64 x.n] 26 (0, 0))) := Lib.hid (new_at rfl)
      have ss := Lib.hid (IsSet.mono ss.out ba)
      have sv := Lib.hid (SliceAt.mono sv.out ba)
      obtain ⟨c0, c1, c2, c3, c4⟩ := HC.out _ bb
      have bb := bb.trans (ba.mono bb.size)
      clear ba
      obtain ⟨h, hh⟩ : ∃ h, has cmpY x X = h := ⟨_, rfl⟩
      have Hh := Lib.hid hh
      have hhas := fun W v (hv : SliceAt encS 3 W v X) => has_ref W v X x hv (by omega)
      rw [hh] at hhas
      have Hhas := Lib.hid hhas
      clear hh hhas
      go_wp2_with fail
      refine (Hhas.out _ _ sv.out).mono ?_
      rintro e wa ⟨rfl, ba⟩
      clear c0 c1 c2 c3 c4 Hhas
      have bx := Lib.hid ((ba.block _ (heap_lt bx.out)).trans bx.out)
      have ss := Lib.hid (IsSet.mono ss.out ba)
      have sv := Lib.hid (SliceAt.mono sv.out ba)
      have bb := bb.trans (ba.mono bb.size)
      clear ba
      obtain ⟨c0, c1, c2, c3, c4⟩ := HC.out _ bb
      go_wp2_with fail
      refine (within6 wa ad).mono ?_
      clear c0 c1 c2 c3 c4
      rintro e wb ⟨(rfl | rfl | rfl | rfl | rfl | rfl), rfl⟩
      · have hp := put_anyS wb s x X ss.out (by omega)
        unfold PutOutS at hp
        rw [Hh.out] at hp
        have Hp := Lib.hid hp
        clear hp
        cases h
        all_goals
          obtain ⟨x0, x1, x2, -, -, -, -⟩ := box_cells bx.out (Below.refl _ _)
          go_wp2_with fail
          refine Hp.out.mono ?_
          rintro e wc ⟨rfl, hg, ss2⟩
          obtain ⟨rp, rT, hroot, -, -, -⟩ := ss.out
          have bx := Lib.hid ((hg.block _ (heap_lt bx.out) (by simp; omega)).trans bx.out)
          have sv := Lib.hid (SliceAt.but sv.out hg hroot)
          have bb := bb.trans (belowg hg bb.size (by omega))
          have ss := Lib.hid ss2
          clear hg hroot
          clear x0 x1 x2 Hp
          obtain ⟨x0, x1, x2, -, -, -, -⟩ := box_cells bx.out (Below.refl _ _)
          go_wp2_with fail
          refine (put_ref wc _ X x sv.out (by omega)).mono ?_
          rintro e wd ⟨v1, rfl, ba, s1⟩
          obtain ⟨pv1, cv1, rfl⟩ := slice_form s1
          have hle := ins_length (c := cmpY) x X
          clear sv x0 x1 x2
          have sv := Lib.hid s1
          have ss := Lib.hid (IsSet.mono ss.out ba)
          have bb := bb.trans (ba.mono bb.size)
          clear s1 ba
          clear bx
          go_wp2_with fail
          refine (len_setS _ s _ ss.out).mono ?_
          rintro e wy ⟨rfl, rfl⟩
          go_wp2_with fail
          go_roundw
          case rel => exact ⟨k + 1, _, by omega, by go_num, by omega, bb, ss, sv⟩
          case measure => simp [intOf]; omega
      · have hp := put_anyS wb s x X ss.out (by omega)
        unfold PutOutS at hp
        rw [Hh.out] at hp
        have Hp := Lib.hid hp
        clear hp
        cases h
        all_goals
          obtain ⟨x0, x1, x2, -, -, -, -⟩ := box_cells bx.out (Below.refl _ _)
          go_wp2_with fail
          refine Hp.out.mono ?_
          rintro e wc ⟨rfl, hg, ss2⟩
          obtain ⟨rp, rT, hroot, -, -, -⟩ := ss.out
          have bx := Lib.hid ((hg.block _ (heap_lt bx.out) (by simp; omega)).trans bx.out)
          have sv := Lib.hid (SliceAt.but sv.out hg hroot)
          have bb := bb.trans (belowg hg bb.size (by omega))
          have ss := Lib.hid ss2
          clear hg hroot
          clear x0 x1 x2 Hp
          obtain ⟨x0, x1, x2, -, -, -, -⟩ := box_cells bx.out (Below.refl _ _)
          go_wp2_with fail
          refine (put_ref wc _ X x sv.out (by omega)).mono ?_
          rintro e wd ⟨v1, rfl, ba, s1⟩
          obtain ⟨pv1, cv1, rfl⟩ := slice_form s1
          have hle := ins_length (c := cmpY) x X
          clear sv x0 x1 x2
          have sv := Lib.hid s1
          have ss := Lib.hid (IsSet.mono ss.out ba)
          have bb := bb.trans (ba.mono bb.size)
          clear s1 ba
          clear bx
          go_wp2_with fail
          refine (len_setS _ s _ ss.out).mono ?_
          rintro e wy ⟨rfl, rfl⟩
          go_wp2_with fail
          go_roundw
          case rel => exact ⟨k + 1, _, by omega, by go_num, by omega, bb, ss, sv⟩
          case measure => simp [intOf]; omega
      · have hp := drop_anyS wb s x X ss.out (by omega)
        unfold DropOutS at hp
        rw [Hh.out] at hp
        have Hp := Lib.hid hp
        clear hp
        cases h
        all_goals
          obtain ⟨x0, x1, x2, -, -, -, -⟩ := box_cells bx.out (Below.refl _ _)
          go_wp2_with fail
          refine Hp.out.mono ?_
          rintro e wc ⟨rfl, hg, ss2⟩
          obtain ⟨rp, rT, hroot, -, -, -⟩ := ss.out
          have bx := Lib.hid ((hg.block _ (heap_lt bx.out) (by simp; omega)).trans bx.out)
          have sv := Lib.hid (SliceAt.but sv.out hg hroot)
          have bb := bb.trans (belowg hg bb.size (by omega))
          have ss := Lib.hid ss2
          clear hg hroot
          clear x0 x1 x2 Hp
          obtain ⟨x0, x1, x2, -, -, -, -⟩ := box_cells bx.out (Below.refl _ _)
          go_wp2_with fail
          refine (without_ref wc _ X x sv.out (by omega)).mono ?_
          rintro e wd ⟨v1, rfl, ba, s1⟩
          obtain ⟨pv1, cv1, rfl⟩ := slice_form s1
          have hle := del_length (c := cmpY) x X
          clear sv x0 x1 x2
          have sv := Lib.hid s1
          have ss := Lib.hid (IsSet.mono ss.out ba)
          have bb := bb.trans (ba.mono bb.size)
          clear s1 ba
          clear bx
          go_wp2_with fail
          refine (len_setS _ s _ ss.out).mono ?_
          rintro e wy ⟨rfl, rfl⟩
          go_wp2_with fail
          go_roundw
          case rel => exact ⟨k + 1, _, by omega, by go_num, by omega, bb, ss, sv⟩
          case measure => simp [intOf]; omega
      · cases h
        · have hq := neY_no (x := zeroS) (y := zeroS) rfl
          simp only [zeroS] at hq
          obtain ⟨x0, x1, x2, -, -, -, -⟩ := box_cells bx.out (Below.refl _ _)
          go_wp2_with fail
          refine (get_no ss.out Hh.out).mono ?_
          rintro e wc ⟨ba, rfl⟩
          clear x0 x1 x2
          have bx := Lib.hid ((ba.block _ (heap_lt bx.out)).trans bx.out)
          have ss := Lib.hid (IsSet.mono ss.out ba)
          have sv := Lib.hid (SliceAt.mono sv.out ba)
          have bb := bb.trans (ba.mono bb.size)
          clear ba
          have ba : Below wc.heap.size wc (wc.alloc (.cells #[.int .i64 0, .string ⟨#[]⟩, .int .i64 0] 26)) := by go_grown
          have bx := Lib.hid ((ba.block _ (heap_lt bx.out)).trans bx.out)
          have ss := Lib.hid (IsSet.mono ss.out ba)
          have sv := Lib.hid (SliceAt.mono sv.out ba)
          have bb := bb.trans (ba.mono bb.size)
          clear ba
          obtain ⟨x0, x1, x2, -, -, -, -⟩ := box_cells bx.out (Below.refl _ _)
          go_wp2_with fail
          clear x0 x1 x2 hq
          clear bx
          go_wp2_with fail
          refine (len_setS _ s _ ss.out).mono ?_
          rintro e wy ⟨rfl, rfl⟩
          go_wp2_with fail
          go_roundw
          case rel => exact ⟨k + 1, _, by omega, by go_num, by omega, bb, ss, sv⟩
          case measure => simp [intOf]; omega
        · have hq := neY_no (x := x) (y := x) rfl
          obtain ⟨x0, x1, x2, -, -, -, -⟩ := box_cells bx.out (Below.refl _ _)
          go_wp2_with fail
          refine (get_yes ss.out Hh.out).mono ?_
          rintro e wc ⟨ba, rfl⟩
          clear x0 x1 x2
          have bx := Lib.hid ((ba.block _ (heap_lt bx.out)).trans bx.out)
          have ss := Lib.hid (IsSet.mono ss.out ba)
          have sv := Lib.hid (SliceAt.mono sv.out ba)
          have bb := bb.trans (ba.mono bb.size)
          clear ba
          have ba : Below wc.heap.size wc (wc.alloc (.cells #[.int .i64 x.k, .string x.t, .int .i64 x.n] 26)) := by go_grown
          have bx := Lib.hid ((ba.block _ (heap_lt bx.out)).trans bx.out)
          have ss := Lib.hid (IsSet.mono ss.out ba)
          have sv := Lib.hid (SliceAt.mono sv.out ba)
          have bb := bb.trans (ba.mono bb.size)
          clear ba
          obtain ⟨x0, x1, x2, -, -, -, -⟩ := box_cells bx.out (Below.refl _ _)
          go_wp2_with fail
          clear x0 x1 x2 hq
          clear bx
          go_wp2_with fail
          refine (len_setS _ s _ ss.out).mono ?_
          rintro e wy ⟨rfl, rfl⟩
          go_wp2_with fail
          go_roundw
          case rel => exact ⟨k + 1, _, by omega, by go_num, by omega, bb, ss, sv⟩
          case measure => simp [intOf]; omega
      · have hp := place_setS x wb s X ss.out (by omega)
        unfold PlaceOutS at hp
        rw [Hh.out] at hp
        have Hp := Lib.hid hp
        clear hp
        cases h
        all_goals
          obtain ⟨x0, x1, x2, -, -, -, -⟩ := box_cells bx.out (Below.refl _ _)
          go_wp2_with fail
          refine Hp.out.mono ?_
          rintro e wc ⟨ba, rfl⟩
          clear x0 x1 x2 Hp
          have bx := Lib.hid ((ba.block _ (heap_lt bx.out)).trans bx.out)
          have ss := Lib.hid (IsSet.mono ss.out ba)
          have sv := Lib.hid (SliceAt.mono sv.out ba)
          have bb := bb.trans (ba.mono bb.size)
          clear ba
          obtain ⟨x0, x1, x2, -, -, -, -⟩ := box_cells bx.out (Below.refl _ _)
          go_wp2_with fail
          refine (below_ref wc _ X x sv.out (by omega)).mono ?_
          rintro e wd ⟨rfl, ba⟩
          clear x0 x1 x2
          have bx := Lib.hid ((ba.block _ (heap_lt bx.out)).trans bx.out)
          have ss := Lib.hid (IsSet.mono ss.out ba)
          have sv := Lib.hid (SliceAt.mono sv.out ba)
          have bb := bb.trans (ba.mono bb.size)
          clear ba
          clear bx
          go_wp2_with fail
          refine (len_setS _ s _ ss.out).mono ?_
          rintro e wy ⟨rfl, rfl⟩
          go_wp2_with fail
          go_roundw
          case rel => exact ⟨k + 1, _, by omega, by go_num, by omega, bb, ss, sv⟩
          case measure => simp [intOf]; omega
      · clear Hh
        by_cases h0 : 0 ≤ an
        · obtain ⟨n, rfl⟩ := Int.eq_ofNat_of_zero_le h0
          by_cases h1 : n < X.length
          · have hat := fun W (h : SetS W s X) => at_yes h h1 (by omega)
            have hcx := fun W (h : SliceAt encS 3 W (.slice pv X.length cv) X) => slice_cells h (by omega)
            have hc3 := fun W b o (h : CellsAt W b o X) => h.three h1
            generalize X[n] = y at hat hc3
            have Hat := Lib.hid hat
            have Hcx := Lib.hid hcx
            have Hc3 := Lib.hid hc3
            have hq := neY_no (x := y) (y := y) rfl
            have hni : (n : Int) < (X.length : Int) := by omega
            have hnn : 0 ≤ (n : Int) := by omega
            clear hat hcx hc3
            obtain ⟨c0, c1, c2, c3, c4⟩ := HC.out _ bb
            clear c0 c2 c3 c4
            go_wp2_with fail
            refine (Hat.out _ ss.out).mono ?_
            rintro e wc ⟨ba, rfl⟩
            clear c1
            have bx := Lib.hid ((ba.block _ (heap_lt bx.out)).trans bx.out)
            have ss := Lib.hid (IsSet.mono ss.out ba)
            have sv := Lib.hid (SliceAt.mono sv.out ba)
            have bb := bb.trans (ba.mono bb.size)
            clear ba
            have ba : Below wc.heap.size wc (wc.alloc (.cells #[.int .i64 y.k, .string y.t, .int .i64 y.n] 26)) := by go_grown
            have bx := Lib.hid ((ba.block _ (heap_lt bx.out)).trans bx.out)
            have ss := Lib.hid (IsSet.mono ss.out ba)
            have sv := Lib.hid (SliceAt.mono sv.out ba)
            have bb := bb.trans (ba.mono bb.size)
            clear ba
            obtain ⟨c0, c1, c2, c3, c4⟩ := HC.out _ bb
            clear c0 c2 c3 c4
            obtain ⟨rb, ro, rfl, -, hrc⟩ := Hcx.out _ sv.out
            obtain ⟨d0, d1, d2⟩ := Hc3.out _ _ _ hrc
            clear hrc
            go_wp2_with fail
            go_quiet (fail)
            obtain ⟨wz, hWz⟩ : ∃ wz, wz = (wc.alloc (.cells #[.int .i64 y.k, .string y.t, .int .i64 y.n] 26)).drewN nq := ⟨_, rfl⟩
            have ba : Below (wc.alloc (.cells #[.int .i64 y.k, .string y.t, .int .i64 y.n] 26)).heap.size (wc.alloc (.cells #[.int .i64 y.k, .string y.t, .int .i64 y.n] 26)) wz := by rw [hWz]; exact bdN _ (Below.refl _ _)
            rw [← hWz]
            have bx := Lib.hid ((ba.block _ (heap_lt bx.out)).trans bx.out)
            have ss := Lib.hid (IsSet.mono ss.out ba)
            have sv := Lib.hid (SliceAt.mono sv.out ba)
            have bb := bb.trans (ba.mono bb.size)
            clear ba
            clear c1 hWz hq d0 d1 d2 Hat Hcx Hc3
            clear bx
            go_wp2_with fail
            refine (len_setS _ s _ ss.out).mono ?_
            rintro e wy ⟨rfl, rfl⟩
            go_wp2_with fail
            go_roundw
            case rel => exact ⟨k + 1, _, by omega, by go_num, by omega, bb, ss, sv⟩
            case measure => simp [intOf]; omega
          · have hq := neY_no (x := zeroS) (y := zeroS) rfl
            simp only [zeroS] at hq
            have hni : decide (n < X.length) = false := by simpa using h1
            have hnj : ¬ (n : Int) < (X.length : Int) := by omega
            have hnn : 0 ≤ (n : Int) := by omega
            obtain ⟨c0, c1, c2, c3, c4⟩ := HC.out _ bb
            clear c0 c2 c3 c4
            go_wp2_with fail
            refine (at_no (b := s) (xs := X) ss.out (by omega) hn1 hn2 (by omega)).mono ?_
            rintro e wc ⟨ba, rfl⟩
            clear c1
            have bx := Lib.hid ((ba.block _ (heap_lt bx.out)).trans bx.out)
            have ss := Lib.hid (IsSet.mono ss.out ba)
            have sv := Lib.hid (SliceAt.mono sv.out ba)
            have bb := bb.trans (ba.mono bb.size)
            clear ba
            have ba : Below wc.heap.size wc (wc.alloc (.cells #[.int .i64 0, .string ⟨#[]⟩, .int .i64 0] 26)) := by go_grown
            have bx := Lib.hid ((ba.block _ (heap_lt bx.out)).trans bx.out)
            have ss := Lib.hid (IsSet.mono ss.out ba)
            have sv := Lib.hid (SliceAt.mono sv.out ba)
            have bb := bb.trans (ba.mono bb.size)
            clear ba
            obtain ⟨c0, c1, c2, c3, c4⟩ := HC.out _ bb
            clear c0 c2 c3 c4
            go_wp2_with fail
            go_quiet (fail)
            obtain ⟨wz, hWz⟩ : ∃ wz, wz = (wc.alloc (.cells #[.int .i64 0, .string ⟨#[]⟩, .int .i64 0] 26)).drewN nq := ⟨_, rfl⟩
            have ba : Below (wc.alloc (.cells #[.int .i64 0, .string ⟨#[]⟩, .int .i64 0] 26)).heap.size (wc.alloc (.cells #[.int .i64 0, .string ⟨#[]⟩, .int .i64 0] 26)) wz := by rw [hWz]; exact bdN _ (Below.refl _ _)
            rw [← hWz]
            have bx := Lib.hid ((ba.block _ (heap_lt bx.out)).trans bx.out)
            have ss := Lib.hid (IsSet.mono ss.out ba)
            have sv := Lib.hid (SliceAt.mono sv.out ba)
            have bb := bb.trans (ba.mono bb.size)
            clear ba
            clear c1 hWz hq hni hnj
            clear bx
            go_wp2_with fail
            refine (len_setS _ s _ ss.out).mono ?_
            rintro e wy ⟨rfl, rfl⟩
            go_wp2_with fail
            go_roundw
            case rel => exact ⟨k + 1, _, by omega, by go_num, by omega, bb, ss, sv⟩
            case measure => simp [intOf]; omega
        · have hq := neY_no (x := zeroS) (y := zeroS) rfl
          simp only [zeroS] at hq
          have hnn : decide (0 ≤ an) = false := by simpa using h0
          obtain ⟨c0, c1, c2, c3, c4⟩ := HC.out _ bb
          clear c0 c2 c3 c4
          go_wp2_with fail
          refine (at_no (b := s) (xs := X) ss.out (by omega) hn1 hn2 (by omega)).mono ?_
          rintro e wc ⟨ba, rfl⟩
          clear c1
          have bx := Lib.hid ((ba.block _ (heap_lt bx.out)).trans bx.out)
          have ss := Lib.hid (IsSet.mono ss.out ba)
          have sv := Lib.hid (SliceAt.mono sv.out ba)
          have bb := bb.trans (ba.mono bb.size)
          clear ba
          have ba : Below wc.heap.size wc (wc.alloc (.cells #[.int .i64 0, .string ⟨#[]⟩, .int .i64 0] 26)) := by go_grown
          have bx := Lib.hid ((ba.block _ (heap_lt bx.out)).trans bx.out)
          have ss := Lib.hid (IsSet.mono ss.out ba)
          have sv := Lib.hid (SliceAt.mono sv.out ba)
          have bb := bb.trans (ba.mono bb.size)
          clear ba
          obtain ⟨c0, c1, c2, c3, c4⟩ := HC.out _ bb
          clear c0 c2 c3 c4
          go_wp2_with fail
          go_quiet (fail)
          obtain ⟨wz, hWz⟩ : ∃ wz, wz = (wc.alloc (.cells #[.int .i64 0, .string ⟨#[]⟩, .int .i64 0] 26)).drewN nq := ⟨_, rfl⟩
          have ba : Below (wc.alloc (.cells #[.int .i64 0, .string ⟨#[]⟩, .int .i64 0] 26)).heap.size (wc.alloc (.cells #[.int .i64 0, .string ⟨#[]⟩, .int .i64 0] 26)) wz := by rw [hWz]; exact bdN _ (Below.refl _ _)
          rw [← hWz]
          have bx := Lib.hid ((ba.block _ (heap_lt bx.out)).trans bx.out)
          have ss := Lib.hid (IsSet.mono ss.out ba)
          have sv := Lib.hid (SliceAt.mono sv.out ba)
          have bb := bb.trans (ba.mono bb.size)
          clear ba
          clear c1 hWz hq hnn
          clear bx
          go_wp2_with fail
          refine (len_setS _ s _ ss.out).mono ?_
          rintro e wy ⟨rfl, rfl⟩
          go_wp2_with fail
          go_roundw
          case rel => exact ⟨k + 1, _, by omega, by go_num, by omega, bb, ss, sv⟩
          case measure => simp [intOf]; omega
    · obtain rfl : k = A.length := by omega
      go_wp2_with fail
      refine (list_setS wr s X (by omega) ss.out).mono ?_
      rintro e w8 ⟨v8, rfl, b8, s8⟩
      obtain ⟨p8, c8, rfl⟩ := slice_form s8
      have s8 := Lib.hid s8
      have sv := Lib.hid (SliceAt.mono sv.out b8)
      have bb := bb.trans (b8.mono bb.size)
      clear b8 ss
      go_wp2_with fail
      refine (syms_eq w8 _ _ X X true (by simp) (by omega) (by omega) s8.out sv.out).mono ?_
      rintro e w9 ⟨rfl, b9⟩
      have bb := bb.trans (b9.mono bb.size)
      clear b9 sv s8
      go_wp2_with fail
      refine (wakes_any w9).mono ?_
      rintro e w10 ⟨rfl, b10⟩
      go_wp2_with fail
      go_ret
      exact ⟨rfl, bb.trans (b10.mono bb.size)⟩
set_option maxRecDepth 100000 in
theorem plays_long (w : World) (p1 : Option Addr) (n1 c1 : Nat) (m1 : n1 ≤ maxLen) (h : 200 < n1) :
    Calls Try.prog 3 #[.slice p1 n1 c1] w fun e w' => e = .returned (.bool true) ∧ Below w.heap.size w w' := by
  unfold maxLen at m1
  have hd1 : decide (200 < (n1 : Int)) = true := by simp; omega
  go_enter Try.func3, Try.ntmps3
  go_wp2_with fail
  refine (new_nilS w).mono ?_
  rintro e w1 ⟨s, rfl, hs, b1, ss⟩
  clear ss
  go_wp2_with fail
  refine (wakes_any w1).mono ?_
  rintro e w10 ⟨rfl, b10⟩
  go_wp2_with fail
  go_ret
  exact ⟨rfl, b1.trans (b10.mono b1.size)⟩
end Go.Proofs.Ytggijlblipmfaaa
