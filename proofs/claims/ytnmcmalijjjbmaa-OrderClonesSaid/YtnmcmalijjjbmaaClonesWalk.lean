/-
  The walk over OrderClones.
-/
import Derived.Test.YtnmcmalijjjbmaaSymsS
import Derived.Test.YtnmcmalijjjbmaaAlgS
namespace Go.Proofs.Ytnmcmalijjjbmaa
set_option linter.unusedVariables false
open Go.RowKit
theorem ArgAt.at {w : World} {p : Option Addr} {n c : Nat} {xs : List Sy} (h : ArgAt w (.slice p n c) xs) (hn : 0 < xs.length) :
    ∃ b off, p = some ⟨b, off, none⟩ ∧ b < w.heap.size ∧ ∀ i (h : i < xs.length) j u, (encS xs[i])[j]? = some u → w.cell? ⟨b, off + i * 3 + j, none⟩ = some u := by
  rcases h with ⟨a, cap, -, rfl⟩ | ⟨-, rfl⟩ | ⟨b, off, cap, h1, h2, -, h4⟩
  · simp at hn
  · simp at hn
  · cases h1; exact ⟨b, off, rfl, h2, h4⟩
theorem SliceAt.but {w w' : World} {v : Value} {ys : List Sy} {x : Nat} {p : Value} {t : TypeId} {f : Nat × Nat} (h : SliceAt encS 3 w v ys) (hg : w.grownBy w' (some x)) (hr : w.heap[x]? = some (.cells #[p] t f)) : SliceAt encS 3 w' v ys := by
  rcases h with h | ⟨b, off, cap, h1, h2, h3, h4⟩
  · exact .inl h
  · refine .inr ⟨b, off, cap, h1, Nat.lt_of_lt_of_le h2 hg.size, h3, fun i hi j c hc => ?_⟩
    have hne : b ≠ x := by
      rintro rfl
      have h5 := h4 i hi 1 _ rfl
      have h6 := h4 i hi 2 _ rfl
      rw [cells_of hr] at h5
      simp at h5
    have hb := hg.block b h2 (by simpa using hne)
    have := h4 i hi j c hc
    simpa [World.cell?, hb] using this
theorem del_all_self (A : List Sy) : delAll cmpY (insAll cmpY [] A) A = [] := nil_of_has fun z => by
  rw [has_delAll, has_uni]; cases has cmpY z A <;> rfl
set_option maxRecDepth 100000 in
set_option maxHeartbeats 8000000 in
theorem clones_walk (w : World) (p1 p2 : Option Addr) (c1 c2 : Nat) (A B : List Sy) (hA : ArgAt w (.slice p1 A.length c1) A) (hB : ArgAt w (.slice p2 B.length c2) B) (l1 : A.length ≤ 60) (l2 : B.length ≤ 60) :
    Calls Try.prog 9 #[.slice p1 A.length c1, .slice p2 B.length c2] w fun e w' => e = .returned (.bool true) ∧ Below w.heap.size w w' := by
  have hd1 : decide (60 < (A.length : Int)) = false := by simp; omega
  have hd2 : decide (60 < (B.length : Int)) = false := by simp; omega
  have hX := insAll_length cmpY A []
  have hend := del_all_self A
  obtain ⟨X, hXe⟩ : ∃ X, X = insAll cmpY [] A := ⟨_, rfl⟩
  rw [← hXe] at hX hend
  simp only [List.length_nil, Nat.zero_add] at hX
  have Hend := Lib.hid hend
  have HA := Lib.hid hA
  have HB := Lib.hid hB
  clear hA hB hend
  go_enter Try.func9, Try.ntmps9
  go_wp2_with fail
  refine (new_argS w _ A HA.out (by omega)).mono ?_
  rintro e w1 ⟨x, rfl, hx, b1, sx⟩
  rw [← hXe] at sx
  clear hXe
  have sx := Lib.hid sx
  go_wp2_with fail
  refine (clone_anyS w1 x X sx.out).mono ?_
  rintro e w2 ⟨rfl, b2, sc⟩
  have sc := Lib.hid sc
  have hcx0 : x < w1.heap.size := IsSet.lt sx.out
  have sx := Lib.hid (IsSet.mono sx.out b2)
  obtain ⟨c, hc⟩ : ∃ c, c = w1.heap.size := ⟨_, rfl⟩
  have bb := b1.trans (b2.mono b1.size)
  rw [← hc] at sc hcx0 ⊢
  clear hc b1 b2
  go_wp2_with fail
  refine (same_true w2 x c X X sx.out sc.out (by omega) (by omega) (fun z => rfl)).mono ?_
  rintro e w3 ⟨rfl, b3⟩
  have sc := Lib.hid (IsSet.mono sc.out b3)
  have sx := Lib.hid (IsSet.mono sx.out b3)
  have bb := bb.trans (b3.mono bb.size)
  clear b3
  go_wp2_with fail
  refine (list_setS w3 x X (by omega) sx.out).mono ?_
  rintro e w4 ⟨v4, rfl, b4, s4⟩
  obtain ⟨p4, c4, rfl⟩ : ∃ p4 c4, v4 = .slice p4 X.length c4 := by
    rcases s4 with ⟨rfl, h⟩ | ⟨b, off, cap, rfl, -⟩
    · exact ⟨none, 0, by rw [h]; rfl⟩
    · exact ⟨_, _, rfl⟩
  clear s4
  have sc := Lib.hid (IsSet.mono sc.out b4)
  have sx := Lib.hid (IsSet.mono sx.out b4)
  have bb := bb.trans (b4.mono bb.size)
  clear b4
  go_wp2_with fail
  go_loopw [8] (fun i wr => ∃ k : Nat, k ≤ B.length ∧ i = .int .i64 k ∧ Below w.heap.size w wr ∧ Hid (SetS wr x X) ∧ Hid (∃ Y : List Sy, Y.length ≤ 60 + k ∧ SetS wr c Y)) (fun i _ => B.length - (intOf i).toNat)
  case atStart => exact ⟨0, Nat.zero_le _, rfl, bb, sx, Lib.hid ⟨X, by omega, sc.out⟩⟩
  case round =>
    clear sx sc bb
    obtain ⟨k, hk, rfl, bb, sx, sc⟩ := hrel
    by_cases hlt : k < B.length
    · obtain ⟨b, off, rfl, hb, hcell⟩ := HB.out.at (by omega)
      obtain ⟨Y, hY, sc⟩ := sc.out
      obtain ⟨m, hm, hmd⟩ : ∃ m : Nat, m < B.length ∧ ((k : Int) * 7) % (B.length : Int) = m := ⟨((k : Int) * 7 % (B.length : Int)).toNat, by have := Int.emod_lt_of_pos ((k : Int) * 7) (show (0 : Int) < B.length by omega); have := Int.emod_nonneg ((k : Int) * 7) (show (B.length : Int) ≠ 0 by omega); omega, by have := Int.emod_nonneg ((k : Int) * 7) (show (B.length : Int) ≠ 0 by omega); omega⟩
      have Hc := Lib.hid hcell
      have sc := Lib.hid sc
      have h0 := fun j u h => (bb.cell (p := ⟨b, off + k * 3 + j, none⟩) hb).trans (Hc.out k hlt j u h)
      generalize B[k] = y at h0
      have d0 := h0 0 _ rfl
      have d1 := h0 1 _ rfl
      have d2 := h0 2 _ rfl
      simp only [Nat.add_zero] at d0
      have hki : (k : Int) < (B.length : Int) := by omega
      clear h0 hcell
      go_wp2_with fail
      refine (put_anyS wr c y Y sc.out (by omega)).mono ?_
      unfold PutOutS
      rintro e w5 ⟨rfl, hg, sc5⟩
      obtain ⟨rp, rT, hroot, -, -, -⟩ := sc.out
      have sx := Lib.hid (IsSet.but sx.out hg hroot (by decide) (by omega))
      have bb := bb.trans (belowg hg bb.size (by omega))
      have hle := ins_length (c := cmpY) y Y
      obtain ⟨Y5, hY5⟩ : ∃ Y5, Y5 = ins cmpY y Y := ⟨_, rfl⟩
      rw [← hY5] at sc5 hle
      have sc := Lib.hid sc5
      clear hg hroot d0 d1 d2 sc5 hY5
      have hwi := (within_any w5 ((k : Int) * 7) B.length (by omega) (by omega) (by omega)).mono (R' := fun e w' => e = .returned (.int .i64 (m : Int)) ∧ w' = w5) (fun e w' h => by rw [if_neg (by omega), hmd] at h; exact h)
      have Hwi := Lib.hid hwi
      clear hwi hmd
      have h0 := fun j u h => (bb.cell (p := ⟨b, off + m * 3 + j, none⟩) hb).trans (Hc.out m hm j u h)
      generalize B[m] = z at h0
      have d0 := h0 0 _ rfl
      have d1 := h0 1 _ rfl
      have d2 := h0 2 _ rfl
      simp only [Nat.add_zero] at d0
      have hmi : (m : Int) < (B.length : Int) := by omega
      clear h0
      go_wp2_with fail
      refine Hwi.out.mono ?_
      rintro e w6 ⟨rfl, rfl⟩
      go_wp2_with fail
      refine (drop_anyS w6 c z Y5 sc.out (by omega)).mono ?_
      unfold DropOutS
      rintro e w7 ⟨rfl, hg, sc7⟩
      obtain ⟨rp, rT, hroot, -, -, -⟩ := sc.out
      have sx := Lib.hid (IsSet.but sx.out hg hroot (by decide) (by omega))
      have bb := bb.trans (belowg hg bb.size (by omega))
      have hle2 := del_length (c := cmpY) z Y5
      clear hg hroot d0 d1 d2
      go_wp2_with fail
      go_roundw
      case rel => exact ⟨k + 1, by omega, by go_num, bb, sx, Lib.hid ⟨_, by omega, sc7⟩⟩
      case measure => simp [intOf]; omega
    · obtain rfl : k = B.length := by omega
      obtain ⟨Y, hY, sc⟩ := sc.out
      have sc := Lib.hid sc
      go_wp2_with fail
      refine (list_setS wr c Y (by omega) sc.out).mono ?_
      rintro e w5 ⟨v5, rfl, b5, s5⟩
      obtain ⟨p5, c5, rfl⟩ : ∃ p5 c5, v5 = .slice p5 Y.length c5 := by
        rcases s5 with ⟨rfl, h⟩ | ⟨b, off, cap, rfl, -⟩
        · exact ⟨none, 0, by rw [h]; rfl⟩
        · exact ⟨_, _, rfl⟩
      have s5 := Lib.hid s5
      have sc := Lib.hid (IsSet.mono sc.out b5)
      have sx := Lib.hid (IsSet.mono sx.out b5)
      have bb := bb.trans (b5.mono bb.size)
      clear b5
      go_wp2_with fail
      go_loopw [10] (fun i wr => ∃ k : Nat, k ≤ A.length ∧ i = .int .i64 k ∧ Below w.heap.size w wr ∧ Hid (SetS wr x (delAll cmpY X (A.take k))) ∧ Hid (SetS wr c Y) ∧ Hid (SliceAt encS 3 wr (.slice p5 Y.length c5) Y)) (fun i _ => A.length - (intOf i).toNat)
      case atStart => exact ⟨0, Nat.zero_le _, rfl, bb, sx, sc, s5⟩
      case round =>
        clear sx sc bb s5
        obtain ⟨k, hk, rfl, bb, sx, sc, s5⟩ := hrel
        by_cases hlt : k < A.length
        · obtain ⟨b, off, rfl, hb, hcell⟩ := HA.out.at (by omega)
          have h0 := fun j u h => (bb.cell (p := ⟨b, off + k * 3 + j, none⟩) hb).trans (hcell k hlt j u h)
          have hnext : delAll cmpY X (A.take (k + 1)) = del cmpY A[k] (delAll cmpY X (A.take k)) := by rw [List.take_succ_eq_append_getElem hlt, delAll_snoc]
          have hdl := delAll_length cmpY (A.take k) X
          obtain ⟨y, hy⟩ : ∃ y, y = A[k] := ⟨_, rfl⟩
          rw [← hy] at h0 hnext
          have HN := Lib.hid hnext
          clear hnext hy
          have d0 := h0 0 _ rfl
          have d1 := h0 1 _ rfl
          have d2 := h0 2 _ rfl
          simp only [Nat.add_zero] at d0
          have hki : (k : Int) < (A.length : Int) := by omega
          clear h0 hcell
          generalize delAll cmpY X (A.take k) = Z at sx HN hdl
          go_wp2_with fail
          refine (drop_anyS _ x y Z sx.out (by omega)).mono ?_
          unfold DropOutS
          rintro e w7 ⟨rfl, hg, sx7⟩
          obtain ⟨rp, rT, hroot, -, -, -⟩ := sx.out
          have sc := Lib.hid (IsSet.but sc.out hg hroot (by decide) (by omega))
          have s5 := Lib.hid (SliceAt.but s5.out hg hroot)
          have bb := bb.trans (belowg hg bb.size (by omega))
          clear hg hroot d0 d1 d2
          go_wp2_with fail
          go_roundw
          case rel => exact ⟨k + 1, by omega, by go_num, bb, by rw [HN.out]; exact Lib.hid sx7, sc, s5⟩
          case measure => simp [intOf]; omega
        · obtain rfl : k = A.length := by omega
          rw [List.take_length, Hend.out] at sx
          go_wp2_with fail
          refine (len_setS wr x [] sx.out).mono ?_
          rintro e v ⟨rfl, rfl⟩
          have hXA : decide ((X.length : Int) ≤ (A.length : Int)) = true := by simp; omega
          go_wp2_with fail
          refine (list_setS wr c Y (by omega) sc.out).mono ?_
          rintro e w8 ⟨v8, rfl, b8, s8⟩
          obtain ⟨p8, c8, rfl⟩ : ∃ p8 c8, v8 = .slice p8 Y.length c8 := by
            rcases s8 with ⟨rfl, h⟩ | ⟨b, off, cap, rfl, -⟩
            · exact ⟨none, 0, by rw [h]; rfl⟩
            · exact ⟨_, _, rfl⟩
          have s8 := Lib.hid s8
          have s5 := Lib.hid (SliceAt.mono s5.out b8)
          have bb := bb.trans (b8.mono bb.size)
          clear b8 sx sc
          go_wp2_with fail
          refine (syms_self w8 _ _ Y (by omega) s8.out s5.out).mono ?_
          rintro e w9 ⟨rfl, b9⟩
          have bb := bb.trans (b9.mono bb.size)
          clear b9 s5 s8
          go_wp2_with fail
          refine (wakes_any w9).mono ?_
          rintro e w10 ⟨rfl, b10⟩
          go_wp2_with fail
          go_ret
          exact ⟨rfl, bb.trans (b10.mono bb.size)⟩
theorem clones_long (w : World) (p1 p2 : Option Addr) (n1 n2 c1 c2 : Nat) (m1 : n1 ≤ maxLen) (m2 : n2 ≤ maxLen) (h : 60 < n1 ∨ 60 < n2) :
    Calls Try.prog 9 #[.slice p1 n1 c1, .slice p2 n2 c2] w fun e w' => e = .returned (.bool true) ∧ Below w.heap.size w w' := by
  unfold maxLen at m1 m2
  by_cases h1 : 60 < n1
  · have hd1 : decide (60 < (n1 : Int)) = true := by simp; omega
    go_enter Try.func9, Try.ntmps9
    go_wp2_with (go_at_call 12; refine (wakes_any _).mono ?_; rintro e w6 ⟨rfl, hb6⟩)
    go_ret
    exact ⟨rfl, hb6⟩
  · have hd1 : decide (60 < (n1 : Int)) = false := by simp; omega
    have hd2 : decide (60 < (n2 : Int)) = true := by simp; omega
    go_enter Try.func9, Try.ntmps9
    go_wp2_with (go_at_call 12; refine (wakes_any _).mono ?_; rintro e w6 ⟨rfl, hb6⟩)
    go_ret
    exact ⟨rfl, hb6⟩
end Go.Proofs.Ytnmcmalijjjbmaa
