/-
  The walk over OrderLaws.
-/
import Derived.Test.YtnmcmalijjjbmaaAlgS
import Derived.Test.YtnmcmalijjjbmaaArgS
namespace Go.Proofs.Ytnmcmalijjjbmaa
set_option linter.unusedVariables false
open Go.RowKit
theorem has_nilY (z : Sy) : has cmpY z [] = false := rfl
theorem meetL_length (xs ys : List Sy) : (meetL xs ys).length ≤ xs.length := List.length_filter_le _ _
set_option maxRecDepth 100000 in
set_option maxHeartbeats 8000000 in
theorem laws_walk (w : World) (p1 p2 p3 : Option Addr) (c1 c2 c3 : Nat) (A B D : List Sy) (hA : ArgAt w (.slice p1 A.length c1) A) (hB : ArgAt w (.slice p2 B.length c2) B) (hD : ArgAt w (.slice p3 D.length c3) D)
    (l1 : A.length ≤ 30) (l2 : B.length ≤ 30) (l3 : D.length ≤ 30) :
    Calls Try.prog 10 #[.slice p1 A.length c1, .slice p2 B.length c2, .slice p3 D.length c3] w fun e w' => e = .returned (.bool true) ∧ Below w.heap.size w w' := by
  have hd1 : decide (30 < (A.length : Int)) = false := by simp; omega
  have hd2 : decide (30 < (B.length : Int)) = false := by simp; omega
  have hd3 : decide (30 < (D.length : Int)) = false := by simp; omega
  have hX := insAll_length cmpY A []
  have hY := insAll_length cmpY B []
  have hZ := insAll_length cmpY D []
  obtain ⟨X, hXe⟩ : ∃ X, X = insAll cmpY [] A := ⟨_, rfl⟩
  obtain ⟨Y, hYe⟩ : ∃ Y, Y = insAll cmpY [] B := ⟨_, rfl⟩
  obtain ⟨Z, hZe⟩ : ∃ Z, Z = insAll cmpY [] D := ⟨_, rfl⟩
  rw [← hXe] at hX; rw [← hYe] at hY; rw [← hZe] at hZ
  simp only [List.length_nil, Nat.zero_add] at hX hY hZ
  have HA := Lib.hid hA
  have HB := Lib.hid hB
  have HD := Lib.hid hD
  clear hA hB hD
  go_enter Try.func10, Try.ntmps10
  go_wp2_with fail
  refine (new_argS w _ A HA.out (by omega)).mono ?_
  rintro e w1 ⟨x, rfl, hx, b1, sx⟩
  rw [← hXe] at sx
  have sx := Lib.hid sx
  have HB := Lib.hid (HB.out.mono b1)
  have HD := Lib.hid (HD.out.mono b1)
  go_wp2_with fail
  refine (new_argS w1 _ B HB.out (by omega)).mono ?_
  rintro e w2 ⟨y, rfl, hy, b2, sy⟩
  rw [← hYe] at sy
  have sy := Lib.hid sy
  have sx := Lib.hid (IsSet.mono sx.out b2)
  have HD := Lib.hid (HD.out.mono b2)
  have b2 := b1.trans (b2.mono b1.size)
  clear b1
  go_wp2_with fail
  refine (new_argS w2 _ D HD.out (by omega)).mono ?_
  rintro e w3 ⟨z, rfl, hz, b3, sz⟩
  rw [← hZe] at sz
  have sz := Lib.hid sz
  have sx := Lib.hid (IsSet.mono sx.out b3)
  have sy := Lib.hid (IsSet.mono sy.out b3)
  have b3 := b2.trans (b3.mono b2.size)
  clear b2 HA HB HD
  go_wp2_with fail
  refine (union_a w3 _ _ _ _ sx.out sy.out (by (try simp only [List.length_nil] at *); omega)).mono ?_
  rintro e w4 ⟨u1, rfl, hu1, c, su1⟩
  have su1 := Lib.hid su1
  have sx := Lib.hid (IsSet.mono sx.out c)
  have sy := Lib.hid (IsSet.mono sy.out c)
  have sz := Lib.hid (IsSet.mono sz.out c)
  have b4 := b3.trans (c.mono b3.size)
  clear c b3
  go_wp2_with fail
  refine (union_a w4 _ _ _ _ sy.out sx.out (by (try simp only [List.length_nil] at *); omega)).mono ?_
  rintro e w5 ⟨u2, rfl, hu2, c, su2⟩
  have su2 := Lib.hid su2
  have sx := Lib.hid (IsSet.mono sx.out c)
  have sy := Lib.hid (IsSet.mono sy.out c)
  have sz := Lib.hid (IsSet.mono sz.out c)
  have su1 := Lib.hid (IsSet.mono su1.out c)
  have b5 := b4.trans (c.mono b4.size)
  clear c b4
  go_wp2_with fail
  refine (same_true w5 _ _ _ _ su1.out su2.out (by have := insAll_length cmpY Y X; (try simp only [List.length_nil] at *); omega) (by have := insAll_length cmpY X Y; (try simp only [List.length_nil] at *); omega) (fun z => by simp only [has_uni]; cases has cmpY z X <;> cases has cmpY z Y <;> rfl)).mono ?_
  rintro e w6 ⟨rfl, c⟩
  clear su1
  clear su2
  have sx := Lib.hid (IsSet.mono sx.out c)
  have sy := Lib.hid (IsSet.mono sy.out c)
  have sz := Lib.hid (IsSet.mono sz.out c)
  have b6 := b5.trans (c.mono b5.size)
  clear c b5
  go_wp2_with fail
  refine (meet_a w6 _ _ _ _ sx.out sy.out (by (try simp only [List.length_nil] at *); omega)).mono ?_
  rintro e w7 ⟨m1, rfl, hm1, c, sm1⟩
  have sm1 := Lib.hid sm1
  have sx := Lib.hid (IsSet.mono sx.out c)
  have sy := Lib.hid (IsSet.mono sy.out c)
  have sz := Lib.hid (IsSet.mono sz.out c)
  have b7 := b6.trans (c.mono b6.size)
  clear c b6
  go_wp2_with fail
  refine (meet_a w7 _ _ _ _ sy.out sx.out (by (try simp only [List.length_nil] at *); omega)).mono ?_
  rintro e w8 ⟨m2, rfl, hm2, c, sm2⟩
  have sm2 := Lib.hid sm2
  have sx := Lib.hid (IsSet.mono sx.out c)
  have sy := Lib.hid (IsSet.mono sy.out c)
  have sz := Lib.hid (IsSet.mono sz.out c)
  have sm1 := Lib.hid (IsSet.mono sm1.out c)
  have b8 := b7.trans (c.mono b7.size)
  clear c b7
  go_wp2_with fail
  refine (same_true w8 _ _ _ _ sm1.out sm2.out (by have := insAll_length cmpY (meetL X Y) []; have := meetL_length X Y; (try simp only [List.length_nil] at *); omega) (by have := insAll_length cmpY (meetL Y X) []; have := meetL_length Y X; (try simp only [List.length_nil] at *); omega) (fun z => by simp only [has_uni, has_meetL, has_nilY]; cases has cmpY z X <;> cases has cmpY z Y <;> rfl)).mono ?_
  rintro e w9 ⟨rfl, c⟩
  clear sm1
  clear sm2
  have sx := Lib.hid (IsSet.mono sx.out c)
  have sy := Lib.hid (IsSet.mono sy.out c)
  have sz := Lib.hid (IsSet.mono sz.out c)
  have b9 := b8.trans (c.mono b8.size)
  clear c b8
  go_wp2_with fail
  refine (union_a w9 _ _ _ _ sx.out sy.out (by (try simp only [List.length_nil] at *); omega)).mono ?_
  rintro e w10 ⟨a1, rfl, ha1, c, sa1⟩
  have sa1 := Lib.hid sa1
  have sx := Lib.hid (IsSet.mono sx.out c)
  have sy := Lib.hid (IsSet.mono sy.out c)
  have sz := Lib.hid (IsSet.mono sz.out c)
  have b10 := b9.trans (c.mono b9.size)
  clear c b9
  go_wp2_with fail
  refine (union_a w10 _ _ _ _ sa1.out sz.out (by have := insAll_length cmpY Y X; (try simp only [List.length_nil] at *); omega)).mono ?_
  rintro e w11 ⟨a2, rfl, ha2, c, sa2⟩
  have sa2 := Lib.hid sa2
  clear sa1
  have sx := Lib.hid (IsSet.mono sx.out c)
  have sy := Lib.hid (IsSet.mono sy.out c)
  have sz := Lib.hid (IsSet.mono sz.out c)
  have b11 := b10.trans (c.mono b10.size)
  clear c b10
  go_wp2_with fail
  refine (union_a w11 _ _ _ _ sy.out sz.out (by (try simp only [List.length_nil] at *); omega)).mono ?_
  rintro e w12 ⟨a3, rfl, ha3, c, sa3⟩
  have sa3 := Lib.hid sa3
  have sx := Lib.hid (IsSet.mono sx.out c)
  have sy := Lib.hid (IsSet.mono sy.out c)
  have sz := Lib.hid (IsSet.mono sz.out c)
  have sa2 := Lib.hid (IsSet.mono sa2.out c)
  have b12 := b11.trans (c.mono b11.size)
  clear c b11
  go_wp2_with fail
  refine (union_a w12 _ _ _ _ sx.out sa3.out (by have := insAll_length cmpY Z Y; (try simp only [List.length_nil] at *); omega)).mono ?_
  rintro e w13 ⟨a4, rfl, ha4, c, sa4⟩
  have sa4 := Lib.hid sa4
  clear sa3
  have sx := Lib.hid (IsSet.mono sx.out c)
  have sy := Lib.hid (IsSet.mono sy.out c)
  have sz := Lib.hid (IsSet.mono sz.out c)
  have sa2 := Lib.hid (IsSet.mono sa2.out c)
  have b13 := b12.trans (c.mono b12.size)
  clear c b12
  go_wp2_with fail
  refine (same_true w13 _ _ _ _ sa2.out sa4.out (by have := insAll_length cmpY Y X; have := insAll_length cmpY Z (insAll cmpY X Y); (try simp only [List.length_nil] at *); omega) (by have := insAll_length cmpY Z Y; have := insAll_length cmpY (insAll cmpY Y Z) X; (try simp only [List.length_nil] at *); omega) (fun z => by simp only [has_uni]; cases has cmpY z X <;> cases has cmpY z Y <;> cases has cmpY z Z <;> rfl)).mono ?_
  rintro e w14 ⟨rfl, c⟩
  clear sa2
  clear sa4
  have sx := Lib.hid (IsSet.mono sx.out c)
  have sy := Lib.hid (IsSet.mono sy.out c)
  have sz := Lib.hid (IsSet.mono sz.out c)
  have b14 := b13.trans (c.mono b13.size)
  clear c b13
  go_wp2_with fail
  refine (union_a w14 _ _ _ _ sy.out sz.out (by (try simp only [List.length_nil] at *); omega)).mono ?_
  rintro e w15 ⟨d1, rfl, hd1, c, sd1⟩
  have sd1 := Lib.hid sd1
  have sx := Lib.hid (IsSet.mono sx.out c)
  have sy := Lib.hid (IsSet.mono sy.out c)
  have sz := Lib.hid (IsSet.mono sz.out c)
  have b15 := b14.trans (c.mono b14.size)
  clear c b14
  go_wp2_with fail
  refine (meet_a w15 _ _ _ _ sx.out sd1.out (by have := insAll_length cmpY Z Y; (try simp only [List.length_nil] at *); omega)).mono ?_
  rintro e w16 ⟨d2, rfl, hd2, c, sd2⟩
  have sd2 := Lib.hid sd2
  clear sd1
  have sx := Lib.hid (IsSet.mono sx.out c)
  have sy := Lib.hid (IsSet.mono sy.out c)
  have sz := Lib.hid (IsSet.mono sz.out c)
  have b16 := b15.trans (c.mono b15.size)
  clear c b15
  go_wp2_with fail
  refine (meet_a w16 _ _ _ _ sx.out sy.out (by (try simp only [List.length_nil] at *); omega)).mono ?_
  rintro e w17 ⟨d3, rfl, hd3, c, sd3⟩
  have sd3 := Lib.hid sd3
  have sx := Lib.hid (IsSet.mono sx.out c)
  have sy := Lib.hid (IsSet.mono sy.out c)
  have sz := Lib.hid (IsSet.mono sz.out c)
  have sd2 := Lib.hid (IsSet.mono sd2.out c)
  have b17 := b16.trans (c.mono b16.size)
  clear c b16
  go_wp2_with fail
  refine (meet_a w17 _ _ _ _ sx.out sz.out (by (try simp only [List.length_nil] at *); omega)).mono ?_
  rintro e w18 ⟨d4, rfl, hd4, c, sd4⟩
  have sd4 := Lib.hid sd4
  have sx := Lib.hid (IsSet.mono sx.out c)
  have sy := Lib.hid (IsSet.mono sy.out c)
  have sz := Lib.hid (IsSet.mono sz.out c)
  have sd2 := Lib.hid (IsSet.mono sd2.out c)
  have sd3 := Lib.hid (IsSet.mono sd3.out c)
  have b18 := b17.trans (c.mono b17.size)
  clear c b17
  go_wp2_with fail
  refine (union_a w18 _ _ _ _ sd3.out sd4.out (by have := insAll_length cmpY (meetL X Y) []; have := meetL_length X Y; have := insAll_length cmpY (meetL X Z) []; have := meetL_length X Z; (try simp only [List.length_nil] at *); omega)).mono ?_
  rintro e w19 ⟨d5, rfl, hd5, c, sd5⟩
  have sd5 := Lib.hid sd5
  clear sd3
  clear sd4
  have sx := Lib.hid (IsSet.mono sx.out c)
  have sy := Lib.hid (IsSet.mono sy.out c)
  have sz := Lib.hid (IsSet.mono sz.out c)
  have sd2 := Lib.hid (IsSet.mono sd2.out c)
  have b19 := b18.trans (c.mono b18.size)
  clear c b18
  go_wp2_with fail
  refine (same_true w19 _ _ _ _ sd2.out sd5.out (by have := insAll_length cmpY Z Y; have := insAll_length cmpY (meetL X (insAll cmpY Y Z)) []; have := meetL_length X (insAll cmpY Y Z); (try simp only [List.length_nil] at *); omega) (by have := insAll_length cmpY (meetL X Y) []; have := meetL_length X Y; have := insAll_length cmpY (meetL X Z) []; have := meetL_length X Z; have := insAll_length cmpY (insAll cmpY [] (meetL X Z)) (insAll cmpY [] (meetL X Y)); (try simp only [List.length_nil] at *); omega) (fun z => by simp only [has_uni, has_meetL, has_nilY]; cases has cmpY z X <;> cases has cmpY z Y <;> cases has cmpY z Z <;> rfl)).mono ?_
  rintro e w20 ⟨rfl, c⟩
  clear sd2
  clear sd5
  have sx := Lib.hid (IsSet.mono sx.out c)
  have sy := Lib.hid (IsSet.mono sy.out c)
  have sz := Lib.hid (IsSet.mono sz.out c)
  have b20 := b19.trans (c.mono b19.size)
  clear c b19
  go_wp2_with fail
  refine (meet_a w20 _ _ _ _ sx.out sy.out (by (try simp only [List.length_nil] at *); omega)).mono ?_
  rintro e w21 ⟨e1, rfl, he1, c, se1⟩
  have se1 := Lib.hid se1
  have sx := Lib.hid (IsSet.mono sx.out c)
  have sy := Lib.hid (IsSet.mono sy.out c)
  have sz := Lib.hid (IsSet.mono sz.out c)
  have b21 := b20.trans (c.mono b20.size)
  clear c b20
  go_wp2_with fail
  refine (less_a w21 _ _ _ _ sx.out sy.out (by (try simp only [List.length_nil] at *); omega)).mono ?_
  rintro e w22 ⟨e2, rfl, he2, c, se2⟩
  have se2 := Lib.hid se2
  have sx := Lib.hid (IsSet.mono sx.out c)
  have sy := Lib.hid (IsSet.mono sy.out c)
  have sz := Lib.hid (IsSet.mono sz.out c)
  have se1 := Lib.hid (IsSet.mono se1.out c)
  have b22 := b21.trans (c.mono b21.size)
  clear c b21
  go_wp2_with fail
  refine (union_a w22 _ _ _ _ se1.out se2.out (by have := insAll_length cmpY (meetL X Y) []; have := meetL_length X Y; have := delAll_length cmpY Y X; (try simp only [List.length_nil] at *); omega)).mono ?_
  rintro e w23 ⟨e3, rfl, he3, c, se3⟩
  have se3 := Lib.hid se3
  clear se1
  clear se2
  have sx := Lib.hid (IsSet.mono sx.out c)
  have sy := Lib.hid (IsSet.mono sy.out c)
  have sz := Lib.hid (IsSet.mono sz.out c)
  have b23 := b22.trans (c.mono b22.size)
  clear c b22
  go_wp2_with fail
  refine (same_true w23 _ _ _ _ se3.out sx.out (by have := insAll_length cmpY (meetL X Y) []; have := meetL_length X Y; have := delAll_length cmpY Y X; have := insAll_length cmpY (delAll cmpY X Y) (insAll cmpY [] (meetL X Y)); (try simp only [List.length_nil] at *); omega) (by (try simp only [List.length_nil] at *); omega) (fun z => by simp only [has_uni, has_meetL, has_delAll, has_nilY]; cases has cmpY z X <;> cases has cmpY z Y <;> rfl)).mono ?_
  rintro e w24 ⟨rfl, c⟩
  clear se3
  have sx := Lib.hid (IsSet.mono sx.out c)
  have sy := Lib.hid (IsSet.mono sy.out c)
  have sz := Lib.hid (IsSet.mono sz.out c)
  have b24 := b23.trans (c.mono b23.size)
  clear c b23
  go_wp2_with fail
  refine (less_a w24 _ _ _ _ sx.out sy.out (by (try simp only [List.length_nil] at *); omega)).mono ?_
  rintro e w25 ⟨f1, rfl, hf1, c, sf1⟩
  have sf1 := Lib.hid sf1
  have sx := Lib.hid (IsSet.mono sx.out c)
  have sy := Lib.hid (IsSet.mono sy.out c)
  have sz := Lib.hid (IsSet.mono sz.out c)
  have b25 := b24.trans (c.mono b24.size)
  clear c b24
  go_wp2_with fail
  refine (meet_a w25 _ _ _ _ sf1.out sy.out (by have := delAll_length cmpY Y X; (try simp only [List.length_nil] at *); omega)).mono ?_
  rintro e w26 ⟨f2, rfl, hf2, c, sf2⟩
  have sf2 := Lib.hid sf2
  clear sf1
  have sx := Lib.hid (IsSet.mono sx.out c)
  have sy := Lib.hid (IsSet.mono sy.out c)
  have sz := Lib.hid (IsSet.mono sz.out c)
  have b26 := b25.trans (c.mono b25.size)
  clear c b25
  have hn : (insAll cmpY [] (meetL (delAll cmpY X Y) Y)) = [] := nil_of_has fun z => by simp only [has_uni, has_meetL, has_delAll, has_nilY]; cases has cmpY z X <;> cases has cmpY z Y <;> rfl
  rw [hn] at sf2
  clear hn sx sy sz
  go_wp2_with fail
  refine (len_setS w26 _ _ sf2.out).mono ?_
  rintro e v ⟨rfl, rfl⟩
  go_wp2_with fail
  refine (wakes_any w26).mono ?_
  rintro e w27 ⟨rfl, c⟩
  go_wp2_with fail
  go_ret
  exact ⟨rfl, b26.trans (c.mono b26.size)⟩
theorem laws_long (w : World) (p1 p2 p3 : Option Addr) (n1 n2 n3 c1 c2 c3 : Nat) (m1 : n1 ≤ maxLen) (m2 : n2 ≤ maxLen) (m3 : n3 ≤ maxLen) (h : 30 < n1 ∨ 30 < n2 ∨ 30 < n3) :
    Calls Try.prog 10 #[.slice p1 n1 c1, .slice p2 n2 c2, .slice p3 n3 c3] w fun e w' => e = .returned (.bool true) ∧ Below w.heap.size w w' := by
  unfold maxLen at m1 m2 m3
  by_cases h1 : 30 < n1
  · have hd1 : decide (30 < (n1 : Int)) = true := by simp; omega
    go_enter Try.func10, Try.ntmps10
    go_wp2_with (go_at_call 12; refine (wakes_any _).mono ?_; rintro e w6 ⟨rfl, hb6⟩)
    go_ret
    exact ⟨rfl, hb6⟩
  · have hd1 : decide (30 < (n1 : Int)) = false := by simp; omega
    by_cases h2 : 30 < n2
    · have hd2 : decide (30 < (n2 : Int)) = true := by simp; omega
      go_enter Try.func10, Try.ntmps10
      go_wp2_with (go_at_call 12; refine (wakes_any _).mono ?_; rintro e w6 ⟨rfl, hb6⟩)
      go_ret
      exact ⟨rfl, hb6⟩
    · have hd2 : decide (30 < (n2 : Int)) = false := by simp; omega
      have hd3 : decide (30 < (n3 : Int)) = true := by simp; omega
      go_enter Try.func10, Try.ntmps10
      go_wp2_with (go_at_call 12; refine (wakes_any _).mono ?_; rintro e w6 ⟨rfl, hb6⟩)
      go_ret
      exact ⟨rfl, hb6⟩
end Go.Proofs.Ytnmcmalijjjbmaa
