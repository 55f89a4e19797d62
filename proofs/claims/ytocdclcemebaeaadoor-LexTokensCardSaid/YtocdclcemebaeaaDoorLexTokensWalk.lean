/-
  The walk of the law LexTokens. What the listed variables give is a premise.
-/
import Derived.Test.YtocdclcemebaeaaDoorLexRAll
import Derived.Test.YtocdclcemebaeaaDoorLexSame
namespace Go.Proofs.YtocdclcemebaeaaDoor
set_option linter.unusedVariables false
open Go.RowKit
set_option maxRecDepth 100000 in
set_option maxHeartbeats 4000000 in
theorem tokens_walk (w : World) (s : ByteArray) (hs : s.size ≤ maxLen) (hL : LexAt w) : Calls Tryd.prog 3 #[.string s] w fun e w' => e = .returned (.bool true) ∧ Below w.heap.size w w' := by
  unfold maxLen at hs
  by_cases hlong : 3000 < s.size
  · go_enter Tryd.func3, Tryd.ntmps3
    go_wp2_with (go_at_call 9; refine (lwakes_any _ hL).mono ?_; rintro e w2 ⟨rfl, hb2⟩)
    go_ret
    exact ⟨rfl, hb2⟩
  · have hs2 : s.size ≤ 3000 := by omega
    obtain ⟨xs, hxs⟩ : ∃ xs, xs = lexL s.data.toList := ⟨_, rfl⟩
    have hlen : xs.length ≤ 1000000 := by
      have h1 := lex_len _ 0 s.data.toList (Nat.le_refl _)
      rw [← lexL_from, ← hxs, str_size] at h1
      omega
    have hr := rall_any s (by omega) w xs hxs
    have hall := fun w' (h : Below w.heap.size w w') => lall_any s (by omega) w' (hL.mono h)
    rw [← hxs] at hall
    have htk := fun w' => ltokens_any s w'
    have hlist := fun w' (h : Below w.heap.size w w') Bt hBt => tlist_any s (by omega) w' (hL.mono h) Bt hBt xs hxs
    have hwk := fun w' (h : Below w.heap.size w w') => lwakes_any w' (hL.mono h)
    have HR := Lib.hid hr
    have HA := Lib.hid hall
    have HT := Lib.hid htk
    have HLs := Lib.hid hlist
    have HW := Lib.hid hwk
    have HLen := Lib.hid hlen
    clear hr hall htk hlist hwk hxs hL hlen
    go_enter Tryd.func3, Tryd.ntmps3
    go_wp2_with fail
    refine HR.out.mono ?_
    rintro e w1 ⟨v1, rfl, hown1, hb1⟩
    have HS1 := Lib.hid (slice_of_owns hown1)
    have HB1 := Lib.hid hb1
    clear hown1 hb1 HR
    go_wp2_with fail
    refine (HA.out _ HB1.out).mono ?_
    rintro e w2 ⟨v2, rfl, hown2, -, hb2⟩
    have HS2 := Lib.hid (slice_of_owns hown2)
    have HS12 := Lib.hid (HS1.out.mono hb2)
    have HB2 := Lib.hid (HB1.out.trans (hb2.mono HB1.out.size))
    clear hown2 hb2 HA
    go_wp2_with fail
    refine (same_any w2 v2 v1 xs xs HLen.out HLen.out HS2.out HS12.out).mono ?_
    rintro e w3 ⟨he, hb3⟩
    rw [decide_eq_true (rfl : xs = xs)] at he
    subst he
    have HS13 := Lib.hid (HS12.out.mono hb3)
    have HB3 := Lib.hid (HB2.out.trans (hb3.mono HB2.out.size))
    clear hb3
    go_wp2_with fail
    refine (HT.out _).mono ?_
    rintro e w4 ⟨rfl, rfl⟩
    have hb4 : Below w3.heap.size w3 (w3.alloc (.cells #[.string s] 9)) := (Below.refl _ _).alloc (Nat.le_refl _) _
    have HS14 := Lib.hid (HS13.out.mono hb4)
    have HB4 := Lib.hid (HB3.out.trans (hb4.mono HB3.out.size))
    clear hb4
    go_wp2_with fail
    refine (HLs.out _ HB4.out w3.heap.size (new_at rfl)).mono ?_
    rintro e w5 ⟨v5, rfl, hown5, -, hb5⟩
    have HS5 := Lib.hid (slice_of_owns hown5)
    have HS15 := Lib.hid (HS14.out.mono hb5)
    have HB5 := Lib.hid (HB4.out.trans (hb5.mono HB4.out.size))
    clear hown5 hb5
    go_wp2_with fail
    refine (same_any w5 v5 v1 xs xs HLen.out HLen.out HS5.out HS15.out).mono ?_
    rintro e w6 ⟨he, hb6⟩
    rw [decide_eq_true (rfl : xs = xs)] at he
    subst he
    have HB6 := Lib.hid (HB5.out.trans (hb6.mono HB5.out.size))
    clear hb6
    go_wp2_with (go_at_call 9; refine (HW.out _ HB6.out).mono ?_; rintro e w7 ⟨rfl, hb7⟩)
    go_ret
    exact ⟨rfl, HB6.out.trans (hb7.mono HB6.out.size)⟩
end Go.Proofs.YtocdclcemebaeaaDoor
