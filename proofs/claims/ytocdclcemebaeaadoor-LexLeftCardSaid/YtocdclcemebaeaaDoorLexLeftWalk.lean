/-
  The walk of the law LexLeft. What the listed variables give is a premise.
-/
import Derived.Test.YtocdclcemebaeaaDoorLexFirst
namespace Go.Proofs.YtocdclcemebaeaaDoor
set_option linter.unusedVariables false
open Go.RowKit
theorem tfirst_all (t : ByteArray) (ht : t.size ≤ 1000000) (w : World) (hL : LexAt w) (Bt : Nat) (hBt : w.heap[Bt]? = some (.cells #[.string t] 9 (0, 0))) (xs : List Sy) (hxs : xs = lexL t.data.toList) (hlen : xs.length ≤ 1000000) (k : Nat) (hk2 : k ≤ 1000000) :
    Calls Tryd.prog 16 #[.func (.func 21) #[] #[.pointer (some ⟨Bt, 0, none⟩)], .int .i64 k] w (ListOutT w (xs.take k)) := by
  by_cases hk : 1 ≤ k
  · exact tfirst_any t ht w hL Bt hBt xs hxs hlen k hk hk2
  · obtain rfl : k = 0 := by omega
    rw [List.take_zero]
    exact tfirst_zero w Bt
set_option maxRecDepth 100000 in
set_option maxHeartbeats 4000000 in
theorem left_walk (w : World) (s : ByteArray) (hs : s.size ≤ maxLen) (n0 : Int) (hn1 : -9223372036854775808 ≤ n0) (hn2 : n0 ≤ 9223372036854775807) (hL : LexAt w) : Calls Tryd.prog 4 #[.string s, .int .i64 n0] w fun e w' => e = .returned (.bool true) ∧ Below w.heap.size w w' := by
  unfold maxLen at hs
  by_cases hlong : 3000 < s.size
  · go_enter Tryd.func4, Tryd.ntmps4
    go_wp2_with (go_at_call 9; refine (lwakes_any _ hL).mono ?_; rintro e w2 ⟨rfl, hb2⟩)
    go_ret
    exact ⟨rfl, hb2⟩
  · have hs2 : s.size ≤ 3000 := by omega
    obtain ⟨xs, hxs⟩ : ∃ xs, xs = lexL s.data.toList := ⟨_, rfl⟩
    have hlen : xs.length ≤ 3001 := by
      have h1 := lex_len _ 0 s.data.toList (Nat.le_refl _)
      rw [← lexL_from, ← hxs, str_size] at h1
      omega
    have hxn : xs ≠ [] := by rw [hxs, lexL_from]; exact lex_ne _ _
    have hx1 : 1 ≤ xs.length := List.length_pos_iff.2 hxn
    have hr := rall_any s (by omega) w xs hxs
    have htk := fun w' => ltokens_any s w'
    have hlist := fun w' (h : Below w.heap.size w w') Bt hBt => tlist_any s (by omega) w' (hL.mono h) Bt hBt xs hxs
    have hfst := fun w' (h : Below w.heap.size w w') Bt hBt k hk => tfirst_all s (by omega) w' (hL.mono h) Bt hBt xs hxs (by omega) k hk
    have hwk := fun w' (h : Below w.heap.size w w') => lwakes_any w' (hL.mono h)
    have hw1 := fun w' => within_all w' n0 (xs.length + 1) hn1 hn2 (by omega) (by omega)
    have q1 := Int.emod_nonneg n0 (show ((xs.length + 1 : Nat) : Int) ≠ 0 by omega)
    have q2 := Int.emod_lt_of_pos n0 (show (0 : Int) < ((xs.length + 1 : Nat) : Int) by omega)
    obtain ⟨n, hn⟩ : ∃ n : Nat, n0 % ((xs.length + 1 : Nat) : Int) = n := ⟨(n0 % ((xs.length + 1 : Nat) : Int)).toNat, by omega⟩
    have hnl : n ≤ xs.length := by omega
    rw [hn, Int.natCast_add] at hw1
    have hw1 : ∀ w', Calls Tryd.prog 15 #[.int .i64 n0, .int .i64 ((xs.length : Int) + 1)] w' fun e w2 => e = .returned (.int .i64 n) ∧ w' = w2 := hw1
    have HR := Lib.hid hr
    have HT := Lib.hid htk
    have HLs := Lib.hid hlist
    have HFs := Lib.hid hfst
    have HW := Lib.hid hwk
    have HN := Lib.hid hw1
    clear hr htk hlist hfst hwk hw1 hxs hL q1 q2 hn hn1 hn2 hs
    go_enter Tryd.func4, Tryd.ntmps4
    go_wp2_with fail
    refine HR.out.mono ?_
    rintro e w1 ⟨v1, rfl, hown1, hb1⟩
    obtain ⟨g, cap, rfl, -, hg, hc⟩ := owns_at hown1 hxn
    have hcap : xs.length ≤ cap ∧ cap ≤ maxLen := by
      rcases owns_cells hown1 with ⟨h1, -⟩ | ⟨g2, cap2, h1, -, -, h4, -⟩
      · cases h1
      · cases h1; exact h4
    unfold maxLen at hcap
    obtain ⟨hcap1, hcap2⟩ := hcap
    have HC := Lib.hid hc
    have HB1 := Lib.hid hb1
    have hsa : ∀ w', Below w1.heap.size w1 w' → SliceAt encS 3 w' (.slice (some ⟨g, 0, none⟩) xs.length cap) xs := fun w' h => (show SliceAt encS 3 w1 _ xs from .inr ⟨g, 0, cap, rfl, hg, ⟨hcap1, by unfold maxLen; omega⟩, hc⟩).mono h
    have hsn : ∀ w', Below w1.heap.size w1 w' → SliceAt encS 3 w' (.slice (some ⟨g, 0, none⟩) n cap) (xs.take n) := fun w' h =>
      (show SliceAt encS 3 w1 _ (xs.take n) from .inr ⟨g, 0, cap, by rw [List.length_take, Nat.min_eq_left hnl], hg, ⟨by rw [List.length_take]; omega, by unfold maxLen; omega⟩, fun i hi j c hcc => by
        rw [List.getElem_take] at hcc
        exact hc i (by rw [List.length_take] at hi; omega) j c hcc⟩).mono h
    have HSA := Lib.hid hsa
    have HSN := Lib.hid hsn
    have hc0 : ¬ cap = 0 := by omega
    have hncap : n ≤ cap := by omega
    have hni : (n : Int) ≤ (cap : Int) := by omega
    clear hown1 hb1 HR hc hsa hsn hxn hg
    go_wp2_with (first | (go_at_call 15; refine (HN.out _).mono ?_; rintro e w' ⟨rfl, rfl⟩) | (go_at_call 14; refine (HT.out _).mono ?_; rintro e w' ⟨rfl, rfl⟩; have hef := eql_func_nilT (.func 21) #[] #[.pointer (some ⟨w1.heap.size, 0, none⟩)]))
    obtain ⟨W, hW⟩ : ∃ W, W = w1.alloc (.cells #[.string s] 9) := ⟨_, rfl⟩
    have hbW : Below w1.heap.size w1 W := by rw [hW]; go_grown
    have hbx : ∀ w', Below W.heap.size W w' → w'.heap[w1.heap.size]? = some (.cells #[.string s] 9 (0, 0)) := fun w' h => by
      have hx : W.heap[w1.heap.size]? = some (.cells #[.string s] 9 (0, 0)) := by rw [hW]; exact new_at rfl
      exact (h.block _ (heap_lt hx)).trans hx
    rw [← hW]
    have HBX := Lib.hid hbx
    have HWB := Lib.hid hbW
    have HB0 : Hid (Below w.heap.size w W) := Lib.hid (HB1.out.trans (hbW.mono HB1.out.size))
    have hcur : Hid (Below W.heap.size W W.drew) := Lib.hid (Below.refl _ _).drew
    have up : ∀ w', Below W.heap.size W w' → Below w.heap.size w w' := fun _ h => HB0.out.trans (h.mono HB0.out.size)
    have up1 : ∀ w', Below W.heap.size W w' → Below w1.heap.size w1 w' := fun _ h => HWB.out.trans (h.mono HWB.out.size)
    have UP := Lib.hid up
    have UP1 := Lib.hid up1
    clear hW hbx hbW up up1 hef
    go_region_held3 (fun w' => Below W.heap.size W w')
      (first | exact hcur.out | go_keep)
      (first
        | (go_at_call 16; refine (HFs.out _ (UP.out _ hcur.out) w1.heap.size (HBX.out _ hcur.out) n (by omega)).mono ?_; rintro e wx ⟨vF, rfl, hownF, -, hbx⟩; replace hcur := Lib.hid (hcur.out.trans (hbx.mono hcur.out.size)); have HSF := Lib.hid (slice_of_owns hownF); clear hbx hownF)
        | (go_at_call 13; refine (HLs.out _ (UP.out _ hcur.out) w1.heap.size (HBX.out _ hcur.out)).mono ?_; rintro e wy ⟨vL, rfl, hownL, -, hbx⟩; replace hcur := Lib.hid (hcur.out.trans (hbx.mono hcur.out.size)); have HSL := Lib.hid (slice_of_owns hownL); clear hbx hownL)
        | (go_at_call 9; refine (HW.out _ (UP.out _ hcur.out)).mono ?_; rintro e wz ⟨rfl, hbx⟩; replace hcur := Lib.hid (hcur.out.trans (hbx.mono hcur.out.size)); clear hbx)
        | (go_at_call 11; with_reducible refine (same_any _ vF (.slice (some ⟨g, 0, none⟩) n cap) (xs.take n) (xs.take n) (by rw [List.length_take]; omega) (by rw [List.length_take]; omega) HSF.out (HSN.out _ (UP1.out _ hcur.out))).mono ?_; rintro e wu ⟨he, hbx⟩; rw [decide_eq_true (rfl : xs.take n = xs.take n)] at he; subst he; replace hcur := Lib.hid (hcur.out.trans (hbx.mono hcur.out.size)); clear hbx)
        | (go_at_call 11; with_reducible refine (same_any _ vL (.slice (some ⟨g, 0, none⟩) xs.length cap) xs xs (by omega) (by omega) HSL.out (HSA.out _ (UP1.out _ hcur.out))).mono ?_; rintro e wv ⟨he, hbx⟩; rw [decide_eq_true (rfl : xs = xs)] at he; subst he; replace hcur := Lib.hid (hcur.out.trans (hbx.mono hcur.out.size)); clear hbx))
    all_goals
      have HH := Lib.hid (UP.out _ hcur.out)
      go_wp2_with fail
      go_ret
      exact ⟨rfl, HH.out⟩
end Go.Proofs.YtocdclcemebaeaaDoor
