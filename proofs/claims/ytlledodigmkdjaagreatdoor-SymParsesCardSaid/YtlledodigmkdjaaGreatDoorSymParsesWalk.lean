/-
  The walk of the law SymParses. What strconv.Itoa and strconv.Atoi give are premises.
-/
import Derived.Test.YtlledodigmkdjaaGreatDoorSymRParse
import Derived.Test.YtlledodigmkdjaaGreatDoorSymTextsWalk
namespace Go.Proofs.YtlledodigmkdjaaGreatDoor
set_option linter.unusedVariables false
open Go.RowKit
theorem meant_size (t : ByteArray) (h : t.size ≤ 1000000) : (symOf (meantL t.data.toList)).t.size ≤ 1000000 := by
  have hl : t.data.toList.length = t.size := by simp
  show (meantL t.data.toList).2.1.length ≤ 1000000
  cases hd : t.data.toList with
  | nil => show (0 : Nat) ≤ 1000000; omega
  | cons c r =>
    rw [meantL_cons]
    rw [hd] at hl
    split
    · show (1 : Nat) ≤ 1000000; omega
    · split
      · rw [hl]; exact h
      · show (0 : Nat) ≤ 1000000; omega
set_option maxHeartbeats 2000000 in
theorem parses_walk (w : World) (t : ByteArray) (hm : t.size ≤ maxLen) (hI : ItoaAll w) (hA : ∀ u : ByteArray, u.size ≤ 1000000 → AtoiAt w u) : Calls Tryz.prog 4 #[.string t] w fun e w' => e = .returned (.bool true) ∧ Below w.heap.size w w' := by
  unfold maxLen at hm
  by_cases hlong : 200 < t.size
  · go_enter Tryz.func4, Tryz.ntmps4
    go_wp2_with (go_at_call 8; refine (swakes_any _).mono ?_; rintro e w2 ⟨rfl, hb2⟩)
    go_ret
    exact ⟨rfl, hb2⟩
  · have hs : t.size ≤ 1000000 := by omega
    obtain ⟨z, hz⟩ : ∃ z, z = symOf (parseL t.data.toList).1 := ⟨_, rfl⟩
    obtain ⟨ok, hok⟩ : ∃ ok, ok = (parseL t.data.toList).2 := ⟨_, rfl⟩
    have hp := fun w' (hq : Below w.heap.size w w') => parse_any t w' hs (fun _ => (hA _ (by simp; omega)).mono hq) (fun _ => (hA t hs).mono hq)
      (fun h h3 => (hI _ (by have := valid_num h h3; omega) (by have := valid_num h h3; omega)).mono hq) (meant_size t hs) z ok (by rw [hz, hok])
    have hr := fun w' => rparse_any t w' hs z ok (by rw [hz, hok, parse_eq])
    have hw1 := fun w' => word_any t w' hs
    have hw2 := fun w' => rword_any t w' hs
    obtain ⟨V, hV⟩ : ∃ V, V = wordB t.data.toList := ⟨_, rfl⟩
    rw [← hV] at hw1 hw2
    have Hp := Lib.hid hp
    have Hr := Lib.hid hr
    have Hw1 := Lib.hid hw1
    have Hw2 := Lib.hid hw2
    clear hp hr hw1 hw2 hz hok hV hI hA
    go_enter Tryz.func4, Tryz.ntmps4
    go_wp2_with fail
    refine (Hp.out _ (Below.refl _ _)).mono ?_
    rintro e w1 ⟨rfl, hb1⟩
    have hal : Below w1.heap.size w1 (w1.alloc (.cells #[.int .i64 z.k, .string z.t, .int .i64 z.n] 23)) := (Below.refl _ _).alloc (Nat.le_refl _) _
    have HX1 : Hid ((w1.alloc (.cells #[.int .i64 z.k, .string z.t, .int .i64 z.n] 23)).heap[w1.heap.size]? = some (.cells #[.int .i64 z.k, .string z.t, .int .i64 z.n] 23 (0, 0))) := Lib.hid (new_at rfl)
    have HB1 := Lib.hid (hb1.trans (hal.mono hb1.size))
    clear hb1 hal
    go_wp2_with fail
    refine (Hr.out _).mono ?_
    rintro e w2 ⟨rfl, hb2⟩
    have HB2 := Lib.hid (HB1.out.trans (hb2.mono HB1.out.size))
    have hx2 := (hb2.block _ (heap_lt HX1.out)).trans HX1.out
    have hal : Below w2.heap.size w2 (w2.alloc (.cells #[.int .i64 z.k, .string z.t, .int .i64 z.n] 23)) := (Below.refl _ _).alloc (Nat.le_refl _) _
    have hx3 := (hal.block _ (heap_lt hx2)).trans hx2
    have HB3 := Lib.hid (HB2.out.trans (hal.mono HB2.out.size))
    have x0 := cells_of hx3 0
    have x1 := cells_of hx3 1
    have x2 := cells_of hx3 2
    simp only [List.getElem?_toArray, List.getElem?_cons_zero, List.getElem?_cons_succ] at x0 x1 x2
    clear hb2 hx2 hx3 hal
    go_wp2_with (first | (go_at_call 15; refine (Hw1.out _).mono ?_; rintro e w4 ⟨rfl, hb4⟩; have HB4 := Lib.hid (HB3.out.trans (hb4.mono HB3.out.size)); clear hb4) | (go_at_call 16; refine (Hw2.out _).mono ?_; rintro e w' ⟨rfl, rfl⟩) | (go_at_call 8; refine (swakes_any _).mono ?_; rintro e w5 ⟨rfl, hb5⟩; have HB5 := Lib.hid (HB4.out.trans (hb5.mono HB4.out.size)); clear hb5))
    go_ret
    exact ⟨rfl, HB5.out⟩
end Go.Proofs.YtlledodigmkdjaaGreatDoor
