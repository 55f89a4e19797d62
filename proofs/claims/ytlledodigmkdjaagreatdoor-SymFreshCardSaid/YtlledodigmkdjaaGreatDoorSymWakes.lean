/-
  The example of chapter 4, in whatever world. No condition.
-/
import Derived.Test.YtlledodigmkdjaaGreatDoorSymFresh
import Derived.Test.YtlledodigmkdjaaGreatDoorSymP
namespace Go.Proofs.YtlledodigmkdjaaGreatDoor
set_option linter.unusedVariables false
open Go.RowKit
def sA : Sy := ⟨1, ⟨#[83]⟩, 1⟩
def sB : Sy := ⟨1, ⟨#[83]⟩, 2⟩
theorem itoa_dig (n : Nat) (h : n < 10) : Lib.itoa n = [UInt8.ofNat (48 + n)] := by
  unfold Lib.itoa
  rw [if_neg (by omega), show ((n : Int)).toNat = n by omega, Lib.decDigits_one h]
theorem textA : textY sA = ⟨#[83, 49]⟩ := by
  unfold textY
  have h := itoa_dig 1 (by omega)
  have hv : validL sA.k sA.t.data.toList sA.n = true := by decide
  unfold textL
  rw [if_pos hv, if_pos (show sA.k = 1 from rfl)]
  change (⟨([83] ++ Lib.itoa ((1 : Nat) : Int)).toArray⟩ : ByteArray) = _
  rw [h]; rfl
theorem textB : textY sB = ⟨#[83, 50]⟩ := by
  unfold textY
  have h := itoa_dig 2 (by omega)
  have hv : validL sB.k sB.t.data.toList sB.n = true := by decide
  unfold textL
  rw [if_pos hv, if_pos (show sB.k = 1 from rfl)]
  change (⟨([83] ++ Lib.itoa ((2 : Nat) : Int)).toArray⟩ : ByteArray) = _
  rw [h]; rfl
theorem parse_zero (w : World) : Calls Tryz.prog 13 #[.string ⟨#[45, 48]⟩] w fun e w' => e = .returned (.tuple #[.agg #[.int .i64 0, .string ⟨#[]⟩, .int .i64 0], .bool false]) ∧ Below w.heap.size w w' := by
  have ha : atoiN [45, 48] = 0 := by decide
  have hm : meantL [45, 48] = (2, [], 0) := by
    rw [meantL_cons, show capB 45 = false from by decide, show smallB 45 = false from by decide, ha]; rfl
  have hp : parseL [45, 48] = ((0, [], 0), false) := by
    unfold parseL
    rw [hm]
    have hv : validL 2 [] 0 = true := by decide
    have h := itoa_dig 0 (by omega)
    have ht : textL 2 [] 0 = [48] := by
      unfold textL
      rw [if_pos hv, if_neg (by decide), if_pos rfl]
      exact h
    simp only
    rw [ht, if_neg (by decide)]
  refine parse_any ⟨#[45, 48]⟩ w (by decide) (fun h => absurd h (by decide)) (fun _ => atoi_fine w ⟨#[45, 48]⟩ (by decide) 0 (by decide)) (fun _ _ => ?_) ?_ ⟨0, ⟨#[]⟩, 0⟩ false ?_
  · show ItoaAt w (symOf (meantL [45, 48])).n
    rw [hm]
    exact itoa_small w 0 (by omega)
  · show (symOf (meantL [45, 48])).t.size ≤ 1000000
    rw [hm]; decide
  · show _ = (symOf (parseL [45, 48]).1, (parseL [45, 48]).2)
    rw [hp]; rfl
theorem fresh_S (w : World) (b sb mb ms : Nat) (xs : List Sy) (ys : List Pc) (s : Sy) (h : TabAt w b sb mb ms 9 xs ys) (he : fresherr 83 9 xs = 0) (hs : freshY 83 xs = s) :
    Calls Tryz.prog 21 #[.pointer (some ⟨b, 0, none⟩), .int .u8 83] w fun e w' => e = .returned (.tuple #[.agg #[.int .i64 s.k, .string s.t, .int .i64 s.n], .int .i64 0]) ∧ Touch (TabTouch sb ms) w w' ∧ ∃ ys', TabAt w' b sb mb ms 9 (ins cmpY s xs) ys' := by
  have := fresh_good w b sb mb ms 9 xs ys 83 h he
  unfold FreshOut AddOut at this
  rw [hs] at this
  exact this
set_option maxHeartbeats 2000000 in
theorem swakes_any (w : World) : Calls Tryz.prog 8 #[] w fun e w' => e = .returned (.bool true) ∧ Below w.heap.size w w' := by
  have hta := fun w' => text_any sA w' (by decide) (fun _ _ => itoa_small w' 1 (by omega))
  have htb := fun w' => text_any sB w' (by decide) (fun _ _ => itoa_small w' 2 (by omega))
  rw [textA] at hta
  rw [textB] at htb
  have hta2 : ∀ w', Calls Tryz.prog 11 #[.agg #[.int .i64 1, .string ⟨#[83]⟩, .int .i64 1]] w' fun e w2 => e = .returned (.string ⟨#[83, 49]⟩) ∧ Below w'.heap.size w' w2 := hta
  have htb2 : ∀ w', Calls Tryz.prog 11 #[.agg #[.int .i64 1, .string ⟨#[83]⟩, .int .i64 2]] w' fun e w2 => e = .returned (.string ⟨#[83, 50]⟩) ∧ Below w'.heap.size w' w2 := htb
  have Hta := Lib.hid hta2
  have Htb := Lib.hid htb2
  clear hta htb hta2 htb2
  go_enter Tryz.func8, Tryz.ntmps8
  go_wp2_with fail
  refine (new_tab w 9 (by omega) (by omega)).mono ?_
  unfold NewTOut
  rintro e w1 ⟨b, sb, mb, ms, rfl, hb1, ⟨l1, l2, l3, l4⟩, htab⟩
  have HB1 := Lib.hid hb1
  have HT1 := Lib.hid htab
  clear hb1 htab
  go_wp2_with fail
  refine (fresh_S w1 b sb mb ms [] [] sA HT1.out (by decide) rfl).mono ?_
  rintro e w2 ⟨rfl, ht2, ys2, htab2⟩
  have hl1 := IsSet.lt HT1.out.known
  have hl2 := IsSet.lt HT1.out.map.2
  have HZ1 : Hid (sb < w2.heap.size ∧ ms < w2.heap.size) := Lib.hid ⟨Nat.lt_of_lt_of_le hl1 ht2.size, Nat.lt_of_lt_of_le hl2 ht2.size⟩
  have HB2 : Hid (Below w.heap.size w w2) := Lib.hid (HB1.out.trans (ht2.below HB1.out.size (fun k _ hk => by rcases hk with rfl | rfl <;> omega)))
  have hal : Below w2.heap.size w2 (w2.alloc (.cells #[.int .i64 1, .string ⟨#[83]⟩, .int .i64 1] 23)) := (Below.refl _ _).alloc (Nat.le_refl _) _
  have HT2 := Lib.hid (htab2.mono hal)
  have HB2a := Lib.hid (HB2.out.trans (hal.mono HB2.out.size))
  clear htab2 ht2 hl1 hl2 hal
  go_wp2_with fail
  refine (fresh_S _ b sb mb ms _ ys2 sB HT2.out (by decide) (by decide)).mono ?_
  rintro e w3 ⟨rfl, ht3, ys3, htab3⟩
  have HA3 : Hid (w3.heap[w2.heap.size]? = some (.cells #[.int .i64 1, .string ⟨#[83]⟩, .int .i64 1] 23 (0, 0))) := Lib.hid ((ht3.block w2.heap.size (by simp) (by have := HZ1.out; unfold TabTouch; omega)).trans (new_at rfl))
  have HB3 : Hid (Below w.heap.size w w3) := Lib.hid (HB2a.out.trans (ht3.below HB2a.out.size (fun k _ hk => by rcases hk with rfl | rfl <;> omega)))
  have hal : Below w3.heap.size w3 (w3.alloc (.cells #[.int .i64 1, .string ⟨#[83]⟩, .int .i64 2] 23)) := (Below.refl _ _).alloc (Nat.le_refl _) _
  have HB3a := Lib.hid (HB3.out.trans (hal.mono HB3.out.size))
  have HA3a := Lib.hid ((hal.block _ (heap_lt HA3.out)).trans HA3.out)
  clear htab3 ht3 hal HT1 HT2 HB1 HZ1
  go_wp2_with fail
  refine (parse_zero _).mono ?_
  rintro e w4 ⟨rfl, hb4⟩
  have HA4 : Hid (w4.heap[w2.heap.size]? = some (.cells #[.int .i64 1, .string ⟨#[83]⟩, .int .i64 1] 23 (0, 0))) := Lib.hid ((hb4.block _ (heap_lt HA3a.out)).trans HA3a.out)
  have HC4 : Hid (w4.heap[w3.heap.size]? = some (.cells #[.int .i64 1, .string ⟨#[83]⟩, .int .i64 2] 23 (0, 0))) := Lib.hid ((hb4.block _ (by simp)).trans (new_at rfl))
  have HB4 := Lib.hid (HB3a.out.trans (hb4.mono HB3a.out.size))
  have hal : Below w4.heap.size w4 (w4.alloc (.cells #[.int .i64 0, .string ⟨#[]⟩, .int .i64 0] 23)) := (Below.refl _ _).alloc (Nat.le_refl _) _
  have HB4a := Lib.hid (HB4.out.trans (hal.mono HB4.out.size))
  have HA4a := Lib.hid ((hal.block _ (heap_lt HA4.out)).trans HA4.out)
  have HC4a := Lib.hid ((hal.block _ (heap_lt HC4.out)).trans HC4.out)
  have x0 := cells_of HA4a.out 0
  have x1 := cells_of HA4a.out 1
  have x2 := cells_of HA4a.out 2
  simp only [List.getElem?_toArray, List.getElem?_cons_zero, List.getElem?_cons_succ] at x0 x1 x2
  clear hb4 hal HA3 HA3a HB2 HB2a HB3 HB3a
  go_wp2_with fail
  refine (Hta.out _).mono ?_
  rintro e w5 ⟨rfl, hb5⟩
  have HC5 := (hb5.block _ (heap_lt HC4a.out)).trans HC4a.out
  have y0 := cells_of HC5 0
  have y1 := cells_of HC5 1
  have y2 := cells_of HC5 2
  simp only [List.getElem?_toArray, List.getElem?_cons_zero, List.getElem?_cons_succ] at y0 y1 y2
  have HB5 := Lib.hid (HB4a.out.trans (hb5.mono HB4a.out.size))
  clear hb5 HC5 x0 x1 x2
  go_wp2_with fail
  refine (Htb.out _).mono ?_
  rintro e w6 ⟨rfl, hb6⟩
  have HB6 := Lib.hid (HB5.out.trans (hb6.mono HB5.out.size))
  clear hb6 y0 y1 y2
  go_wp2_with fail
  go_ret
  exact ⟨rfl, HB6.out⟩
end Go.Proofs.YtlledodigmkdjaaGreatDoor
