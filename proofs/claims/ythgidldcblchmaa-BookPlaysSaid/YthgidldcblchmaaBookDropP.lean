/-
  Drop and Len of a map of pairs of symbols and numbers. No condition but a bound on sizes.
-/
import Derived.Test.YthgidldcblchmaaBookPutP
import Derived.Deep.RegionHeld3
namespace Go.Proofs.Ythgidldcblchmaa
set_option linter.unusedVariables false
open Go.RowKit
theorem len_mapP (w : World) (b s : Nat) (xs : List Pr) (h : MapP w b s xs) : Calls Try.prog 31 #[.pointer (some ⟨b, 0, none⟩)] w fun e w' => e = .returned (.int .i64 xs.length) ∧ w = w' := by
  have h0 : w.cell? ⟨b, 0, none⟩ = some (.pointer (some ⟨s, 0, none⟩)) := by rw [cells_of h.1]; rfl
  have hl := len_setP w s xs h.2
  have Hl := Lib.hid hl
  clear hl h
  go_enter Try.func31, Try.ntmps31
  go_wp2_with (go_at_call 66; refine Hl.out.mono ?_; rintro e w2 ⟨rfl, rfl⟩)
  go_ret
  exact ⟨rfl, rfl⟩
def DropMOut (w : World) (b s : Nat) (v : Int) (ok : Bool) (xs : List Pr) (e : Ending) (w' : World) : Prop := e = .returned (.tuple #[.int .i64 v, .bool ok]) ∧ w.grownBy w' (some s) ∧ MapP w' b s xs
set_option maxHeartbeats 2000000 in
theorem drop_mapP (w : World) (b s : Nat) (k : Sy) (xs : List Pr) (h : MapP w b s xs) (hz : xs.length ≤ 1000000) (z : Pr) (ok : Bool) (hzz : z = (look cmpP ⟨k, 0⟩ xs).getD zeroP) (hok : ok = (look cmpP (⟨k, 0⟩ : Pr) xs).isSome) :
    Calls Try.prog 27 #[.pointer (some ⟨b, 0, none⟩), .agg #[.int .i64 k.k, .string k.t, .int .i64 k.n]] w (DropMOut w b s z.v ok (del cmpP ⟨k, 0⟩ xs)) := by
  obtain ⟨hb, hS⟩ := h
  have hne : b ≠ s := by
    rintro rfl
    obtain ⟨p, T, hr, -⟩ := hS
    rw [hb] at hr; cases hr
  obtain ⟨W1, hW1⟩ : ∃ W1, W1 = w.alloc (.cells #[.int .i64 k.k, .string k.t, .int .i64 k.n] 27) := ⟨_, rfl⟩
  have hB : Below w.heap.size w W1 := by rw [hW1]; go_grown
  have hx : W1.heap[w.heap.size]? = some (.cells #[.int .i64 k.k, .string k.t, .int .i64 k.n] 27 (0, 0)) := by rw [hW1]; exact new_at rfl
  have hsl := IsSet.lt hS
  have hk : ∀ w', W1.grownBy w' (some s) → (w'.cell? ⟨b, 0, none⟩ = some (.pointer (some ⟨s, 0, none⟩)) ∧ w'.cell? ⟨w.heap.size, 0, none⟩ = some (.int .i64 k.k) ∧ w'.cell? ⟨w.heap.size, 1, none⟩ = some (.string k.t) ∧ w'.cell? ⟨w.heap.size, 2, none⟩ = some (.int .i64 k.n)) := by
    intro w' h
    have h1 := (h.block b (Nat.lt_of_lt_of_le (heap_lt hb) hB.size) (by simpa using hne)).trans ((hB.block b (heap_lt hb)).trans hb)
    have h2 := (h.block _ (heap_lt hx) (by simp; omega)).trans hx
    exact ⟨by rw [cells_of h1]; rfl, by rw [cells_of h2]; rfl, by rw [cells_of h2]; rfl, by rw [cells_of h2]; rfl⟩
  have hget := get_mapP W1 b s k xs (MapP.mono ⟨hb, hS⟩ hB) z ok hzz hok
  have hdrop := fun w' (h : Below w.heap.size w w') => (drop_anyP w' s ⟨k, 0⟩ xs (IsSet.mono hS h) hz).mono (R' := fun e w2 => (∃ q, e = .returned (.bool q)) ∧ w'.grownBy w2 (some s) ∧ SetP w2 s (del cmpP ⟨k, 0⟩ xs)) (by
    rintro e w2 ⟨he, h1, h2⟩
    exact ⟨⟨_, he⟩, h1, h2⟩)
  have hfin : ∀ w2, W1.grownBy w2 (some s) → SetP w2 s (del cmpP ⟨k, 0⟩ xs) → DropMOut w b s z.v ok (del cmpP ⟨k, 0⟩ xs) (.returned (.tuple #[.int .i64 z.v, .bool ok])) w2 := fun w2 h2 h3 =>
    ⟨rfl, gtrans (gbelow hB) h2, ⟨(h2.block b (Nat.lt_of_lt_of_le (heap_lt hb) hB.size) (by simpa using hne)).trans ((hB.block b (heap_lt hb)).trans hb), h3⟩⟩
  obtain ⟨c0, d0, d1, d2⟩ := hk W1 (gbelow (Below.refl _ _))
  have HK := Lib.hid hk
  have HG := Lib.hid hget
  have HD := Lib.hid hdrop
  have HF := Lib.hid hfin
  have HB := Lib.hid hB
  have HW := Lib.hid hW1
  have hltb := heap_lt hb
  have hltW : b < W1.heap.size := Nat.lt_of_lt_of_le hltb hB.size
  clear hk hget hdrop hfin hB hW1 hb hS hx hzz hok hz
  go_enter Try.func27, Try.ntmps27
  go_wp2_with fail
  rw [← HW.out]
  refine HG.out.mono ?_
  rintro e w2 ⟨rfl, hb2⟩
  have HB2 := Lib.hid hb2
  obtain ⟨c0', d0', d1', d2'⟩ := HK.out w2 (gbelow hb2)
  clear c0 d0 d1 d2 hb2
  go_wp2_with fail
  have hcur : Hid (Below W1.heap.size W1 w2.drew) := Lib.hid HB2.out.drew
  go_region_held3 (fun w' => W1.grownBy w' (some s) ∧ w'.cell? ⟨b, 0, none⟩ = some (.pointer (some ⟨s, 0, none⟩)) ∧ w'.cell? ⟨w.heap.size, 0, none⟩ = some (.int .i64 k.k) ∧ w'.cell? ⟨w.heap.size, 1, none⟩ = some (.string k.t) ∧ w'.cell? ⟨w.heap.size, 2, none⟩ = some (.int .i64 k.n))
    (first | exact ⟨hgr.out, HK.out _ hgr.out⟩ | exact ⟨gbelow hcur.out, HK.out _ (gbelow hcur.out)⟩ | go_keep)
    (first
      | (go_at_call 64; refine (at_bookP _ k).mono ?_; rintro e w3 ⟨rfl, h3⟩; replace hcur := Lib.hid (hcur.out.trans (h3.mono hcur.out.size)); clear h3)
      | (go_at_call 62; (with_reducible refine (HD.out _ (HB.out.trans (hcur.out.mono HB.out.size))).mono ?_); rintro e w4 ⟨⟨q, rfl⟩, hg4, hs4⟩; have hgr : Hid (W1.grownBy w4 (some s)) := Lib.hid (gtrans (gbelow hcur.out) hg4); have HS4 := Lib.hid hs4; clear hg4 hs4))
  all_goals
    rename_i hHeld
    clear hHeld
    go_wp2_with fail
    go_ret2
    exact HF.out _ hgr.out HS4.out
end Go.Proofs.Ythgidldcblchmaa
