/-
  The walk of RowRooms.
-/
import Derived.Test.YthieabhemiikhaaQueS
import Derived.Test.YthieabhemiikhaaRowWakes
import Derived.Test.YthieabhemiikhaaRowArg
import Derived.Deep.OwnRows
import Derived.Laws.BytesArg
namespace Go.Proofs.Ythieabhemiikhaa
set_option linter.unusedVariables false
open Go.RowKit
def One (u : Value) : Prop := ∃ s : ByteArray, u = .string s ∧ s.size = 1
def RoomI (w wr : World) (q room : Nat) : Prop :=
  ∃ (v : Value) (xs : List Value), Below w.heap.size w wr ∧ QS wr q v room xs ∧ xs.length ≤ room ∧ (∀ u ∈ xs, One u) ∧ ∀ g, v.ownBlock = some g → w.heap.size ≤ g
/-- The first k of n strings are of one byte. -/
def Row1 (w : World) (B n k : Nat) : Prop := ∃ cur, w.heap[B]? = some (.cells cur 9 (0, 0)) ∧ cur.size = n ∧ ∀ j, j < k → ∃ u, cur[j]? = some u ∧ One u
theorem Row1.step {w : World} {B n j : Nat} (h : Row1 w B n j) (hj : j < n) {S : ByteArray} (hS : S.size = 1) (o : Obj) : Row1 ((w.setCell ⟨B, j, none⟩ (.string S)).alloc o) B n (j + 1) ∧ w.grownBy ((w.setCell ⟨B, j, none⟩ (.string S)).alloc o) (some B) := by
  obtain ⟨cur, h1, h2, h3⟩ := h
  have h4 : (w.setCell ⟨B, j, none⟩ (.string S)).heap[B]? = some (.cells (cur.setIfInBounds j (.string S)) 9 (0, 0)) := by simp [World.setCell, Array.getElem?_modify, h1]
  have h5 : (w.setCell ⟨B, j, none⟩ (.string S)).heap.size = w.heap.size := by simp [World.setCell]
  refine ⟨⟨cur.setIfInBounds j (.string S), (Below.heap_alloc _ _ _ (heap_lt h4)).trans h4, by simpa using h2, fun i hi => ?_⟩, ⟨rfl, rfl, rfl, by simp [World.setCell], fun k hk hne => ?_⟩⟩
  · by_cases e : i = j
    · subst e; exact ⟨.string S, by rw [Array.getElem?_setIfInBounds_self_of_lt (by omega)], S, rfl, hS⟩
    · obtain ⟨u, hu, hu1⟩ := h3 i (by omega)
      exact ⟨u, by rw [Array.getElem?_setIfInBounds_ne (by omega)]; exact hu, hu1⟩
  · rw [Below.heap_alloc _ _ _ (by rw [h5]; exact hk), Below.heap_setCell _ _ _ _ (by simpa using hne)]
theorem Row1.list {w : World} {B n : Nat} (h : Row1 w B n n) (hn : n ≤ maxLen) : ∃ ls : List Value, ls.length = n ∧ Reads w (.slice (some ⟨B, 0, none⟩) n n) ls ∧ ∀ u ∈ ls, One u := by
  obtain ⟨cur, h1, h2, h3⟩ := h
  refine ⟨cur.toList, by simpa using h2, ⟨_, n, by rw [Array.length_toList, h2], by simp [h2], hn, .inr ⟨B, 0, rfl, heap_lt h1, fun j hj => ?_⟩⟩, fun u hu => ?_⟩
  · rw [Nat.zero_add, cells_of h1]; simp at hj; simp [hj]
  · obtain ⟨i, hi, rfl⟩ := List.mem_iff_getElem.1 hu
    obtain ⟨u, hu, hu1⟩ := h3 i (by simp at hi; omega)
    simp at hi
    rw [Array.getElem?_eq_getElem hi] at hu
    cases hu; exact hu1
theorem One.cell {u : Value} (h : One u) : u.oneCell' = true := by obtain ⟨s, rfl, -⟩ := h; rfl
/-- The row of strings, whatever they are. -/
def Row0 (w : World) (B n : Nat) : Prop := ∃ cur, w.heap[B]? = some (.cells cur 9 (0, 0)) ∧ cur.size = n
theorem Row0.set {w : World} {B n : Nat} (h : Row0 w B n) (j : Nat) (u : Value) : Row0 (w.setCell ⟨B, j, none⟩ u) B n := by
  obtain ⟨cur, h1, h2⟩ := h
  exact ⟨cur.setIfInBounds j u, by simp [World.setCell, Array.getElem?_modify, h1], by simpa using h2⟩
theorem gset (w : World) (b : Nat) (o : Nat) (v : Value) : w.grownBy (w.setCell ⟨b, o, none⟩ v) (some b) :=
  ⟨rfl, rfl, rfl, by simp [World.setCell], fun i _ hn => Below.heap_setCell _ _ _ _ (by simpa using hn)⟩
theorem gtrans {a b c : World} {r : Nat} (h : a.grownBy b (some r)) (k : b.grownBy c (some r)) : a.grownBy c (some r) :=
  ⟨k.os.trans h.os, k.tape.trans h.tape, k.output.trans h.output, Nat.le_trans h.size k.size, fun i hi hn => (k.block i (Nat.lt_of_lt_of_le hi h.size) hn).trans (h.block i hi hn)⟩
/-- The state behind a push: the queue's words, and that the row B is no block of it. -/
def RoomJ (w wr : World) (q room B : Nat) : Prop :=
  ∃ (v : Value) (xs : List Value), Below w.heap.size w wr ∧ QS wr q v room xs ∧ xs.length ≤ room ∧ (∀ u ∈ xs, One u) ∧ (∀ g, v.ownBlock = some g → w.heap.size ≤ g) ∧ v.ownBlock ≠ some B
theorem RoomJ.toI {w wr w' : World} {q room B : Nat} (h : RoomJ w wr q room B) (hg : wr.grownBy w' (some B)) (hB : w.heap.size ≤ B) (hq : q ≠ B) : RoomI w w' q room := by
  obtain ⟨v, xs, h1, h2, h3, h4, h5, h6⟩ := h
  refine ⟨v, xs, h1.trans ((Touch.grown hg).below h1.size (fun k _ hk => by cases hk; exact hB)), h2.but (Touch.grown hg) (fun e => hq (by simpa using e)) (fun g hgg e => h6 (by rw [hgg]; exact e)), h3, h4, h5⟩
set_option maxRecDepth 100000 in
set_option maxHeartbeats 4000000 in
theorem rooms_walk (w : World) (n0 : Int) (r0 : InR n0) (a : Option Addr) (len cap : Nat) (zs : List Int) (hz : ArgI w a len cap zs) :
    Calls Try.prog 7 #[.int .i64 n0, .slice a len cap] w fun e w' => e = .returned (.bool true) ∧ Below w.heap.size w w' := by
  obtain ⟨rfl, hz, hzr⟩ := hz
  obtain ⟨a', cap', hae, hlc, hcm, hcells⟩ := hz
  simp only [List.length_map] at hae hlc hcells
  obtain ⟨rfl, -, rfl⟩ : a = a' ∧ True ∧ cap = cap' := by simpa using hae
  clear hae
  unfold maxLen at hcm
  have hm1 := Int.emod_nonneg n0 (show (300 : Int) ≠ 0 by omega)
  have hm2 := Int.emod_lt_of_pos n0 (show (0 : Int) < 300 by omega)
  obtain ⟨m, hm⟩ : ∃ m : Nat, n0 % (300 : Nat) = m := ⟨(n0 % 300).toNat, by omega⟩
  have hw := within_all w n0 300 r0.1 r0.2 (by omega) (by omega)
  rw [hm] at hw
  have hm3 : m < 300 := by omega
  have hnew := new_okS w (1 + m) (by omega) (by omega)
  have hnew : Calls Try.prog 25 #[.int .i64 (1 + (m : Int))] w fun e w' => e = .returned (.tuple #[.pointer (some ⟨w.heap.size, 0, none⟩), .int .i64 0]) ∧ RoomI w w' w.heap.size (1 + m) := by
    have := hnew.mono (R' := fun e w' => e = .returned (.tuple #[.pointer (some ⟨w.heap.size, 0, none⟩), .int .i64 0]) ∧ RoomI w w' w.heap.size (1 + m)) (by
      rintro e w' ⟨he, rfl⟩
      refine ⟨he, .slice none 0 0, ([] : List Value), (Below.refl _ _).alloc (Nat.le_refl _) _, ⟨new_at rfl, OffRow.nil _ _⟩, by simp, by simp, by simp [Value.ownBlock]⟩)
    simpa using this
  have HW := Lib.hid hw
  have HN := Lib.hid hnew
  have Hcells := Lib.hid hcells
  have Hzr := Lib.hid hzr
  clear hw hnew hcells hzr hm hm1 hm2
  go_enter Try.func7, Try.ntmps7
  go_wp2_with fail
  refine HW.out.mono ?_
  rintro e w' ⟨rfl, rfl⟩
  go_wp2_with fail
  refine HN.out.mono ?_
  rintro e w1 ⟨rfl, hI⟩
  have hI := Lib.hid hI
  rename_i hI0
  clear hI0
  go_wp2_with fail
  go_loopw [7] (fun i wr => ∃ k : Nat, k ≤ zs.length ∧ k ≤ 50 ∧ i = .int .i64 k ∧ Hid (RoomI w wr w.heap.size (1 + m))) (fun i _ => zs.length - (intOf i).toNat)
  case atStart => exact ⟨0, Nat.zero_le _, by omega, rfl, hI⟩
  case round =>
    obtain ⟨k, hk, hk50, rfl, hI⟩ := hrel
    by_cases hlt : k < zs.length ∧ k < 50
    · obtain ⟨hlt, hlt2⟩ := hlt
      obtain ⟨b, off, rfl, hb, hcell⟩ : ∃ b off, a = some ⟨b, off, none⟩ ∧ b < w.heap.size ∧ ∀ j (h : j < zs.length), w.cell? ⟨b, off + j, none⟩ = some (.int .i64 zs[j]) := by
        rcases Hcells.out with h0 | ⟨b, off, h1, h2, h3⟩
        · omega
        · exact ⟨b, off, h1, h2, fun j hj => by have := h3 j hj; simpa using this⟩
      obtain ⟨v, xs, hB, hQ, hx, hs1, hg⟩ := hI.out
      have ck := (hB.cell (p := ⟨b, off + k, none⟩) hb).trans (hcell k hlt)
      obtain ⟨z, hz⟩ : ∃ z, z = zs[k] := ⟨_, rfl⟩
      have hzr := Hzr.out zs[k] (List.getElem_mem hlt)
      rw [← hz] at ck hzr
      have hn1 := Int.emod_nonneg z (show (120 : Int) ≠ 0 by omega)
      have hn2 := Int.emod_lt_of_pos z (show (0 : Int) < 120 by omega)
      obtain ⟨n, hn⟩ : ∃ n : Nat, z % (120 : Nat) = n := ⟨(z % 120).toNat, by omega⟩
      have hn3 : n < 120 := by omega
      have hw2 := within_all wr z 120 hzr.1 hzr.2 (by omega) (by omega)
      rw [hn] at hw2
      have HW2 := Lib.hid hw2
      have HB := Lib.hid hB
      have HQ := Lib.hid hQ
      have HS := Lib.hid hs1
      have HG := Lib.hid hg
      clear hw2 hn hn1 hn2 hz hzr hcell hB hQ hs1 hg hI
      have hki : (k : Int) < (zs.length : Int) := by omega
      go_wp2_with fail
      refine HW2.out.mono ?_
      rintro e w' ⟨rfl, rfl⟩
      obtain ⟨B, hBe⟩ : ∃ B, B = wr.heap.size := ⟨_, rfl⟩
      obtain ⟨W1, hW1⟩ : ∃ W1, W1 = wr.alloc (.cells (madeCells #[.string ⟨#[]⟩] n) 9) := ⟨_, rfl⟩
      have hmk := run_make_row' (P := Try.prog) 52 9 (.string ⟨#[]⟩) 16 Try.underlying52 infoS rfl .i64 .i64 n (by omega) (by omega) wr
      rw [← hW1, ← hBe] at hmk
      have hM : Row1 W1 B n 0 := ⟨_, by rw [hW1]; exact new_at hBe, by simp [madeCells], fun j hj => by omega⟩
      have hb1 : Below wr.heap.size wr W1 := by rw [hW1]; exact (Below.refl _ _).alloc (Nat.le_refl _) _
      have HM := Lib.hid hM
      have HB1 := Lib.hid hb1
      have HBe := Lib.hid hBe
      clear hM hb1 hBe hW1
      go_wp2_with fail
      obtain ⟨wo, rfl⟩ : ∃ wo : World, wo = wr := ⟨_, rfl⟩
      go_loopw [10] (fun i wi => ∃ j : Nat, j ≤ n ∧ i = .int .i64 j ∧ Hid (Row1 wi B n j) ∧ Hid (W1.grownBy wi (some B))) (fun i _ => n - (intOf i).toNat)
      case atStart => exact ⟨0, Nat.zero_le _, rfl, HM, Lib.hid ⟨rfl, rfl, rfl, Nat.le_refl _, fun _ _ _ => rfl⟩⟩
      case round =>
        obtain ⟨j, hj, rfl, hR, hG⟩ := hrel
        by_cases hjn : j < n
        · obtain ⟨cur, hc1, hc2, hc3⟩ := hR.out
          have hcj : (wr.cell? ⟨B, j, none⟩).isSome = true := cell_some hc1 (by omega)
          obtain ⟨cv, hcv⟩ := Option.isSome_iff_exists.1 hcj
          have hfj : wr.frozen? ⟨B, j, none⟩ = false := frozen_of hc1
          have hjm1 : 0 ≤ (j : Int) % 26 := Int.emod_nonneg _ (by omega)
          have hjm2 : (j : Int) % 26 < 26 := Int.emod_lt_of_pos _ (by omega)
          have hjt : (j : Int).tmod 26 = (j : Int) % 26 := Int.tmod_eq_emod_of_nonneg (by omega)
          have hBi : B < wr.heap.size := heap_lt hc1
          clear hc1 hc2 hc3
          obtain ⟨S, hS, hS1⟩ : ∃ S : ByteArray, (convert 53 9 (.slice (some ⟨wr.heap.size, 0, none⟩) 1 1)).run Try.prog (wr.alloc (.cells #[.int .u8 (97 + (j : Int) % 26)] 5)) = .ok (.string S) (wr.alloc (.cells #[.int .u8 (97 + (j : Int) % 26)] 5)) ∧ S.size = 1 :=
            ⟨_, run_convert_bytes_arg (P := Try.prog) (wr.alloc (.cells #[.int .u8 (97 + (j : Int) % 26)] 5)) 53 5 Try.underlying53 Try.underlying5 wr.heap.size 0 1 1 [97 + (j : Int) % 26] rfl (fun i hi => by
              obtain rfl : i = 0 := by omega
              rw [cells_of (new_at rfl)]; rfl) 9 Try.underlying9, by rw [strOfNums_size]; rfl⟩
          obtain ⟨hR2, hG2⟩ := hR.out.step hjn hS1 (.cells #[.int .u8 (97 + (j : Int) % 26)] 5)
          have HR2 := Lib.hid hR2
          have HG2 := Lib.hid (gtrans hG.out hG2)
          clear hR2 hG2 hS1
          go_wp2_with fail
          go_roundw
          case rel => exact ⟨j + 1, by omega, by go_num, HR2, HG2⟩
          case measure => simp [intOf]; omega
        · obtain rfl : j = n := by omega
          obtain ⟨ls, hl1, hl2, hl3⟩ := hR.out.list (by unfold maxLen; omega)
          have hBw : w.heap.size ≤ B := by have := HBe.out; have := HB.out.size; omega
          have hqB : w.heap.size < B := by have := HBe.out; have := HQ.out.lt; omega
          have hbr : Below wo.heap.size wo wr := HB1.out.trans ((Touch.grown hG.out).below HB1.out.size (fun k _ hk => by cases hk; have := HBe.out; omega))
          have hQ2 : QS wr w.heap.size v (1 + m) xs := HQ.out.mono hbr
          have hB2 : Below w.heap.size w wr := HB.out.trans (hbr.mono HB.out.size)
          have hvB : v.ownBlock ≠ some B := fun e => by have := HQ.out.2.lt e; have := HBe.out; omega
          have hr0 : Row0 wr B j := by obtain ⟨cur, h1, h2, -⟩ := hR.out; exact ⟨cur, h1, h2⟩
          have hBl : B < wr.heap.size := by obtain ⟨cur, h1, h2⟩ := hr0; exact heap_lt h1
          have hlen := len_anyS wr _ _ _ _ hQ2
          have HL := Lib.hid hlen
          by_cases hfit : xs.length + j ≤ 1 + m
          · have hp := (push_okS wr _ v (1 + m) xs hQ2 _ ls hl2 (fun u hu => (hl3 u hu).cell) (by rw [hl1]; exact hfit) (by omega)).mono (R' := fun e w' => e = .returned (.bool true) ∧ (∃ v' ys, QS w' w.heap.size v' (1 + m) ys ∧ ys.length = xs.length + j) ∧ RoomJ w w' w.heap.size (1 + m) B ∧ Row0 w' B j) (by
              rintro e w' ⟨he, v', h1, h2, h3⟩
              refine ⟨he, ⟨v', _, h1, by rw [List.length_append, hl1]⟩, ⟨v', _, hB2.trans (h2.below hB2.size (fun k _ hk => ?_)), h1, by rw [List.length_append, hl1]; exact hfit, fun u hu => ?_, fun g hg => ?_, fun e => ?_⟩, ?_⟩
              · rcases hk with rfl | hk
                · exact Nat.le_refl _
                · exact HG.out k hk
              · rcases List.mem_append.1 hu with hu | hu
                · exact HS.out u hu
                · exact hl3 u hu
              · rcases h3 with h3 | h3 | ⟨g', h3, h4⟩
                · exact HG.out g (by rw [← h3]; exact hg)
                · rw [h3] at hg; cases hg
                · rw [h3] at hg; cases hg; exact Nat.le_trans hB2.size h4
              · rcases h3 with h3 | h3 | ⟨g', h3, h4⟩
                · exact hvB (by rw [← h3]; exact e)
                · rw [h3] at e; cases e
                · rw [h3] at e; cases e; omega
              · obtain ⟨cur, h1, h2'⟩ := hr0
                exact ⟨cur, (h2.block B hBl (fun hk => by
                  rcases hk with hk | hk
                  · omega
                  · exact hvB hk)).trans h1, h2'⟩)
            have HP := Lib.hid hp
            clear hp hl1 hl2 hl3 hQ2 hB2 hr0 hR hG hlen hvB hbr
            by_cases h0 : j = 0
            · have hne1 : ((xs.length : Int) + (j : Int) != (xs.length : Int)) = false := by simp; omega
              have hne2 : ((xs.length : Int) + (j : Int) == (xs.length : Int)) = true := by simp; omega
              clear h0
              go_wp2_with fail
              refine HL.out.mono ?_
              rintro e w' ⟨rfl, rfl⟩
              go_wp2_with fail
              refine HP.out.mono ?_
              rintro e w5 ⟨rfl, ⟨v', ys, q5, l5⟩, J5, r5⟩
              have hlen5 := len_anyS _ _ _ _ _ q5
              rw [l5] at hlen5
              have HL5 := Lib.hid hlen5
              have hJ := Lib.hid J5
              have hr5 := Lib.hid r5
              clear q5 J5 r5 hlen5 l5
              go_wp2_with fail
              refine HL5.out.mono ?_
              rintro e w' ⟨rfl, rfl⟩
              go_wp2_with fail
              refine HL5.out.mono ?_
              rintro e w' ⟨rfl, rfl⟩
              go_wp2_with fail
              go_loopw [12] (fun i wr => ∃ t : Nat, t ≤ j ∧ i = .int .i64 t ∧ Hid (Row0 wr B j) ∧ Hid (w5.grownBy wr (some B))) (fun i _ => j - (intOf i).toNat)
              case atStart => exact ⟨0, Nat.zero_le _, rfl, hr5, Lib.hid ⟨rfl, rfl, rfl, Nat.le_refl _, fun _ _ _ => rfl⟩⟩
              case round =>
                clear HL HP
                obtain ⟨t, ht, rfl, hr6, hg6⟩ := hrel
                by_cases htj : t < j
                · obtain ⟨cur, hc1, hc2⟩ := hr6.out
                  have hcj : (wr.cell? ⟨B, t, none⟩).isSome = true := cell_some hc1 (by omega)
                  obtain ⟨cv, hcv⟩ := Option.isSome_iff_exists.1 hcj
                  have hfj : wr.frozen? ⟨B, t, none⟩ = false := frozen_of hc1
                  have HR2 := Lib.hid (hr6.out.set t (.string ⟨#[103, 111, 110, 101]⟩))
                  have HG2 := Lib.hid (gtrans hg6.out (gset wr B t (.string ⟨#[103, 111, 110, 101]⟩)))
                  clear hc1 hc2
                  go_wp2_with fail
                  go_roundw
                  case rel => exact ⟨t + 1, by omega, by go_num, HR2, HG2⟩
                  case measure => simp [intOf]; omega
                · obtain rfl : t = j := by omega
                  have hI6 := hJ.out.toI hg6.out hBw (by omega)
                  have hkt : (k : Int).tmod 3 = (k : Int) % 3 := Int.tmod_eq_emod_of_nonneg (by omega)
                  by_cases h3 : k % 3 = 2
                  · have hk3 : ((k : Int) % 3 == 2) = true := by simp; omega
                    obtain ⟨v6, xs6, hB6, hQ6, hx6, hs6, hg6'⟩ := hI6
                    cases xs6 with
                    | nil =>
                      have hp6 := (pop_nilS wr _ _ _ hQ6).mono (R' := fun e w' => e = .returned (.tuple #[.string ⟨#[]⟩, .bool false]) ∧ RoomI w w' w.heap.size (1 + m)) (by
                        rintro e w' ⟨he, rfl⟩
                        have hb6 : Below wr.heap.size wr (wr.alloc (.cells #[.string ⟨#[]⟩] 9)) := (Below.refl _ _).alloc (Nat.le_refl _) _
                        exact ⟨he, v6, [], hB6.trans (hb6.mono hB6.size), hQ6.mono hb6, by simp, by simp, hg6'⟩)
                      have HP6 := Lib.hid hp6
                      clear hp6 hQ6 hB6 hx6 hs6 hg6' h3
                      go_wp2_with fail
                      refine HP6.out.mono ?_
                      rintro e w7 ⟨rfl, h7⟩
                      have H7 := Lib.hid h7
                      clear h7
                      go_wp2_with fail
                      go_roundw
                      case rel => exact ⟨k + 1, by omega, by omega, by go_num, H7⟩
                      case measure => simp [intOf]; omega
                    | cons u rest =>
                      obtain ⟨s, rfl, hs⟩ := hs6 u (by simp)
                      have hp6 := (pop_consS wr _ _ _ _ _ hQ6).mono (R' := fun e w' => e = .returned (.tuple #[.string s, .bool true]) ∧ RoomI w w' w.heap.size (1 + m)) (by
                        rintro e w' ⟨he, v7, h1, h2, h3'⟩
                        refine ⟨he, v7, rest, hB6.trans (h2.below hB6.size (fun k _ hk => ?_)), h1, by simp at hx6; omega, fun u hu => hs6 u (by simp [hu]), fun g hg => ?_⟩
                        · rcases hk with rfl | hk
                          · exact Nat.le_refl _
                          · exact hg6' k hk
                        · rcases h3' with h4 | h4 | ⟨g', h4, h5⟩
                          · exact hg6' g (by rw [← h4]; exact hg)
                          · rw [h4] at hg; cases hg
                          · rw [h4] at hg; cases hg; exact Nat.le_trans hB6.size h5)
                      have HP6 := Lib.hid hp6
                      clear hp6 hQ6 hB6 hx6 hs6 hg6' h3
                      go_wp2_with fail
                      refine HP6.out.mono ?_
                      rintro e w7 ⟨rfl, h7⟩
                      have H7 := Lib.hid h7
                      clear h7
                      go_wp2_with fail
                      go_roundw
                      case rel => exact ⟨k + 1, by omega, by omega, by go_num, H7⟩
                      case measure => simp [intOf]; omega
                  · have hk3 : ((k : Int) % 3 == 2) = false := by simp; omega
                    have H7 := Lib.hid hI6
                    clear hI6 h3
                    go_wp2_with fail
                    go_roundw
                    case rel => exact ⟨k + 1, by omega, by omega, by go_num, H7⟩
                    case measure => simp [intOf]; omega
            · have hne1 : ((xs.length : Int) + (j : Int) != (xs.length : Int)) = true := by simp; omega
              have hne2 : ((xs.length : Int) + (j : Int) == (xs.length : Int)) = false := by simp; omega
              clear h0
              go_wp2_with fail
              refine HL.out.mono ?_
              rintro e w' ⟨rfl, rfl⟩
              go_wp2_with fail
              refine HP.out.mono ?_
              rintro e w5 ⟨rfl, ⟨v', ys, q5, l5⟩, J5, r5⟩
              have hlen5 := len_anyS _ _ _ _ _ q5
              rw [l5] at hlen5
              have HL5 := Lib.hid hlen5
              have hJ := Lib.hid J5
              have hr5 := Lib.hid r5
              clear q5 J5 r5 hlen5 l5
              go_wp2_with fail
              refine HL5.out.mono ?_
              rintro e w' ⟨rfl, rfl⟩
              go_wp2_with fail
              refine HL5.out.mono ?_
              rintro e w' ⟨rfl, rfl⟩
              go_wp2_with fail
              refine HL5.out.mono ?_
              rintro e w' ⟨rfl, rfl⟩
              go_wp2_with fail
              go_loopw [12] (fun i wr => ∃ t : Nat, t ≤ j ∧ i = .int .i64 t ∧ Hid (Row0 wr B j) ∧ Hid (w5.grownBy wr (some B))) (fun i _ => j - (intOf i).toNat)
              case atStart => exact ⟨0, Nat.zero_le _, rfl, hr5, Lib.hid ⟨rfl, rfl, rfl, Nat.le_refl _, fun _ _ _ => rfl⟩⟩
              case round =>
                clear HL HP
                obtain ⟨t, ht, rfl, hr6, hg6⟩ := hrel
                by_cases htj : t < j
                · obtain ⟨cur, hc1, hc2⟩ := hr6.out
                  have hcj : (wr.cell? ⟨B, t, none⟩).isSome = true := cell_some hc1 (by omega)
                  obtain ⟨cv, hcv⟩ := Option.isSome_iff_exists.1 hcj
                  have hfj : wr.frozen? ⟨B, t, none⟩ = false := frozen_of hc1
                  have HR2 := Lib.hid (hr6.out.set t (.string ⟨#[103, 111, 110, 101]⟩))
                  have HG2 := Lib.hid (gtrans hg6.out (gset wr B t (.string ⟨#[103, 111, 110, 101]⟩)))
                  clear hc1 hc2
                  go_wp2_with fail
                  go_roundw
                  case rel => exact ⟨t + 1, by omega, by go_num, HR2, HG2⟩
                  case measure => simp [intOf]; omega
                · obtain rfl : t = j := by omega
                  have hI6 := hJ.out.toI hg6.out hBw (by omega)
                  have hkt : (k : Int).tmod 3 = (k : Int) % 3 := Int.tmod_eq_emod_of_nonneg (by omega)
                  by_cases h3 : k % 3 = 2
                  · have hk3 : ((k : Int) % 3 == 2) = true := by simp; omega
                    obtain ⟨v6, xs6, hB6, hQ6, hx6, hs6, hg6'⟩ := hI6
                    cases xs6 with
                    | nil =>
                      have hp6 := (pop_nilS wr _ _ _ hQ6).mono (R' := fun e w' => e = .returned (.tuple #[.string ⟨#[]⟩, .bool false]) ∧ RoomI w w' w.heap.size (1 + m)) (by
                        rintro e w' ⟨he, rfl⟩
                        have hb6 : Below wr.heap.size wr (wr.alloc (.cells #[.string ⟨#[]⟩] 9)) := (Below.refl _ _).alloc (Nat.le_refl _) _
                        exact ⟨he, v6, [], hB6.trans (hb6.mono hB6.size), hQ6.mono hb6, by simp, by simp, hg6'⟩)
                      have HP6 := Lib.hid hp6
                      clear hp6 hQ6 hB6 hx6 hs6 hg6' h3
                      go_wp2_with fail
                      refine HP6.out.mono ?_
                      rintro e w7 ⟨rfl, h7⟩
                      have H7 := Lib.hid h7
                      clear h7
                      go_wp2_with fail
                      go_roundw
                      case rel => exact ⟨k + 1, by omega, by omega, by go_num, H7⟩
                      case measure => simp [intOf]; omega
                    | cons u rest =>
                      obtain ⟨s, rfl, hs⟩ := hs6 u (by simp)
                      have hp6 := (pop_consS wr _ _ _ _ _ hQ6).mono (R' := fun e w' => e = .returned (.tuple #[.string s, .bool true]) ∧ RoomI w w' w.heap.size (1 + m)) (by
                        rintro e w' ⟨he, v7, h1, h2, h3'⟩
                        refine ⟨he, v7, rest, hB6.trans (h2.below hB6.size (fun k _ hk => ?_)), h1, by simp at hx6; omega, fun u hu => hs6 u (by simp [hu]), fun g hg => ?_⟩
                        · rcases hk with rfl | hk
                          · exact Nat.le_refl _
                          · exact hg6' k hk
                        · rcases h3' with h4 | h4 | ⟨g', h4, h5⟩
                          · exact hg6' g (by rw [← h4]; exact hg)
                          · rw [h4] at hg; cases hg
                          · rw [h4] at hg; cases hg; exact Nat.le_trans hB6.size h5)
                      have HP6 := Lib.hid hp6
                      clear hp6 hQ6 hB6 hx6 hs6 hg6' h3
                      go_wp2_with fail
                      refine HP6.out.mono ?_
                      rintro e w7 ⟨rfl, h7⟩
                      have H7 := Lib.hid h7
                      clear h7
                      go_wp2_with fail
                      go_roundw
                      case rel => exact ⟨k + 1, by omega, by omega, by go_num, H7⟩
                      case measure => simp [intOf]; omega
                  · have hk3 : ((k : Int) % 3 == 2) = false := by simp; omega
                    have H7 := Lib.hid hI6
                    clear hI6 h3
                    go_wp2_with fail
                    go_roundw
                    case rel => exact ⟨k + 1, by omega, by omega, by go_num, H7⟩
                    case measure => simp [intOf]; omega
          · have hp := (push_noS wr _ v (1 + m) xs hQ2 _ ls hl2 (by rw [hl1]; omega) (by omega)).mono (R' := fun e w' => e = .returned (.bool false) ∧ (∃ v' ys, QS w' w.heap.size v' (1 + m) ys ∧ ys.length = xs.length) ∧ RoomJ w w' w.heap.size (1 + m) B ∧ Row0 w' B j) (by
              rintro e w' ⟨he, nq, rfl⟩
              have hQ3 : QS (wr.drewN nq) w.heap.size v (1 + m) xs := ⟨hQ2.1, hQ2.2.but (Touch.drewN nq (Touch.refl (fun _ => False) wr)) (fun _ _ h => h)⟩
              exact ⟨he, ⟨v, _, hQ3, rfl⟩, ⟨v, _, bdN _ hB2, hQ3, hx, HS.out, HG.out, hvB⟩, hr0⟩)
            have HP := Lib.hid hp
            clear hp hl1 hl2 hl3 hQ2 hB2 hr0 hR hG hlen hvB hbr
            go_wp2_with fail
            refine HL.out.mono ?_
            rintro e w' ⟨rfl, rfl⟩
            go_wp2_with fail
            refine HP.out.mono ?_
            rintro e w5 ⟨rfl, ⟨v', ys, q5, l5⟩, J5, r5⟩
            have hlen5 := len_anyS _ _ _ _ _ q5
            rw [l5] at hlen5
            have HL5 := Lib.hid hlen5
            have hJ := Lib.hid J5
            have hr5 := Lib.hid r5
            clear q5 J5 r5 hlen5 l5
            go_wp2_with fail
            refine HL5.out.mono ?_
            rintro e w' ⟨rfl, rfl⟩
            go_wp2_with fail
            refine HL5.out.mono ?_
            rintro e w' ⟨rfl, rfl⟩
            go_wp2_with fail
            go_loopw [12] (fun i wr => ∃ t : Nat, t ≤ j ∧ i = .int .i64 t ∧ Hid (Row0 wr B j) ∧ Hid (w5.grownBy wr (some B))) (fun i _ => j - (intOf i).toNat)
            case atStart => exact ⟨0, Nat.zero_le _, rfl, hr5, Lib.hid ⟨rfl, rfl, rfl, Nat.le_refl _, fun _ _ _ => rfl⟩⟩
            case round =>
              clear HL HP
              obtain ⟨t, ht, rfl, hr6, hg6⟩ := hrel
              by_cases htj : t < j
              · obtain ⟨cur, hc1, hc2⟩ := hr6.out
                have hcj : (wr.cell? ⟨B, t, none⟩).isSome = true := cell_some hc1 (by omega)
                obtain ⟨cv, hcv⟩ := Option.isSome_iff_exists.1 hcj
                have hfj : wr.frozen? ⟨B, t, none⟩ = false := frozen_of hc1
                have HR2 := Lib.hid (hr6.out.set t (.string ⟨#[103, 111, 110, 101]⟩))
                have HG2 := Lib.hid (gtrans hg6.out (gset wr B t (.string ⟨#[103, 111, 110, 101]⟩)))
                clear hc1 hc2
                go_wp2_with fail
                go_roundw
                case rel => exact ⟨t + 1, by omega, by go_num, HR2, HG2⟩
                case measure => simp [intOf]; omega
              · obtain rfl : t = j := by omega
                have hI6 := hJ.out.toI hg6.out hBw (by omega)
                have hkt : (k : Int).tmod 3 = (k : Int) % 3 := Int.tmod_eq_emod_of_nonneg (by omega)
                by_cases h3 : k % 3 = 2
                · have hk3 : ((k : Int) % 3 == 2) = true := by simp; omega
                  obtain ⟨v6, xs6, hB6, hQ6, hx6, hs6, hg6'⟩ := hI6
                  cases xs6 with
                  | nil =>
                    have hp6 := (pop_nilS wr _ _ _ hQ6).mono (R' := fun e w' => e = .returned (.tuple #[.string ⟨#[]⟩, .bool false]) ∧ RoomI w w' w.heap.size (1 + m)) (by
                      rintro e w' ⟨he, rfl⟩
                      have hb6 : Below wr.heap.size wr (wr.alloc (.cells #[.string ⟨#[]⟩] 9)) := (Below.refl _ _).alloc (Nat.le_refl _) _
                      exact ⟨he, v6, [], hB6.trans (hb6.mono hB6.size), hQ6.mono hb6, by simp, by simp, hg6'⟩)
                    have HP6 := Lib.hid hp6
                    clear hp6 hQ6 hB6 hx6 hs6 hg6' h3
                    go_wp2_with fail
                    refine HP6.out.mono ?_
                    rintro e w7 ⟨rfl, h7⟩
                    have H7 := Lib.hid h7
                    clear h7
                    go_wp2_with fail
                    go_roundw
                    case rel => exact ⟨k + 1, by omega, by omega, by go_num, H7⟩
                    case measure => simp [intOf]; omega
                  | cons u rest =>
                    obtain ⟨s, rfl, hs⟩ := hs6 u (by simp)
                    have hp6 := (pop_consS wr _ _ _ _ _ hQ6).mono (R' := fun e w' => e = .returned (.tuple #[.string s, .bool true]) ∧ RoomI w w' w.heap.size (1 + m)) (by
                      rintro e w' ⟨he, v7, h1, h2, h3'⟩
                      refine ⟨he, v7, rest, hB6.trans (h2.below hB6.size (fun k _ hk => ?_)), h1, by simp at hx6; omega, fun u hu => hs6 u (by simp [hu]), fun g hg => ?_⟩
                      · rcases hk with rfl | hk
                        · exact Nat.le_refl _
                        · exact hg6' k hk
                      · rcases h3' with h4 | h4 | ⟨g', h4, h5⟩
                        · exact hg6' g (by rw [← h4]; exact hg)
                        · rw [h4] at hg; cases hg
                        · rw [h4] at hg; cases hg; exact Nat.le_trans hB6.size h5)
                    have HP6 := Lib.hid hp6
                    clear hp6 hQ6 hB6 hx6 hs6 hg6' h3
                    go_wp2_with fail
                    refine HP6.out.mono ?_
                    rintro e w7 ⟨rfl, h7⟩
                    have H7 := Lib.hid h7
                    clear h7
                    go_wp2_with fail
                    go_roundw
                    case rel => exact ⟨k + 1, by omega, by omega, by go_num, H7⟩
                    case measure => simp [intOf]; omega
                · have hk3 : ((k : Int) % 3 == 2) = false := by simp; omega
                  have H7 := Lib.hid hI6
                  clear hI6 h3
                  go_wp2_with fail
                  go_roundw
                  case rel => exact ⟨k + 1, by omega, by omega, by go_num, H7⟩
                  case measure => simp [intOf]; omega
    · have hend : (k : Int) < 50 ∨ k = 50 := by omega
      have hB := hI.out
      obtain ⟨v, xs, hB, -⟩ := hB
      have HB := Lib.hid hB
      clear hB
      by_cases hkl : k < zs.length
      · obtain rfl : k = 50 := by omega
        have hd5 : decide ((50 : Int) < (zs.length : Int)) = true := decide_eq_true (by omega)
        have hki : ((50 : Nat) : Int) < (zs.length : Int) := by omega
        clear hend
        go_wp2_with fail
        refine (wakes_any _).mono ?_
        rintro e w9 ⟨rfl, h9⟩
        go_wp2_with fail
        go_ret
        exact ⟨rfl, HB.out.trans (h9.mono HB.out.size)⟩
      · obtain rfl : k = zs.length := by omega
        clear hend
        go_wp2_with fail
        refine (wakes_any _).mono ?_
        rintro e w9 ⟨rfl, h9⟩
        go_wp2_with fail
        go_ret
        exact ⟨rfl, HB.out.trans (h9.mono HB.out.size)⟩
end Go.Proofs.Ythieabhemiikhaa
