/-
  ShapeInside, walked, kind 0, use 3: what is first met within a negated condition is known there alone. No condition.
-/
import Derived.Test.YtccphigpobnjmaaShIn
namespace Go.Proofs.Ytccphigpobnjmaa
set_option linter.unusedVariables false
open Go.RowKit
theorem chk_0_0 (t q vv b1 b2 g cap ba : Nat) : (checkE (prIn g cap ba [Co.mk (chOne true b1 b2) [], Co.mk (chIn 2 t (t + 1)) [], Co.mk (chLast ⟨#[118]⟩ q [] none 0) []] acOne)).2 = (2, 6) := by
  have hsz : sizeL [Co.mk (chOne true b1 b2) [], Co.mk (chIn 2 t (t + 1)) [], Co.mk (chLast ⟨#[118]⟩ q [] none 0) []] = 3 := by simp [sizeL]
  have hf : firstE [Co.mk (chOne true b1 b2) [], Co.mk (chIn 2 t (t + 1)) [], Co.mk (chLast ⟨#[118]⟩ q [] none 0) []] 0 0 = (-1, 0) := by
    simp only [firstE, sizeL]; rfl
  have hw : wholeE (prIn g cap ba [Co.mk (chOne true b1 b2) [], Co.mk (chIn 2 t (t + 1)) [], Co.mk (chLast ⟨#[118]⟩ q [] none 0) []] acOne) = 0 := by unfold wholeE prIn; rw [hsz]; rfl
  have hs : shapeE (prIn g cap ba [Co.mk (chOne true b1 b2) [], Co.mk (chIn 2 t (t + 1)) [], Co.mk (chLast ⟨#[118]⟩ q [] none 0) []] acOne) = (-1, 0) := by
    unfold shapeE
    rw [hw, show (prIn g cap ba [Co.mk (chOne true b1 b2) [], Co.mk (chIn 2 t (t + 1)) [], Co.mk (chLast ⟨#[118]⟩ q [] none 0) []] acOne).conds = [Co.mk (chOne true b1 b2) [], Co.mk (chIn 2 t (t + 1)) [], Co.mk (chLast ⟨#[118]⟩ q [] none 0) []] from rfl, hf]; rfl
  unfold checkE
  rw [hs]
  simp only [stP, prIn, badS, sizeL]
  simp [kindP, Co.h, chOne, chIn, chLast, condS, idS, learnS, ins, has, knowsB, testsS, oneS, tW, tN, tV, cmp_ss, cmp_vs, cmp_vv, ByteArray.size]
set_option maxRecDepth 100000 in
set_option maxHeartbeats 16000000 in
theorem inside_0_0 (w : World) (kd us : Int) (hk1 : -9223372036854775808 ≤ kd) (hk2 : kd ≤ 9223372036854775807) (hu1 : -9223372036854775808 ≤ us) (hu2 : us ≤ 9223372036854775807) (hk : kd % 3 = 0) (hu : us % 4 = 0) :
    Calls Try.prog 10 #[.int .i64 kd, .int .i64 us] w fun e w' => e = .returned (.bool true) ∧ Below w.heap.size w w' := by
  have hw1 := fun w' => within_all w' kd 3 hk1 hk2 (by omega) (by omega)
  have hw2 := fun w' => within_all w' us 4 hu1 hu2 (by omega) (by omega)
  rw [show ((3 : Nat) : Int) = 3 from rfl, hk] at hw1
  rw [show ((4 : Nat) : Int) = 4 from rfl, hu] at hw2
  have HW1 := Lib.hid hw1
  have HW2 := Lib.hid hw2
  clear hw1 hw2 hk1 hk2 hu1 hu2 hk hu
  have tok : Hid (0 = 0) := rfl
  have ta : Hid (0 = 0) := rfl
  obtain ⟨i0, hi, hz0, hz1, hz2⟩ := info_parts infoCOND
  go_enter Try.func10, Try.ntmps10
  have hi64 : (Try.prog.info? 64).map (·.size) = some 7 := by kernel_rfl
  have hi25 : (Try.prog.info? 25).map (·.size) = some 3 := by kernel_rfl
  have H64 := Lib.hid hi64
  have H25 := Lib.hid hi25
  clear hi64 hi25
  go_wp2_with (first
    | (go_at_call 33; refine (One_any _).mono ?_; rintro e w1 ⟨b1, b2, bc, ba, rfl, h1, ho, l1, l2, l3, l4⟩; have HF1 := Lib.hid (⟨h1, has_one ho l2 l3 l4, by simp; omega⟩ : Lay w w1 _); have HL1 := Lib.hid (⟨l2, l3, l4, heap_lt ho.ha⟩ : b1 < b2 ∧ b2 < bc ∧ bc < ba ∧ ba < w1.heap.size); have tw1 : Hid (0 = 0) := rfl; clear h1 ho l1 l2 l3 l4)
    | (have _t := tw1; go_at_call 35; refine (W_any _ _).mono ?_; rintro e w2 ⟨rfl, h2⟩; have HF2 := Lib.hid ((HF1.out.new _ _).below h2); have HL2 : Hid (w1.heap.size < w2.heap.size) := Lib.hid (by have := h2.size; simp at this; omega); clear _t tw1 h2)
    | (have _t := tok; go_at_call 23; refine (HW1.out _).mono ?_; rintro e w3 ⟨rfl, rfl⟩; clear _t tok)
    | (refine wpList_load1 rfl (.tmp 33) 22 rfl rfl Try.underlying22 rfl ((((HF2.out.new _ _).new _ _).new _ _).cell 3 1 rfl rfl) ?_)
    | (at_builtin; have _t := ta; refine wpList_append_own_at _ rfl (.tmp 34) (.tmp 36) 22 rfl w.heap.size 64 i0 (.agg #[.int .i64 0, .bool false, .string ⟨#[]⟩, .slice none 0 0, .slice none 0 0, .bool false, .slice none 0 0]) 7 112 Try.underlying22 hi hz0 hz1 hz2 rfl (by decide) (.slice (some ⟨bc, 0, none⟩) 1 1) 1 _ rfl (own_lit (HF2.out.ge (bc, encH (chOne true b1 b2) 0, 64) (by simp)) (((((HF2.out.new _ _).new _ _).new _ _).new _ _).at 6 rfl) rfl (by unfold maxLen; omega)) ⟨_, 0, none⟩ 1 1 _ rfl rfl (has_news ((((HF2.out.new _ _).new _ _).new _ _).new _ _).has (by simp)) (by simp [Value.oneCell']) (by unfold maxLen; omega) (by omega) ((((HF2.out.new _ _).new _ _).new _ _).new _ _).low.size ?_; intro v4 w4 hown hg hnil hor; have hf4 := ((((HF2.out.new _ _).new _ _).new _ _).new _ _).grownRow 6 rfl hg; obtain ⟨g4, cap4, rfl⟩ := ownsRow_succ hown; simp only [World.size_alloc, List.eraseIdx] at hf4; have HF4 := Lib.hid hf4; have HG4 : Hid (g4 = bc ∨ g4 = w2.heap.size + (4 : Nat)) := Lib.hid (by simp [Value.ownBlock] at hor; omega); have HR4 := Lib.hid hown; have cP : w4.cell? ⟨w1.heap.size, 1, none⟩ = some (.slice (some ⟨bc, 0, none⟩) 1 1) := HF4.out.cell 4 1 rfl rfl; have fP : w4.frozen? ⟨w1.heap.size, 1, none⟩ = false := HF4.out.froz 4 1 rfl; have tq : Hid (0 = 0) := rfl; clear hown hg hnil hor hf4 ta _t)
    | (have _t := tq; go_at_call 35; refine (W_any _ _).mono ?_; rintro e w5 ⟨rfl, h5⟩; have hf5 := (HF4.out.set 4 1 rfl _).below h5; simp only [List.set] at hf5; have HF5 := Lib.hid hf5; have HR5 := Lib.hid (own_below (own_set HR4.out (HF4.out.at 4 rfl) (by simp) _) h5); have hc4 := own_cap HR4.out; have HS5 : Hid (g4 < w5.heap.size) := Lib.hid (HR5.out.lt g4 rfl).2; clear _t tq h5 cP fP hf5)
    | (refine wpList_load1 rfl (.tmp 43) 22 rfl rfl Try.underlying22 rfl (((HF5.out.new _ _).new _ _).cell 6 1 rfl rfl) ?_)
    | (go_at_call 26; refine (size_any [(Co.mk (chIn 2 w2.heap.size (w2.heap.size + 1)) [])] (by simp [sizeL]) (some ⟨g4, 7, none⟩) (cap4 - 1) _ (conds_of (elts_row (l := [Co.mk (chOne true b1 b2) [], (Co.mk (chIn 2 w2.heap.size (w2.heap.size + 1)) [])]) (n := 2) (cap := cap4) ((HR5.out.alloc _).alloc _) 1) (fun c hc => by obtain rfl : c = (Co.mk (chIn 2 w2.heap.size (w2.heap.size + 1)) []) := (by simpa using hc); exact ok_in (((HF5.out.new _ _).new _ _).at' 5 rfl rfl) (((HF5.out.new _ _).new _ _).at' 4 rfl rfl)))).mono ?_; rintro e w6 ⟨rfl, h6⟩; rw [show sizeL [(Co.mk (chIn 2 w2.heap.size (w2.heap.size + 1)) [])] = 1 from by simp [sizeL]]; have hf6 := (((HF5.out.new _ _).new _ _).below h6); simp only [World.size_alloc] at hf6; have HF6 := Lib.hid hf6; have HR6 := Lib.hid (own_below ((HR5.out.alloc _).alloc _) h6); have HS6 : Hid (w5.heap.size + 1 < w6.heap.size) := Lib.hid (by have := h6.size; simp at this; omega); clear h6 hf6)
    | (go_at_call 23; refine (HW2.out _).mono ?_; rintro e w7 ⟨rfl, rfl⟩)
    
    | (refine wpList_store1 rfl (.tmp 59) (.const (.string ⟨#[118]⟩)) 9 rfl (A := ⟨w5.heap.size + 1, 2, none⟩) rfl rfl (by kernel_rfl) (.inl ⟨_, rfl⟩) (HF6.out.cell 0 2 rfl rfl) (HF6.out.froz 0 2 rfl) rfl ?_)
    | (refine wpList_load1 rfl (.tmp 71) 22 rfl rfl Try.underlying22 rfl ((HF6.out.set 0 2 rfl (.string ⟨#[118]⟩)).cell 6 1 rfl rfl) ?_)
    | (refine wpList_load rfl (.tmp 8) 64 rfl (A := ⟨w5.heap.size + 1, 0, none⟩) rfl Try.underlying64 rfl (cs := [.int .i64 1, .bool false, .string ⟨#[118]⟩, .slice (some ⟨w5.heap.size, 0, none⟩) 1 1, .slice none 0 0, .bool false, .slice none 0 0]) H64.out ((HF6.out.set 0 2 rfl (.string ⟨#[118]⟩)).cells 0 rfl rfl) ?_)
    | (at_builtin; refine wpList_append_own_at _ rfl (.tmp 72) (.tmp 74) 22 rfl w.heap.size 64 i0 (.agg #[.int .i64 0, .bool false, .string ⟨#[]⟩, .slice none 0 0, .slice none 0 0, .bool false, .slice none 0 0]) 7 112 Try.underlying22 hi hz0 hz1 hz2 rfl (by decide) (.slice (some ⟨g4, 0, none⟩) 2 cap4) 2 _ rfl (World.ownsRow.alloc (own_ne HR6.out (P := w5.heap.size + 1) (by have := HS5.out; simp [Value.ownBlock]; omega) (.string ⟨#[118]⟩)) _) ⟨_, 0, none⟩ 1 1 _ rfl rfl (has_news ((HF6.out.set 0 2 rfl (.string ⟨#[118]⟩)).new _ _).has (by simp)) (by simp [Value.oneCell']) (by unfold maxLen; omega) (by omega) ((HF6.out.set 0 2 rfl (.string ⟨#[118]⟩)).new _ _).low.size ?_; intro v8 w8 hown hg hnil hor; have hf8 := ((HF6.out.set 0 2 rfl (.string ⟨#[118]⟩)).new _ _).grownOwn2 (World.ownsRow.alloc (own_ne HR6.out (P := w5.heap.size + 1) (by have := HS5.out; simp [Value.ownBlock]; omega) (.string ⟨#[118]⟩)) _) (by have e1 := HL1.out; have e2 := HL2.out; have e3 := HG4.out; have e4 := HS5.out; have e5 := HS6.out; simp only [List.set, List.map_cons, List.map_nil, List.all_cons, List.all_nil, World.size_setCell, Bool.and_true, Bool.and_eq_true, decide_eq_true_eq]; omega) hg; obtain ⟨g6, cap6, rfl⟩ := ownsRow_succ hown; simp only [World.size_setCell, List.set] at hf8; have HF8 := Lib.hid hf8; have HR8 := Lib.hid hown; have cP8 : w8.cell? ⟨w1.heap.size, 1, none⟩ = some (.slice (some ⟨g4, 0, none⟩) 2 cap4) := HF8.out.cell 7 1 rfl rfl; have fP8 : w8.frozen? ⟨w1.heap.size, 1, none⟩ = false := HF8.out.froz 7 1 rfl; clear hown hg hnil hor hf8)
    | (refine wpList_load rfl (.tmp 5) 25 rfl (A := ⟨w1.heap.size, 0, none⟩) rfl Try.underlying25 rfl (cs := [.string ⟨#[97]⟩, .slice (some ⟨g6, 0, none⟩) 3 cap6, .slice (some ⟨ba, 0, none⟩) 1 1]) H25.out ((HF8.out.set 7 1 rfl _).cells 7 rfl rfl) ?_)
    | (go_at_call 16; refine (Check_any (prIn g6 cap6 ba [Co.mk (chOne true b1 b2) [], (Co.mk (chIn 2 w2.heap.size (w2.heap.size + 1)) []), (Co.mk (chLast ⟨#[118]⟩ w5.heap.size [] none 0) [])] acOne) _ (by simp [prIn, sizeL]) (by simp [prIn, wtL, chOne, chIn, chLast]) ⟨conds_of (elts_row (l := [Co.mk (chOne true b1 b2) [], (Co.mk (chIn 2 w2.heap.size (w2.heap.size + 1)) []), (Co.mk (chLast ⟨#[118]⟩ w5.heap.size [] none 0) [])]) (n := 3) (own_set HR8.out (HF8.out.at 7 rfl) (by simp) _) 0) (okin_three (ok_one ((HF8.out.set 7 1 rfl _).at' 10 rfl rfl) ((HF8.out.set 7 1 rfl _).at' 9 rfl rfl)) (ok_in ((HF8.out.set 7 1 rfl _).at' 6 rfl rfl) ((HF8.out.set 7 1 rfl _).at' 5 rfl rfl)) (ok_last ((HF8.out.set 7 1 rfl _).at' 2 rfl rfl) tests_nil)), elts_one (E := encA) (x := acOne) ((HF8.out.set 7 1 rfl _).at' 8 rfl rfl)⟩).mono ?_; rintro e w9 ⟨rfl, h9⟩; rw [chk_0_0 (vv := 0)]; have HF9 := Lib.hid ((HF8.out.set 7 1 rfl _).below h9); clear h9)
    | (go_at_call 12; refine (wakes_any _).mono ?_; rintro e w10 ⟨rfl, h10⟩)
    )
  go_ret
  exact ⟨rfl, HF9.out.low.trans (h10.mono HF9.out.low.size)⟩
open Go.RowKit
theorem chk_0_1 (t q vv b1 b2 g cap ba : Nat) : (checkE (prIn g cap ba [Co.mk (chOne true b1 b2) [], Co.mk (chIn 2 t (t + 1)) [], Co.mk (chLast ⟨#[115]⟩ q [tV 2 ⟨#[118]⟩] (some ⟨vv, 0, none⟩) 1) []] acOne)).2 = (2, 6) := by
  have hsz : sizeL [Co.mk (chOne true b1 b2) [], Co.mk (chIn 2 t (t + 1)) [], Co.mk (chLast ⟨#[115]⟩ q [tV 2 ⟨#[118]⟩] (some ⟨vv, 0, none⟩) 1) []] = 3 := by simp [sizeL]
  have hf : firstE [Co.mk (chOne true b1 b2) [], Co.mk (chIn 2 t (t + 1)) [], Co.mk (chLast ⟨#[115]⟩ q [tV 2 ⟨#[118]⟩] (some ⟨vv, 0, none⟩) 1) []] 0 0 = (-1, 0) := by
    simp only [firstE, sizeL]; rfl
  have hw : wholeE (prIn g cap ba [Co.mk (chOne true b1 b2) [], Co.mk (chIn 2 t (t + 1)) [], Co.mk (chLast ⟨#[115]⟩ q [tV 2 ⟨#[118]⟩] (some ⟨vv, 0, none⟩) 1) []] acOne) = 0 := by unfold wholeE prIn; rw [hsz]; rfl
  have hs : shapeE (prIn g cap ba [Co.mk (chOne true b1 b2) [], Co.mk (chIn 2 t (t + 1)) [], Co.mk (chLast ⟨#[115]⟩ q [tV 2 ⟨#[118]⟩] (some ⟨vv, 0, none⟩) 1) []] acOne) = (-1, 0) := by
    unfold shapeE
    rw [hw, show (prIn g cap ba [Co.mk (chOne true b1 b2) [], Co.mk (chIn 2 t (t + 1)) [], Co.mk (chLast ⟨#[115]⟩ q [tV 2 ⟨#[118]⟩] (some ⟨vv, 0, none⟩) 1) []] acOne).conds = [Co.mk (chOne true b1 b2) [], Co.mk (chIn 2 t (t + 1)) [], Co.mk (chLast ⟨#[115]⟩ q [tV 2 ⟨#[118]⟩] (some ⟨vv, 0, none⟩) 1) []] from rfl, hf]; rfl
  unfold checkE
  rw [hs]
  simp only [stP, prIn, badS, sizeL]
  simp [kindP, Co.h, chOne, chIn, chLast, condS, idS, learnS, ins, has, knowsB, testsS, oneS, tW, tN, tV, cmp_ss, cmp_vs, cmp_vv, ByteArray.size]
set_option maxRecDepth 100000 in
set_option maxHeartbeats 16000000 in
theorem inside_0_1 (w : World) (kd us : Int) (hk1 : -9223372036854775808 ≤ kd) (hk2 : kd ≤ 9223372036854775807) (hu1 : -9223372036854775808 ≤ us) (hu2 : us ≤ 9223372036854775807) (hk : kd % 3 = 0) (hu : us % 4 = 1) :
    Calls Try.prog 10 #[.int .i64 kd, .int .i64 us] w fun e w' => e = .returned (.bool true) ∧ Below w.heap.size w w' := by
  have hw1 := fun w' => within_all w' kd 3 hk1 hk2 (by omega) (by omega)
  have hw2 := fun w' => within_all w' us 4 hu1 hu2 (by omega) (by omega)
  rw [show ((3 : Nat) : Int) = 3 from rfl, hk] at hw1
  rw [show ((4 : Nat) : Int) = 4 from rfl, hu] at hw2
  have HW1 := Lib.hid hw1
  have HW2 := Lib.hid hw2
  clear hw1 hw2 hk1 hk2 hu1 hu2 hk hu
  have tok : Hid (0 = 0) := rfl
  have ta : Hid (0 = 0) := rfl
  obtain ⟨i0, hi, hz0, hz1, hz2⟩ := info_parts infoCOND
  go_enter Try.func10, Try.ntmps10
  have hi64 : (Try.prog.info? 64).map (·.size) = some 7 := by kernel_rfl
  have hi25 : (Try.prog.info? 25).map (·.size) = some 3 := by kernel_rfl
  have H64 := Lib.hid hi64
  have H25 := Lib.hid hi25
  clear hi64 hi25
  go_wp2_with (first
    | (go_at_call 33; refine (One_any _).mono ?_; rintro e w1 ⟨b1, b2, bc, ba, rfl, h1, ho, l1, l2, l3, l4⟩; have HF1 := Lib.hid (⟨h1, has_one ho l2 l3 l4, by simp; omega⟩ : Lay w w1 _); have HL1 := Lib.hid (⟨l2, l3, l4, heap_lt ho.ha⟩ : b1 < b2 ∧ b2 < bc ∧ bc < ba ∧ ba < w1.heap.size); have tw1 : Hid (0 = 0) := rfl; clear h1 ho l1 l2 l3 l4)
    | (have _t := tw1; go_at_call 35; refine (W_any _ _).mono ?_; rintro e w2 ⟨rfl, h2⟩; have HF2 := Lib.hid ((HF1.out.new _ _).below h2); have HL2 : Hid (w1.heap.size < w2.heap.size) := Lib.hid (by have := h2.size; simp at this; omega); clear _t tw1 h2)
    | (have _t := tok; go_at_call 23; refine (HW1.out _).mono ?_; rintro e w3 ⟨rfl, rfl⟩; clear _t tok)
    | (refine wpList_load1 rfl (.tmp 33) 22 rfl rfl Try.underlying22 rfl ((((HF2.out.new _ _).new _ _).new _ _).cell 3 1 rfl rfl) ?_)
    | (at_builtin; have _t := ta; refine wpList_append_own_at _ rfl (.tmp 34) (.tmp 36) 22 rfl w.heap.size 64 i0 (.agg #[.int .i64 0, .bool false, .string ⟨#[]⟩, .slice none 0 0, .slice none 0 0, .bool false, .slice none 0 0]) 7 112 Try.underlying22 hi hz0 hz1 hz2 rfl (by decide) (.slice (some ⟨bc, 0, none⟩) 1 1) 1 _ rfl (own_lit (HF2.out.ge (bc, encH (chOne true b1 b2) 0, 64) (by simp)) (((((HF2.out.new _ _).new _ _).new _ _).new _ _).at 6 rfl) rfl (by unfold maxLen; omega)) ⟨_, 0, none⟩ 1 1 _ rfl rfl (has_news ((((HF2.out.new _ _).new _ _).new _ _).new _ _).has (by simp)) (by simp [Value.oneCell']) (by unfold maxLen; omega) (by omega) ((((HF2.out.new _ _).new _ _).new _ _).new _ _).low.size ?_; intro v4 w4 hown hg hnil hor; have hf4 := ((((HF2.out.new _ _).new _ _).new _ _).new _ _).grownRow 6 rfl hg; obtain ⟨g4, cap4, rfl⟩ := ownsRow_succ hown; simp only [World.size_alloc, List.eraseIdx] at hf4; have HF4 := Lib.hid hf4; have HG4 : Hid (g4 = bc ∨ g4 = w2.heap.size + (4 : Nat)) := Lib.hid (by simp [Value.ownBlock] at hor; omega); have HR4 := Lib.hid hown; have cP : w4.cell? ⟨w1.heap.size, 1, none⟩ = some (.slice (some ⟨bc, 0, none⟩) 1 1) := HF4.out.cell 4 1 rfl rfl; have fP : w4.frozen? ⟨w1.heap.size, 1, none⟩ = false := HF4.out.froz 4 1 rfl; have tq : Hid (0 = 0) := rfl; clear hown hg hnil hor hf4 ta _t)
    | (have _t := tq; go_at_call 35; refine (W_any _ _).mono ?_; rintro e w5 ⟨rfl, h5⟩; have hf5 := (HF4.out.set 4 1 rfl _).below h5; simp only [List.set] at hf5; have HF5 := Lib.hid hf5; have HR5 := Lib.hid (own_below (own_set HR4.out (HF4.out.at 4 rfl) (by simp) _) h5); have hc4 := own_cap HR4.out; have HS5 : Hid (g4 < w5.heap.size) := Lib.hid (HR5.out.lt g4 rfl).2; clear _t tq h5 cP fP hf5)
    | (refine wpList_load1 rfl (.tmp 43) 22 rfl rfl Try.underlying22 rfl (((HF5.out.new _ _).new _ _).cell 6 1 rfl rfl) ?_)
    | (go_at_call 26; refine (size_any [(Co.mk (chIn 2 w2.heap.size (w2.heap.size + 1)) [])] (by simp [sizeL]) (some ⟨g4, 7, none⟩) (cap4 - 1) _ (conds_of (elts_row (l := [Co.mk (chOne true b1 b2) [], (Co.mk (chIn 2 w2.heap.size (w2.heap.size + 1)) [])]) (n := 2) (cap := cap4) ((HR5.out.alloc _).alloc _) 1) (fun c hc => by obtain rfl : c = (Co.mk (chIn 2 w2.heap.size (w2.heap.size + 1)) []) := (by simpa using hc); exact ok_in (((HF5.out.new _ _).new _ _).at' 5 rfl rfl) (((HF5.out.new _ _).new _ _).at' 4 rfl rfl)))).mono ?_; rintro e w6 ⟨rfl, h6⟩; rw [show sizeL [(Co.mk (chIn 2 w2.heap.size (w2.heap.size + 1)) [])] = 1 from by simp [sizeL]]; have hf6 := (((HF5.out.new _ _).new _ _).below h6); simp only [World.size_alloc] at hf6; have HF6 := Lib.hid hf6; have HR6 := Lib.hid (own_below ((HR5.out.alloc _).alloc _) h6); have HS6 : Hid (w5.heap.size + 1 < w6.heap.size) := Lib.hid (by have := h6.size; simp at this; omega); clear h6 hf6)
    | (go_at_call 23; refine (HW2.out _).mono ?_; rintro e w7 ⟨rfl, rfl⟩)
    
    | (refine wpList_store1 rfl (.tmp 64) (.tmp 63) 62 rfl (A := ⟨w5.heap.size + 1, 4, none⟩) rfl rfl (by kernel_rfl) (.inr ⟨_, _, _, rfl⟩) ((HF6.out.new _ _).cell 1 4 rfl rfl) ((HF6.out.new _ _).froz 1 4 rfl) rfl ?_)
    | (refine wpList_load1 rfl (.tmp 71) 22 rfl rfl Try.underlying22 rfl (((HF6.out.new _ _).set 1 4 rfl (.slice (some ⟨w6.heap.size, 0, none⟩) 1 1)).cell 7 1 rfl rfl) ?_)
    | (refine wpList_load rfl (.tmp 8) 64 rfl (A := ⟨w5.heap.size + 1, 0, none⟩) rfl Try.underlying64 rfl (cs := [.int .i64 1, .bool false, .string ⟨#[115]⟩, .slice (some ⟨w5.heap.size, 0, none⟩) 1 1, .slice (some ⟨w6.heap.size, 0, none⟩) 1 1, .bool false, .slice none 0 0]) H64.out (((HF6.out.new _ _).set 1 4 rfl (.slice (some ⟨w6.heap.size, 0, none⟩) 1 1)).cells 1 rfl rfl) ?_)
    | (at_builtin; refine wpList_append_own_at _ rfl (.tmp 72) (.tmp 74) 22 rfl w.heap.size 64 i0 (.agg #[.int .i64 0, .bool false, .string ⟨#[]⟩, .slice none 0 0, .slice none 0 0, .bool false, .slice none 0 0]) 7 112 Try.underlying22 hi hz0 hz1 hz2 rfl (by decide) (.slice (some ⟨g4, 0, none⟩) 2 cap4) 2 _ rfl (World.ownsRow.alloc (own_ne (HR6.out.alloc _) (P := w5.heap.size + 1) (by have := HS5.out; simp [Value.ownBlock]; omega) (.slice (some ⟨w6.heap.size, 0, none⟩) 1 1)) _) ⟨_, 0, none⟩ 1 1 _ rfl rfl (has_news (((HF6.out.new _ _).set 1 4 rfl (.slice (some ⟨w6.heap.size, 0, none⟩) 1 1)).new _ _).has (by simp)) (by simp [Value.oneCell']) (by unfold maxLen; omega) (by omega) (((HF6.out.new _ _).set 1 4 rfl (.slice (some ⟨w6.heap.size, 0, none⟩) 1 1)).new _ _).low.size ?_; intro v8 w8 hown hg hnil hor; have hf8 := (((HF6.out.new _ _).set 1 4 rfl (.slice (some ⟨w6.heap.size, 0, none⟩) 1 1)).new _ _).grownOwn2 (World.ownsRow.alloc (own_ne (HR6.out.alloc _) (P := w5.heap.size + 1) (by have := HS5.out; simp [Value.ownBlock]; omega) (.slice (some ⟨w6.heap.size, 0, none⟩) 1 1)) _) (by have e1 := HL1.out; have e2 := HL2.out; have e3 := HG4.out; have e4 := HS5.out; have e5 := HS6.out; simp only [List.set, List.map_cons, List.map_nil, List.all_cons, List.all_nil, World.size_alloc, World.size_setCell, Bool.and_true, Bool.and_eq_true, decide_eq_true_eq]; omega) hg; obtain ⟨g6, cap6, rfl⟩ := ownsRow_succ hown; simp only [World.size_alloc, World.size_setCell, List.set] at hf8; have HF8 := Lib.hid hf8; have HR8 := Lib.hid hown; have cP8 : w8.cell? ⟨w1.heap.size, 1, none⟩ = some (.slice (some ⟨g4, 0, none⟩) 2 cap4) := HF8.out.cell 8 1 rfl rfl; have fP8 : w8.frozen? ⟨w1.heap.size, 1, none⟩ = false := HF8.out.froz 8 1 rfl; clear hown hg hnil hor hf8)
    | (refine wpList_load rfl (.tmp 5) 25 rfl (A := ⟨w1.heap.size, 0, none⟩) rfl Try.underlying25 rfl (cs := [.string ⟨#[97]⟩, .slice (some ⟨g6, 0, none⟩) 3 cap6, .slice (some ⟨ba, 0, none⟩) 1 1]) H25.out ((HF8.out.set 8 1 rfl _).cells 8 rfl rfl) ?_)
    | (go_at_call 16; refine (Check_any (prIn g6 cap6 ba [Co.mk (chOne true b1 b2) [], (Co.mk (chIn 2 w2.heap.size (w2.heap.size + 1)) []), (Co.mk (chLast ⟨#[115]⟩ w5.heap.size [tV 2 ⟨#[118]⟩] (some ⟨w6.heap.size, 0, none⟩) 1) [])] acOne) _ (by simp [prIn, sizeL]) (by simp [prIn, wtL, chOne, chIn, chLast]) ⟨conds_of (elts_row (l := [Co.mk (chOne true b1 b2) [], (Co.mk (chIn 2 w2.heap.size (w2.heap.size + 1)) []), (Co.mk (chLast ⟨#[115]⟩ w5.heap.size [tV 2 ⟨#[118]⟩] (some ⟨w6.heap.size, 0, none⟩) 1) [])]) (n := 3) (own_set HR8.out (HF8.out.at 8 rfl) (by simp) _) 0) (okin_three (ok_one ((HF8.out.set 8 1 rfl _).at' 11 rfl rfl) ((HF8.out.set 8 1 rfl _).at' 10 rfl rfl)) (ok_in ((HF8.out.set 8 1 rfl _).at' 7 rfl rfl) ((HF8.out.set 8 1 rfl _).at' 6 rfl rfl)) (ok_last ((HF8.out.set 8 1 rfl _).at' 3 rfl rfl) (tests_one ((HF8.out.set 8 1 rfl _).at' 1 rfl rfl) rfl))), elts_one (E := encA) (x := acOne) ((HF8.out.set 8 1 rfl _).at' 9 rfl rfl)⟩).mono ?_; rintro e w9 ⟨rfl, h9⟩; rw [chk_0_1 (vv := w6.heap.size)]; have HF9 := Lib.hid ((HF8.out.set 8 1 rfl _).below h9); clear h9)
    | (go_at_call 12; refine (wakes_any _).mono ?_; rintro e w10 ⟨rfl, h10⟩)
    )
  go_ret
  exact ⟨rfl, HF9.out.low.trans (h10.mono HF9.out.low.size)⟩
open Go.RowKit
theorem chk_0_2 (t q vv b1 b2 g cap ba : Nat) : (checkE (prIn g cap ba [Co.mk (chOne true b1 b2) [], Co.mk (chIn 2 t (t + 1)) [], Co.mk (chLast ⟨#[115]⟩ q [tV 1 ⟨#[118]⟩] (some ⟨vv, 0, none⟩) 1) []] acOne)).2 = (-1, 0) := by
  have hsz : sizeL [Co.mk (chOne true b1 b2) [], Co.mk (chIn 2 t (t + 1)) [], Co.mk (chLast ⟨#[115]⟩ q [tV 1 ⟨#[118]⟩] (some ⟨vv, 0, none⟩) 1) []] = 3 := by simp [sizeL]
  have hf : firstE [Co.mk (chOne true b1 b2) [], Co.mk (chIn 2 t (t + 1)) [], Co.mk (chLast ⟨#[115]⟩ q [tV 1 ⟨#[118]⟩] (some ⟨vv, 0, none⟩) 1) []] 0 0 = (-1, 0) := by
    simp only [firstE, sizeL]; rfl
  have hw : wholeE (prIn g cap ba [Co.mk (chOne true b1 b2) [], Co.mk (chIn 2 t (t + 1)) [], Co.mk (chLast ⟨#[115]⟩ q [tV 1 ⟨#[118]⟩] (some ⟨vv, 0, none⟩) 1) []] acOne) = 0 := by unfold wholeE prIn; rw [hsz]; rfl
  have hs : shapeE (prIn g cap ba [Co.mk (chOne true b1 b2) [], Co.mk (chIn 2 t (t + 1)) [], Co.mk (chLast ⟨#[115]⟩ q [tV 1 ⟨#[118]⟩] (some ⟨vv, 0, none⟩) 1) []] acOne) = (-1, 0) := by
    unfold shapeE
    rw [hw, show (prIn g cap ba [Co.mk (chOne true b1 b2) [], Co.mk (chIn 2 t (t + 1)) [], Co.mk (chLast ⟨#[115]⟩ q [tV 1 ⟨#[118]⟩] (some ⟨vv, 0, none⟩) 1) []] acOne).conds = [Co.mk (chOne true b1 b2) [], Co.mk (chIn 2 t (t + 1)) [], Co.mk (chLast ⟨#[115]⟩ q [tV 1 ⟨#[118]⟩] (some ⟨vv, 0, none⟩) 1) []] from rfl, hf]; rfl
  unfold checkE
  rw [hs]
  simp only [stP, prIn, badS, sizeL]
  simp [kindP, Co.h, chOne, chIn, chLast, condS, idS, learnS, ins, has, knowsB, testsS, oneS, tW, tN, tV, cmp_ss, cmp_vs, cmp_vv, ByteArray.size, actS, acOne]
set_option maxRecDepth 100000 in
set_option maxHeartbeats 16000000 in
theorem inside_0_2 (w : World) (kd us : Int) (hk1 : -9223372036854775808 ≤ kd) (hk2 : kd ≤ 9223372036854775807) (hu1 : -9223372036854775808 ≤ us) (hu2 : us ≤ 9223372036854775807) (hk : kd % 3 = 0) (hu : us % 4 = 2) :
    Calls Try.prog 10 #[.int .i64 kd, .int .i64 us] w fun e w' => e = .returned (.bool true) ∧ Below w.heap.size w w' := by
  have hw1 := fun w' => within_all w' kd 3 hk1 hk2 (by omega) (by omega)
  have hw2 := fun w' => within_all w' us 4 hu1 hu2 (by omega) (by omega)
  rw [show ((3 : Nat) : Int) = 3 from rfl, hk] at hw1
  rw [show ((4 : Nat) : Int) = 4 from rfl, hu] at hw2
  have HW1 := Lib.hid hw1
  have HW2 := Lib.hid hw2
  clear hw1 hw2 hk1 hk2 hu1 hu2 hk hu
  have tok : Hid (0 = 0) := rfl
  have ta : Hid (0 = 0) := rfl
  obtain ⟨i0, hi, hz0, hz1, hz2⟩ := info_parts infoCOND
  go_enter Try.func10, Try.ntmps10
  have hi64 : (Try.prog.info? 64).map (·.size) = some 7 := by kernel_rfl
  have hi25 : (Try.prog.info? 25).map (·.size) = some 3 := by kernel_rfl
  have H64 := Lib.hid hi64
  have H25 := Lib.hid hi25
  clear hi64 hi25
  go_wp2_with (first
    | (go_at_call 33; refine (One_any _).mono ?_; rintro e w1 ⟨b1, b2, bc, ba, rfl, h1, ho, l1, l2, l3, l4⟩; have HF1 := Lib.hid (⟨h1, has_one ho l2 l3 l4, by simp; omega⟩ : Lay w w1 _); have HL1 := Lib.hid (⟨l2, l3, l4, heap_lt ho.ha⟩ : b1 < b2 ∧ b2 < bc ∧ bc < ba ∧ ba < w1.heap.size); have tw1 : Hid (0 = 0) := rfl; clear h1 ho l1 l2 l3 l4)
    | (have _t := tw1; go_at_call 35; refine (W_any _ _).mono ?_; rintro e w2 ⟨rfl, h2⟩; have HF2 := Lib.hid ((HF1.out.new _ _).below h2); have HL2 : Hid (w1.heap.size < w2.heap.size) := Lib.hid (by have := h2.size; simp at this; omega); clear _t tw1 h2)
    | (have _t := tok; go_at_call 23; refine (HW1.out _).mono ?_; rintro e w3 ⟨rfl, rfl⟩; clear _t tok)
    | (refine wpList_load1 rfl (.tmp 33) 22 rfl rfl Try.underlying22 rfl ((((HF2.out.new _ _).new _ _).new _ _).cell 3 1 rfl rfl) ?_)
    | (at_builtin; have _t := ta; refine wpList_append_own_at _ rfl (.tmp 34) (.tmp 36) 22 rfl w.heap.size 64 i0 (.agg #[.int .i64 0, .bool false, .string ⟨#[]⟩, .slice none 0 0, .slice none 0 0, .bool false, .slice none 0 0]) 7 112 Try.underlying22 hi hz0 hz1 hz2 rfl (by decide) (.slice (some ⟨bc, 0, none⟩) 1 1) 1 _ rfl (own_lit (HF2.out.ge (bc, encH (chOne true b1 b2) 0, 64) (by simp)) (((((HF2.out.new _ _).new _ _).new _ _).new _ _).at 6 rfl) rfl (by unfold maxLen; omega)) ⟨_, 0, none⟩ 1 1 _ rfl rfl (has_news ((((HF2.out.new _ _).new _ _).new _ _).new _ _).has (by simp)) (by simp [Value.oneCell']) (by unfold maxLen; omega) (by omega) ((((HF2.out.new _ _).new _ _).new _ _).new _ _).low.size ?_; intro v4 w4 hown hg hnil hor; have hf4 := ((((HF2.out.new _ _).new _ _).new _ _).new _ _).grownRow 6 rfl hg; obtain ⟨g4, cap4, rfl⟩ := ownsRow_succ hown; simp only [World.size_alloc, List.eraseIdx] at hf4; have HF4 := Lib.hid hf4; have HG4 : Hid (g4 = bc ∨ g4 = w2.heap.size + (4 : Nat)) := Lib.hid (by simp [Value.ownBlock] at hor; omega); have HR4 := Lib.hid hown; have cP : w4.cell? ⟨w1.heap.size, 1, none⟩ = some (.slice (some ⟨bc, 0, none⟩) 1 1) := HF4.out.cell 4 1 rfl rfl; have fP : w4.frozen? ⟨w1.heap.size, 1, none⟩ = false := HF4.out.froz 4 1 rfl; have tq : Hid (0 = 0) := rfl; clear hown hg hnil hor hf4 ta _t)
    | (have _t := tq; go_at_call 35; refine (W_any _ _).mono ?_; rintro e w5 ⟨rfl, h5⟩; have hf5 := (HF4.out.set 4 1 rfl _).below h5; simp only [List.set] at hf5; have HF5 := Lib.hid hf5; have HR5 := Lib.hid (own_below (own_set HR4.out (HF4.out.at 4 rfl) (by simp) _) h5); have hc4 := own_cap HR4.out; have HS5 : Hid (g4 < w5.heap.size) := Lib.hid (HR5.out.lt g4 rfl).2; clear _t tq h5 cP fP hf5)
    | (refine wpList_load1 rfl (.tmp 43) 22 rfl rfl Try.underlying22 rfl (((HF5.out.new _ _).new _ _).cell 6 1 rfl rfl) ?_)
    | (go_at_call 26; refine (size_any [(Co.mk (chIn 2 w2.heap.size (w2.heap.size + 1)) [])] (by simp [sizeL]) (some ⟨g4, 7, none⟩) (cap4 - 1) _ (conds_of (elts_row (l := [Co.mk (chOne true b1 b2) [], (Co.mk (chIn 2 w2.heap.size (w2.heap.size + 1)) [])]) (n := 2) (cap := cap4) ((HR5.out.alloc _).alloc _) 1) (fun c hc => by obtain rfl : c = (Co.mk (chIn 2 w2.heap.size (w2.heap.size + 1)) []) := (by simpa using hc); exact ok_in (((HF5.out.new _ _).new _ _).at' 5 rfl rfl) (((HF5.out.new _ _).new _ _).at' 4 rfl rfl)))).mono ?_; rintro e w6 ⟨rfl, h6⟩; rw [show sizeL [(Co.mk (chIn 2 w2.heap.size (w2.heap.size + 1)) [])] = 1 from by simp [sizeL]]; have hf6 := (((HF5.out.new _ _).new _ _).below h6); simp only [World.size_alloc] at hf6; have HF6 := Lib.hid hf6; have HR6 := Lib.hid (own_below ((HR5.out.alloc _).alloc _) h6); have HS6 : Hid (w5.heap.size + 1 < w6.heap.size) := Lib.hid (by have := h6.size; simp at this; omega); clear h6 hf6)
    | (go_at_call 23; refine (HW2.out _).mono ?_; rintro e w7 ⟨rfl, rfl⟩)
    
    | (refine wpList_store1 rfl (.tmp 69) (.tmp 68) 62 rfl (A := ⟨w5.heap.size + 1, 4, none⟩) rfl rfl (by kernel_rfl) (.inr ⟨_, _, _, rfl⟩) ((HF6.out.new _ _).cell 1 4 rfl rfl) ((HF6.out.new _ _).froz 1 4 rfl) rfl ?_)
    | (refine wpList_load1 rfl (.tmp 71) 22 rfl rfl Try.underlying22 rfl (((HF6.out.new _ _).set 1 4 rfl (.slice (some ⟨w6.heap.size, 0, none⟩) 1 1)).cell 7 1 rfl rfl) ?_)
    | (refine wpList_load rfl (.tmp 8) 64 rfl (A := ⟨w5.heap.size + 1, 0, none⟩) rfl Try.underlying64 rfl (cs := [.int .i64 1, .bool false, .string ⟨#[115]⟩, .slice (some ⟨w5.heap.size, 0, none⟩) 1 1, .slice (some ⟨w6.heap.size, 0, none⟩) 1 1, .bool false, .slice none 0 0]) H64.out (((HF6.out.new _ _).set 1 4 rfl (.slice (some ⟨w6.heap.size, 0, none⟩) 1 1)).cells 1 rfl rfl) ?_)
    | (at_builtin; refine wpList_append_own_at _ rfl (.tmp 72) (.tmp 74) 22 rfl w.heap.size 64 i0 (.agg #[.int .i64 0, .bool false, .string ⟨#[]⟩, .slice none 0 0, .slice none 0 0, .bool false, .slice none 0 0]) 7 112 Try.underlying22 hi hz0 hz1 hz2 rfl (by decide) (.slice (some ⟨g4, 0, none⟩) 2 cap4) 2 _ rfl (World.ownsRow.alloc (own_ne (HR6.out.alloc _) (P := w5.heap.size + 1) (by have := HS5.out; simp [Value.ownBlock]; omega) (.slice (some ⟨w6.heap.size, 0, none⟩) 1 1)) _) ⟨_, 0, none⟩ 1 1 _ rfl rfl (has_news (((HF6.out.new _ _).set 1 4 rfl (.slice (some ⟨w6.heap.size, 0, none⟩) 1 1)).new _ _).has (by simp)) (by simp [Value.oneCell']) (by unfold maxLen; omega) (by omega) (((HF6.out.new _ _).set 1 4 rfl (.slice (some ⟨w6.heap.size, 0, none⟩) 1 1)).new _ _).low.size ?_; intro v8 w8 hown hg hnil hor; have hf8 := (((HF6.out.new _ _).set 1 4 rfl (.slice (some ⟨w6.heap.size, 0, none⟩) 1 1)).new _ _).grownOwn2 (World.ownsRow.alloc (own_ne (HR6.out.alloc _) (P := w5.heap.size + 1) (by have := HS5.out; simp [Value.ownBlock]; omega) (.slice (some ⟨w6.heap.size, 0, none⟩) 1 1)) _) (by have e1 := HL1.out; have e2 := HL2.out; have e3 := HG4.out; have e4 := HS5.out; have e5 := HS6.out; simp only [List.set, List.map_cons, List.map_nil, List.all_cons, List.all_nil, World.size_alloc, World.size_setCell, Bool.and_true, Bool.and_eq_true, decide_eq_true_eq]; omega) hg; obtain ⟨g6, cap6, rfl⟩ := ownsRow_succ hown; simp only [World.size_alloc, World.size_setCell, List.set] at hf8; have HF8 := Lib.hid hf8; have HR8 := Lib.hid hown; have cP8 : w8.cell? ⟨w1.heap.size, 1, none⟩ = some (.slice (some ⟨g4, 0, none⟩) 2 cap4) := HF8.out.cell 8 1 rfl rfl; have fP8 : w8.frozen? ⟨w1.heap.size, 1, none⟩ = false := HF8.out.froz 8 1 rfl; clear hown hg hnil hor hf8)
    | (refine wpList_load rfl (.tmp 5) 25 rfl (A := ⟨w1.heap.size, 0, none⟩) rfl Try.underlying25 rfl (cs := [.string ⟨#[97]⟩, .slice (some ⟨g6, 0, none⟩) 3 cap6, .slice (some ⟨ba, 0, none⟩) 1 1]) H25.out ((HF8.out.set 8 1 rfl _).cells 8 rfl rfl) ?_)
    | (go_at_call 16; refine (Check_any (prIn g6 cap6 ba [Co.mk (chOne true b1 b2) [], (Co.mk (chIn 2 w2.heap.size (w2.heap.size + 1)) []), (Co.mk (chLast ⟨#[115]⟩ w5.heap.size [tV 1 ⟨#[118]⟩] (some ⟨w6.heap.size, 0, none⟩) 1) [])] acOne) _ (by simp [prIn, sizeL]) (by simp [prIn, wtL, chOne, chIn, chLast]) ⟨conds_of (elts_row (l := [Co.mk (chOne true b1 b2) [], (Co.mk (chIn 2 w2.heap.size (w2.heap.size + 1)) []), (Co.mk (chLast ⟨#[115]⟩ w5.heap.size [tV 1 ⟨#[118]⟩] (some ⟨w6.heap.size, 0, none⟩) 1) [])]) (n := 3) (own_set HR8.out (HF8.out.at 8 rfl) (by simp) _) 0) (okin_three (ok_one ((HF8.out.set 8 1 rfl _).at' 11 rfl rfl) ((HF8.out.set 8 1 rfl _).at' 10 rfl rfl)) (ok_in ((HF8.out.set 8 1 rfl _).at' 7 rfl rfl) ((HF8.out.set 8 1 rfl _).at' 6 rfl rfl)) (ok_last ((HF8.out.set 8 1 rfl _).at' 3 rfl rfl) (tests_one ((HF8.out.set 8 1 rfl _).at' 1 rfl rfl) rfl))), elts_one (E := encA) (x := acOne) ((HF8.out.set 8 1 rfl _).at' 9 rfl rfl)⟩).mono ?_; rintro e w9 ⟨rfl, h9⟩; rw [chk_0_2 (vv := w6.heap.size)]; have HF9 := Lib.hid ((HF8.out.set 8 1 rfl _).below h9); clear h9)
    | (go_at_call 12; refine (wakes_any _).mono ?_; rintro e w10 ⟨rfl, h10⟩)
    )
  go_ret
  exact ⟨rfl, HF9.out.low.trans (h10.mono HF9.out.low.size)⟩
open Go.RowKit
theorem chk_0_3 (t q vv b1 b2 g cap ba : Nat) : (checkE (prIn g cap ba [Co.mk (chOne true b1 b2) [], Co.mk (chIn 2 t (t + 1)) [], Co.mk (chLast ⟨#[115]⟩ q [] none 0) []] acV)).2 = (3, 6) := by
  have hsz : sizeL [Co.mk (chOne true b1 b2) [], Co.mk (chIn 2 t (t + 1)) [], Co.mk (chLast ⟨#[115]⟩ q [] none 0) []] = 3 := by simp [sizeL]
  have hf : firstE [Co.mk (chOne true b1 b2) [], Co.mk (chIn 2 t (t + 1)) [], Co.mk (chLast ⟨#[115]⟩ q [] none 0) []] 0 0 = (-1, 0) := by
    simp only [firstE, sizeL]; rfl
  have hw : wholeE (prIn g cap ba [Co.mk (chOne true b1 b2) [], Co.mk (chIn 2 t (t + 1)) [], Co.mk (chLast ⟨#[115]⟩ q [] none 0) []] acV) = 0 := by unfold wholeE prIn; rw [hsz]; rfl
  have hs : shapeE (prIn g cap ba [Co.mk (chOne true b1 b2) [], Co.mk (chIn 2 t (t + 1)) [], Co.mk (chLast ⟨#[115]⟩ q [] none 0) []] acV) = (-1, 0) := by
    unfold shapeE
    rw [hw, show (prIn g cap ba [Co.mk (chOne true b1 b2) [], Co.mk (chIn 2 t (t + 1)) [], Co.mk (chLast ⟨#[115]⟩ q [] none 0) []] acV).conds = [Co.mk (chOne true b1 b2) [], Co.mk (chIn 2 t (t + 1)) [], Co.mk (chLast ⟨#[115]⟩ q [] none 0) []] from rfl, hf]; rfl
  unfold checkE
  rw [hs]
  simp only [stP, prIn, badS, sizeL]
  simp [kindP, Co.h, chOne, chIn, chLast, condS, idS, learnS, ins, has, knowsB, testsS, oneS, tW, tN, tV, cmp_ss, cmp_vs, cmp_vv, ByteArray.size, actS, acOne, acV]
set_option maxRecDepth 100000 in
set_option maxHeartbeats 16000000 in
theorem inside_0_3 (w : World) (kd us : Int) (hk1 : -9223372036854775808 ≤ kd) (hk2 : kd ≤ 9223372036854775807) (hu1 : -9223372036854775808 ≤ us) (hu2 : us ≤ 9223372036854775807) (hk : kd % 3 = 0) (hu : us % 4 = 3) :
    Calls Try.prog 10 #[.int .i64 kd, .int .i64 us] w fun e w' => e = .returned (.bool true) ∧ Below w.heap.size w w' := by
  have hw1 := fun w' => within_all w' kd 3 hk1 hk2 (by omega) (by omega)
  have hw2 := fun w' => within_all w' us 4 hu1 hu2 (by omega) (by omega)
  rw [show ((3 : Nat) : Int) = 3 from rfl, hk] at hw1
  rw [show ((4 : Nat) : Int) = 4 from rfl, hu] at hw2
  have HW1 := Lib.hid hw1
  have HW2 := Lib.hid hw2
  clear hw1 hw2 hk1 hk2 hu1 hu2 hk hu
  have tok : Hid (0 = 0) := rfl
  have ta : Hid (0 = 0) := rfl
  obtain ⟨i0, hi, hz0, hz1, hz2⟩ := info_parts infoCOND
  go_enter Try.func10, Try.ntmps10
  have hi64 : (Try.prog.info? 64).map (·.size) = some 7 := by kernel_rfl
  have hi25 : (Try.prog.info? 25).map (·.size) = some 3 := by kernel_rfl
  have H64 := Lib.hid hi64
  have H25 := Lib.hid hi25
  clear hi64 hi25
  go_wp2_with (first
    | (go_at_call 33; refine (One_any _).mono ?_; rintro e w1 ⟨b1, b2, bc, ba, rfl, h1, ho, l1, l2, l3, l4⟩; have HF1 := Lib.hid (⟨h1, has_one ho l2 l3 l4, by simp; omega⟩ : Lay w w1 _); have HL1 := Lib.hid (⟨l2, l3, l4, heap_lt ho.ha⟩ : b1 < b2 ∧ b2 < bc ∧ bc < ba ∧ ba < w1.heap.size); have tw1 : Hid (0 = 0) := rfl; clear h1 ho l1 l2 l3 l4)
    | (have _t := tw1; go_at_call 35; refine (W_any _ _).mono ?_; rintro e w2 ⟨rfl, h2⟩; have HF2 := Lib.hid ((HF1.out.new _ _).below h2); have HL2 : Hid (w1.heap.size < w2.heap.size) := Lib.hid (by have := h2.size; simp at this; omega); clear _t tw1 h2)
    | (have _t := tok; go_at_call 23; refine (HW1.out _).mono ?_; rintro e w3 ⟨rfl, rfl⟩; clear _t tok)
    | (refine wpList_load1 rfl (.tmp 33) 22 rfl rfl Try.underlying22 rfl ((((HF2.out.new _ _).new _ _).new _ _).cell 3 1 rfl rfl) ?_)
    | (at_builtin; have _t := ta; refine wpList_append_own_at _ rfl (.tmp 34) (.tmp 36) 22 rfl w.heap.size 64 i0 (.agg #[.int .i64 0, .bool false, .string ⟨#[]⟩, .slice none 0 0, .slice none 0 0, .bool false, .slice none 0 0]) 7 112 Try.underlying22 hi hz0 hz1 hz2 rfl (by decide) (.slice (some ⟨bc, 0, none⟩) 1 1) 1 _ rfl (own_lit (HF2.out.ge (bc, encH (chOne true b1 b2) 0, 64) (by simp)) (((((HF2.out.new _ _).new _ _).new _ _).new _ _).at 6 rfl) rfl (by unfold maxLen; omega)) ⟨_, 0, none⟩ 1 1 _ rfl rfl (has_news ((((HF2.out.new _ _).new _ _).new _ _).new _ _).has (by simp)) (by simp [Value.oneCell']) (by unfold maxLen; omega) (by omega) ((((HF2.out.new _ _).new _ _).new _ _).new _ _).low.size ?_; intro v4 w4 hown hg hnil hor; have hf4 := ((((HF2.out.new _ _).new _ _).new _ _).new _ _).grownRow 6 rfl hg; obtain ⟨g4, cap4, rfl⟩ := ownsRow_succ hown; simp only [World.size_alloc, List.eraseIdx] at hf4; have HF4 := Lib.hid hf4; have HG4 : Hid (g4 = bc ∨ g4 = w2.heap.size + (4 : Nat)) := Lib.hid (by simp [Value.ownBlock] at hor; omega); have HR4 := Lib.hid hown; have cP : w4.cell? ⟨w1.heap.size, 1, none⟩ = some (.slice (some ⟨bc, 0, none⟩) 1 1) := HF4.out.cell 4 1 rfl rfl; have fP : w4.frozen? ⟨w1.heap.size, 1, none⟩ = false := HF4.out.froz 4 1 rfl; have tq : Hid (0 = 0) := rfl; clear hown hg hnil hor hf4 ta _t)
    | (have _t := tq; go_at_call 35; refine (W_any _ _).mono ?_; rintro e w5 ⟨rfl, h5⟩; have hf5 := (HF4.out.set 4 1 rfl _).below h5; simp only [List.set] at hf5; have HF5 := Lib.hid hf5; have HR5 := Lib.hid (own_below (own_set HR4.out (HF4.out.at 4 rfl) (by simp) _) h5); have hc4 := own_cap HR4.out; have HS5 : Hid (g4 < w5.heap.size) := Lib.hid (HR5.out.lt g4 rfl).2; clear _t tq h5 cP fP hf5)
    | (refine wpList_load1 rfl (.tmp 43) 22 rfl rfl Try.underlying22 rfl (((HF5.out.new _ _).new _ _).cell 6 1 rfl rfl) ?_)
    | (go_at_call 26; refine (size_any [(Co.mk (chIn 2 w2.heap.size (w2.heap.size + 1)) [])] (by simp [sizeL]) (some ⟨g4, 7, none⟩) (cap4 - 1) _ (conds_of (elts_row (l := [Co.mk (chOne true b1 b2) [], (Co.mk (chIn 2 w2.heap.size (w2.heap.size + 1)) [])]) (n := 2) (cap := cap4) ((HR5.out.alloc _).alloc _) 1) (fun c hc => by obtain rfl : c = (Co.mk (chIn 2 w2.heap.size (w2.heap.size + 1)) []) := (by simpa using hc); exact ok_in (((HF5.out.new _ _).new _ _).at' 5 rfl rfl) (((HF5.out.new _ _).new _ _).at' 4 rfl rfl)))).mono ?_; rintro e w6 ⟨rfl, h6⟩; rw [show sizeL [(Co.mk (chIn 2 w2.heap.size (w2.heap.size + 1)) [])] = 1 from by simp [sizeL]]; have hf6 := (((HF5.out.new _ _).new _ _).below h6); simp only [World.size_alloc] at hf6; have HF6 := Lib.hid hf6; have HR6 := Lib.hid (own_below ((HR5.out.alloc _).alloc _) h6); have HS6 : Hid (w5.heap.size + 1 < w6.heap.size) := Lib.hid (by have := h6.size; simp at this; omega); clear h6 hf6)
    | (go_at_call 23; refine (HW2.out _).mono ?_; rintro e w7 ⟨rfl, rfl⟩)
    
    | (refine wpList_load1 rfl (.tmp 50) 23 rfl rfl Try.underlying23 rfl (HF6.out.cell 6 2 rfl rfl) ?_)
    | (refine wpList_store_mid rfl (.tmp 54) (.tmp 52) 55 rfl (g := ba) (off := 1) rfl (HF6.out.at 7 rfl) (c' := #[.string ⟨#[118]⟩, .int .i64 0, .string ⟨#[]⟩, .int .i64 0]) rfl (by kernel_rfl) (Nat.le_of_ble_eq_true rfl) (by simp [Value.oneCell']) (c2 := (encA acV).toArray) rfl ?_)
    | (refine wpList_load1 rfl (.tmp 71) 22 rfl rfl Try.underlying22 rfl ((HF6.out.row' 7 rfl (g := ba) rfl (encA acV)).cell 6 1 rfl rfl) ?_)
    | (refine wpList_load rfl (.tmp 8) 64 rfl (A := ⟨w5.heap.size + 1, 0, none⟩) rfl Try.underlying64 rfl (cs := [.int .i64 1, .bool false, .string ⟨#[115]⟩, .slice (some ⟨w5.heap.size, 0, none⟩) 1 1, .slice none 0 0, .bool false, .slice none 0 0]) H64.out ((HF6.out.row' 7 rfl (g := ba) rfl (encA acV)).cells 0 rfl rfl) ?_)
    | (at_builtin; refine wpList_append_own_at _ rfl (.tmp 72) (.tmp 74) 22 rfl w.heap.size 64 i0 (.agg #[.int .i64 0, .bool false, .string ⟨#[]⟩, .slice none 0 0, .slice none 0 0, .bool false, .slice none 0 0]) 7 112 Try.underlying22 hi hz0 hz1 hz2 rfl (by decide) (.slice (some ⟨g4, 0, none⟩) 2 cap4) 2 _ rfl (World.ownsRow.alloc (own_row (P := ba) HR6.out (by have e1 := HL1.out; have e2 := HL2.out; have e3 := HG4.out; simp [Value.ownBlock]; omega) (encA acV).toArray) _) ⟨_, 0, none⟩ 1 1 _ rfl rfl (has_news ((HF6.out.row' 7 rfl (g := ba) rfl (encA acV)).new _ _).has (by simp)) (by simp [Value.oneCell']) (by unfold maxLen; omega) (by omega) ((HF6.out.row' 7 rfl (g := ba) rfl (encA acV)).new _ _).low.size ?_; intro v8 w8 hown hg hnil hor; have hf8 := ((HF6.out.row' 7 rfl (g := ba) rfl (encA acV)).new _ _).grownOwn2 (World.ownsRow.alloc (own_row (P := ba) HR6.out (by have e1 := HL1.out; have e2 := HL2.out; have e3 := HG4.out; simp [Value.ownBlock]; omega) (encA acV).toArray) _) (by have e1 := HL1.out; have e2 := HL2.out; have e3 := HG4.out; have e4 := HS5.out; have e5 := HS6.out; simp only [List.set, List.map_cons, List.map_nil, List.all_cons, List.all_nil, size_setRow, Bool.and_true, Bool.and_eq_true, decide_eq_true_eq]; omega) hg; obtain ⟨g6, cap6, rfl⟩ := ownsRow_succ hown; simp only [size_setRow, List.set] at hf8; have HF8 := Lib.hid hf8; have HR8 := Lib.hid hown; have cP8 : w8.cell? ⟨w1.heap.size, 1, none⟩ = some (.slice (some ⟨g4, 0, none⟩) 2 cap4) := HF8.out.cell 7 1 rfl rfl; have fP8 : w8.frozen? ⟨w1.heap.size, 1, none⟩ = false := HF8.out.froz 7 1 rfl; clear hown hg hnil hor hf8)
    | (refine wpList_load rfl (.tmp 5) 25 rfl (A := ⟨w1.heap.size, 0, none⟩) rfl Try.underlying25 rfl (cs := [.string ⟨#[97]⟩, .slice (some ⟨g6, 0, none⟩) 3 cap6, .slice (some ⟨ba, 0, none⟩) 1 1]) H25.out ((HF8.out.set 7 1 rfl _).cells 7 rfl rfl) ?_)
    | (go_at_call 16; refine (Check_any (prIn g6 cap6 ba [Co.mk (chOne true b1 b2) [], (Co.mk (chIn 2 w2.heap.size (w2.heap.size + 1)) []), (Co.mk (chLast ⟨#[115]⟩ w5.heap.size [] none 0) [])] acV) _ (by simp [prIn, sizeL]) (by simp [prIn, wtL, chOne, chIn, chLast]) ⟨conds_of (elts_row (l := [Co.mk (chOne true b1 b2) [], (Co.mk (chIn 2 w2.heap.size (w2.heap.size + 1)) []), (Co.mk (chLast ⟨#[115]⟩ w5.heap.size [] none 0) [])]) (n := 3) (own_set HR8.out (HF8.out.at 7 rfl) (by simp) _) 0) (okin_three (ok_one ((HF8.out.set 7 1 rfl _).at' 10 rfl rfl) ((HF8.out.set 7 1 rfl _).at' 9 rfl rfl)) (ok_in ((HF8.out.set 7 1 rfl _).at' 6 rfl rfl) ((HF8.out.set 7 1 rfl _).at' 5 rfl rfl)) (ok_last ((HF8.out.set 7 1 rfl _).at' 2 rfl rfl) tests_nil)), elts_one (E := encA) (x := acV) ((HF8.out.set 7 1 rfl _).at' 8 rfl rfl)⟩).mono ?_; rintro e w9 ⟨rfl, h9⟩; rw [chk_0_3 (vv := 0)]; have HF9 := Lib.hid ((HF8.out.set 7 1 rfl _).below h9); clear h9)
    | (go_at_call 12; refine (wakes_any _).mono ?_; rintro e w10 ⟨rfl, h10⟩)
    )
  go_ret
  exact ⟨rfl, HF9.out.low.trans (h10.mono HF9.out.low.size)⟩
end Go.Proofs.Ytccphigpobnjmaa
