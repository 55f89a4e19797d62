/-
  The walk of the law BookSequences. No condition.
-/
import Derived.Test.YthgidldcblchmaaBookFilled
import Derived.Test.YthgidldcblchmaaPairsQ
import Derived.Test.YthgidldcblchmaaKeysL
import Derived.Deep.CutBlock
namespace Go.Proofs.Ythgidldcblchmaa
set_option linter.unusedVariables false
open Go.RowKit
theorem within_full (w : World) (v : Int) (n : Nat) (hn : 1 ≤ n) (hn2 : n ≤ 1000000) :
    Calls Try.prog 24 #[.int .i64 v, .int .i64 n] w fun e w' => (∃ m : Nat, m < n ∧ e = .returned (.int .i64 m)) ∧ w' = w := by
  have hd : decide ((n : Int) < 1) = false := by simp; omega
  have hz : ((n : Int) == 0) = false := by simp; omega
  have h1 : -(n : Int) < v.tmod n := by have := Int.lt_tmod_of_pos v (show (0 : Int) < n by omega); omega
  have h2 : v.tmod n < n := Int.tmod_lt_of_pos v (by omega)
  by_cases h3 : v.tmod n < 0
  · have hd2 : decide (v.tmod (n : Int) < 0) = true := by simpa using h3
    obtain ⟨m, hm⟩ : ∃ m : Nat, v.tmod (n : Int) + n = m := ⟨(v.tmod (n : Int) + n).toNat, by omega⟩
    have hm2 : m < n := by omega
    have hfin : ∀ e : Ending, e = .returned (.int .i64 (v.tmod (n : Int) + n)) → ∃ m : Nat, m < n ∧ e = .returned (.int .i64 m) := fun e h => ⟨m, hm2, by rw [h, hm]⟩
    have Hfin := Lib.hid hfin
    clear hm hfin
    go_enter Try.func24, Try.ntmps24
    go_wp2_with fail
    go_ret
    exact ⟨Hfin.out _ rfl, rfl⟩
  · have hd2 : decide (v.tmod (n : Int) < 0) = false := by simpa using h3
    obtain ⟨m, hm⟩ : ∃ m : Nat, v.tmod (n : Int) = m := ⟨(v.tmod (n : Int)).toNat, by omega⟩
    have hm2 : m < n := by omega
    have hfin : ∀ e : Ending, e = .returned (.int .i64 (v.tmod (n : Int))) → ∃ m : Nat, m < n ∧ e = .returned (.int .i64 m) := fun e h => ⟨m, hm2, by rw [h, hm]⟩
    have Hfin := Lib.hid hfin
    clear hm hfin
    go_enter Try.func24, Try.ntmps24
    go_wp2_with fail
    go_ret
    exact ⟨Hfin.out _ rfl, rfl⟩

theorem seqs_long (w : World) (a : Option Addr) (n cap : Nat) (at_ : Sy) (z : Int) (hn : n ≤ maxLen) (h : 60 < n) : Calls Try.prog 5 #[.slice a n cap, .agg #[.int .i64 at_.k, .string at_.t, .int .i64 at_.n], .int .i64 z] w fun e w' => e = .returned (.bool true) ∧ Below w.heap.size w w' := by
  unfold maxLen at hn
  have hd : decide (60 < (n : Int)) = true := by simp; omega
  go_enter Try.func5, Try.ntmps5
  go_wp2_with fail
  refine (bwakes_any _).mono ?_
  rintro e w2 ⟨rfl, hb2⟩
  go_wp2_with fail
  go_ret
  exact ⟨rfl, (show Below w.heap.size w (w.alloc (.cells #[.int .i64 at_.k, .string at_.t, .int .i64 at_.n] 27)) by go_grown).trans (hb2.mono (by simp))⟩
theorem own_take {w : World} {base g n c : Nat} {ks : List Sy} {m : Nat} (h : w.ownsRow base 27 3 (.slice (some ⟨g, 0, none⟩) n c) n (ks.flatMap encS)) (hn : n = ks.length) (hm : m ≤ n) : SliceAt encS 3 w (.slice (some ⟨g, 0, none⟩) m c) (ks.take m) := by
  rcases slice_own h hn rfl with ⟨h1, -⟩ | ⟨b, off, cap, h1, h2, h3, h4⟩
  · simp at h1
  · simp at h1
    obtain ⟨⟨rfl, rfl⟩, -, rfl⟩ := h1
    have hl : (ks.take m).length = m := by rw [List.length_take]; omega
    refine .inr ⟨g, 0, c, by rw [hl], h2, ⟨by omega, h3.2⟩, CellsAt.take h4 m⟩
theorem own_drop {w : World} {base g n c : Nat} {ks : List Sy} {k : Nat} (h : w.ownsRow base 27 3 (.slice (some ⟨g, 0, none⟩) n c) n (ks.flatMap encS)) (hn : n = ks.length) (hk : k ≤ n) : SliceAt encS 3 w (.slice (some ⟨g, k * 3, none⟩) (n - k) (c - k)) (ks.drop k) := by
  rcases slice_own h hn rfl with ⟨h1, -⟩ | ⟨b, off, cap, h1, h2, h3, h4⟩
  · simp at h1
  · simp at h1
    obtain ⟨⟨rfl, rfl⟩, -, rfl⟩ := h1
    have hl : (ks.drop k).length = n - k := by rw [List.length_drop]; omega
    have h5 := CellsAt.drop h4 k
    rw [Nat.zero_add] at h5
    exact .inr ⟨g, k * 3, c - k, by rw [hl], h2, ⟨by omega, by omega⟩, h5⟩
theorem own_nil {w : World} {g : Nat} (hg : g < w.heap.size) : SliceAt encS 3 w (.slice (some ⟨g, 0, none⟩) 0 0) ([] : List Sy) := .inr ⟨g, 0, 0, rfl, hg, ⟨Nat.le_refl _, Nat.zero_le _⟩, fun i h => absurd h (by simp)⟩
theorem ints_take {w : World} {base g n c : Nat} {zs : List Int} {m : Nat} (h : w.ownsRow base 3 1 (.slice (some ⟨g, 0, none⟩) n c) n (zs.map VI)) (hn : n = zs.length) (hm : m ≤ n) : Reads w (.slice (some ⟨g, 0, none⟩) m c) ((zs.take m).map VI) := by
  rcases owns_cells h with ⟨h1, -⟩ | ⟨b, cap, h1, -, h2, h3, h4⟩
  · simp at h1
  · simp at h1
    obtain ⟨rfl, rfl⟩ := h1
    have hl : ((zs.take m).map VI).length = m := by rw [List.length_map, List.length_take]; omega
    refine ⟨_, c, by rw [hl], by rw [hl]; omega, h3.2, .inr ⟨g, 0, rfl, h2, fun j hj => ?_⟩⟩
    rw [Nat.zero_add]
    refine h4 j _ ?_
    rw [hl] at hj
    rw [List.getElem?_map, List.getElem_map, List.getElem_take]
    rw [List.getElem?_eq_getElem (by omega)]; rfl
theorem ints_drop {w : World} {base g n c : Nat} {zs : List Int} {k : Nat} (h : w.ownsRow base 3 1 (.slice (some ⟨g, 0, none⟩) n c) n (zs.map VI)) (hn : n = zs.length) (hk : k ≤ n) : Reads w (.slice (some ⟨g, k, none⟩) (n - k) (c - k)) ((zs.drop k).map VI) := by
  rcases owns_cells h with ⟨h1, -⟩ | ⟨b, cap, h1, -, h2, h3, h4⟩
  · simp at h1
  · simp at h1
    obtain ⟨rfl, rfl⟩ := h1
    have hl : ((zs.drop k).map VI).length = n - k := by rw [List.length_map, List.length_drop]; omega
    refine ⟨_, c - k, by rw [hl], by rw [hl]; omega, by omega, .inr ⟨g, k, rfl, h2, fun j hj => ?_⟩⟩
    refine h4 (k + j) _ ?_
    rw [hl] at hj
    rw [List.getElem?_map, List.getElem_map, List.getElem_drop]
    rw [List.getElem?_eq_getElem (by omega)]; rfl
theorem ints_nil {w : World} {a : Option Addr} : Reads w (.slice a 0 0) (([] : List Int).map VI) := ⟨a, 0, rfl, Nat.le_refl _, Nat.zero_le _, .inl rfl⟩
theorem own_dropif {w : World} {base g n c : Nat} {ks : List Sy} {k : Nat} {q : Option Addr} (hq : (if c = k then (some ⟨g, 0, none⟩ : Option Addr) else some ⟨g, k * 3, none⟩) = q) (h : w.ownsRow base 27 3 (.slice (some ⟨g, 0, none⟩) n c) n (ks.flatMap encS)) (hn : n = ks.length) (hk : k ≤ n) : SliceAt encS 3 w (.slice q (n - k) (c - k)) (ks.drop k) := by
  subst hq
  split
  · rename_i hc
    have h1 := own_take h hn (Nat.le_refl n)
    rcases slice_own h hn rfl with ⟨h1, -⟩ | ⟨b, off, cap, h1, h2, h3, h4⟩
    · simp at h1
    · simp at h1
      obtain ⟨⟨rfl, rfl⟩, -, rfl⟩ := h1
      have e1 : n - k = 0 := by omega
      have e2 : c - k = 0 := by omega
      have e3 : ks.drop k = [] := List.drop_eq_nil_of_le (by omega)
      rw [e1, e2, e3]
      exact own_nil h2
  · exact own_drop h hn hk
theorem ints_dropif {w : World} {base g n c : Nat} {zs : List Int} {k : Nat} {q : Option Addr} (hq : (if c = k then (some ⟨g, 0, none⟩ : Option Addr) else some ⟨g, k, none⟩) = q) (h : w.ownsRow base 3 1 (.slice (some ⟨g, 0, none⟩) n c) n (zs.map VI)) (hn : n = zs.length) (hk : k ≤ n) : Reads w (.slice q (n - k) (c - k)) ((zs.drop k).map VI) := by
  subst hq
  split
  · rename_i hc
    rcases owns_cells h with ⟨h1, -⟩ | ⟨b, cap, h1, -, h2, h3, h4⟩
    · simp at h1
    · simp at h1
      obtain ⟨rfl, rfl⟩ := h1
      have e1 : n - k = 0 := by omega
      have e2 : c - k = 0 := by omega
      have e3 : zs.drop k = [] := List.drop_eq_nil_of_le (by omega)
      rw [e1, e2, e3]
      exact ints_nil
  · exact ints_drop h hn hk
def KeyOut (w : World) (ks : List Sy) (e : Ending) (w' : World) : Prop := ∃ v, e = .returned v ∧ Below w.heap.size w w' ∧ SliceAt encS 3 w' v ks
theorem KeyOut.of {w : World} {xs : List Pr} {e : Ending} {w' : World} (h : ListOutK w xs e w') : KeyOut w (keysL xs) e w' := by
  obtain ⟨v, rfl, h1, -, h2⟩ := h
  rw [keys_flat] at h1
  exact ⟨v, rfl, h2, slice_own h1 (keys_length _).symm rfl⟩
theorem list_keys (w : World) (b s : Nat) (ps : List Pr) (hM : MapP w b s ps) (hz : ps.length ≤ 1000) : Calls Try.prog 37 #[.func (.func 68) #[] #[.pointer (some ⟨w.heap.size, 0, none⟩)]] (w.alloc (.cells #[.pointer (some ⟨b, 0, none⟩)] 41)) (KeyOut (w.alloc (.cells #[.pointer (some ⟨b, 0, none⟩)] 41)) (keysL ps)) :=
  have hb : Below w.heap.size w (w.alloc (.cells #[.pointer (some ⟨b, 0, none⟩)] 41)) := by go_grown
  (callsIn_wide.1 (list_inK Fence.wide 3 trivial rfl rfl (by omega) 68 #[.pointer (some ⟨w.heap.size, 0, none⟩)] trivial (enters_of Try.func68 (by kernel_rfl) rfl) ps (by omega) _ _ (Below.refl _ _)
    (keys_over 2 w.heap.size b s ps _ (new_at rfl) (hM.mono hb) (fun pre x => ∃ post, ps = pre ++ x :: post) (fun a x q h => ⟨q, h⟩)))).mono fun _ _ h => KeyOut.of h
theorem first_zero (gf : Nat) (lb : Array Value) (w : World) : Calls Try.prog 39 #[.func (.func gf) #[] lb, .int .i64 0] w (KeyOut w []) := by
  have hef := eql_func_nilS (.func gf) #[] lb
  go_enter Try.func39, Try.ntmps39
  go_wp2_with fail
  go_ret
  exact ⟨_, rfl, by go_grown, .inl ⟨rfl, rfl⟩⟩
theorem first_keys (w : World) (b s : Nat) (ps : List Pr) (hM : MapP w b s ps) (hz : ps.length ≤ 1000) (m : Nat) (hm : m ≤ 1000) : Calls Try.prog 39 #[.func (.func 68) #[] #[.pointer (some ⟨w.heap.size, 0, none⟩)], .int .i64 m] (w.alloc (.cells #[.pointer (some ⟨b, 0, none⟩)] 41)) (KeyOut (w.alloc (.cells #[.pointer (some ⟨b, 0, none⟩)] 41)) (keysL (ps.take m))) := by
  by_cases h0 : m = 0
  · subst h0
    exact first_zero _ _ _
  · have hb : Below w.heap.size w (w.alloc (.cells #[.pointer (some ⟨b, 0, none⟩)] 41)) := by go_grown
    exact (callsIn_wide.1 (first_inK 68 #[.pointer (some ⟨w.heap.size, 0, none⟩)] (enters_of Try.func68 (by kernel_rfl) rfl) m (by omega) (by omega) ps (by omega) _ _ (Below.refl _ _)
      (keys_over 2 w.heap.size b s ps _ (new_at rfl) (hM.mono hb) (fun pre x => ∃ post, ps = pre ++ x :: post) (fun a x q h => ⟨q, h⟩)))).mono fun _ _ h => KeyOut.of h
/-- How many keys stand ahead of a key: those of the first k, and no other. -/
theorem since_at {ps : List Pr} (hs : Sorted cmpP ps) {x : Sy} {k : Nat} (hk : k ≤ ps.length) (hlo : ∀ y ∈ (keysL ps).take k, cmpY y x < 0) (hend : k = ps.length ∨ ∃ h : k < ps.length, ¬ cmpY ps[k].k x < 0) : since cmpP ⟨x, 0⟩ ps = ps.drop k := by
  have e : ps = ps.take k ++ ps.drop k := (List.take_append_drop k ps).symm
  have h1 : since cmpP (⟨x, 0⟩ : Pr) (ps.take k) = [] := by
    unfold since
    rw [List.filter_eq_nil_iff]
    intro p hp
    have hpk : p.k ∈ (keysL ps).take k := by
      rw [show (keysL ps).take k = keysL (ps.take k) by simp]
      exact List.mem_map.2 ⟨p, hp, rfl⟩
    have h2 := hlo _ hpk
    have h3 := cmpY_cmp.flip p.k x
    have h4 : cmpP (⟨x, 0⟩ : Pr) p = cmpY x p.k := rfl
    simp only [decide_eq_true_eq, h4]; omega
  have h2 : since cmpP (⟨x, 0⟩ : Pr) (ps.drop k) = ps.drop k := by
    rcases hend with rfl | ⟨hk2, hn⟩
    · simp [since]
    · rw [List.drop_eq_getElem_cons hk2]
      have hsd : Sorted cmpP (ps.take k ++ ps[k] :: ps.drop (k + 1)) := by rw [← split_at hk2]; exact hs
      obtain ⟨-, -, -, hb⟩ := sorted_mid hsd
      have h3 := cmpY_cmp.flip ps[k].k x
      exact since_all cmpP_cmp (show cmpY x ps[k].k ≤ 0 by omega) hb
  conv => lhs; rw [e]
  rw [since_append, h1, h2]; rfl
theorem ins_pos (x : Pr) : ∀ ps : List Pr, 0 < (ins cmpP x ps).length
  | [] => by simp [ins]
  | z :: zs => by
    unfold ins
    split
    · simp
    · split <;> simp
theorem put_pos (x : Pr) (ps : List Pr) : 0 < (putLP x ps).length := by
  unfold putLP
  cases look cmpP x ps with
  | none => exact ins_pos x ps
  | some o => exact ins_pos _ _
theorem fill_pos {xs : List Sy} (h0 : 0 < xs.length) : ∀ k, 0 < k → 0 < (fillTo xs k).length
  | 0, h => absurd h (by omega)
  | k + 1, _ => by
    by_cases h : k < xs.length
    · rw [fill_succ h]; exact put_pos _ _
    · have := fill_pos h0 k (by omega)
      unfold fillTo; rw [dif_neg h]; exact this
theorem filled_nil (w : World) (a : Option Addr) (cap : Nat) : Calls Try.prog 35 #[.slice a 0 cap] w fun e w' => ∃ b s B, e = .returned (.tuple #[.pointer (some ⟨b, 0, none⟩), .pointer (some ⟨B, 0, none⟩)]) ∧ Below w.heap.size w w' ∧ MapP w' b s [] ∧ w'.heap[B]? = some (.cells #[.slice none 0 0, .slice none 0 0] 47 (0, 0)) := by
  go_enter Try.func35, Try.ntmps35
  go_wp2_with fail
  refine (new_mapP w).mono ?_
  rintro e w1 ⟨b, s, rfl, hs, hsb, hb1, hM1⟩
  obtain ⟨W2, hW2⟩ : ∃ W2, W2 = w1.alloc (.cells #[.slice none 0 0, .slice none 0 0] 47) := ⟨_, rfl⟩
  obtain ⟨B, hBB⟩ : ∃ B, B = w1.heap.size := ⟨_, rfl⟩
  have HW := Lib.hid hW2
  have HBB := Lib.hid hBB
  have hb2 : Below w1.heap.size w1 W2 := by rw [hW2]; go_grown
  have hfin : Below w.heap.size w W2 ∧ MapP W2 b s [] ∧ W2.heap[B]? = some (.cells #[.slice none 0 0, .slice none 0 0] 47 (0, 0)) := ⟨hb1.trans (hb2.mono hb1.size), hM1.mono hb2, by rw [hW2, hBB]; exact new_at rfl⟩
  have HFin := Lib.hid hfin
  clear hs hsb hb1 hM1 hW2 hBB hb2 hfin
  go_wp2_with fail
  rw [← HW.out, ← HBB.out]
  go_loopw [6] (fun i wr => i = .int .i64 0 ∧ wr = W2) (fun _ _ => 0)
  case atStart => exact ⟨rfl, rfl⟩
  case round =>
    obtain ⟨rfl, rfl⟩ := hrel
    clear HW
    go_wp2_with fail
    go_ret2
    exact ⟨b, s, B, rfl, HFin.out⟩
set_option maxRecDepth 100000 in
set_option maxHeartbeats 16000000 in
theorem seqs_empty (w : World) (a : Option Addr) (cap : Nat) (x : Sy) (z : Int) : Calls Try.prog 5 #[.slice a 0 cap, .agg #[.int .i64 x.k, .string x.t, .int .i64 x.n], .int .i64 z] w fun e w' => e = .returned (.bool true) ∧ Below w.heap.size w w' := by
  obtain ⟨W2, hW2⟩ : ∃ W2, W2 = w.alloc (.cells #[.int .i64 x.k, .string x.t, .int .i64 x.n] 27) := ⟨_, rfl⟩
  have hB2 : Below w.heap.size w W2 := by rw [hW2]; go_grown
  have hx2 : W2.heap[w.heap.size]? = some (.cells #[.int .i64 x.k, .string x.t, .int .i64 x.n] 27 (0, 0)) := by rw [hW2]; exact new_at rfl
  have HW := Lib.hid hW2
  have HB2 := Lib.hid hB2
  have HX2 := Lib.hid hx2
  clear hW2 hB2 hx2
  go_enter Try.func5, Try.ntmps5
  go_wp2_with fail
  rw [← HW.out]
  refine (filled_nil W2 a cap).mono ?_
  rintro e w3 ⟨b, s, B, rfl, hb3, hM3, hP3⟩
  have hcs : ∀ w', Below w3.heap.size w3 w' → w'.cell? ⟨B, 0, none⟩ = some (.slice none 0 0) ∧ w'.cell? ⟨B, 1, none⟩ = some (.slice none 0 0) ∧ w'.cell? ⟨w.heap.size, 0, none⟩ = some (.int .i64 x.k) ∧ w'.cell? ⟨w.heap.size, 1, none⟩ = some (.string x.t) ∧ w'.cell? ⟨w.heap.size, 2, none⟩ = some (.int .i64 x.n) := fun w' h => by
    have h1 := (h.block _ (heap_lt hP3)).trans hP3
    have h2 := (h.block _ (Nat.lt_of_lt_of_le (heap_lt HX2.out) hb3.size)).trans ((hb3.block _ (heap_lt HX2.out)).trans HX2.out)
    exact ⟨by rw [cells_of h1]; rfl, by rw [cells_of h1]; rfl, by rw [cells_of h2]; rfl, by rw [cells_of h2]; rfl, by rw [cells_of h2]; rfl⟩
  have HC := Lib.hid hcs
  have HM := Lib.hid hM3
  have HB3 := Lib.hid (HB2.out.trans (hb3.mono HB2.out.size))
  clear hcs hM3 hP3 hb3 HX2 HB2
  go_wp2_with fail
  go_loopw [9] (fun v wr => v = .int .i64 0 ∧ Hid (Below w3.heap.size w3 wr)) (fun _ _ => 0)
  case atStart => exact ⟨rfl, Lib.hid (Below.refl _ _)⟩
  case round =>
    obtain ⟨rfl, hBr⟩ := hrel
    obtain ⟨p0, -, -, -, -⟩ := HC.out wr hBr.out
    go_wp2_with fail
    go_quiet (fail)
    obtain ⟨w4, hw4⟩ : ∃ w4, w4 = wr.drewN nq := ⟨_, rfl⟩
    have hBc : Hid (Below w3.heap.size w3 w4) := Lib.hid (by rw [hw4]; exact bdN _ hBr.out)
    rw [← hw4]
    clear hw4 hBr p0
    obtain ⟨p0, -, -, -, -⟩ := HC.out w4 hBc.out
    have hw : Calls Try.prog 24 #[.int .i64 z, .int .i64 1] w4 fun e w' => (∃ m : Nat, m < 1 ∧ e = .returned (.int .i64 m)) ∧ w' = w4 := within_full w4 z 1 (by omega) (by omega)
    have Hw := Lib.hid hw
    clear hw
    go_wp2_with fail
    refine Hw.out.mono ?_
    rintro e w5 ⟨⟨m, hm, rfl⟩, rfl⟩
    obtain rfl : m = 0 := by omega
    clear p0
    obtain ⟨-, -, x0, x1, x2⟩ := HC.out w5 hBc.out
    have hpf := pairs_from w5 b s x [] (HM.out.mono hBc.out) (by simp)
    have HPf := Lib.hid hpf
    clear hpf
    go_wp2_with fail
    refine HPf.out.mono ?_
    rintro e w6 ⟨va, vb, rfl, hb6, hra, hrb⟩
    have e0 : since cmpP (⟨x, 0⟩ : Pr) [] = [] := rfl
    rw [e0] at hra hrb
    have hB6 := Lib.hid (hBc.out.trans (hb6.mono hBc.out.size))
    have hsa : SliceAt encS 3 w6 va ([] : List Sy) := slice_own hra rfl rfl
    have hsb : Reads w6 vb (([] : List Int).map VI) := reads_own (base := w5.heap.size) (n := 0) (e := 3) hrb
    have HA := Lib.hid hsa
    have HBv := Lib.hid hsb
    clear x0 x1 x2 hra hrb hb6 hsa hsb e0
    obtain ⟨-, -, x0, x1, x2⟩ := HC.out w6 hB6.out
    have hpt : Calls Try.prog 32 #[.pointer (some ⟨b, 0, none⟩), .agg #[.int .i64 x.k, .string x.t, .int .i64 x.n], .bool true, .int .i64 0] w6 (PairsOut w6 []) := pairs_take w6 b s x 0 [] (HM.out.mono hB6.out) (by simp) (by omega)
    have HPt := Lib.hid hpt
    clear hpt
    go_wp2_with fail
    refine HPt.out.mono ?_
    rintro e w7 ⟨vc, vd, rfl, hb7, hrc, hrd⟩
    go_upto_region 12 with fail
    dsimp only [List.append]
    have hB7 := Lib.hid (hB6.out.trans (hb7.mono hB6.out.size))
    have hsc : SliceAt encS 3 w7 vc ([] : List Sy) := slice_own hrc rfl rfl
    have hsd : Reads w7 vd (([] : List Int).map VI) := reads_own (base := w6.heap.size) (n := 0) (e := 3) hrd
    have hsa : SliceAt encS 3 w7 va ([] : List Sy) := SliceAt.mono HA.out hb7
    have hsb : Reads w7 vb (([] : List Int).map VI) := HBv.out.mono hb7
    have hnil : ∀ w' : World, SliceAt encS 3 w' (.slice none 0 0) ([] : List Sy) := fun _ => .inl ⟨rfl, rfl⟩
    have hM7 := HM.out.mono hB7.out
    have HS1 := Lib.hid (fun w' (h : Below w7.heap.size w7 w') => syms_self w' va (.slice none 0 0) [] (by simp) (SliceAt.mono hsa h) (hnil w'))
    have HS2 := Lib.hid (fun w' (h : Below w7.heap.size w7 w') => syms_self w' vc (.slice none 0 0) [] (by simp) (SliceAt.mono hsc h) (hnil w'))
    have HI1 := Lib.hid (fun w' (h : Below w7.heap.size w7 w') => ints_any w' vb (.slice none 0 0) [] [] (hsb.mono h) ints_nil true (by simp))
    have HI2 := Lib.hid (fun w' (h : Below w7.heap.size w7 w') => ints_any w' vd (.slice none 0 0) [] [] (hsd.mono h) ints_nil true (by simp))
    have HFk := Lib.hid (fun w' (h : Below w7.heap.size w7 w') => list_keys w' b s [] (hM7.mono h) (by simp))
    have HNil := Lib.hid hnil
    have hcells : ∀ w', Below w7.heap.size w7 w' → w'.cell? ⟨B, 0, none⟩ = some (.slice none 0 0) ∧ w'.cell? ⟨B, 1, none⟩ = some (.slice none 0 0) := fun w' h => by
      obtain ⟨q0, q1, -⟩ := HC.out w' (hB7.out.trans (h.mono hB7.out.size))
      exact ⟨q0, q1⟩
    obtain ⟨k0, k1⟩ := hcells w7 (Below.refl _ _)
    have HCl := Lib.hid hcells
    have HBf := Lib.hid (HB3.out.trans (hB7.out.mono HB3.out.size))
    have hcur : Hid (Below w7.heap.size w7 w7.drew) := Lib.hid (Below.refl _ _).drew
    have j1 : Hid (0 = 0) := Lib.hid rfl
    clear hsa hsb hsc hsd hnil hM7 hcells hrc hrd hb7 HA HBv x0 x1 x2
    go_region_held3 (fun w' => w'.cell? ⟨B, 0, none⟩ = some (.slice none 0 0) ∧ w'.cell? ⟨B, 1, none⟩ = some (.slice none 0 0))
      (first | exact HCl.out _ hcur.out | go_keep)
      (first
        | (go_at_call 33; (with_reducible refine (HS1.out _ hcur.out).mono ?_); rintro e wa ⟨rfl, ha⟩; replace hcur : Hid (Below w7.heap.size w7 wa) := Lib.hid (hcur.out.trans (ha.mono hcur.out.size)); clear ha HS1)
        | (go_at_call 34; (with_reducible refine (HI1.out _ hcur.out).mono ?_); rintro e wb ⟨rfl, ha⟩; replace hcur : Hid (Below w7.heap.size w7 wb) := Lib.hid (hcur.out.trans (ha.mono hcur.out.size)); clear ha HI1)
        | (go_at_call 33; (with_reducible refine (HS2.out _ hcur.out).mono ?_); rintro e wd ⟨rfl, ha⟩; replace hcur : Hid (Below w7.heap.size w7 wd) := Lib.hid (hcur.out.trans (ha.mono hcur.out.size)); clear ha HS2)
        | (go_at_call 34; (with_reducible refine (HI2.out _ hcur.out).mono ?_); rintro e we ⟨rfl, ha⟩; replace hcur : Hid (Below w7.heap.size w7 we) := Lib.hid (hcur.out.trans (ha.mono hcur.out.size)); clear ha HI2)
        | (have _t := j1; go_at_call 38; refine (keys_mapP _ b).mono ?_; rintro e wf ⟨rfl, rfl⟩; have HFk1 := Lib.hid (HFk.out we hcur.out); replace hcur : Hid (Below w7.heap.size w7 (we.alloc (.cells #[.pointer (some ⟨b, 0, none⟩)] 41))) := Lib.hid (hcur.out.alloc hcur.out.size _); clear j1)
        | (go_at_call 37; (with_reducible refine HFk1.out.mono ?_); rintro e wg ⟨vl, rfl, ha, hsl⟩; have HSl : Hid (SliceAt encS 3 wg vl ([] : List Sy)) := Lib.hid hsl; replace hcur : Hid (Below w7.heap.size w7 wg) := Lib.hid (hcur.out.trans (ha.mono hcur.out.size)); clear ha hsl HFk1)
        | (have _t := HSl; go_at_call 33; (with_reducible refine (syms_self wg vl (.slice none 0 0) [] (by simp) HSl.out (HNil.out wg)).mono ?_); rintro e wh ⟨rfl, ha⟩; replace hcur : Hid (Below w7.heap.size w7 wh) := Lib.hid (hcur.out.trans (ha.mono hcur.out.size)); clear ha HSl)
        | (go_at_call 38; refine (keys_mapP _ b).mono ?_; rintro e wi ⟨rfl, rfl⟩; have HFf1 := Lib.hid (first_zero 68 #[.pointer (some ⟨wh.heap.size, 0, none⟩)] (wh.alloc (.cells #[.pointer (some ⟨b, 0, none⟩)] 41))); replace hcur : Hid (Below w7.heap.size w7 (wh.alloc (.cells #[.pointer (some ⟨b, 0, none⟩)] 41))) := Lib.hid (hcur.out.alloc hcur.out.size _))
        | (go_at_call 39; (with_reducible refine HFf1.out.mono ?_); rintro e wj ⟨vf, rfl, ha, hsl⟩; have HSf : Hid (SliceAt encS 3 wj vf ([] : List Sy)) := Lib.hid hsl; replace hcur : Hid (Below w7.heap.size w7 wj) := Lib.hid (hcur.out.trans (ha.mono hcur.out.size)); clear ha hsl HFf1)
        | (go_at_call 33; (with_reducible refine (syms_self wj vf (.slice none 0 0) [] (by simp) HSf.out (HNil.out wj)).mono ?_); rintro e wk ⟨rfl, ha⟩; replace hcur : Hid (Below w7.heap.size w7 wk) := Lib.hid (hcur.out.trans (ha.mono hcur.out.size)); clear ha)
        | (go_at_call 22; refine (bwakes_any _).mono ?_; rintro e wl ⟨rfl, ha⟩; replace hcur : Hid (Below w7.heap.size w7 wl) := Lib.hid (hcur.out.trans (ha.mono hcur.out.size)); clear ha))
    go_wp2_with fail
    go_ret
    exact ⟨rfl, HBf.out.trans (hcur.out.mono HBf.out.size)⟩
set_option maxRecDepth 100000 in
set_option maxHeartbeats 16000000 in
theorem seqs_walk (w : World) (a : Option Addr) (cap : Nat) (xs : List Sy) (x : Sy) (z : Int) (hz : xs.length ≤ 60) (h0 : 0 < xs.length) (he : ∀ s, w.heap.size ≤ s → ListAt w s a xs) :
    Calls Try.prog 5 #[.slice a xs.length cap, .agg #[.int .i64 x.k, .string x.t, .int .i64 x.n], .int .i64 z] w fun e w' => e = .returned (.bool true) ∧ Below w.heap.size w w' := by
  have hd0 : decide (60 < (xs.length : Int)) = false := by simp; omega
  obtain ⟨W2, hW2⟩ : ∃ W2, W2 = w.alloc (.cells #[.int .i64 x.k, .string x.t, .int .i64 x.n] 27) := ⟨_, rfl⟩
  have hB2 : Below w.heap.size w W2 := by rw [hW2]; go_grown
  have hx2 : W2.heap[w.heap.size]? = some (.cells #[.int .i64 x.k, .string x.t, .int .i64 x.n] 27 (0, 0)) := by rw [hW2]; exact new_at rfl
  have hfill := filled_any W2 a cap xs (by omega) (fun s hs => (he s (Nat.le_trans hB2.size hs)).kc (KC.below hB2))
  have hfl := fill_length xs xs.length
  have hfs := fill_sorted xs xs.length
  have hfp := fill_pos h0 xs.length h0
  obtain ⟨ps, hps⟩ : ∃ ps, ps = fillTo xs xs.length := ⟨_, rfl⟩
  rw [← hps] at hfill hfl hfs hfp
  have hpl : ps.length ≤ 60 := by omega
  have HFill := Lib.hid hfill
  have HW := Lib.hid hW2
  have HB2 := Lib.hid hB2
  have HX2 := Lib.hid hx2
  have HS := Lib.hid hfs
  clear hfill hfl hps hW2 hB2 hx2 he hfs
  go_enter Try.func5, Try.ntmps5
  go_wp2_with fail
  rw [← HW.out]
  refine HFill.out.mono ?_
  rintro e w3 ⟨b, s, B, rfl, hb3, hbo⟩
  have hM3 := hbo.1
  obtain ⟨-, -, v1, v2, hP3⟩ := hbo
  obtain ⟨a1, c1, a2, c2, rfl, rfl⟩ := hP3.form
  have hcs : ∀ w', Below w3.heap.size w3 w' → (w'.cell? ⟨B, 0, none⟩ = some (.slice a1 ps.length c1) ∧ w'.cell? ⟨B, 1, none⟩ = some (.slice a2 ps.length c2) ∧ w'.cell? ⟨w.heap.size, 0, none⟩ = some (.int .i64 x.k) ∧ w'.cell? ⟨w.heap.size, 1, none⟩ = some (.string x.t) ∧ w'.cell? ⟨w.heap.size, 2, none⟩ = some (.int .i64 x.n)) ∧ ListAt w' w'.heap.size a1 (keysL ps) := fun w' h => by
    have h1 := (h.block _ hP3.lt).trans hP3.1
    have h2 := (h.block _ (Nat.lt_of_lt_of_le (heap_lt HX2.out) hb3.size)).trans ((hb3.block _ (heap_lt HX2.out)).trans HX2.out)
    exact ⟨⟨by rw [cells_of h1]; rfl, by rw [cells_of h1]; rfl, by rw [cells_of h2]; rfl, by rw [cells_of h2]; rfl, by rw [cells_of h2]; rfl⟩, (hP3.mono h).list⟩
  have HC := Lib.hid hcs
  have HM := Lib.hid hM3
  have HP := Lib.hid hP3
  have HB3 := Lib.hid (HB2.out.trans (hb3.mono HB2.out.size))
  clear hcs hM3 hP3 hb3 HFill HX2 HB2
  go_upto_block 0 with fail
  go_cut [9] from 25 to 44 (fun v w' => ∃ k : Nat, k ≤ ps.length ∧ v = .int .i64 k ∧ Hid (Below w3.heap.size w3 w') ∧ Hid (since cmpP ⟨x, 0⟩ ps = ps.drop k))
  case first =>
    go_wp2_with fail
    go_loopw [9] (fun v wr => ∃ k : Nat, k ≤ ps.length ∧ v = .int .i64 k ∧ Hid (Below w3.heap.size w3 wr) ∧ Hid (∀ y ∈ (keysL ps).take k, cmpY y x < 0)) (fun v _ => ps.length - (intOf v).toNat)
    case atStart => exact ⟨0, Nat.zero_le _, rfl, Lib.hid (Below.refl _ _), Lib.hid (by simp)⟩
    case round =>
      obtain ⟨k, hk, rfl, hBr, hlo⟩ := hrel
      obtain ⟨⟨p0, -, x0, x1, x2⟩, hl⟩ := HC.out wr hBr.out
      by_cases hlt : k < ps.length
      · obtain ⟨g1, o1, rfl, -, m0, m1, m2⟩ := hl k (by simpa using hlt)
        have e : (keysL ps)[k]'(by simpa using hlt) = ps[k].k := by simp
        rw [e] at m0 m1 m2
        have hki : (k : Int) < (ps.length : Int) := by omega
        have hK : Hid (∀ w', Below wr.heap.size wr w' → w'.cell? ⟨B, 0, none⟩ = some (.slice (some ⟨g1, o1, none⟩) ps.length c1) ∧ w'.cell? ⟨w.heap.size, 0, none⟩ = some (.int .i64 x.k) ∧ w'.cell? ⟨w.heap.size, 1, none⟩ = some (.string x.t) ∧ w'.cell? ⟨w.heap.size, 2, none⟩ = some (.int .i64 x.n) ∧ w'.cell? ⟨g1, o1 + k * 3, none⟩ = some (.int .i64 ps[k].k.k) ∧ w'.cell? ⟨g1, o1 + k * 3 + 1, none⟩ = some (.string ps[k].k.t) ∧ w'.cell? ⟨g1, o1 + k * 3 + 2, none⟩ = some (.int .i64 ps[k].k.n)) := Lib.hid (fun w' h => by
          have hb := hBr.out.trans (h.mono hBr.out.size)
          obtain ⟨⟨q0, -, q1, q2, q3⟩, -⟩ := HC.out w' hb
          have hg := World.block_lt_of_cell? wr _ m0
          exact ⟨q0, q1, q2, q3, (h.cell (p := ⟨g1, o1 + k * 3, none⟩) hg).trans m0, (h.cell (p := ⟨g1, o1 + k * 3 + 1, none⟩) hg).trans m1, (h.cell (p := ⟨g1, o1 + k * 3 + 2, none⟩) hg).trans m2⟩)
        have hcur : Hid (Below wr.heap.size wr wr.drew) := Lib.hid (Below.refl _ _).drew
        by_cases hb : cmpY ps[k].k x < 0
        · have HN : Hid (∀ y ∈ (keysL ps).take (k + 1), cmpY y x < 0) := Lib.hid (fun y hy => by
            rw [List.take_succ_eq_append_getElem (by simpa using hlt), List.mem_append] at hy
            rcases hy with hy | hy
            · exact hlo.out y hy
            · simp at hy; subst hy; exact hb)
          have HBf := Lib.hid (fun w => bef_yes hb w)
          generalize ps[k].k = y at m0 m1 m2 hK HBf
          clear hl e hb hlo
          go_wp2_with fail
          go_region_held3 (fun w' => w'.cell? ⟨B, 0, none⟩ = some (.slice (some ⟨g1, o1, none⟩) ps.length c1) ∧ w'.cell? ⟨w.heap.size, 0, none⟩ = some (.int .i64 x.k) ∧ w'.cell? ⟨w.heap.size, 1, none⟩ = some (.string x.t) ∧ w'.cell? ⟨w.heap.size, 2, none⟩ = some (.int .i64 x.n) ∧ w'.cell? ⟨g1, o1 + k * 3, none⟩ = some (.int .i64 y.k) ∧ w'.cell? ⟨g1, o1 + k * 3 + 1, none⟩ = some (.string y.t) ∧ w'.cell? ⟨g1, o1 + k * 3 + 2, none⟩ = some (.int .i64 y.n))
            (first | exact hK.out _ hcur.out | go_keep)
            (first
              | (go_at_call 36; refine (HBf.out _).mono ?_; rintro e w4 ⟨rfl, h4⟩; replace hcur : Hid (Below wr.heap.size wr w4) := Lib.hid (hcur.out.trans (h4.mono hcur.out.size)); clear h4))
          go_wp2_with fail
          go_roundw
          case rel => exact ⟨k + 1, by omega, by go_num, Lib.hid (hBr.out.trans (hcur.out.mono hBr.out.size)), HN⟩
          case measure => simp [intOf]; omega
        · have HN : Hid (since cmpP ⟨x, 0⟩ ps = ps.drop k) := Lib.hid (since_at HS.out hk hlo.out (.inr ⟨hlt, hb⟩))
          have HBf := Lib.hid (fun w => bef_no hb w)
          generalize ps[k].k = y at m0 m1 m2 hK HBf
          clear hl e hb hlo
          go_wp2_with fail
          go_region_held3 (fun w' => w'.cell? ⟨B, 0, none⟩ = some (.slice (some ⟨g1, o1, none⟩) ps.length c1) ∧ w'.cell? ⟨w.heap.size, 0, none⟩ = some (.int .i64 x.k) ∧ w'.cell? ⟨w.heap.size, 1, none⟩ = some (.string x.t) ∧ w'.cell? ⟨w.heap.size, 2, none⟩ = some (.int .i64 x.n) ∧ w'.cell? ⟨g1, o1 + k * 3, none⟩ = some (.int .i64 y.k) ∧ w'.cell? ⟨g1, o1 + k * 3 + 1, none⟩ = some (.string y.t) ∧ w'.cell? ⟨g1, o1 + k * 3 + 2, none⟩ = some (.int .i64 y.n))
            (first | exact hK.out _ hcur.out | go_keep)
            (first
              | (go_at_call 36; refine (HBf.out _).mono ?_; rintro e w4 ⟨rfl, h4⟩; replace hcur : Hid (Below wr.heap.size wr w4) := Lib.hid (hcur.out.trans (h4.mono hcur.out.size)); clear h4))
          go_wp2_with fail
          go_meet
          exact ⟨k, hk, rfl, Lib.hid (hBr.out.trans (hcur.out.mono hBr.out.size)), HN⟩
      · obtain rfl : k = ps.length := by omega
        have HN : Hid (since cmpP ⟨x, 0⟩ ps = ps.drop ps.length) := Lib.hid (since_at HS.out (Nat.le_refl _) hlo.out (.inl rfl))
        clear hl hlo x0 x1 x2
        go_wp2_with fail
        go_quiet (fail)
        go_wp2_with fail
        go_meet
        exact ⟨ps.length, Nat.le_refl _, rfl, Lib.hid (bdN _ hBr.out), HN⟩
  case rest =>
    obtain ⟨k, hk, rfl, hBc, hsn⟩ := hcut
    obtain ⟨w4, hw4⟩ : ∃ w4, w4 = wc := ⟨_, rfl⟩
    rw [← hw4] at hBc ⊢
    clear hw4
    obtain ⟨⟨p0, -, -, -, -⟩, -⟩ := HC.out w4 hBc.out
    have hw := within_full w4 z (ps.length + 1) (by omega) (by omega)
    rw [show (((ps.length + 1 : Nat)) : Int) = (ps.length : Int) + 1 by omega] at hw
    have Hw := Lib.hid hw
    clear hw
    go_wp2_with fail
    refine Hw.out.mono ?_
    rintro e w5 ⟨⟨m, hm, rfl⟩, rfl⟩
    clear p0
    obtain ⟨⟨-, -, x0, x1, x2⟩, -⟩ := HC.out w5 hBc.out
    have hpf := pairs_from w5 b s x ps (HM.out.mono hBc.out) (by omega)
    have HPf := Lib.hid hpf
    clear hpf
    go_wp2_with fail
    refine HPf.out.mono ?_
    rintro e w6 ⟨va, vb, rfl, hb6, hra, hrb⟩
    rw [hsn.out] at hra hrb
    have hB6 := Lib.hid (hBc.out.trans (hb6.mono hBc.out.size))
    rw [keys_flat] at hra
    have hsa : SliceAt encS 3 w6 va (keysL (ps.drop k)) := slice_own hra (keys_length _).symm rfl
    have hsb : Reads w6 vb (((ps.drop k).map Pr.v).map VI) := reads_own (base := w5.heap.size) (n := (ps.drop k).length) (e := 3) (by rw [← vals_int]; exact hrb)
    have HA := Lib.hid hsa
    have HBv := Lib.hid hsb
    clear x0 x1 x2 hra hrb hb6 hsa hsb
    obtain ⟨⟨-, -, x0, x1, x2⟩, -⟩ := HC.out w6 hB6.out
    have hpt := pairs_take w6 b s x m ps (HM.out.mono hB6.out) (by omega) (by omega)
    have HPt := Lib.hid hpt
    clear hpt
    go_wp2_with fail
    refine HPt.out.mono ?_
    rintro e w7 ⟨vc, vd, rfl, hb7, hrc, hrd⟩
    go_upto_region 12 with fail
    dsimp only [List.append]
    have hB7 := Lib.hid (hB6.out.trans (hb7.mono hB6.out.size))
    rw [keys_flat] at hrc
    have hsc : SliceAt encS 3 w7 vc (keysL (ps.take m)) := slice_own hrc (keys_length _).symm rfl
    have hsd : Reads w7 vd (((ps.take m).map Pr.v).map VI) := reads_own (base := w6.heap.size) (n := (ps.take m).length) (e := 3) (by rw [← vals_int]; exact hrd)
    have hsa : SliceAt encS 3 w7 va (keysL (ps.drop k)) := SliceAt.mono HA.out hb7
    have hsb : Reads w7 vb (((ps.drop k).map Pr.v).map VI) := HBv.out.mono hb7
    have HA := Lib.hid hsa
    have HBv := Lib.hid hsb
    have HCv := Lib.hid hsc
    have HDv := Lib.hid hsd
    clear x0 x1 x2 hrc hrd hb7 hsa hsb hsc hsd
    have hP7 := HP.out.mono hB7.out
    have hM7 := HM.out.mono hB7.out
    have hmn : m ≤ ps.length := by omega
    -- what the slices read as
    have hfull : ∀ w', Below w7.heap.size w7 w' → SliceAt encS 3 w' (.slice a1 ps.length c1) (keysL ps) := fun w' h => SliceAt.mono (slice_own hP7.2.2.1 (keys_length ps).symm rfl) h
    have hk0 : (0 : Int) ≤ (k : Int) := by omega
    have hm0 : (0 : Int) ≤ (m : Int) := by omega
    have hki : (k : Int) ≤ (ps.length : Int) := by omega
    have hmi : (m : Int) ≤ (ps.length : Int) := by omega
    have hcells : ∀ w', Below w7.heap.size w7 w' → w'.cell? ⟨B, 0, none⟩ = some (.slice a1 ps.length c1) ∧ w'.cell? ⟨B, 1, none⟩ = some (.slice a2 ps.length c2) := fun w' h => by
      obtain ⟨⟨q0, q1, -⟩, -⟩ := HC.out w' (hB7.out.trans (h.mono hB7.out.size))
      exact ⟨q0, q1⟩
    obtain ⟨k0, k1⟩ := hcells w7 (Below.refl _ _)
    have HFull := Lib.hid hfull
    have HCl := Lib.hid hcells
    have HM7 := Lib.hid hM7
    have HBf := Lib.hid (HB3.out.trans (hB7.out.mono HB3.out.size))
    have hcur : Hid (Below w7.heap.size w7 w7.drew) := Lib.hid (Below.refl _ _).drew
    have j1 : Hid (0 = 0) := Lib.hid rfl
    have hv7 := hP7.2.2.2
    have hk7 := hP7.2.2.1
    have e2 : (List.map (fun p : Pr => Value.int .i64 p.v) ps) = (ps.map Pr.v).map VI := vals_int ps
    have hv7 : w7.ownsRow W2.heap.size 3 1 (.slice a2 ps.length c2) ps.length ((ps.map Pr.v).map VI) := by rw [← e2]; exact hv7
    have hlk : ps.length = (keysL ps).length := by simp
    have hlv : ps.length = (ps.map Pr.v).length := by simp
    have et : keysL (ps.take m) = (keysL ps).take m := by simp
    have ed : keysL (ps.drop k) = (keysL ps).drop k := by simp
    have ft : (ps.take m).map Pr.v = (ps.map Pr.v).take m := by simp
    have fd : (ps.drop k).map Pr.v = (ps.map Pr.v).drop k := by simp
    have HA1 : Hid (SliceAt encS 3 w7 va ((keysL ps).drop k)) := Lib.hid (ed ▸ HA.out)
    have HC1 : Hid (SliceAt encS 3 w7 vc ((keysL ps).take m)) := Lib.hid (et ▸ HCv.out)
    have HB1 : Hid (Reads w7 vb (((ps.map Pr.v).drop k).map VI)) := Lib.hid (fd ▸ HBv.out)
    have HD1 : Hid (Reads w7 vd (((ps.map Pr.v).take m).map VI)) := Lib.hid (ft ▸ HDv.out)
    have hps60 : (keysL ps).length ≤ 60 := by simp; omega
    have hfk := fun w' (h : Below w7.heap.size w7 w') => list_keys w' b s ps (HM7.out.mono h) (by omega)
    have hff := fun w' (h : Below w7.heap.size w7 w') => first_keys w' b s ps (HM7.out.mono h) (by omega) m (by omega)
    rw [et] at hff
    have HFk := Lib.hid hfk
    have HFf := Lib.hid hff
    have heA : (keysL ps).take m = (keysL ps).take m := rfl
    clear hfull hcells hM7 hP7 hfk hff e2 et ed ft fd heA HA HBv HCv HDv
    rcases owns_cells hk7 with ⟨ha1, hn1⟩ | ⟨g1, d1, ha1, -, -, ⟨hd1, hd1m⟩, -⟩
    · omega
    · obtain ⟨rfl, rfl⟩ : a1 = some ⟨g1, 0, none⟩ ∧ d1 = c1 := by simp at ha1; exact ⟨ha1.1, ha1.2.symm⟩
      rcases owns_cells hv7 with ⟨ha2, hn2⟩ | ⟨g2, d2, ha2, -, -, ⟨hd2, hd2m⟩, -⟩
      · omega
      · obtain ⟨rfl, rfl⟩ : a2 = some ⟨g2, 0, none⟩ ∧ d2 = c2 := by simp at ha2; exact ⟨ha2.1, ha2.2.symm⟩
        obtain ⟨q1, hq1⟩ : ∃ q1, (if d1 = k then (some ⟨g1, 0, none⟩ : Option Addr) else some ⟨g1, k * 3, none⟩) = q1 := ⟨_, rfl⟩
        obtain ⟨q2, hq2⟩ : ∃ q2, (if d2 = k then (some ⟨g2, 0, none⟩ : Option Addr) else some ⟨g2, k, none⟩) = q2 := ⟨_, rfl⟩
        have HS1 := Lib.hid (fun w' (h : Below w7.heap.size w7 w') => syms_self w' va (.slice q1 (ps.length - k) (d1 - k)) ((keysL ps).drop k) (by rw [List.length_drop]; omega) (SliceAt.mono HA1.out h) (SliceAt.mono (own_dropif hq1 hk7 hlk hk) h))
        have HS2 := Lib.hid (fun w' (h : Below w7.heap.size w7 w') => syms_self w' vc (.slice (some ⟨g1, 0, none⟩) m d1) ((keysL ps).take m) (by rw [List.length_take]; omega) (SliceAt.mono HC1.out h) (SliceAt.mono (own_take hk7 hlk hmn) h))
        have HT := Lib.hid (fun w' (h : Below w7.heap.size w7 w') => SliceAt.mono (own_take hk7 hlk hmn) h)
        have HI1 := Lib.hid (fun w' (h : Below w7.heap.size w7 w') => ints_any w' vb (.slice q2 (ps.length - k) (d2 - k)) ((ps.map Pr.v).drop k) ((ps.map Pr.v).drop k) (HB1.out.mono h) ((ints_dropif hq2 hv7 hlv hk).mono h) true (by simp))
        have HI2 := Lib.hid (fun w' (h : Below w7.heap.size w7 w') => ints_any w' vd (.slice (some ⟨g2, 0, none⟩) m d2) ((ps.map Pr.v).take m) ((ps.map Pr.v).take m) (HD1.out.mono h) ((ints_take hv7 hlv hmn).mono h) true (by simp))
        have hkc1 : (k : Int) ≤ (d1 : Int) := by omega
        have hmc1 : (m : Int) ≤ (d1 : Int) := by omega
        have hkc2 : (k : Int) ≤ (d2 : Int) := by omega
        have hmc2 : (m : Int) ≤ (d2 : Int) := by omega
        clear ha1 ha2 hk7 hv7 hlk hlv
        go_region_held3 (fun w' => w'.cell? ⟨B, 0, none⟩ = some (.slice (some ⟨g1, 0, none⟩) ps.length d1) ∧ w'.cell? ⟨B, 1, none⟩ = some (.slice (some ⟨g2, 0, none⟩) ps.length d2))
          (first | exact HCl.out _ hcur.out | go_keep)
          (first
            | (go_at_call 33; (with_reducible refine (HS1.out _ hcur.out).mono ?_); rintro e wa ⟨rfl, ha⟩; replace hcur : Hid (Below w7.heap.size w7 wa) := Lib.hid (hcur.out.trans (ha.mono hcur.out.size)); clear ha HS1)
            | (go_at_call 34; (with_reducible refine (HI1.out _ hcur.out).mono ?_); rintro e wb ⟨rfl, ha⟩; replace hcur : Hid (Below w7.heap.size w7 wb) := Lib.hid (hcur.out.trans (ha.mono hcur.out.size)); clear ha HI1)
            | (go_at_call 33; (with_reducible refine (HS2.out _ hcur.out).mono ?_); rintro e wd ⟨rfl, ha⟩; replace hcur : Hid (Below w7.heap.size w7 wd) := Lib.hid (hcur.out.trans (ha.mono hcur.out.size)); clear ha HS2)
            | (go_at_call 34; (with_reducible refine (HI2.out _ hcur.out).mono ?_); rintro e we ⟨rfl, ha⟩; replace hcur : Hid (Below w7.heap.size w7 we) := Lib.hid (hcur.out.trans (ha.mono hcur.out.size)); clear ha HI2)
            | (have _t := j1; go_at_call 38; refine (keys_mapP _ b).mono ?_; rintro e wf ⟨rfl, rfl⟩; have HFk1 := Lib.hid (HFk.out we hcur.out); replace hcur : Hid (Below w7.heap.size w7 (we.alloc (.cells #[.pointer (some ⟨b, 0, none⟩)] 41))) := Lib.hid (hcur.out.alloc hcur.out.size _); clear j1)
            | (go_at_call 37; (with_reducible refine HFk1.out.mono ?_); rintro e wg ⟨vl, rfl, ha, hsl⟩; have HSl := Lib.hid hsl; replace hcur : Hid (Below w7.heap.size w7 wg) := Lib.hid (hcur.out.trans (ha.mono hcur.out.size)); clear ha hsl HFk1)
            | (have _t := HSl; go_at_call 33; (with_reducible refine (syms_self wg vl (.slice (some ⟨g1, 0, none⟩) ps.length d1) (keysL ps) (by omega) HSl.out (HFull.out wg hcur.out)).mono ?_); rintro e wh ⟨rfl, ha⟩; replace hcur : Hid (Below w7.heap.size w7 wh) := Lib.hid (hcur.out.trans (ha.mono hcur.out.size)); clear ha HSl)
            | (go_at_call 38; refine (keys_mapP _ b).mono ?_; rintro e wi ⟨rfl, rfl⟩; have HFf1 := Lib.hid (HFf.out wh hcur.out); replace hcur : Hid (Below w7.heap.size w7 (wh.alloc (.cells #[.pointer (some ⟨b, 0, none⟩)] 41))) := Lib.hid (hcur.out.alloc hcur.out.size _))
            | (go_at_call 39; (with_reducible refine HFf1.out.mono ?_); rintro e wj ⟨vf, rfl, ha, hsl⟩; have HSf := Lib.hid hsl; replace hcur : Hid (Below w7.heap.size w7 wj) := Lib.hid (hcur.out.trans (ha.mono hcur.out.size)); clear ha hsl HFf1)
            | (go_at_call 33; (with_reducible refine (syms_self wj vf (.slice (some ⟨g1, 0, none⟩) m d1) ((keysL ps).take m) (by rw [List.length_take]; omega) HSf.out (HT.out wj hcur.out)).mono ?_); rintro e wk ⟨rfl, ha⟩; replace hcur : Hid (Below w7.heap.size w7 wk) := Lib.hid (hcur.out.trans (ha.mono hcur.out.size)); clear ha)
            | (go_at_call 22; refine (bwakes_any _).mono ?_; rintro e wl ⟨rfl, ha⟩; replace hcur : Hid (Below w7.heap.size w7 wl) := Lib.hid (hcur.out.trans (ha.mono hcur.out.size)); clear ha))
        go_wp2_with fail
        go_ret
        exact ⟨rfl, HBf.out.trans (hcur.out.mono HBf.out.size)⟩
end Go.Proofs.Ythgidldcblchmaa
