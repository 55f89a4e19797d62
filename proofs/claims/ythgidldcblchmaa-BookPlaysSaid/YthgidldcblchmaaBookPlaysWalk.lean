/-
  The walk of the law BookPlays. No condition.
-/
import Derived.Test.YthgidldcblchmaaBookPlDrop
import Derived.Test.YthgidldcblchmaaBookFilled
import Derived.Test.YthgidldcblchmaaBookDropP
import Derived.Test.YthgidldcblchmaaArgSymS
import Derived.Deep.CutBlock
namespace Go.Proofs.Ythgidldcblchmaa
set_option linter.unusedVariables false
open Go.RowKit
/-- The cells of a list that came in. -/
def ArgK {α : Type} (enc : α → List Value) (n : Nat) (w : World) (p : Option Addr) (xs : List α) : Prop :=
  0 < xs.length → ∃ b off, p = some ⟨b, off, none⟩ ∧ b < w.heap.size ∧ ∀ i (h : i < xs.length) j u, (enc xs[i])[j]? = some u → w.cell? ⟨b, off + i * n + j, none⟩ = some u
structure Ac where
  d : Int
  n : Int
  s : Sy
def encA (a : Ac) : List Value := [.int .i64 a.d, .int .i64 a.n, .int .i64 a.s.k, .string a.s.t, .int .i64 a.s.n]
theorem five {α : Type} {l : List α} (h : l.length = 5) : ∃ a b c d e, l = [a, b, c, d, e] := by
  match l, h with
  | [a, b, c, d, e], _ => exact ⟨a, b, c, d, e, rfl⟩
open Go.ChangeShapes Go.WideShapes Go.Deep in
theorem act_of_trod {H : Type} {enc : TypeId × Value → H} {W : World} {base n : Nat} {spare : Nat → Bool} {held : Bool} {cs : List Value} {x : DataW H × List MemPlace}
    (ht : DataW.trod enc Try.prog W base spare held n 49 cs = some x) : ∃ a : Ac, cs = encA a ∧ -9223372036854775808 ≤ a.n ∧ a.n ≤ 9223372036854775807 := by
  obtain ⟨ys, n', hn', hy, hcl, hyl, hfl⟩ := DataW.trod_struct Try.underlying49 ht
  have hC : Try.prog.cellsOf 49 = 5 := by kernel_rfl
  rw [hC] at hcl
  obtain ⟨u0, u1, u2, u3, u4, rfl⟩ := five hcl
  obtain ⟨y0, y1, y2, rfl⟩ := three (hyl.trans rfl)
  have h3 : Try.prog.cellsOf 3 = 1 := by kernel_rfl
  have hS : Try.prog.cellsOf 27 = 3 := by kernel_rfl
  have f0 := hfl 0 _ rfl
  have f1 := hfl 1 _ rfl
  have f2 := hfl 2 _ rfl
  simp only [List.getElem_toArray, List.getElem_cons_zero, List.getElem_cons_succ] at f0 f1 f2
  rw [h3] at f0 f1
  rw [hS] at f2
  clear hfl hy hcl hyl
  simp only [List.drop_zero, List.drop_succ_cons, List.take_succ_cons, List.take_zero, List.getElem?_cons_zero, List.getElem?_cons_succ] at f0 f1 f2
  obtain ⟨k, e0, -, -⟩ := DataW.trod_int Try.underlying3 f0
  obtain ⟨n2, e1, -, hw⟩ := DataW.trod_int Try.underlying3 f1
  obtain ⟨s, e2⟩ := sym_of_trod f2
  cases e0; cases e1; cases e2
  exact ⟨⟨k, n2, s⟩, rfl, wf_i64 hw⟩
open Go.ChangeShapes Go.WideShapes Go.Deep in
/-- A slice of structs that came in, one element's cells by one lemma. -/
theorem arg_slice {H : Type} {enc : TypeId × Value → H} {W : World} {base : Nat} {held : Bool} {a : Option Addr} {len cap : Nat} {d : DataW H} {p : List MemPlace} {t e : TypeId} {α : Type} (E : α → List Value) (ok : α → Prop) (z : α) {K : Nat} (hK : 0 < K) (hE : ∀ x, (E x).length = K)
    (hu : Try.prog.underlying t = some (.slice e)) (hC : Try.prog.cellsOf e = K) (one : ∀ n cs x, DataW.trod enc Try.prog W base (fun _ => true) held n e cs = some x → ∃ a, cs = E a ∧ ok a)
    (h : DataW.Trod enc Try.prog W base (fun _ => true) held t (.slice a len cap) d p) : len ≤ maxLen ∧ ∃ xs : List α, xs.length = len ∧ ArgK E K W a xs ∧ ∀ x ∈ xs, ok x := by
  obtain ⟨fuel, hf⟩ := h
  rcases open_slice hu hf with ⟨hcs, _⟩ | ⟨x, l, c, m, n, D, Pl, hcs, _, hl, hm, hmm, _, hi⟩
  · simp [Value.cells] at hcs
    obtain ⟨rfl, rfl, rfl⟩ := hcs
    exact ⟨by simp, [], rfl, fun h => absurd h (by simp), by simp⟩
  · simp [Value.cells] at hcs
    obtain ⟨rfl, rfl, rfl⟩ := hcs
    simp at hmm
    subst hmm
    refine ⟨by omega, ?_⟩
    have hone : ∀ i : Fin len, ∃ s : α, ok s ∧ ∀ j c, (E s)[j]? = some c → W.cell? (x.add (i.1 * K + j)) = some c := by
      intro i
      obtain ⟨cs', hc, ht'⟩ := hi i.1 (by omega)
      rw [hC] at hc
      obtain ⟨s, rfl, hok⟩ := one _ _ _ ht'
      obtain ⟨_, hcl, hat⟩ := World.cells?_some hc
      refine ⟨s, hok, fun j c hj => ?_⟩
      rw [← Go.Deep.add_add]
      have hj' : j < K := by rw [← hE s]; exact (List.getElem?_eq_some_iff.1 hj).1
      exact (hat j hj').trans hj
    obtain ⟨f, hf⟩ := Classical.axiomOfChoice hone
    by_cases h0 : len = 0
    · subst h0
      exact ⟨[], rfl, fun h => absurd h (by simp), by simp⟩
    · obtain ⟨b, off, spot⟩ := x
      have hlen0 : 0 < (E (f ⟨0, by omega⟩)).length := by rw [hE]; exact hK
      obtain ⟨c, hc⟩ : ∃ c, (E (f ⟨0, by omega⟩))[0]? = some c := ⟨_, List.getElem?_eq_getElem hlen0⟩
      have c0 := (hf ⟨0, by omega⟩).2 0 _ hc
      have hspot : spot = none := by simpa [Addr.add] using World.cell?_spot c0
      subst hspot
      refine ⟨List.ofFn f, by simp, fun _ => ⟨b, off, rfl, by have := World.block_lt_of_cell? W _ c0; rw [Go.WideShapes.add_plain] at this; exact this, fun i hi j c hj => ?_⟩, fun y hy => ?_⟩
      · rw [List.getElem_ofFn] at hj
        have := (hf ⟨i, by simpa using hi⟩).2 j c hj
        rw [← this, Go.WideShapes.add_plain, Nat.add_assoc]
      · obtain ⟨i, rfl⟩ := List.mem_ofFn.1 hy
        exact (hf i).1
theorem arg_acts {H : Type} {enc : TypeId × Value → H} {W : World} {base : Nat} {held : Bool} {a : Option Addr} {len cap : Nat} {d : DataW H} {p : List MemPlace}
    (h : DataW.Trod enc Try.prog W base (fun _ => true) held 40 (.slice a len cap) d p) : len ≤ maxLen ∧ ∃ xs : List Ac, xs.length = len ∧ ArgK encA 5 W a xs ∧ ∀ x ∈ xs, -9223372036854775808 ≤ x.n ∧ x.n ≤ 9223372036854775807 :=
  arg_slice encA (fun a => -9223372036854775808 ≤ a.n ∧ a.n ≤ 9223372036854775807) ⟨0, 0, zeroS⟩ (by omega) (fun _ => rfl) Try.underlying40 (by kernel_rfl) (fun _ _ _ h => act_of_trod h) h

theorem within_full (w : World) (v : Int) (n : Nat) (hn : 1 ≤ n) (hn2 : n ≤ 1000000) :
    Calls Try.prog 24 #[.int .i64 v, .int .i64 n] w fun e w' => (∃ m : Nat, m < n ∧ e = .returned (.int .i64 m)) ∧ w' = w := by
  have hd : decide ((n : Int) < 1) = false := by simp; omega
  have hz : ((n : Int) == 0) = false := by simp; omega
  have h1 : -(n : Int) < v.tmod n := by have := Int.lt_tmod_of_pos v (show (0 : Int) < n by omega); omega
  have h2 : v.tmod n < n := Int.tmod_lt_of_pos v (by omega)
  by_cases h3 : v.tmod n < 0
  · have hd2 : decide (v.tmod (n : Int) < 0) = true := by simpa using h3
    obtain ⟨m, hm⟩ : ∃ m : Nat, v.tmod (n : Int) + n = m := ⟨(v.tmod (n : Int) + n).toNat, by omega⟩
    have hm2 : m < n := by omega
    have hfin : ∀ e : Ending, e = .returned (.int .i64 (v.tmod (n : Int) + n)) → ∃ m : Nat, m < n ∧ e = .returned (.int .i64 m) := fun e h => ⟨m, hm2, by rw [h, hm]⟩
    have Hfin := Lib.hid hfin
    clear hm hfin
    go_enter Try.func24, Try.ntmps24
    go_wp2_with fail
    go_ret
    exact ⟨Hfin.out _ rfl, rfl⟩
  · have hd2 : decide (v.tmod (n : Int) < 0) = false := by simpa using h3
    obtain ⟨m, hm⟩ : ∃ m : Nat, v.tmod (n : Int) = m := ⟨(v.tmod (n : Int)).toNat, by omega⟩
    have hm2 : m < n := by omega
    have hfin : ∀ e : Ending, e = .returned (.int .i64 (v.tmod (n : Int))) → ∃ m : Nat, m < n ∧ e = .returned (.int .i64 m) := fun e h => ⟨m, hm2, by rw [h, hm]⟩
    have Hfin := Lib.hid hfin
    clear hm hfin
    go_enter Try.func24, Try.ntmps24
    go_wp2_with fail
    go_ret
    exact ⟨Hfin.out _ rfl, rfl⟩

theorem within5 (w : World) (v : Int) : Calls Try.prog 24 #[.int .i64 v, .int .i64 5] w fun e w' => (∃ m : Nat, m < 5 ∧ e = .returned (.int .i64 m)) ∧ w' = w := within_full w v 5 (by omega) (by omega)
set_option maxHeartbeats 1000000 in
theorem first_nil (w : World) (b s : Nat) (h : MapP w b s []) :
    Calls Try.prog 30 #[.pointer (some ⟨b, 0, none⟩)] w fun e w' => e = .returned (.tuple #[.agg #[.int .i64 0, .string ⟨#[]⟩, .int .i64 0], .int .i64 0, .bool false]) ∧ Below w.heap.size w w' := by
  obtain ⟨hb, hS⟩ := h
  have hB : Below w.heap.size w (w.alloc (.cells #[.int .i64 0, .string ⟨#[]⟩, .int .i64 0] 27)) := by go_grown
  have c0 : (w.alloc (.cells #[.int .i64 0, .string ⟨#[]⟩, .int .i64 0] 27)).cell? ⟨b, 0, none⟩ = some (.pointer (some ⟨s, 0, none⟩)) := by rw [cells_of ((hB.block b (heap_lt hb)).trans hb)]; rfl
  have hat := (at_setP 0 _ s [] (IsSet.mono hS hB) (by omega) (by omega) (by simp)).mono (R' := fun e w1 => e = .returned (.tuple #[.agg #[.int .i64 0, .string ⟨#[]⟩, .int .i64 0, .int .i64 0], .bool false]) ∧
      Hid (Below w.heap.size w w1 ∧ w1.heap[w.heap.size]? = some (.cells #[.int .i64 0, .string ⟨#[]⟩, .int .i64 0] 27 (0, 0)))) (by
    rintro e w1 ⟨h1, h2⟩
    exact ⟨h2, hB.trans (h1.mono hB.size), (h1.block _ (by simp)).trans (new_at rfl)⟩)
  have Hat := Lib.hid hat
  have hlt := heap_lt hb
  clear hat hb hS hB
  go_enter Try.func30, Try.ntmps30
  go_wp2_with (go_at_call 65; (with_reducible refine Hat.out.mono ?_); rintro e w1 ⟨rfl, h1⟩)
  obtain ⟨W3, hW3⟩ : ∃ W3, W3 = w1.alloc (.cells #[.int .i64 0, .string ⟨#[]⟩, .int .i64 0, .int .i64 0] 100) := ⟨_, rfl⟩
  have b3 : Below w1.heap.size w1 W3 := by rw [hW3]; go_grown
  have hk := (b3.block _ (heap_lt h1.out.2)).trans h1.out.2
  have hn : W3.heap[w1.heap.size]? = some (.cells #[.int .i64 0, .string ⟨#[]⟩, .int .i64 0, .int .i64 0] 100 (0, 0)) := by rw [hW3]; exact new_at rfl
  have d0 : W3.cell? ⟨w1.heap.size, 0, none⟩ = some (.int .i64 0) := by rw [cells_of hn]; rfl
  have d1 : W3.cell? ⟨w1.heap.size, 1, none⟩ = some (.string ⟨#[]⟩) := by rw [cells_of hn]; rfl
  have d2 : W3.cell? ⟨w1.heap.size, 2, none⟩ = some (.int .i64 0) := by rw [cells_of hn]; rfl
  have d3 : W3.cell? ⟨w1.heap.size, 3, none⟩ = some (.int .i64 0) := by rw [cells_of hn]; rfl
  have f0 : W3.frozen? ⟨w.heap.size, 0, none⟩ = false := frozen_of hk
  have f1 : W3.frozen? ⟨w.heap.size, 1, none⟩ = false := frozen_of hk
  have f2 : W3.frozen? ⟨w.heap.size, 2, none⟩ = false := frozen_of hk
  have e0 : W3.cell? ⟨w.heap.size, 0, none⟩ = some (.int .i64 0) := by rw [cells_of hk]; rfl
  have e1 : W3.cell? ⟨w.heap.size, 1, none⟩ = some (.string ⟨#[]⟩) := by rw [cells_of hk]; rfl
  have e2 : W3.cell? ⟨w.heap.size, 2, none⟩ = some (.int .i64 0) := by rw [cells_of hk]; rfl
  have hbb := Lib.hid (h1.out.1.trans (b3.mono h1.out.1.size))
  have hlt3 : w.heap.size < W3.heap.size := heap_lt hk
  have HK := Lib.hid hk
  have HW := Lib.hid hW3
  rw [← hW3]
  clear hk hn hW3 b3 h1
  go_region
  go_wp2_with fail
  obtain ⟨s0, s1, s2⟩ := set3 (a := .int .i64 0) (b := .string ⟨#[]⟩) (c := .int .i64 0) HK.out
  refine bodyPost_ret (by simp [results, Try.results30, go_sem, s0, s1, s2]; rfl) rfl ?_
  exact ⟨rfl, (((hbb.out.setCell (by simp) _).setCell (by simp) _).setCell (by simp) _).drew⟩

theorem drop_plain (w : World) (base B : Nat) (v1 v2 : Value) (ps : List Pr) (x : Sy) (hs : Sorted cmpP ps) (hb : base ≤ w.heap.size) (hz : ps.length ≤ 100000) (h : PlainAt w base B v1 v2 ps) :
    Calls Try.prog 28 #[.pointer (some ⟨B, 0, none⟩), .agg #[.int .i64 x.k, .string x.t, .int .i64 x.n]] w (PutPl w base B (del cmpP ⟨x, 0⟩ ps)) := by
  by_cases hx : x ∈ keysL ps
  · obtain ⟨o, ho, rfl⟩ := List.mem_map.1 hx
    obtain ⟨a, b, rfl⟩ := List.append_of_mem ho
    rw [del_key hs rfl]
    refine drop_there w base B v1 v2 _ a b o rfl (fun i hi hl => ?_) hb hz h
    obtain ⟨-, -, ha, -⟩ := sorted_mid hs
    have h1 := ha a[i] (List.getElem_mem hl)
    have e : (keysL (a ++ o :: b))[i] = a[i].k := by simp only [List.getElem_map, List.getElem_append_left hl]
    rw [e]
    intro h2
    have h3 : cmpP a[i] o = 0 := (cmpP_key _ _).2 h2
    omega
  · rw [del_not hx]
    exact drop_none w base B v1 v2 ps x hx hb hz h
theorem find_case {ps : List Pr} {x : Sy} {r : Int} (h : FindIs (keysL ps) x r) : (r = -1 ∧ x ∉ keysL ps) ∨ ∃ a o b, ps = a ++ o :: b ∧ o.k = x ∧ r = (a.length : Int) := by
  rcases h with ⟨h1, h2⟩ | ⟨k, hk, rfl, hk2, -⟩
  · refine .inl ⟨h1, fun hx => ?_⟩
    obtain ⟨i, hi, he⟩ := List.getElem_of_mem hx
    exact h2 i hi he
  · have hk' : k < ps.length := by simpa using hk
    refine .inr ⟨ps.take k, ps[k], ps.drop (k + 1), split_at hk', by simpa using hk2, by rw [List.length_take]; omega⟩
theorem look_yes {a b : List Pr} {o : Pr} (hs : Sorted cmpP (a ++ o :: b)) (v : Int) : look cmpP (⟨o.k, v⟩ : Pr) (a ++ o :: b) = some o := look_mid_eq cmpP_cmp hs ((cmpP_key _ _).2 rfl)
theorem look_not {ps : List Pr} {x : Sy} (h : x ∉ keysL ps) (v : Int) : look cmpP (⟨x, v⟩ : Pr) ps = none := by
  have h2 := (put_new h v).2
  rw [has_look] at h2
  cases ho : look cmpP (⟨x, v⟩ : Pr) ps with
  | none => rfl
  | some o => rw [ho] at h2; cases h2
/-- Put of the map, with what it answers. -/
theorem put_mapQ (w : World) (b s : Nat) (x : Pr) (xs : List Pr) (h : MapP w b s xs) (hz : xs.length ≤ 1000000) (q : Bool) (hq : q = (look cmpP x xs).isNone) :
    Calls Try.prog 25 #[.pointer (some ⟨b, 0, none⟩), .agg #[.int .i64 x.k.k, .string x.k.t, .int .i64 x.k.n], .int .i64 x.v] w fun e w' => e = .returned (.bool q) ∧ w.grownBy w' (some s) ∧ MapP w' b s (putLP x xs) := by
  cases ho : look cmpP x xs with
  | none =>
    have hn : has cmpP x xs = false := by rw [has_look, ho]; rfl
    refine (put_newP w b s x xs h hz hn).mono ?_
    rintro e w' ⟨rfl, h1, h2⟩
    exact ⟨by rw [hq, ho]; rfl, h1, by unfold putLP; rw [ho]; exact h2⟩
  | some o =>
    refine (put_oldP w b s x o xs h hz ho).mono ?_
    rintro e w' ⟨rfl, h1, h2⟩
    exact ⟨by rw [hq, ho]; rfl, h1, by unfold putLP; rw [ho]; exact h2⟩
/-- What a step leaves. -/
def Pl (w : World) (base b s B : Nat) (ps : List Pr) : Prop := Sorted cmpP ps ∧ Both w base b s B ps
set_option maxRecDepth 100000 in
theorem plays_long (w : World) (p : Option Addr) (n c : Nat) (hn : n ≤ maxLen) (h : 200 < n) : Calls Try.prog 4 #[.slice p n c] w fun e w' => e = .returned (.bool true) ∧ Below w.heap.size w w' := by
  unfold maxLen at hn
  have hd : decide (200 < (n : Int)) = true := by simp; omega
  go_enter Try.func4, Try.ntmps4
  go_wp2_with fail
  refine (new_mapP w).mono ?_
  rintro e w1 ⟨b, s, rfl, hs, hsb, hb1, hM1⟩
  clear hM1
  go_wp2_with fail
  refine (bwakes_any w1).mono ?_
  rintro e w2 ⟨rfl, hb2⟩
  go_wp2_with fail
  go_ret
  exact ⟨rfl, hb1.trans (hb2.mono hb1.size)⟩
set_option maxRecDepth 100000 in
set_option maxHeartbeats 16000000 in
theorem plays_walk (w : World) (p : Option Addr) (c : Nat) (A : List Ac) (hA : ArgK encA 5 w p A) (l1 : A.length ≤ 200) :
    Calls Try.prog 4 #[.slice p A.length c] w fun e w' => e = .returned (.bool true) ∧ Below w.heap.size w w' := by
  have hd1 : decide (200 < (A.length : Int)) = false := by simp; omega
  have HA := Lib.hid hA
  clear hA
  go_enter Try.func4, Try.ntmps4
  go_wp2_with fail
  refine (new_mapP w).mono ?_
  rintro e w1 ⟨b, s, rfl, hs, hsb, hb1, hM1⟩
  obtain ⟨W2, hW2⟩ : ∃ W2, W2 = w1.alloc (.cells #[.slice none 0 0, .slice none 0 0] 47) := ⟨_, rfl⟩
  obtain ⟨B, hBB⟩ : ∃ B, B = w1.heap.size := ⟨_, rfl⟩
  have HW := Lib.hid hW2
  have HBB := Lib.hid hBB
  have hb2 : Below w1.heap.size w1 W2 := by rw [hW2]; go_grown
  have hboth : Pl W2 w.heap.size b s B [] := ⟨List.Pairwise.nil, hM1.mono hb2, hs, .slice none 0 0, .slice none 0 0, by rw [hW2, hBB]; exact new_at rfl, by rw [hBB]; exact hb1.size, World.ownsRow_nil _ _ _ _, World.ownsRow_nil _ _ _ _⟩
  have HBoth := Lib.hid hboth
  have HB2 := Lib.hid (hb1.trans (hb2.mono hb1.size))
  have hbs : Hid (w.heap.size ≤ s) := Lib.hid hs
  clear hs hsb hb1 hM1 hW2 hBB hb2 hboth
  go_wp2_with fail
  rw [← HW.out, ← HBB.out]
  go_loopw [5] (fun i wr => ∃ (k : Nat) (ps : List Pr), k ≤ A.length ∧ ps.length ≤ k ∧ i = .int .i64 k ∧ Hid (Below w.heap.size w wr) ∧ Hid (Pl wr w.heap.size b s B ps)) (fun i _ => A.length - (intOf i).toNat)
  case atStart => exact ⟨0, [], Nat.zero_le _, Nat.le_refl _, rfl, HB2, HBoth⟩
  case round =>
    clear HBoth HB2 HW HBB
    obtain ⟨k, ps, hk, hpk, rfl, hBr, hPl⟩ := hrel
    by_cases hlt : k < A.length
    · obtain ⟨bA, off, rfl, hbA, hcell⟩ := HA.out (by omega)
      have hc := fun w' (h : Below w.heap.size w w') j u (hj : (encA A[k])[j]? = some u) => (h.cell (p := ⟨bA, off + k * 5 + j, none⟩) hbA).trans (hcell k hlt j u hj)
      generalize A[k] = a at hc
      obtain ⟨ad, an, x⟩ := a
      have hc5 : ∀ w', Below w.heap.size w w' → w'.cell? ⟨bA, off + k * 5, none⟩ = some (.int .i64 ad) ∧ w'.cell? ⟨bA, off + k * 5 + 1, none⟩ = some (.int .i64 an) ∧ w'.cell? ⟨bA, off + k * 5 + 2, none⟩ = some (.int .i64 x.k) ∧ w'.cell? ⟨bA, off + k * 5 + 3, none⟩ = some (.string x.t) ∧ w'.cell? ⟨bA, off + k * 5 + 4, none⟩ = some (.int .i64 x.n) :=
        fun w' h => ⟨hc w' h 0 _ rfl, hc w' h 1 _ rfl, hc w' h 2 _ rfl, hc w' h 3 _ rfl, hc w' h 4 _ rfl⟩
      have HC := Lib.hid hc5
      have hki : (k : Int) < (A.length : Int) := by omega
      clear hc hc5 hcell
      obtain ⟨c0, c1, c2, c3, c4⟩ := HC.out _ hBr.out
      obtain ⟨Wx, hWx⟩ : ∃ Wx, Wx = wr.alloc (.cells #[.int .i64 x.k, .string x.t, .int .i64 x.n] 27) := ⟨_, rfl⟩
      obtain ⟨X, hX⟩ : ∃ X, X = wr.heap.size := ⟨_, rfl⟩
      have ba : Below wr.heap.size wr Wx := by rw [hWx]; go_grown
      have bx : Hid (Wx.heap[X]? = some (.cells #[.int .i64 x.k, .string x.t, .int .i64 x.n] 27 (0, 0))) := Lib.hid (by rw [hWx, hX]; exact new_at rfl)
      have hsX : s < X := by rw [hX]; exact IsSet.lt hPl.out.2.1.2
      have hPx : Hid (Pl Wx w.heap.size b s B ps) := Lib.hid ⟨hPl.out.1, hPl.out.2.mono ba⟩
      have bb := Lib.hid (hBr.out.trans (ba.mono hBr.out.size))
      have HWx := Lib.hid hWx
      have HX := Lib.hid hX
      clear hPl hBr hWx hX ba
      go_wp2_with fail
      rw [← HWx.out, ← HX.out]
      obtain ⟨-, -, u1, u2, hP⟩ := hPx.out.2
      obtain ⟨a1, d1, a2, d2, rfl, rfl⟩ := hP.form
      refine (find_plain Wx B Wx.heap.size a1 d1 a2 ps.length d2 (keysL ps) x (by simp; omega) hP.box hP.list).mono ?_
      rintro e wa ⟨⟨r, rfl, hr⟩, hba⟩
      have bx := Lib.hid ((hba.block _ (heap_lt bx.out)).trans bx.out)
      have hPx : Hid (Pl wa w.heap.size b s B ps) := Lib.hid ⟨hPx.out.1, hPx.out.2.mono hba⟩
      have bb := Lib.hid (bb.out.trans (hba.mono bb.out.size))
      have hfc := Lib.hid (find_case hr)
      have HPw := Lib.hid (hP.mono hba)
      clear hba hP hr c0 c1 c2 c3 c4 HWx HX
      obtain ⟨c0, c1, c2, c3, c4⟩ := HC.out _ bb.out
      go_wp2_with fail
      refine (within5 wa ad).mono ?_
      clear c0 c1 c2 c3 c4
      rintro e wb ⟨⟨m, hm5, rfl⟩, rfl⟩
      -- a map's call leaves these
      have hfr : ∀ w', wb.grownBy w' (some s) → (w'.cell? ⟨X, 0, none⟩ = some (.int .i64 x.k) ∧ w'.cell? ⟨X, 1, none⟩ = some (.string x.t) ∧ w'.cell? ⟨X, 2, none⟩ = some (.int .i64 x.n) ∧ w'.cell? ⟨bA, off + k * 5 + 1, none⟩ = some (.int .i64 an)) ∧ Below w.heap.size w w' ∧ w'.heap[X]? = some (.cells #[.int .i64 x.k, .string x.t, .int .i64 x.n] 27 (0, 0)) ∧ PlainAt w' w.heap.size B (.slice a1 ps.length d1) (.slice a2 ps.length d2) ps := fun w' h => by
        have hx := (h.block _ (heap_lt bx.out) (by simp; omega)).trans bx.out
        have hbw := bb.out.trans (belowg h bb.out.size hbs.out)
        have hq : PlainAt wb w.heap.size B (.slice a1 ps.length d1) (.slice a2 ps.length d2) ps := HPw.out
        exact ⟨⟨by rw [cells_of hx]; rfl, by rw [cells_of hx]; rfl, by rw [cells_of hx]; rfl, (HC.out w' hbw).2.1⟩, hbw, hx, hq.but h hPx.out.2.1.2⟩
      have HFr := Lib.hid hfr
      clear hfr bx
      obtain ⟨⟨x0, x1, x2, c1⟩, -⟩ := HFr.out wb (gbelow (Below.refl _ _))
      have hpz : ps.length ≤ 1000000 := by omega
      go_upto_block 2 with fail
      go_cut [] from 32 to 203 (fun w' => ∃ qs : List Pr, qs.length ≤ k + 1 ∧ Hid (Below w.heap.size w w') ∧ Hid (Pl w' w.heap.size b s B qs))
      case first =>
        obtain ⟨tm, htm⟩ : ∃ tm, tm = decide (m ≤ 2) := ⟨_, rfl⟩
        have HTm := Lib.hid htm
        clear htm
        go_step
        go_step
        go_cut [84] from 85 to 87 (fun v w' => v = .bool tm ∧ wb = w')
        case first =>
          rcases (show m = 0 ∨ m = 1 ∨ m = 2 ∨ m = 3 ∨ m = 4 by omega) with rfl | rfl | rfl | rfl | rfl
          all_goals
            go_wp2_with fail
            go_meet
            exact ⟨by rw [HTm.out]; rfl, rfl⟩
        case rest =>
          obtain ⟨rfl, rfl⟩ := hcut
          cases tm
          rotate_left
          · clear HTm
            obtain ⟨nb, hnb⟩ : ∃ nb, nb = (look cmpP (⟨x, an⟩ : Pr) ps).isNone := ⟨_, rfl⟩
            have hlr : decide (r < 0) = nb := by
              rcases hfc.out with ⟨rfl, hno⟩ | ⟨pa, o, pb, hpe, hok, rfl⟩
              · rw [hnb, look_not hno]; rfl
              · subst hok
                have hln := look_yes (hpe ▸ hPx.out.1) an
                rw [← hpe] at hln
                rw [hnb, hln]; simp
            have hnn : (nb != nb) = false := by simp
            have HNb := Lib.hid hnb
            clear hnb
            go_wp2_with fail
            have hG0 : Hid (wb.grownBy wb.drew (some s)) := Lib.hid (gbelow (Below.refl _ _).drew)
            have HPd := Lib.hid (put_mapQ wb.drew b s ⟨x, an⟩ ps (hPx.out.2.1.mono (Below.refl _ _).drew) hpz nb HNb.out)
            go_region_held3 (fun w' => w'.cell? ⟨X, 0, none⟩ = some (.int .i64 x.k) ∧ w'.cell? ⟨X, 1, none⟩ = some (.string x.t) ∧ w'.cell? ⟨X, 2, none⟩ = some (.int .i64 x.n) ∧ w'.cell? ⟨bA, off + k * 5 + 1, none⟩ = some (.int .i64 an))
              (first | exact (HFr.out _ hG0.out).1 | exact (HFr.out _ hG3.out).1 | go_keep)
              (first
                | (go_at_call 25; refine HPd.out.mono ?_; rintro e w3 ⟨rfl, hg3, hM3⟩; have hG3 : Hid (wb.grownBy w3 (some s)) := Lib.hid (gtrans hG0.out hg3); have HM3 := Lib.hid hM3; clear hg3 hM3))
            clear x0 x1 x2 c1
            obtain ⟨⟨x0, x1, x2, c1⟩, hb3, -, hP3⟩ := HFr.out w3 hG3.out
            have hpp := put_plain w3.drew w.heap.size B _ _ ps x an hPx.out.1 hb3.drew.size (by omega) (hP3.mono (Below.refl _ _).drew)
            have HPp := Lib.hid hpp
            have Hb3 := Lib.hid hb3
            clear hpp hb3 hP3
            go_wp2_with fail
            refine region_tail 7 (by kernel_rfl) (by kernel_rfl) (fun KK hKK => ?_)
            simp only [List.take_succ_cons, List.take_zero]
            repeat (with_reducible refine wpStill_step (fun K hK => ?_); go_simp; (with_reducible refine hK _ ?_); clear hK K)
            refine wpStill_nil (hKK _ _ ?_)
            clear hKK KK
            simp only [List.drop_succ_cons, List.drop_zero]
            go_wp2_with (go_at_call 26; (with_reducible refine HPp.out.mono ?_); rintro e w4 ⟨rfl, hT, v1', v2', hP4⟩)
            have hE : Hid (Below w.heap.size w w4) := Lib.hid (Hb3.out.drew.trans hT.below)
            obtain ⟨qs, hqs⟩ : ∃ qs, qs = putLP ⟨x, an⟩ ps := ⟨_, rfl⟩
            have hPE : Hid (Pl w4 w.heap.size b s B qs) := Lib.hid (by rw [hqs]; exact ⟨put_sorted hPx.out.1, (HM3.out.mono (Below.refl _ _).drew).kn hT.kn, hbs.out, v1', v2', hP4⟩)
            have hql : qs.length ≤ k + 1 := by rw [hqs]; have := put_length ⟨x, an⟩ ps; omega
            clear hqs hT hP4 x0 x1 x2 c1
            go_wp2_with fail
            go_meet
            exact ⟨qs, hql, hE, hPE⟩
          · have hm2 : ¬ m ≤ 2 := of_decide_eq_false HTm.out.symm
            clear HTm
            rcases hfc.out with ⟨rfl, hno⟩ | ⟨pa, o, pb, hpe, hok, rfl⟩
            · have hln := look_not hno
              have HNo := Lib.hid hno
              have hlt0 : decide ((-1 : Int) < 0) = true := by decide
              have hge0 : decide ((0 : Int) ≤ (-1 : Int)) = false := by decide
              have hgetq := get_mapP wb b s x ps hPx.out.2.1 zeroP false (by rw [hln]; rfl) (by rw [hln]; rfl)
              have HGetq := Lib.hid hgetq
              have hdropq := drop_mapP wb b s x ps hPx.out.2.1 hpz zeroP false (by rw [hln]; rfl) (by rw [hln]; rfl)
              have HDropq := Lib.hid hdropq
              clear hgetq hdropq hln hno hfc
              rcases (show m = 3 ∨ m = 4 by omega) with rfl | rfl
              · go_wp2_with fail
                refine HDropq.out.mono ?_
                rintro e w3 ⟨rfl, hg3, hM3⟩
                clear x0 x1 x2 c1
                obtain ⟨⟨x0, x1, x2, -⟩, hb3, -, hP3⟩ := HFr.out w3 hg3
                have hpp := drop_plain w3 w.heap.size B _ _ ps x hPx.out.1 hb3.size (by omega) hP3
                have HPp := Lib.hid hpp
                have Hb3 := Lib.hid hb3
                have HM3 := Lib.hid hM3
                clear hpp hb3 hP3 hg3 hM3
                go_wp2_with fail
                refine HPp.out.mono ?_
                rintro e w4 ⟨rfl, hT, v1', v2', hP4⟩
                have hE : Hid (Below w.heap.size w w4) := Lib.hid (Hb3.out.trans hT.below)
                obtain ⟨qs, hqs⟩ : ∃ qs, qs = del cmpP ⟨x, 0⟩ ps := ⟨_, rfl⟩
                have hPE : Hid (Pl w4 w.heap.size b s B qs) := Lib.hid (by rw [hqs]; exact ⟨del_sorted hPx.out.1, HM3.out.kn hT.kn, hbs.out, v1', v2', hP4⟩)
                have hql : qs.length ≤ k + 1 := by rw [hqs]; have := del_length (c := cmpP) (⟨x, 0⟩ : Pr) ps; omega
                clear hqs hT hP4 x0 x1 x2 HGetq HDropq
                go_wp2_with fail
                go_meet
                exact ⟨qs, hql, hE, hPE⟩
              · go_wp2_with fail
                refine HGetq.out.mono ?_
                rintro e w3 ⟨rfl, hb3⟩
                clear x0 x1 x2 c1
                have hE : Hid (Below w.heap.size w w3) := Lib.hid (bb.out.trans (hb3.mono bb.out.size))
                have hPE0 : Pl w3 w.heap.size b s B ps := ⟨hPx.out.1, hPx.out.2.mono hb3⟩
                have hP3 := (HFr.out w3 (gbelow hb3)).2.2.2
                obtain ⟨qs, hqs⟩ : ∃ qs, qs = ps := ⟨_, rfl⟩
                have hPE : Hid (Pl w3 w.heap.size b s B qs) := Lib.hid (by rw [hqs]; exact hPE0)
                have hql : qs.length ≤ k + 1 := by rw [hqs]; omega
                clear hqs hb3 hPE0 hP3 HGetq HDropq
                go_wp2_with fail
                go_meet
                exact ⟨qs, hql, hE, hPE⟩
            · have hln := look_yes (hpe ▸ hPx.out.1)
              subst hok
              rw [← hpe] at hln
              have hpal : pa.length < ps.length := by rw [hpe]; simp
              have hlt0 : decide ((pa.length : Int) < 0) = false := by simp
              have hge0 : decide ((0 : Int) ≤ (pa.length : Int)) = true := by simp
              have hpi : (pa.length : Int) < (ps.length : Int) := by omega
              have hgv : ps[pa.length] = o := by simp [hpe]
              have hgetq := get_mapP wb b s o.k ps hPx.out.2.1 o true (by rw [hln]; rfl) (by rw [hln]; rfl)
              have HGetq := Lib.hid hgetq
              have hdropq := drop_mapP wb b s o.k ps hPx.out.2.1 hpz o true (by rw [hln]; rfl) (by rw [hln]; rfl)
              have HDropq := Lib.hid hdropq
              have HLn := Lib.hid hln
              have HGv := Lib.hid hgv
              have hvv : (o.v != o.v) = false := by simp
              clear hgetq hdropq hln hgv hfc hpe
              rcases (show m = 3 ∨ m = 4 by omega) with rfl | rfl
              · go_wp2_with fail
                refine HDropq.out.mono ?_
                rintro e w3 ⟨rfl, hg3, hM3⟩
                clear x0 x1 x2 c1
                obtain ⟨⟨x0, x1, x2, -⟩, hb3, -, hP3⟩ := HFr.out w3 hg3
                have hpp := drop_plain w3 w.heap.size B _ _ ps o.k hPx.out.1 hb3.size (by omega) hP3
                have HPp := Lib.hid hpp
                have Hb3 := Lib.hid hb3
                have HM3 := Lib.hid hM3
                obtain ⟨g2, cg, cur, hv2, -, -, hvc⟩ := owns_int hP3.2.2.2 hpal
                rw [HGv.out] at hvc
                obtain ⟨rfl, -⟩ : a2 = some ⟨g2, 0, none⟩ ∧ True := by simp at hv2; exact ⟨hv2.1, trivial⟩
                have cB1 : w3.cell? ⟨B, 1, none⟩ = some (.slice (some ⟨g2, 0, none⟩) ps.length d2) := by rw [cells_of hP3.1]; rfl
                clear hpp hb3 hP3 hg3 hM3
                go_wp2_with fail
                refine HPp.out.mono ?_
                rintro e w4 ⟨rfl, hT, v1', v2', hP4⟩
                have hE : Hid (Below w.heap.size w w4) := Lib.hid (Hb3.out.trans hT.below)
                obtain ⟨qs, hqs⟩ : ∃ qs, qs = del cmpP ⟨o.k, 0⟩ ps := ⟨_, rfl⟩
                have hPE : Hid (Pl w4 w.heap.size b s B qs) := Lib.hid (by rw [hqs]; exact ⟨del_sorted hPx.out.1, HM3.out.kn hT.kn, hbs.out, v1', v2', hP4⟩)
                have hql : qs.length ≤ k + 1 := by rw [hqs]; have := del_length (c := cmpP) (⟨o.k, 0⟩ : Pr) ps; omega
                clear hqs hT hP4 x0 x1 x2 hvc cB1 HGetq HDropq
                go_wp2_with fail
                go_meet
                exact ⟨qs, hql, hE, hPE⟩
              · go_wp2_with fail
                refine HGetq.out.mono ?_
                rintro e w3 ⟨rfl, hb3⟩
                clear x0 x1 x2 c1
                have hE : Hid (Below w.heap.size w w3) := Lib.hid (bb.out.trans (hb3.mono bb.out.size))
                have hPE0 : Pl w3 w.heap.size b s B ps := ⟨hPx.out.1, hPx.out.2.mono hb3⟩
                have hP3 := (HFr.out w3 (gbelow hb3)).2.2.2
                obtain ⟨g2, cg, cur, hv2, -, -, hvc⟩ := owns_int hP3.2.2.2 hpal
                rw [HGv.out] at hvc
                obtain ⟨rfl, -⟩ : a2 = some ⟨g2, 0, none⟩ ∧ True := by simp at hv2; exact ⟨hv2.1, trivial⟩
                have cB1 : w3.cell? ⟨B, 1, none⟩ = some (.slice (some ⟨g2, 0, none⟩) ps.length d2) := by rw [cells_of hP3.1]; rfl
                obtain ⟨qs, hqs⟩ : ∃ qs, qs = ps := ⟨_, rfl⟩
                have hPE : Hid (Pl w3 w.heap.size b s B qs) := Lib.hid (by rw [hqs]; exact hPE0)
                have hql : qs.length ≤ k + 1 := by rw [hqs]; omega
                clear hqs hb3 hPE0 hP3 HGetq HDropq
                go_wp2_with fail
                go_meet
                exact ⟨qs, hql, hE, hPE⟩
      case rest =>
        obtain ⟨qs, hql, hE, hPE⟩ := hcut
        obtain ⟨wE, hwE⟩ : ∃ wE, wE = wc := ⟨_, rfl⟩
        rw [← hwE] at hE hPE ⊢
        clear hwE hfc HFr HPw hPx x0 x1 x2 c1 bb
        rcases qs with _ | ⟨y, ys⟩
        · have HFi := Lib.hid (first_nil wE b s hPE.out.2.1)
          go_wp2_with fail
          refine HFi.out.mono ?_
          rintro e wF ⟨rfl, hbF⟩
          obtain ⟨Wy, hWy⟩ : ∃ Wy, Wy = wF.alloc (.cells #[.int .i64 0, .string ⟨#[]⟩, .int .i64 0] 27) := ⟨_, rfl⟩
          obtain ⟨Y, hY⟩ : ∃ Y, Y = wF.heap.size := ⟨_, rfl⟩
          have hby : Below wF.heap.size wF Wy := by rw [hWy]; go_grown
          have hyx : Wy.heap[Y]? = some (.cells #[.int .i64 0, .string ⟨#[]⟩, .int .i64 0] 27 (0, 0)) := by rw [hWy, hY]; exact new_at rfl
          have hbt := hbF.trans (hby.mono hbF.size)
          have hPy : Hid (Pl Wy w.heap.size b s B []) := Lib.hid ⟨hPE.out.1, hPE.out.2.mono hbt⟩
          have hEy : Hid (Below w.heap.size w Wy) := Lib.hid (hE.out.trans (hbt.mono hE.out.size))
          have HWy := Lib.hid hWy
          have HY := Lib.hid hY
          obtain ⟨-, -, t1, t2, hPq⟩ := hPy.out.2
          obtain ⟨b1, e1, b2, e2, rfl, rfl⟩ := hPq.form
          have k0 : Wy.cell? ⟨B, 0, none⟩ = some (.slice b1 0 e1) := by rw [cells_of hPq.1]; rfl
          have k1 : Wy.cell? ⟨B, 1, none⟩ = some (.slice b2 0 e2) := by rw [cells_of hPq.1]; rfl
          have y0 : Wy.cell? ⟨Y, 0, none⟩ = some (.int .i64 0) := by rw [cells_of hyx]; rfl
          have y1 : Wy.cell? ⟨Y, 1, none⟩ = some (.string ⟨#[]⟩) := by rw [cells_of hyx]; rfl
          have y2 : Wy.cell? ⟨Y, 2, none⟩ = some (.int .i64 0) := by rw [cells_of hyx]; rfl
          have hq := neY_no (x := zeroS) (y := zeroS) rfl
          simp only [zeroS] at hq
          have hlen := fun n => (len_mapP (Wy.drewN n) b s [] (hPy.out.2.1.mono (bdN n (Below.refl _ _)))).mono (R' := fun e w' => e = .returned (.int .i64 0) ∧ w' = Wy.drewN n) (fun e w' h => ⟨h.1, h.2.symm⟩)
          have HLen := Lib.hid hlen
          clear hlen hPq hyx hbt hby hWy hY hbF HFi hPE hE
          go_wp2_with fail
          rw [← HWy.out, ← HY.out]
          go_quiet ((go_at_call 31; refine Calls.quiet_of_same (HLen.out _)))
          obtain ⟨wz, hWz⟩ : ∃ wz, wz = Wy.drewN nq := ⟨_, rfl⟩
          have hbz : Below Wy.heap.size Wy wz := by rw [hWz]; exact bdN _ (Below.refl _ _)
          have hPz : Hid (Pl wz w.heap.size b s B []) := Lib.hid ⟨hPy.out.1, hPy.out.2.mono hbz⟩
          have hEz : Hid (Below w.heap.size w wz) := Lib.hid (hEy.out.trans (hbz.mono hEy.out.size))
          rw [← hWz]
          clear hWz hbz k0 k1 y0 y1 y2 hq HLen
          go_wp2_with fail
          go_roundw
          case rel => exact ⟨k + 1, [], by omega, by simp, by go_num, hEz, hPz⟩
          case measure => simp [intOf]; omega
        · have hyl : ys.length ≤ 1000 := by simp at hql; omega
          have HFi := Lib.hid (first_cons wE b s y ys hPE.out.2.1 (by omega))
          go_wp2_with fail
          refine HFi.out.mono ?_
          rintro e wF ⟨rfl, hbF⟩
          obtain ⟨Wy, hWy⟩ : ∃ Wy, Wy = wF.alloc (.cells #[.int .i64 y.k.k, .string y.k.t, .int .i64 y.k.n] 27) := ⟨_, rfl⟩
          obtain ⟨Y, hY⟩ : ∃ Y, Y = wF.heap.size := ⟨_, rfl⟩
          have hby : Below wF.heap.size wF Wy := by rw [hWy]; go_grown
          have hyx : Wy.heap[Y]? = some (.cells #[.int .i64 y.k.k, .string y.k.t, .int .i64 y.k.n] 27 (0, 0)) := by rw [hWy, hY]; exact new_at rfl
          have hbt := hbF.trans (hby.mono hbF.size)
          have hPy : Hid (Pl Wy w.heap.size b s B (y :: ys)) := Lib.hid ⟨hPE.out.1, hPE.out.2.mono hbt⟩
          have hEy : Hid (Below w.heap.size w Wy) := Lib.hid (hE.out.trans (hbt.mono hE.out.size))
          have HWy := Lib.hid hWy
          have HY := Lib.hid hY
          obtain ⟨-, -, t1, t2, hPq⟩ := hPy.out.2
          obtain ⟨b1, e1, b2, e2, rfl, rfl⟩ := hPq.form
          simp only [List.length_cons] at hPq
          have k0 : Wy.cell? ⟨B, 0, none⟩ = some (.slice b1 (ys.length + 1) e1) := by rw [cells_of hPq.1]; rfl
          have k1 : Wy.cell? ⟨B, 1, none⟩ = some (.slice b2 (ys.length + 1) e2) := by rw [cells_of hPq.1]; rfl
          obtain ⟨h1, o1, rfl, -, m0, m1, m2⟩ := hPq.list 0 (by simp)
          obtain ⟨h2, cg2, cur2, hv2', -, -, n0⟩ := owns_int (ps := y :: ys) hPq.2.2.2 (k := 0) (by simp)
          obtain ⟨rfl, -⟩ : b2 = some ⟨h2, 0, none⟩ ∧ True := by simp at hv2'; exact ⟨hv2'.1, trivial⟩
          simp only [List.map_cons, List.getElem_cons_zero, Nat.zero_mul, Nat.add_zero] at m0 m1 m2 n0
          have y0 : Wy.cell? ⟨Y, 0, none⟩ = some (.int .i64 y.k.k) := by rw [cells_of hyx]; rfl
          have y1 : Wy.cell? ⟨Y, 1, none⟩ = some (.string y.k.t) := by rw [cells_of hyx]; rfl
          have y2 : Wy.cell? ⟨Y, 2, none⟩ = some (.int .i64 y.k.n) := by rw [cells_of hyx]; rfl
          have hq := neY_no (x := y.k) (y := y.k) rfl
          have hvy : (y.v != y.v) = false := by simp
          have hne1 : (((ys.length : Int) + 1) != ((ys.length : Int) + 1)) = false := by simp
          have hgt1 : decide ((0 : Int) < (ys.length : Int) + 1) = true := decide_eq_true (by omega)
          have hi0 : (0 : Int) < (ys.length : Int) + 1 := by omega
          have hlen := fun n => (len_mapP (Wy.drewN n) b s (y :: ys) (hPy.out.2.1.mono (bdN n (Below.refl _ _)))).mono (R' := fun e w' => e = .returned (.int .i64 ((ys.length : Int) + 1)) ∧ w' = Wy.drewN n) (fun e w' h => ⟨by rw [h.1]; simp, h.2.symm⟩)
          have HLen := Lib.hid hlen
          clear hlen hPq hyx hbt hby hWy hY hbF HFi hPE hE hv2'
          go_wp2_with fail
          rw [← HWy.out, ← HY.out]
          go_quiet ((go_at_call 31; refine Calls.quiet_of_same (HLen.out _)))
          obtain ⟨wz, hWz⟩ : ∃ wz, wz = Wy.drewN nq := ⟨_, rfl⟩
          have hbz : Below Wy.heap.size Wy wz := by rw [hWz]; exact bdN _ (Below.refl _ _)
          have hPz : Hid (Pl wz w.heap.size b s B (y :: ys)) := Lib.hid ⟨hPy.out.1, hPy.out.2.mono hbz⟩
          have hEz : Hid (Below w.heap.size w wz) := Lib.hid (hEy.out.trans (hbz.mono hEy.out.size))
          rw [← hWz]
          clear hWz hbz k0 k1 y0 y1 y2 hq HLen m0 m1 m2 n0 hvy hne1 hgt1 hi0
          go_wp2_with fail
          go_roundw
          case rel => exact ⟨k + 1, y :: ys, by omega, hql, by go_num, hEz, hPz⟩
          case measure => simp [intOf]; omega
    · obtain rfl : k = A.length := by omega
      obtain ⟨-, hC, -, v1, v2, hP⟩ := hPl.out
      have hpr := pairs_any wr b s ⟨0, ⟨#[]⟩, 0⟩ ps hC (by omega)
      have HPr := Lib.hid hpr
      have HP := Lib.hid hP
      clear hpr hC hP hPl
      go_wp2_with fail
      refine HPr.out.mono ?_
      rintro e w5 ⟨vk, vv, rfl, hb5, hrk, hrv⟩
      have hP5 := HP.out.mono hb5
      have c0 : w5.cell? ⟨B, 0, none⟩ = some v1 := by rw [cells_of hP5.1]; rfl
      have c1 : w5.cell? ⟨B, 1, none⟩ = some v2 := by rw [cells_of hP5.1]; rfl
      rw [keys_flat] at hrk
      have hsy := syms_self w5 vk v1 (keysL ps) (by simp; omega) (slice_own hrk (keys_length ps).symm rfl) (slice_own hP5.2.2.1 (keys_length ps).symm rfl)
      have e2 : (List.map (fun p : Pr => Value.int .i64 p.v) ps) = (ps.map Pr.v).map VI := vals_int ps
      have hr1 : Reads w5 vv ((ps.map Pr.v).map VI) := reads_own (e2 ▸ hrv)
      have hr2 : Reads w5 v2 ((ps.map Pr.v).map VI) := (by rw [← e2]; exact (e2 ▸ reads_own (base := w.heap.size) (n := ps.length) (e := 3) (zs := ps.map Pr.v) (by rw [← e2]; exact hP5.2.2.2)))
      have hin := fun w' (h : Below w5.heap.size w5 w') => ints_any w' vv v2 (ps.map Pr.v) (ps.map Pr.v) (hr1.mono h) (hr2.mono h) true (by simp)
      have hcell := fun w' (h : Below w5.heap.size w5 w') => (h.cell (p := ⟨B, 1, none⟩) hP5.lt).trans c1
      have HSy := Lib.hid hsy
      have HIn := Lib.hid hin
      have HCell := Lib.hid hcell
      have HB5 := Lib.hid (hBr.out.trans (hb5.mono hBr.out.size))
      clear hsy hin hcell hr1 hr2 e2 hP5 hrk hrv hb5 c1
      go_wp2_with fail
      refine HSy.out.mono ?_
      rintro e w6 ⟨rfl, hb6⟩
      have c1 := HCell.out w6 hb6
      have HIn6 := Lib.hid (HIn.out w6 hb6)
      have HB6 := Lib.hid (HB5.out.trans (hb6.mono HB5.out.size))
      clear hb6 c0
      go_wp2_with fail
      refine HIn6.out.mono ?_
      rintro e w7 ⟨rfl, hb7⟩
      have HB7 := Lib.hid (HB6.out.trans (hb7.mono HB6.out.size))
      clear hb7
      go_wp2_with fail
      refine (bwakes_any _).mono ?_
      rintro e w8 ⟨rfl, hb8⟩
      go_wp2_with fail
      go_ret
      exact ⟨rfl, HB7.out.trans (hb8.mono HB7.out.size)⟩
end Go.Proofs.Ythgidldcblchmaa
