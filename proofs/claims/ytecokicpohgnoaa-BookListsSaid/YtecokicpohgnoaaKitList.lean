/-
  Slices of numbers: what reads as a list; a slice of slices that came in; ponderkeep.Ints.
-/
import Derived.BigQuiet
import Derived.ProofKit
import Derived.OpenShut
import Derived.Deep.Slices
import Derived.Deep.Fields
import Derived.ChangeSame
import Derived.Handy
import Derived.Test.YtecokicpohgnoaaProg
import Derived.Test.YtecokicpohgnoaaKit3
namespace Go.Proofs.Ytecokicpohgnoaa
set_option linter.unusedVariables false
open Go.RowKit
attribute [local go_sem] Oper.semAt_some
abbrev VI (z : Int) : Value := .int .i64 z
/-- v reads as xs: elements of one cell. -/
def Reads (w : World) (v : Value) (xs : List Value) : Prop :=
  ∃ a cap, v = .slice a xs.length cap ∧ xs.length ≤ cap ∧ cap ≤ maxLen ∧ (cap = 0 ∨ ∃ b off, a = some ⟨b, off, none⟩ ∧ b < w.heap.size ∧ ∀ j (h : j < xs.length), w.cell? ⟨b, off + j, none⟩ = some xs[j])
theorem Reads.mono {w w' : World} {v : Value} {xs : List Value} (h : Reads w v xs) (hb : Below w.heap.size w w') : Reads w' v xs := by
  obtain ⟨a, cap, h1, h2, h3, h4⟩ := h
  refine ⟨a, cap, h1, h2, h3, ?_⟩
  rcases h4 with h4 | ⟨b, off, h4, h5, h6⟩
  · exact .inl h4
  · exact .inr ⟨b, off, h4, Nat.lt_of_lt_of_le h5 hb.size, fun j hj => (hb.cell (p := ⟨b, off + j, none⟩) h5).trans (h6 j hj)⟩
open Go.ChangeShapes Go.WideShapes Go.ChangeAt in
theorem ints_of_trod {H : Type} {enc : TypeId × Value → H} {w : World} {base n : Nat} {held : Bool} {cs : List Value} {x : DataW H × List MemPlace}
    (h : DataW.trod enc Try.prog w base (fun _ => true) held n 45 cs = some x) : ∃ (l : Value) (zs : List Int), cs = [l] ∧ Reads w l (zs.map VI) := by
  rcases open_ints Try.underlying45 Try.underlying3 (by kernel_rfl) h with ⟨rfl, _⟩ | ⟨y, l, c, zs, rfl, _, hl, hm, hz, _, hcell, hwz⟩
  · exact ⟨_, [], rfl, none, 0, rfl, by simp, by simp, .inl rfl⟩
  · simp only [if_true] at hz
    refine ⟨_, zs.take l, rfl, _, c, by rw [List.length_map, List.length_take]; congr 1; omega, by rw [List.length_map, List.length_take]; omega, hm, ?_⟩
    by_cases h0 : c = 0
    · exact .inl h0
    · obtain ⟨b, off, rfl, hc⟩ := ints_at hcell (by omega)
      refine .inr ⟨b, off, rfl, World.block_lt_of_cell? w _ (hc 0 (by omega)), fun j hj => ?_⟩
      simp only [List.length_map, List.length_take] at hj
      rw [hc j (by omega), List.getElem_map, List.getElem_take, List.getD_eq_getElem?_getD, List.getElem?_eq_getElem (by omega)]; rfl

/-- A slice of numbers, as a cell of a slice. -/
structure Ls where
  a : Option Addr
  c : Nat
  zs : List Int
abbrev vLs (x : Ls) : Value := .slice x.a x.zs.length x.c
def LsOk (W : World) (x : Ls) : Prop := Reads W (vLs x) (x.zs.map VI)
/-- The cells of a list of slices, where the slice leads. -/
def ArgLs (W : World) (a : Option Addr) (xs : List Ls) : Prop :=
  0 < xs.length → ∃ b off, a = some ⟨b, off, none⟩ ∧ b < W.heap.size ∧ ∀ i (h : i < xs.length), W.cell? ⟨b, off + i, none⟩ = some (vLs xs[i])
open Go.ChangeShapes Go.WideShapes Go.ChangeAt Go.Deep in
theorem arg_lists {H : Type} {enc : TypeId × Value → H} {W : World} {base : Nat} {held : Bool} {a : Option Addr} {len cap : Nat} {d : DataW H} {p : List MemPlace}
    (h : DataW.Trod enc Try.prog W base (fun _ => true) held 86 (.slice a len cap) d p) : len ≤ maxLen ∧ ∃ xs : List Ls, xs.length = len ∧ ArgLs W a xs ∧ ∀ x ∈ xs, LsOk W x := by
  obtain ⟨fuel, hf⟩ := h
  rcases open_slice Try.underlying86 hf with ⟨hcs, _⟩ | ⟨x, l, c, m, n, D, Pl, hcs, _, hl, hm, hmm, _, hi⟩
  · simp [Value.cells] at hcs
    obtain ⟨rfl, rfl, rfl⟩ := hcs
    exact ⟨by simp, [], rfl, fun h => absurd h (by simp), by simp⟩
  · simp [Value.cells] at hcs
    obtain ⟨rfl, rfl, rfl⟩ := hcs
    simp at hmm
    subst hmm
    refine ⟨by omega, ?_⟩
    have hC : Try.prog.cellsOf 45 = 1 := by kernel_rfl
    have hone : ∀ i : Fin len, ∃ s : Ls, LsOk W s ∧ W.cell? (x.add i.1) = some (vLs s) := by
      intro i
      obtain ⟨cs', hc, ht'⟩ := hi i.1 (by omega)
      rw [hC, Nat.mul_one] at hc
      obtain ⟨v, zs, rfl, hr⟩ := ints_of_trod ht'
      obtain ⟨pa, cc, rfl, -⟩ := id hr
      obtain ⟨_, hcl, hat⟩ := World.cells?_some hc
      refine ⟨⟨pa, cc, zs⟩, by simpa [LsOk, vLs] using hr, ?_⟩
      have h0 := hat 0 (by simp)
      rw [Go.Deep.add_add, Nat.add_zero] at h0
      simpa [vLs] using h0
    obtain ⟨f, hf⟩ := Classical.axiomOfChoice hone
    by_cases h0 : len = 0
    · subst h0
      exact ⟨[], rfl, fun h => absurd h (by simp), by simp⟩
    · obtain ⟨b, off, spot⟩ := x
      have c0 := (hf ⟨0, by omega⟩).2
      have hspot : spot = none := by simpa [Addr.add] using World.cell?_spot c0
      subst hspot
      refine ⟨List.ofFn f, by simp, fun _ => ⟨b, off, rfl, by have := World.block_lt_of_cell? W _ c0; rw [Go.WideShapes.add_plain] at this; exact this, fun i hi => ?_⟩, fun y hy => ?_⟩
      · rw [List.getElem_ofFn]
        have hh := (hf ⟨i, by simpa using hi⟩).2
        rwa [Go.WideShapes.add_plain] at hh
      · obtain ⟨i, rfl⟩ := List.mem_ofFn.1 hy
        exact (hf i).1

theorem ints_any (w : World) (va vb : Value) (xs ys : List Int) (ha : Reads w va (xs.map VI)) (hb : Reads w vb (ys.map VI)) (b : Bool) (hbe : b = decide (xs = ys)) :
    Calls Try.prog 35 #[va, vb] w fun e w' => e = .returned (.bool b) ∧ Below w.heap.size w w' := by
  obtain ⟨pa, ca, rfl, la, ma, ha⟩ := ha
  obtain ⟨pb, cb, rfl, lb, mb, hb⟩ := hb
  simp only [List.length_map] at *
  unfold maxLen at ma mb
  by_cases hl : xs.length = ys.length
  · have hd : ((xs.length : Int) != (ys.length : Int)) = false := by simp [hl]
    have HL := Lib.hid hl
    have HBE := Lib.hid hbe
    have HA := Lib.hid ha
    have HBB := Lib.hid hb
    clear hl ha hb hbe
    go_enter Try.func35, Try.ntmps35
    go_wp2_with fail
    go_loopw [5] (fun i wr => ∃ k : Nat, k ≤ xs.length ∧ i = .int .i64 k ∧ Hid (xs.take k = ys.take k) ∧ Below w.heap.size w wr) (fun i _ => xs.length - (intOf i).toNat)
    case atStart => exact ⟨0, Nat.zero_le _, rfl, Lib.hid (by simp), Below.refl _ _⟩
    case round =>
      obtain ⟨k, hk, rfl, he, hbw⟩ := hrel
      by_cases hlt : k < xs.length
      · have hlt2 : k < ys.length := by have := HL.out; omega
        obtain ⟨ba, oa, rfl, hba, hca⟩ : ∃ b off, pa = some ⟨b, off, none⟩ ∧ b < w.heap.size ∧ ∀ j (h : j < xs.length), w.cell? ⟨b, off + j, none⟩ = some (.int .i64 xs[j]) := by
          rcases HA.out with h0 | ⟨b, off, h1, h2, h3⟩
          · omega
          · exact ⟨b, off, h1, h2, fun j hj => by have := h3 j hj; simpa using this⟩
        obtain ⟨bb, ob, rfl, hbb, hcb⟩ : ∃ b off, pb = some ⟨b, off, none⟩ ∧ b < w.heap.size ∧ ∀ j (h : j < ys.length), w.cell? ⟨b, off + j, none⟩ = some (.int .i64 ys[j]) := by
          rcases HBB.out with h0 | ⟨b, off, h1, h2, h3⟩
          · omega
          · exact ⟨b, off, h1, h2, fun j hj => by have := h3 j hj; simpa using this⟩
        have ka := (hbw.cell (p := ⟨ba, oa + k, none⟩) hba).trans (hca k hlt)
        have kb := (hbw.cell (p := ⟨bb, ob + k, none⟩) hbb).trans (hcb k hlt2)
        have hki : (k : Int) < (xs.length : Int) := by omega
        have hki2 : (k : Int) < (ys.length : Int) := by omega
        by_cases heq : xs[k] = ys[k]
        · have hn : Hid (xs.take (k + 1) = ys.take (k + 1)) := Lib.hid (by rw [List.take_succ_eq_append_getElem hlt, List.take_succ_eq_append_getElem hlt2, he.out, heq])
          rw [← heq] at kb
          generalize xs[k] = x at ka kb
          clear hca hcb heq he
          go_wp2_with fail
          go_quiet (fail)
          go_wp2_with fail
          go_roundw
          case rel => exact ⟨k + 1, by omega, by go_num, hn, bdN _ hbw⟩
          case measure => simp [intOf]; omega
        · have hne : (xs[k] != ys[k]) = true := by simpa using heq
          have hbf : b = false := by
            rw [HBE.out]; apply decide_eq_false
            rintro rfl; exact heq rfl
          subst hbf
          generalize xs[k] = x at ka hne
          generalize ys[k] = y at kb hne
          clear hca hcb heq he
          go_wp2_with fail
          go_quiet (fail)
          go_wp2_with fail
          go_returns
          exact ⟨rfl, bdN _ hbw⟩
      · obtain rfl : k = xs.length := by omega
        have hbt : b = true := by
          rw [HBE.out]; apply decide_eq_true
          have h1 := he.out
          rw [List.take_length, HL.out, List.take_length] at h1
          exact h1
        subst hbt
        go_wp2_with fail
        go_ret
        exact ⟨rfl, hbw⟩
  · have hd : ((xs.length : Int) != (ys.length : Int)) = true := by simp; omega
    have hbf : b = false := by
      rw [hbe]; apply decide_eq_false
      rintro rfl; exact hl rfl
    subst hbf
    clear hl ha hb hbe
    go_enter Try.func35, Try.ntmps35
    go_wp2_with fail
    go_ret
    exact ⟨rfl, Below.refl _ _⟩
end Go.Proofs.Ytecokicpohgnoaa
