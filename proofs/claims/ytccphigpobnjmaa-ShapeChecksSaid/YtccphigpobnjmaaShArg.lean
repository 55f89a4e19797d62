/-
  A production that came in, read whatever it is: conditions, tests, actions at their places. No condition.
-/
import Derived.Test.YtccphigpobnjmaaShShape
import Derived.ChangeShapes
import Derived.ChangeArms
import Derived.Deep.Slices
namespace Go.Proofs.Ytccphigpobnjmaa
set_option linter.unusedVariables false
open Go.RowKit
/-- Tests that came in: their lists are as long as a slice may be. -/
def TestsIn (w : World) (a : Option Addr) (l : List Ts) : Prop := EltsK encT 6 w a l ∧ (∀ x ∈ l, EltsK encS 3 w x.a x.list ∧ x.list.length ≤ maxLen) ∧ l.length ≤ maxLen
theorem TestsIn.mono {w w' : World} {a : Option Addr} {l : List Ts} (h : TestsIn w a l) (hb : Below w.heap.size w w') : TestsIn w' a l := ⟨h.1.mono hb, fun x hx => ⟨(h.2.1 x hx).1.mono hb, (h.2.1 x hx).2⟩, h.2.2⟩
/-- Conditions that came in. -/
inductive CondsIn (w : World) : Option Addr → List Co → Prop
  | mk (a : Option Addr) (l : List Co) (he : EltsK encC 7 w a l) (ha : ∀ c ∈ l, TestsIn w c.h.aa c.h.attr) (hv : ∀ c ∈ l, TestsIn w c.h.va c.h.value) (hi : ∀ c ∈ l, CondsIn w c.h.ca c.l) (hl : l.length ≤ maxLen) : CondsIn w a l
theorem CondsIn.mono {w w' : World} (hb : Below w.heap.size w w') {a : Option Addr} {l : List Co} (h : CondsIn w a l) : CondsIn w' a l := by
  induction h with
  | mk a l he ha hv hi hl ih => exact .mk a l (he.mono hb) (fun c hc => (ha c hc).mono hb) (fun c hc => (hv c hc).mono hb) ih hl
structure PrIn (w : World) (p : Pr) : Prop where
  conds : CondsIn w p.ca p.conds
  acts : EltsK encA 19 w p.aa p.acts
  many : p.acts.length ≤ maxLen
  long : p.name.size ≤ maxLen
  room : p.conds.length ≤ p.cc
theorem PrIn.mono {w w' : World} {p : Pr} (h : PrIn w p) (hb : Below w.heap.size w w') : PrIn w' p := ⟨h.conds.mono hb, h.acts.mono hb, h.many, h.long, h.room⟩
theorem list2 {α : Type} {l : List α} (h : l.length = 2) : ∃ x0 x1, l = [x0, x1] := by
  match l, h with
  | [x0, x1], _ => exact ⟨x0, x1, rfl⟩
theorem list3 {α : Type} {l : List α} (h : l.length = 3) : ∃ x0 x1 x2, l = [x0, x1, x2] := by
  match l, h with
  | [x0, x1, x2], _ => exact ⟨x0, x1, x2, rfl⟩
theorem list4 {α : Type} {l : List α} (h : l.length = 4) : ∃ x0 x1 x2 x3, l = [x0, x1, x2, x3] := by
  match l, h with
  | [x0, x1, x2, x3], _ => exact ⟨x0, x1, x2, x3, rfl⟩
theorem list5 {α : Type} {l : List α} (h : l.length = 5) : ∃ x0 x1 x2 x3 x4, l = [x0, x1, x2, x3, x4] := by
  match l, h with
  | [x0, x1, x2, x3, x4], _ => exact ⟨x0, x1, x2, x3, x4, rfl⟩
theorem list6 {α : Type} {l : List α} (h : l.length = 6) : ∃ x0 x1 x2 x3 x4 x5, l = [x0, x1, x2, x3, x4, x5] := by
  match l, h with
  | [x0, x1, x2, x3, x4, x5], _ => exact ⟨x0, x1, x2, x3, x4, x5, rfl⟩
theorem list7 {α : Type} {l : List α} (h : l.length = 7) : ∃ x0 x1 x2 x3 x4 x5 x6, l = [x0, x1, x2, x3, x4, x5, x6] := by
  match l, h with
  | [x0, x1, x2, x3, x4, x5, x6], _ => exact ⟨x0, x1, x2, x3, x4, x5, x6, rfl⟩
theorem list9 {α : Type} {l : List α} (h : l.length = 9) : ∃ x0 x1 x2 x3 x4 x5 x6 x7 x8, l = [x0, x1, x2, x3, x4, x5, x6, x7, x8] := by
  match l, h with
  | [x0, x1, x2, x3, x4, x5, x6, x7, x8], _ => exact ⟨x0, x1, x2, x3, x4, x5, x6, x7, x8, rfl⟩
theorem list19 {α : Type} {l : List α} (h : l.length = 19) : ∃ x0 x1 x2 x3 x4 x5 x6 x7 x8 x9 x10 x11 x12 x13 x14 x15 x16 x17 x18, l = [x0, x1, x2, x3, x4, x5, x6, x7, x8, x9, x10, x11, x12, x13, x14, x15, x16, x17, x18] := by
  match l, h with
  | [x0, x1, x2, x3, x4, x5, x6, x7, x8, x9, x10, x11, x12, x13, x14, x15, x16, x17, x18], _ => exact ⟨x0, x1, x2, x3, x4, x5, x6, x7, x8, x9, x10, x11, x12, x13, x14, x15, x16, x17, x18, rfl⟩
section
open Go.ChangeShapes Go.WideShapes Go.Deep
variable {H : Type} {enc : TypeId × Value → H} {W : World} {base : Nat} {held : Bool} {spare : Nat → Bool}
/-- A slice of structs that came in, one element's cells by one lemma at a smaller fuel. -/
theorem slice_in {t e : TypeId} {α : Type} (E : α → List Value) (ok : α → Prop) {K fuel : Nat} (hK : 0 < K) (hE : ∀ x, (E x).length = K)
    (hu : Try.prog.underlying t = some (.slice e)) (hC : Try.prog.cellsOf e = K) {cs : List Value} {x : DataW H × List MemPlace}
    (one : ∀ n, n < fuel → ∀ cs x, DataW.trod enc Try.prog W base spare held n e cs = some x → ∃ a, cs = E a ∧ ok a)
    (h : DataW.trod enc Try.prog W base spare held fuel t cs = some x) : ∃ (a : Option Addr) (cap : Nat) (xs : List α), cs = [.slice a xs.length cap] ∧ (xs.length ≤ maxLen ∧ xs.length ≤ cap) ∧ EltsK E K W a xs ∧ ∀ y ∈ xs, ok y := by
  rcases DataW.trod_slice hu h with ⟨hcs, _⟩ | ⟨x0, len, cap, el, rest, n, hn, hcs, _, _, hl, hm, hel, hi, _, _⟩
  · exact ⟨none, 0, [], hcs, by simp, fun k hk => absurd hk (by simp), by simp⟩
  · subst hcs
    have hone : ∀ i : Fin len, ∃ s : α, ok s ∧ ∀ j c, (E s)[j]? = some c → W.cell? (x0.add (i.1 * K + j)) = some c := by
      intro i
      have h1 := hi i.1 i.2
      have hlt : i.1 < el.length := by omega
      rw [List.getElem?_eq_getElem hlt] at h1
      obtain ⟨cs', hc, ht'⟩ := Option.bind_eq_some_iff.1 h1
      rw [hC] at hc
      obtain ⟨s, rfl, hok⟩ := one n (by omega) _ _ ht'
      obtain ⟨_, hcl, hat⟩ := World.cells?_some hc
      refine ⟨s, hok, fun j c hj => ?_⟩
      rw [← Go.Deep.add_add]
      have hj' : j < K := by rw [← hE s]; exact (List.getElem?_eq_some_iff.1 hj).1
      exact (hat j hj').trans hj
    obtain ⟨f, hf⟩ := Classical.axiomOfChoice hone
    refine ⟨some x0, cap, List.ofFn f, by simp, ⟨by simp; omega, by simpa using hl⟩, fun k hk => ?_, fun y hy => ?_⟩
    · obtain ⟨b, off, spot⟩ := x0
      have hk' : k < len := by simpa using hk
      have hlen0 : 0 < (E (f ⟨k, hk'⟩)).length := by rw [hE]; exact hK
      obtain ⟨c, hc⟩ : ∃ c, (E (f ⟨k, hk'⟩))[0]? = some c := ⟨_, List.getElem?_eq_getElem hlen0⟩
      have c0 := (hf ⟨k, hk'⟩).2 0 _ hc
      have hspot : spot = none := by
        have h0 : 0 < len := by omega
        have hl0 : 0 < (E (f ⟨0, h0⟩)).length := by rw [hE]; exact hK
        have c10 := (hf ⟨0, h0⟩).2 0 _ (List.getElem?_eq_getElem hl0)
        simpa [Addr.add] using World.cell?_spot c10
      subst hspot
      refine ⟨b, off, rfl, by have := World.block_lt_of_cell? W _ c0; rw [Go.WideShapes.add_plain] at this; exact this, fun j c hj => ?_⟩
      rw [List.getElem_ofFn] at hj
      have := (hf ⟨k, hk'⟩).2 j c hj
      rw [← this, Go.WideShapes.add_plain, Nat.add_assoc]
    · obtain ⟨i, rfl⟩ := List.mem_ofFn.1 hy
      exact (hf i).1
theorem sym_in {n : Nat} {cs : List Value} {x : DataW H × List MemPlace} (ht : DataW.trod enc Try.prog W base spare held n 47 cs = some x) : ∃ s : Sy, cs = encS s := by
  obtain ⟨ys, n', hn', hy, hcl, hyl, hfl⟩ := DataW.trod_struct Try.underlying47 ht
  have hC : Try.prog.cellsOf 47 = 3 := by kernel_rfl
  rw [hC] at hcl
  obtain ⟨u0, u1, u2, rfl⟩ := list3 hcl
  obtain ⟨y0, y1, y2, rfl⟩ := list3 (hyl.trans rfl)
  have c_int : Try.prog.cellsOf 3 = 1 := by kernel_rfl
  have f0 := hfl 0 _ rfl
  have c_string : Try.prog.cellsOf 9 = 1 := by kernel_rfl
  have f1 := hfl 1 _ rfl
  have f2 := hfl 2 _ rfl
  simp only [List.getElem_toArray, List.getElem_cons_zero, List.getElem_cons_succ] at f0 f1 f2
  rw [c_int] at f0
  rw [c_string] at f1
  rw [c_int] at f2
  clear hfl hy hcl hyl
  simp only [List.drop_zero, List.drop_succ_cons, List.take_succ_cons, List.take_zero, List.getElem?_cons_zero, List.getElem?_cons_succ] at f0 f1 f2
  obtain ⟨k0, e0, -, -⟩ := DataW.trod_int Try.underlying3 f0
  obtain ⟨s1, e1, -, z1⟩ := DataW.trod_string Try.underlying9 f1
  obtain ⟨k2, e2, -, -⟩ := DataW.trod_int Try.underlying3 f2
  cases e0
  cases e1
  cases e2
  exact ⟨⟨k0, s1, k2⟩, rfl⟩
theorem atom_in {n : Nat} {cs : List Value} {x : DataW H × List MemPlace} (ht : DataW.trod enc Try.prog W base spare held n 55 cs = some x) : ∃ a : At, cs = encAt a := by
  obtain ⟨ys, n', hn', hy, hcl, hyl, hfl⟩ := DataW.trod_struct Try.underlying55 ht
  have hC : Try.prog.cellsOf 55 = 4 := by kernel_rfl
  rw [hC] at hcl
  obtain ⟨u0, u1, u2, u3, rfl⟩ := list4 hcl
  obtain ⟨y0, y1, rfl⟩ := list2 (hyl.trans rfl)
  have c_string : Try.prog.cellsOf 9 = 1 := by kernel_rfl
  have f0 := hfl 0 _ rfl
  have c_sym : Try.prog.cellsOf 47 = 3 := by kernel_rfl
  have f1 := hfl 1 _ rfl
  simp only [List.getElem_toArray, List.getElem_cons_zero, List.getElem_cons_succ] at f0 f1
  rw [c_string] at f0
  rw [c_sym] at f1
  clear hfl hy hcl hyl
  simp only [List.drop_zero, List.drop_succ_cons, List.take_succ_cons, List.take_zero, List.getElem?_cons_zero, List.getElem?_cons_succ] at f0 f1
  obtain ⟨s0, e0, -, z0⟩ := DataW.trod_string Try.underlying9 f0
  obtain ⟨s1, e1⟩ := sym_in f1
  cases e0
  simp only [encS] at e1; cases e1
  exact ⟨⟨s0, s1⟩, rfl⟩
theorem term_in {n : Nat} {cs : List Value} {x : DataW H × List MemPlace} (ht : DataW.trod enc Try.prog W base spare held n 57 cs = some x) : ∃ a : Tm, cs = encM a := by
  obtain ⟨ys, n', hn', hy, hcl, hyl, hfl⟩ := DataW.trod_struct Try.underlying57 ht
  have hC : Try.prog.cellsOf 57 = 9 := by kernel_rfl
  rw [hC] at hcl
  obtain ⟨u0, u1, u2, u3, u4, u5, u6, u7, u8, rfl⟩ := list9 hcl
  obtain ⟨y0, y1, y2, rfl⟩ := list3 (hyl.trans rfl)
  have c_int : Try.prog.cellsOf 3 = 1 := by kernel_rfl
  have f0 := hfl 0 _ rfl
  have c_atom : Try.prog.cellsOf 55 = 4 := by kernel_rfl
  have f1 := hfl 1 _ rfl
  have f2 := hfl 2 _ rfl
  simp only [List.getElem_toArray, List.getElem_cons_zero, List.getElem_cons_succ] at f0 f1 f2
  rw [c_int] at f0
  rw [c_atom] at f1
  rw [c_atom] at f2
  clear hfl hy hcl hyl
  simp only [List.drop_zero, List.drop_succ_cons, List.take_succ_cons, List.take_zero, List.getElem?_cons_zero, List.getElem?_cons_succ] at f0 f1 f2
  obtain ⟨k0, e0, -, -⟩ := DataW.trod_int Try.underlying3 f0
  obtain ⟨s1, e1⟩ := atom_in f1
  obtain ⟨s2, e2⟩ := atom_in f2
  cases e0
  simp only [encAt] at e1; cases e1
  simp only [encAt] at e2; cases e2
  exact ⟨⟨k0, s1, s2⟩, rfl⟩
theorem act_in {n : Nat} {cs : List Value} {x : DataW H × List MemPlace} (ht : DataW.trod enc Try.prog W base spare held n 59 cs = some x) : ∃ a : Ac, cs = encA a := by
  obtain ⟨ys, n', hn', hy, hcl, hyl, hfl⟩ := DataW.trod_struct Try.underlying59 ht
  have hC : Try.prog.cellsOf 59 = 19 := by kernel_rfl
  rw [hC] at hcl
  obtain ⟨u0, u1, u2, u3, u4, u5, u6, u7, u8, u9, u10, u11, u12, u13, u14, u15, u16, u17, u18, rfl⟩ := list19 hcl
  obtain ⟨y0, y1, y2, y3, y4, rfl⟩ := list5 (hyl.trans rfl)
  have c_string : Try.prog.cellsOf 9 = 1 := by kernel_rfl
  have f0 := hfl 0 _ rfl
  have c_atom : Try.prog.cellsOf 55 = 4 := by kernel_rfl
  have f1 := hfl 1 _ rfl
  have c_term : Try.prog.cellsOf 57 = 9 := by kernel_rfl
  have f2 := hfl 2 _ rfl
  have c_int : Try.prog.cellsOf 3 = 1 := by kernel_rfl
  have f3 := hfl 3 _ rfl
  have f4 := hfl 4 _ rfl
  simp only [List.getElem_toArray, List.getElem_cons_zero, List.getElem_cons_succ] at f0 f1 f2 f3 f4
  rw [c_string] at f0
  rw [c_atom] at f1
  rw [c_term] at f2
  rw [c_int] at f3
  rw [c_atom] at f4
  clear hfl hy hcl hyl
  simp only [List.drop_zero, List.drop_succ_cons, List.take_succ_cons, List.take_zero, List.getElem?_cons_zero, List.getElem?_cons_succ] at f0 f1 f2 f3 f4
  obtain ⟨s0, e0, -, z0⟩ := DataW.trod_string Try.underlying9 f0
  obtain ⟨s1, e1⟩ := atom_in f1
  obtain ⟨s2, e2⟩ := term_in f2
  obtain ⟨k3, e3, -, -⟩ := DataW.trod_int Try.underlying3 f3
  obtain ⟨s4, e4⟩ := atom_in f4
  cases e0
  simp only [encAt] at e1; cases e1
  simp only [encM] at e2; cases e2
  cases e3
  simp only [encAt] at e4; cases e4
  exact ⟨⟨s0, s1, s2, k3, s4⟩, rfl⟩
theorem test_in {n : Nat} {cs : List Value} {x : DataW H × List MemPlace} (ht : DataW.trod enc Try.prog W base spare held n 67 cs = some x) : ∃ t : Ts, cs = encT t ∧ EltsK encS 3 W t.a t.list ∧ t.list.length ≤ maxLen := by
  obtain ⟨ys, n', hn', hy, hcl, hyl, hfl⟩ := DataW.trod_struct Try.underlying67 ht
  have hC : Try.prog.cellsOf 67 = 6 := by kernel_rfl
  rw [hC] at hcl
  obtain ⟨u0, u1, u2, u3, u4, u5, rfl⟩ := list6 hcl
  obtain ⟨y0, y1, y2, y3, rfl⟩ := list4 (hyl.trans rfl)
  have c_int : Try.prog.cellsOf 3 = 1 := by kernel_rfl
  have f0 := hfl 0 _ rfl
  have c_string : Try.prog.cellsOf 9 = 1 := by kernel_rfl
  have f1 := hfl 1 _ rfl
  have c_sym : Try.prog.cellsOf 47 = 3 := by kernel_rfl
  have f2 := hfl 2 _ rfl
  have c_syms : Try.prog.cellsOf 44 = 1 := by kernel_rfl
  have f3 := hfl 3 _ rfl
  simp only [List.getElem_toArray, List.getElem_cons_zero, List.getElem_cons_succ] at f0 f1 f2 f3
  rw [c_int] at f0
  rw [c_string] at f1
  rw [c_sym] at f2
  rw [c_syms] at f3
  clear hfl hy hcl hyl
  simp only [List.drop_zero, List.drop_succ_cons, List.take_succ_cons, List.take_zero, List.getElem?_cons_zero, List.getElem?_cons_succ] at f0 f1 f2 f3
  obtain ⟨k0, e0, -, -⟩ := DataW.trod_int Try.underlying3 f0
  obtain ⟨s1, e1, -, z1⟩ := DataW.trod_string Try.underlying9 f1
  obtain ⟨s2, e2⟩ := sym_in f2
  obtain ⟨a3, c3, l3, e3, m3, h3, -⟩ := slice_in (K := 3) encS (fun _ => True) (by omega) (fun _ => rfl) Try.underlying44 (by kernel_rfl) (fun n _ cs x h => by obtain ⟨s, e⟩ := sym_in h; exact ⟨s, e, trivial⟩) f3
  cases e0
  cases e1
  simp only [encS] at e2; cases e2
  cases e3
  exact ⟨⟨k0, s1, s2, l3, a3, c3⟩, rfl, h3, m3.1⟩
theorem tests_in {n : Nat} {cs : List Value} {x : DataW H × List MemPlace} (ht : DataW.trod enc Try.prog W base spare held n 62 cs = some x) : ∃ (a : Option Addr) (cap : Nat) (l : List Ts), cs = [.slice a l.length cap] ∧ TestsIn W a l := by
  obtain ⟨a, cap, l, h1, h2, h3, h4⟩ := slice_in (K := 6) encT (fun t => EltsK encS 3 W t.a t.list ∧ t.list.length ≤ maxLen) (by omega) (fun _ => rfl) Try.underlying62 (by kernel_rfl) (fun n _ cs x h => by obtain ⟨t, e, o⟩ := test_in h; exact ⟨t, e, o⟩) ht
  exact ⟨a, cap, l, h1, h3, h4, h2.1⟩
/-- All of a condition. -/
def CoIn (w : World) (c : Co) : Prop := TestsIn w c.h.aa c.h.attr ∧ TestsIn w c.h.va c.h.value ∧ CondsIn w c.h.ca c.l
theorem cond_in : ∀ (m n : Nat), n < m → ∀ {cs : List Value} {x : DataW H × List MemPlace}, DataW.trod enc Try.prog W base spare held n 64 cs = some x → ∃ c : Co, cs = encC c ∧ CoIn W c
  | 0, n, hn, _, _, _ => by omega
  | m + 1, n, hn, cs, x, ht => by
    have ih := fun k (hk : k < m) => fun cs x (h : DataW.trod enc Try.prog W base spare held k 64 cs = some x) => cond_in m k hk h
    obtain ⟨ys, n', hn', hy, hcl, hyl, hfl⟩ := DataW.trod_struct Try.underlying64 ht
    have hC : Try.prog.cellsOf 64 = 7 := by kernel_rfl
    rw [hC] at hcl
    obtain ⟨u0, u1, u2, u3, u4, u5, u6, rfl⟩ := list7 hcl
    obtain ⟨y0, y1, y2, y3, y4, y5, y6, rfl⟩ := list7 (hyl.trans rfl)
    have c_int : Try.prog.cellsOf 3 = 1 := by kernel_rfl
    have f0 := hfl 0 _ rfl
    have c_bool : Try.prog.cellsOf 4 = 1 := by kernel_rfl
    have f1 := hfl 1 _ rfl
    have c_string : Try.prog.cellsOf 9 = 1 := by kernel_rfl
    have f2 := hfl 2 _ rfl
    have c_tests : Try.prog.cellsOf 62 = 1 := by kernel_rfl
    have f3 := hfl 3 _ rfl
    have f4 := hfl 4 _ rfl
    have f5 := hfl 5 _ rfl
    have c_conds : Try.prog.cellsOf 22 = 1 := by kernel_rfl
    have f6 := hfl 6 _ rfl
    simp only [List.getElem_toArray, List.getElem_cons_zero, List.getElem_cons_succ] at f0 f1 f2 f3 f4 f5 f6
    rw [c_int] at f0
    rw [c_bool] at f1
    rw [c_string] at f2
    rw [c_tests] at f3
    rw [c_tests] at f4
    rw [c_bool] at f5
    rw [c_conds] at f6
    clear hfl hy hcl hyl
    simp only [List.drop_zero, List.drop_succ_cons, List.take_succ_cons, List.take_zero, List.getElem?_cons_zero, List.getElem?_cons_succ] at f0 f1 f2 f3 f4 f5 f6
    obtain ⟨k0, e0, -, -⟩ := DataW.trod_int Try.underlying3 f0
    obtain ⟨b1, e1, -⟩ := DataW.trod_bool Try.underlying4 f1
    obtain ⟨s2, e2, -, z2⟩ := DataW.trod_string Try.underlying9 f2
    obtain ⟨a3, c3, l3, e3, h3⟩ := tests_in f3
    obtain ⟨a4, c4, l4, e4, h4⟩ := tests_in f4
    obtain ⟨b5, e5, -⟩ := DataW.trod_bool Try.underlying4 f5
    obtain ⟨a6, c6, l6, e6, m6, h6', o6⟩ := slice_in (K := 7) encC (CoIn W) (by omega) (fun _ => rfl) Try.underlying22 (by kernel_rfl) (fun n hh cs x h => ih n (by omega) cs x h) f6
    cases e0
    cases e1
    cases e2
    cases e3
    cases e4
    cases e5
    cases e6
    have h6 : CondsIn W a6 l6 := .mk a6 l6 h6' (fun c hc => (o6 c hc).1) (fun c hc => (o6 c hc).2.1) (fun c hc => (o6 c hc).2.2) m6.1
    exact ⟨.mk ⟨k0, b1, s2, l3, a3, c3, l4, a4, c4, b5, a6, c6⟩ l6, rfl, h3, h4, h6⟩
theorem conds_in {n : Nat} {cs : List Value} {x : DataW H × List MemPlace} (ht : DataW.trod enc Try.prog W base spare held n 22 cs = some x) : ∃ (a : Option Addr) (cap : Nat) (l : List Co), cs = [.slice a l.length cap] ∧ CondsIn W a l ∧ l.length ≤ cap := by
  obtain ⟨a, cap, l, h1, h2, h3, h4⟩ := slice_in (K := 7) encC (CoIn W) (by omega) (fun _ => rfl) Try.underlying22 (by kernel_rfl) (fun n _ cs x h => cond_in (n + 1) n (by omega) h) ht
  exact ⟨a, cap, l, h1, .mk a l h3 (fun c hc => (h4 c hc).1) (fun c hc => (h4 c hc).2.1) (fun c hc => (h4 c hc).2.2) h2.1, h2.2⟩
theorem acts_in {n : Nat} {cs : List Value} {x : DataW H × List MemPlace} (ht : DataW.trod enc Try.prog W base spare held n 23 cs = some x) : ∃ (a : Option Addr) (cap : Nat) (l : List Ac), cs = [.slice a l.length cap] ∧ EltsK encA 19 W a l ∧ l.length ≤ maxLen := by
  obtain ⟨a, cap, l, h1, h2, h3, -⟩ := slice_in (K := 19) encA (fun _ => True) (by omega) (fun _ => rfl) Try.underlying23 (by kernel_rfl) (fun n _ cs x h => by obtain ⟨t, e⟩ := act_in h; exact ⟨t, e, trivial⟩) ht
  exact ⟨a, cap, l, h1, h3, h2.1⟩
/-- A production that came in, as one value. -/
theorem arg_prod {cs : Array Value} {d : DataW H} {p : List MemPlace} (h : DataW.Trod enc Try.prog W base spare held 25 (.agg cs) d p) : ∃ p : Pr, cs = #[.string p.name, .slice p.ca p.conds.length p.cc, .slice p.aa p.acts.length p.ac] ∧ PrIn W p := by
  obtain ⟨m, ht⟩ := h
  obtain ⟨ys, n', hn', hy, hcl, hyl, hfl⟩ := DataW.trod_struct Try.underlying25 ht
  simp only [Value.cells] at hcl hfl
  obtain ⟨cs⟩ := cs
  simp only at hcl hfl
  have hC : Try.prog.cellsOf 25 = 3 := by kernel_rfl
  rw [hC] at hcl
  obtain ⟨u0, u1, u2, rfl⟩ := list3 hcl
  obtain ⟨y0, y1, y2, rfl⟩ := list3 (hyl.trans rfl)
  have c_string : Try.prog.cellsOf 9 = 1 := by kernel_rfl
  have f0 := hfl 0 _ rfl
  have c_conds : Try.prog.cellsOf 22 = 1 := by kernel_rfl
  have f1 := hfl 1 _ rfl
  have c_acts : Try.prog.cellsOf 23 = 1 := by kernel_rfl
  have f2 := hfl 2 _ rfl
  simp only [List.getElem_toArray, List.getElem_cons_zero, List.getElem_cons_succ] at f0 f1 f2
  rw [c_string] at f0
  rw [c_conds] at f1
  rw [c_acts] at f2
  clear hfl hy hcl hyl
  simp only [List.drop_zero, List.drop_succ_cons, List.take_succ_cons, List.take_zero, List.getElem?_cons_zero, List.getElem?_cons_succ] at f0 f1 f2
  obtain ⟨s0, e0, -, z0⟩ := DataW.trod_string Try.underlying9 f0
  obtain ⟨a1, c1, l1, e1, h1, r1⟩ := conds_in f1
  obtain ⟨a2, c2, l2, e2, h2, m2⟩ := acts_in f2
  cases e0
  cases e1
  cases e2
  exact ⟨⟨s0, l1, a1, c1, l2, a2, c2⟩, rfl, h1, h2, m2, z0, r1⟩
end
end Go.Proofs.Ytccphigpobnjmaa
