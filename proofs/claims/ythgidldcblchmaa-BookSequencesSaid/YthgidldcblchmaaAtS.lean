/-
  Walks over package order at ponder/api.Sym: at, At; the law's own example. No condition but bounds on numbers.
-/
import Derived.Test.YthgidldcblchmaaNewS
import Derived.Test.YthgidldcblchmaaZeroS
import Derived.Deep.LoopGhost
namespace Go.Proofs.Ythgidldcblchmaa
set_option linter.unusedVariables false
open Go.RowKit
def getI {α : Type} (xs : List α) (i : Int) : Option α := if i < 0 then none else xs[i.toNat]?
theorem getI_neg {α : Type} (xs : List α) {i : Int} (h : i < 0) : getI xs i = none := by simp [getI, h]
theorem getI_nil {α : Type} (i : Int) : getI ([] : List α) i = none := by unfold getI; split <;> simp
theorem getI_lt {α : Type} {a b : List α} {v : α} {i : Int} (h : i < a.length) : getI (a ++ v :: b) i = getI a i := by
  unfold getI; split
  · rfl
  · rw [List.getElem?_append_left (by omega)]
theorem getI_eq {α : Type} {a b : List α} {v : α} {i : Int} (h : i = a.length) : getI (a ++ v :: b) i = some v := by
  unfold getI; rw [if_neg (by omega)]; rw [List.getElem?_append_right (by omega)]; simp [h]
theorem getI_gt {α : Type} {a b : List α} {v : α} {i : Int} (h : a.length < i) : getI (a ++ v :: b) i = getI b (i - (a.length + 1)) := by
  unfold getI; rw [if_neg (by omega), if_neg (by omega), List.getElem?_append_right (by omega)]
  have : i.toNat - a.length = (i - (a.length + 1)).toNat + 1 := by omega
  rw [this]; rfl
def AtOut (w : World) (o : Option Sy) (e : Ending) (w' : World) : Prop :=
  Below w.heap.size w w' ∧ match o with
    | some v => e = .returned (.tuple #[.agg #[.int .i64 v.k, .string v.t, .int .i64 v.n], .bool true])
    | none => e = .returned (.tuple #[.agg #[.int .i64 0, .string ⟨#[]⟩, .int .i64 0], .bool false])
set_option maxHeartbeats 1000000 in
theorem at_any (i : Int) (w : World) (p : Option Addr) (T : BT Sy) (h : TreeS w p T) (hi : -9223372036854775808 ≤ i) (hi2 : i ≤ 9223372036854775807) (hz : T.size ≤ 100000000) :
    Calls Try.prog 82 #[.pointer p, .int .i64 i] w (AtOut w (getI T.toList i)) := by
  have hsome : ∀ (v : Sy) e (w' : World), getI T.toList i = some v → e = .returned (.tuple #[.agg #[.int .i64 v.k, .string v.t, .int .i64 v.n], .bool true]) → Below w.heap.size w w' → AtOut w (getI T.toList i) e w' := by
    intro v e w' h1 h2 h3; rw [h1]; exact ⟨h3, h2⟩
  have hnone : ∀ e (w' : World), getI T.toList i = none → e = .returned (.tuple #[.agg #[.int .i64 0, .string ⟨#[]⟩, .int .i64 0], .bool false]) → Below w.heap.size w w' → AtOut w (getI T.toList i) e w' := by
    intro e w' h1 h2 h3; rw [h1]; exact ⟨h3, h2⟩
  have Hsome := Lib.hid hsome
  have Hnone := Lib.hid hnone
  have h' : Hid (TreeS w p T) := h
  clear hsome hnone h
  go_enter Try.func82, Try.ntmps82
  go_wp2_with fail
  go_loopg [0, 1] T.size (fun k ps is wr => ∃ (T' : BT Sy) (pa : Option Addr) (ii : Int), ps = .pointer pa ∧ is = .int .i64 ii ∧ k = T'.size ∧ T'.size ≤ T.size ∧ TreeS w pa T' ∧ wr = w.alloc (.cells #[.int .i64 0, .string ⟨#[]⟩, .int .i64 0] 27) ∧ getI T.toList i = getI T'.toList ii ∧ -9223372036854775808 ≤ ii ∧ ii ≤ 9223372036854775807)
  case atStart => exact ⟨T, p, i, rfl, rfl, rfl, Nat.le_refl _, h'.out, rfl, rfl, hi, hi2⟩
  case round =>
    obtain ⟨T', pa, ii, rfl, rfl, rfl, hle, ht, rfl, hg, hl, hu⟩ := hrel
    cases T' with
    | leaf =>
      obtain rfl : pa = none := ht
      have HG := Lib.hid (hg.trans (getI_nil ii))
      clear hg
      go_wp2_with fail
      go_returns
      exact Hnone.out _ _ HG.out rfl (by go_grown)
    | node l v r =>
      obtain ⟨b, pl, pr, rfl, hc, htl, htr⟩ := ht
      obtain ⟨c0, c1, c2, c3, c4, -⟩ := node_cellsS (w := w.alloc (.cells #[.int .i64 0, .string ⟨#[]⟩, .int .i64 0] 27)) hc (by go_grown)
      have hb : b < w.heap.size := heap_lt hc
      have hlen := len_anyS w (w.alloc (.cells #[.int .i64 0, .string ⟨#[]⟩, .int .i64 0] 27)) pl l htl (by go_grown)
      have Hlen := Lib.hid hlen
      have htl' : Hid (TreeS w pl l) := htl
      have htr' : Hid (TreeS w pr r) := htr
      simp only [BT.size] at hle
      have HG := Lib.hid hg
      have hgn : ((BT.node l v r).size = l.size + 1 + r.size) := rfl
      have HGN := Lib.hid hgn
      clear hc htl htr hlen hg hgn
      by_cases h1 : ii = l.size
      · have hv : getI T.toList i = some v := HG.out.trans (getI_eq (by rw [← BT.size_eq]; exact h1))
        have Hv := Lib.hid hv
        have h1b : ((ii : Int) == (l.size : Int)) = true := by simpa using h1
        clear hv h1
        go_wp2_with (go_at_call 83; refine Hlen.out.mono ?_; rintro e w' ⟨rfl, rfl⟩)
        go_returns
        exact Hsome.out v _ _ Hv.out rfl (by go_grown)
      · have h1b : ((ii : Int) == (l.size : Int)) = false := by simpa using h1
        by_cases h2 : ii < l.size
        · have hn := getI_lt (a := l.toList) (b := r.toList) (v := v) (i := ii) (by rw [← BT.size_eq]; exact h2)
          have Hn := Lib.hid (HG.out.trans hn)
          clear hn h1
          go_wp2_with (go_at_call 83; refine Hlen.out.mono ?_; rintro e w' ⟨rfl, rfl⟩)
          go_roundg l.size
          case measure => rw [HGN.out]; omega
          case rel => exact ⟨l, pl, ii, rfl, rfl, rfl, by omega, htl'.out, rfl, Hn.out, hl, hu⟩
        · have hn := getI_gt (a := l.toList) (b := r.toList) (v := v) (i := ii) (by rw [← BT.size_eq]; omega)
          rw [← BT.size_eq] at hn
          have Hn := Lib.hid (HG.out.trans hn)
          have h3 : (l.size : Int) < ii := by omega
          clear hn h1 h2
          go_wp2_with (go_at_call 83; refine Hlen.out.mono ?_; rintro e w' ⟨rfl, rfl⟩)
          go_roundg r.size
          case measure => rw [HGN.out]; omega
          case rel => exact ⟨r, pr, ii - (l.size + 1), rfl, rfl, rfl, by omega, htr'.out, rfl, Hn.out, by omega, by omega⟩

theorem at_set (i : Int) (w : World) (b : Nat) (xs : List Sy) (h : SetS w b xs) (hi : -9223372036854775808 ≤ i) (hi2 : i ≤ 9223372036854775807) (hz : xs.length ≤ 100000000) :
    Calls Try.prog 51 #[.pointer (some ⟨b, 0, none⟩), .int .i64 i] w (AtOut w (getI xs i)) := by
  obtain ⟨p, T, hr, ht, rfl, -⟩ := h
  have hB : Below w.heap.size w (w.alloc (.cells #[.int .i64 0, .string ⟨#[]⟩, .int .i64 0] 27)) := by go_grown
  have h0 : (w.alloc (.cells #[.int .i64 0, .string ⟨#[]⟩, .int .i64 0] 27)).cell? ⟨b, 0, none⟩ = some (.pointer p) := by rw [cells_of ((hB.block b (heap_lt hr)).trans hr)]; rfl
  have hat := at_any i (w.alloc (.cells #[.int .i64 0, .string ⟨#[]⟩, .int .i64 0] 27)) p T (ht.mono hB) hi hi2 (by rw [BT.size_eq]; exact hz)
  have hlt := heap_lt hr
  have Hat := Lib.hid hat
  clear hat hr ht
  have after : ∀ w1, Below (w.alloc (.cells #[.int .i64 0, .string ⟨#[]⟩, .int .i64 0] 27)).heap.size (w.alloc (.cells #[.int .i64 0, .string ⟨#[]⟩, .int .i64 0] 27)) w1 → Below w.heap.size w w1 ∧ w.heap.size < w1.heap.size ∧
      w1.cell? ⟨w.heap.size, 0, none⟩ = some (.int .i64 0) ∧ w1.cell? ⟨w.heap.size, 1, none⟩ = some (.string ⟨#[]⟩) ∧ w1.cell? ⟨w.heap.size, 2, none⟩ = some (.int .i64 0) ∧
      w1.frozen? ⟨w.heap.size, 0, none⟩ = false ∧ w1.frozen? ⟨w.heap.size, 1, none⟩ = false ∧ w1.frozen? ⟨w.heap.size, 2, none⟩ = false ∧ Hid (∃ u0 u1 u2, w1.heap[w.heap.size]? = some (.cells #[u0, u1, u2] 27 (0, 0))) := by
    intro w1 h
    have hk := (h.block w.heap.size (by simp)).trans (new_at rfl)
    have := h.size
    rw [World.size_alloc] at this
    exact ⟨hB.trans (h.mono hB.size), by omega, by rw [cells_of hk]; rfl, by rw [cells_of hk]; rfl, by rw [cells_of hk]; rfl, frozen_of hk, frozen_of hk, frozen_of hk, ⟨_, _, _, hk⟩⟩
  have Hafter := Lib.hid after
  clear after
  generalize getI T.toList i = o at Hat ⊢
  cases o with
  | some v =>
    unfold AtOut at Hat
    have hfin : ∀ e w', Below w.heap.size w w' → e = .returned (.tuple #[.agg #[.int .i64 v.k, .string v.t, .int .i64 v.n], .bool true]) → AtOut w (some v) e w' := fun e w' h1 h2 => ⟨h1, h2⟩
    have Hfin := Lib.hid hfin
    clear hfin
    go_enter Try.func51, Try.ntmps51
    go_wp2_with (go_at_call 82; refine Hat.out.mono ?_; rintro e w1 ⟨hb1, rfl⟩; obtain ⟨hbw, hz1, q0, q1, q2, f0, f1, f2, HK⟩ := Hafter.out _ hb1; clear hb1)
    obtain ⟨u0, u1, u2, hk⟩ := HK.out
    obtain ⟨s0, s1, s2⟩ := set3 (a := .int .i64 v.k) (b := .string v.t) (c := .int .i64 v.n) hk
    refine bodyPost_ret (by simp [results, Try.results51, go_sem, s0, s1, s2]; rfl) rfl ?_
    exact Hfin.out _ _ (by go_grown) rfl
  | none =>
    unfold AtOut at Hat
    have hfin : ∀ e w', Below w.heap.size w w' → e = .returned (.tuple #[.agg #[.int .i64 0, .string ⟨#[]⟩, .int .i64 0], .bool false]) → AtOut w none e w' := fun e w' h1 h2 => ⟨h1, h2⟩
    have Hfin := Lib.hid hfin
    clear hfin
    go_enter Try.func51, Try.ntmps51
    go_wp2_with (go_at_call 82; refine Hat.out.mono ?_; rintro e w1 ⟨hb1, rfl⟩; obtain ⟨hbw, hz1, q0, q1, q2, f0, f1, f2, HK⟩ := Hafter.out _ hb1; clear hb1)
    obtain ⟨u0, u1, u2, hk⟩ := HK.out
    obtain ⟨s0, s1, s2⟩ := set3 (a := .int .i64 0) (b := .string ⟨#[]⟩) (c := .int .i64 0) hk
    refine bodyPost_ret (by simp [results, Try.results51, go_sem, s0, s1, s2]; rfl) rfl ?_
    exact Hfin.out _ _ (by go_grown) rfl

def sSy (n : Int) : Sy := ⟨1, ⟨#[83]⟩, n⟩
theorem wakes_ins : insAll cmpY [] [sSy 2, sSy 1, sSy 2] = [sSy 1, sSy 2] := by
  have h1 : cmpY (sSy 1) (sSy 2) = -1 := by simp [cmpY, sSy, cmpI, cmpS_cmp.refl]
  have h2 : cmpY (sSy 2) (sSy 1) = 1 := by simp [cmpY, sSy, cmpI, cmpS_cmp.refl]
  have h3 : cmpY (sSy 2) (sSy 2) = 0 := cmpY_cmp.refl _
  simp [insAll, ins, h1, h2, h3]
theorem wakes_any (w : World) : Calls Try.prog 10 #[] w fun e w' => e = .returned (.bool true) ∧ Below w.heap.size w w' := by
  have hnew := new_anyS (w.alloc (.cells #[.int .i64 1, .string ⟨#[83]⟩, .int .i64 2, .int .i64 1, .string ⟨#[83]⟩, .int .i64 1, .int .i64 1, .string ⟨#[83]⟩, .int .i64 2] 27)) (.slice (some ⟨w.heap.size, 0, none⟩) 3 3) [sSy 2, sSy 1, sSy 2]
    (.inr ⟨w.heap.size, 0, 3, rfl, by simp, by decide, by
      intro i hi j c hc
      rw [cells_of (new_at rfl)]
      match i, hi with
      | 0, _ => match j with
        | 0 => exact hc
        | 1 => exact hc
        | 2 => exact hc
        | _ + 3 => simp at hc
      | 1, _ => match j with
        | 0 => exact hc
        | 1 => exact hc
        | 2 => exact hc
        | _ + 3 => simp at hc
      | 2, _ => match j with
        | 0 => exact hc
        | 1 => exact hc
        | 2 => exact hc
        | _ + 3 => simp at hc⟩) (by simp)
  have hnew2 := hnew.mono (R' := fun e w1 => ∃ b, e = .returned (.pointer (some ⟨b, 0, none⟩)) ∧ Below w.heap.size w w1 ∧ Hid (SetS w1 b [sSy 1, sSy 2])) (by
    rintro e w1 ⟨b, h1, h2, h3, h4⟩
    rw [wakes_ins] at h4
    have hB : Below w.heap.size w (w.alloc (.cells #[.int .i64 1, .string ⟨#[83]⟩, .int .i64 2, .int .i64 1, .string ⟨#[83]⟩, .int .i64 1, .int .i64 1, .string ⟨#[83]⟩, .int .i64 2] 27)) := by go_grown
    exact ⟨b, h1, hB.trans (h3.mono hB.size), h4⟩)
  have hat := fun (w1 : World) b h => (at_set 0 w1 b [sSy 1, sSy 2] h (by omega) (by omega) (by simp)).mono (R' := fun e w2 => Below w1.heap.size w1 w2 ∧ e = .returned (.tuple #[.agg #[.int .i64 1, .string ⟨#[83]⟩, .int .i64 1], .bool true])) (fun e w2 h => h)
  have hlen := fun (w1 : World) b h => (len_setS w1 b [sSy 1, sSy 2] h).mono (R' := fun e w2 => e = .returned (.int .i64 2) ∧ w1 = w2) (fun e w2 h => h)
  have Hnew := Lib.hid hnew2
  have Hat := Lib.hid hat
  have Hlen := Lib.hid hlen
  clear hnew hnew2 hat hlen
  go_enter Try.func10, Try.ntmps10
  go_wp2_with (first
    | (go_at_call 50; refine Hnew.out.mono ?_; rintro e w1 ⟨b, rfl, hb1, hs1⟩)
    | (go_at_call 51; refine (Hat.out _ _ hs1.out).mono ?_; rintro e w2 ⟨hb2, rfl⟩; have hz2 := hb2.size; have hz1 := hb1.size; have hbw := hb1.trans (hb2.mono hb1.size); have hz3 := hbw.size)
    | (go_at_call 52; refine (Hlen.out _ _ ?_).mono ?_; (exact IsSet.mono hs1.out (by go_grown)); rintro e w3 ⟨rfl, rfl⟩))
  go_ret
  exact ⟨rfl, by go_grown⟩
end Go.Proofs.Ythgidldcblchmaa
