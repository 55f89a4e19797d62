/-
  Walks over package order at ponder/book.pair[ponder/api.Sym, int]: at, At. No condition but bounds on numbers.
-/
import Derived.Test.YthgidldcblchmaaAtS
import Derived.Test.YthgidldcblchmaaFindP
import Derived.Deep.LoopGhost
namespace Go.Proofs.Ythgidldcblchmaa
set_option linter.unusedVariables false
open Go.RowKit
def AtOutP (w : World) (o : Option Pr) (e : Ending) (w' : World) : Prop :=
  Below w.heap.size w w' ∧ match o with
    | some v => e = .returned (.tuple #[.agg #[.int .i64 v.k.k, .string v.k.t, .int .i64 v.k.n, .int .i64 v.v], .bool true])
    | none => e = .returned (.tuple #[.agg #[.int .i64 0, .string ⟨#[]⟩, .int .i64 0, .int .i64 0], .bool false])
set_option maxHeartbeats 1000000 in
theorem at_anyP (i : Int) (w : World) (p : Option Addr) (T : BT Pr) (h : TreeP w p T) (hi : -9223372036854775808 ≤ i) (hi2 : i ≤ 9223372036854775807) (hz : T.size ≤ 100000000) :
    Calls Try.prog 89 #[.pointer p, .int .i64 i] w (AtOutP w (getI T.toList i)) := by
  have hsome : ∀ (v : Pr) e (w' : World), getI T.toList i = some v → e = .returned (.tuple #[.agg #[.int .i64 v.k.k, .string v.k.t, .int .i64 v.k.n, .int .i64 v.v], .bool true]) → Below w.heap.size w w' → AtOutP w (getI T.toList i) e w' := by
    intro v e w' h1 h2 h3; rw [h1]; exact ⟨h3, h2⟩
  have hnone : ∀ e (w' : World), getI T.toList i = none → e = .returned (.tuple #[.agg #[.int .i64 0, .string ⟨#[]⟩, .int .i64 0, .int .i64 0], .bool false]) → Below w.heap.size w w' → AtOutP w (getI T.toList i) e w' := by
    intro e w' h1 h2 h3; rw [h1]; exact ⟨h3, h2⟩
  have Hsome := Lib.hid hsome
  have Hnone := Lib.hid hnone
  have h' : Hid (TreeP w p T) := h
  clear hsome hnone h
  go_enter Try.func89, Try.ntmps89
  go_wp2_with fail
  go_loopg [0, 1] T.size (fun k ps is wr => ∃ (T' : BT Pr) (pa : Option Addr) (ii : Int), ps = .pointer pa ∧ is = .int .i64 ii ∧ k = T'.size ∧ T'.size ≤ T.size ∧ TreeP w pa T' ∧ wr = w.alloc (.cells #[.int .i64 0, .string ⟨#[]⟩, .int .i64 0, .int .i64 0] 100) ∧ getI T.toList i = getI T'.toList ii ∧ -9223372036854775808 ≤ ii ∧ ii ≤ 9223372036854775807)
  case atStart => exact ⟨T, p, i, rfl, rfl, rfl, Nat.le_refl _, h'.out, rfl, rfl, hi, hi2⟩
  case round =>
    obtain ⟨T', pa, ii, rfl, rfl, rfl, hle, ht, rfl, hg, hl, hu⟩ := hrel
    cases T' with
    | leaf =>
      obtain rfl : pa = none := ht
      have HG := Lib.hid (hg.trans (getI_nil ii))
      clear hg
      go_wp2_with fail
      go_returns
      exact Hnone.out _ _ HG.out rfl (by go_grown)
    | node l v r =>
      obtain ⟨b, pl, pr, rfl, hc, htl, htr⟩ := ht
      obtain ⟨c0, c1, c2, c3, c4, c5, -⟩ := node_cellsP (w := w.alloc (.cells #[.int .i64 0, .string ⟨#[]⟩, .int .i64 0, .int .i64 0] 100)) hc (by go_grown)
      have hb : b < w.heap.size := heap_lt hc
      have hlen := len_anyP w (w.alloc (.cells #[.int .i64 0, .string ⟨#[]⟩, .int .i64 0, .int .i64 0] 100)) pl l htl (by go_grown)
      have Hlen := Lib.hid hlen
      have htl' : Hid (TreeP w pl l) := htl
      have htr' : Hid (TreeP w pr r) := htr
      simp only [BT.size] at hle
      have HG := Lib.hid hg
      have hgn : ((BT.node l v r).size = l.size + 1 + r.size) := rfl
      have HGN := Lib.hid hgn
      clear hc htl htr hlen hg hgn
      by_cases h1 : ii = l.size
      · have hv : getI T.toList i = some v := HG.out.trans (getI_eq (by rw [← BT.size_eq]; exact h1))
        have Hv := Lib.hid hv
        have h1b : ((ii : Int) == (l.size : Int)) = true := by simpa using h1
        clear hv h1
        go_wp2_with (go_at_call 90; refine Hlen.out.mono ?_; rintro e w' ⟨rfl, rfl⟩)
        go_returns
        exact Hsome.out v _ _ Hv.out rfl (by go_grown)
      · have h1b : ((ii : Int) == (l.size : Int)) = false := by simpa using h1
        by_cases h2 : ii < l.size
        · have hn := getI_lt (a := l.toList) (b := r.toList) (v := v) (i := ii) (by rw [← BT.size_eq]; exact h2)
          have Hn := Lib.hid (HG.out.trans hn)
          clear hn h1
          go_wp2_with (go_at_call 90; refine Hlen.out.mono ?_; rintro e w' ⟨rfl, rfl⟩)
          go_roundg l.size
          case measure => rw [HGN.out]; omega
          case rel => exact ⟨l, pl, ii, rfl, rfl, rfl, by omega, htl'.out, rfl, Hn.out, hl, hu⟩
        · have hn := getI_gt (a := l.toList) (b := r.toList) (v := v) (i := ii) (by rw [← BT.size_eq]; omega)
          rw [← BT.size_eq] at hn
          have Hn := Lib.hid (HG.out.trans hn)
          have h3 : (l.size : Int) < ii := by omega
          clear hn h1 h2
          go_wp2_with (go_at_call 90; refine Hlen.out.mono ?_; rintro e w' ⟨rfl, rfl⟩)
          go_roundg r.size
          case measure => rw [HGN.out]; omega
          case rel => exact ⟨r, pr, ii - (l.size + 1), rfl, rfl, rfl, by omega, htr'.out, rfl, Hn.out, by omega, by omega⟩

theorem at_setP (i : Int) (w : World) (b : Nat) (xs : List Pr) (h : SetP w b xs) (hi : -9223372036854775808 ≤ i) (hi2 : i ≤ 9223372036854775807) (hz : xs.length ≤ 100000000) :
    Calls Try.prog 65 #[.pointer (some ⟨b, 0, none⟩), .int .i64 i] w (AtOutP w (getI xs i)) := by
  obtain ⟨p, T, hr, ht, rfl, -⟩ := h
  have hB : Below w.heap.size w (w.alloc (.cells #[.int .i64 0, .string ⟨#[]⟩, .int .i64 0, .int .i64 0] 100)) := by go_grown
  have h0 : (w.alloc (.cells #[.int .i64 0, .string ⟨#[]⟩, .int .i64 0, .int .i64 0] 100)).cell? ⟨b, 0, none⟩ = some (.pointer p) := by rw [cells_of ((hB.block b (heap_lt hr)).trans hr)]; rfl
  have hat := at_anyP i (w.alloc (.cells #[.int .i64 0, .string ⟨#[]⟩, .int .i64 0, .int .i64 0] 100)) p T (ht.mono hB) hi hi2 (by rw [BT.size_eq]; exact hz)
  have hlt := heap_lt hr
  have Hat := Lib.hid hat
  clear hat hr ht
  have after : ∀ w1, Below (w.alloc (.cells #[.int .i64 0, .string ⟨#[]⟩, .int .i64 0, .int .i64 0] 100)).heap.size (w.alloc (.cells #[.int .i64 0, .string ⟨#[]⟩, .int .i64 0, .int .i64 0] 100)) w1 → Below w.heap.size w w1 ∧ w.heap.size < w1.heap.size ∧
      w1.cell? ⟨w.heap.size, 0, none⟩ = some (.int .i64 0) ∧ w1.cell? ⟨w.heap.size, 1, none⟩ = some (.string ⟨#[]⟩) ∧ w1.cell? ⟨w.heap.size, 2, none⟩ = some (.int .i64 0) ∧ w1.cell? ⟨w.heap.size, 3, none⟩ = some (.int .i64 0) ∧
      w1.frozen? ⟨w.heap.size, 0, none⟩ = false ∧ w1.frozen? ⟨w.heap.size, 1, none⟩ = false ∧ w1.frozen? ⟨w.heap.size, 2, none⟩ = false ∧ w1.frozen? ⟨w.heap.size, 3, none⟩ = false ∧ Hid (∃ u0 u1 u2 u3, w1.heap[w.heap.size]? = some (.cells #[u0, u1, u2, u3] 100 (0, 0))) := by
    intro w1 h
    have hk := (h.block w.heap.size (by simp)).trans (new_at rfl)
    have := h.size
    rw [World.size_alloc] at this
    exact ⟨hB.trans (h.mono hB.size), by omega, by rw [cells_of hk]; rfl, by rw [cells_of hk]; rfl, by rw [cells_of hk]; rfl, by rw [cells_of hk]; rfl, frozen_of hk, frozen_of hk, frozen_of hk, frozen_of hk, ⟨_, _, _, _, hk⟩⟩
  have Hafter := Lib.hid after
  clear after
  generalize getI T.toList i = o at Hat ⊢
  cases o with
  | some v =>
    unfold AtOutP at Hat
    have hfin : ∀ e w', Below w.heap.size w w' → e = .returned (.tuple #[.agg #[.int .i64 v.k.k, .string v.k.t, .int .i64 v.k.n, .int .i64 v.v], .bool true]) → AtOutP w (some v) e w' := fun e w' h1 h2 => ⟨h1, h2⟩
    have Hfin := Lib.hid hfin
    clear hfin
    go_enter Try.func65, Try.ntmps65
    go_wp2_with (go_at_call 89; refine Hat.out.mono ?_; rintro e w1 ⟨hb1, rfl⟩; obtain ⟨hbw, hz1, q0, q1, q2, q3, f0, f1, f2, f3, HK⟩ := Hafter.out _ hb1; clear hb1)
    obtain ⟨u0, u1, u2, u3, hk⟩ := HK.out
    obtain ⟨s0, s1, s2, s3⟩ := setcellsP v hk
    refine bodyPost_ret (by simp [results, Try.results65, go_sem, s0, s1, s2, s3]; rfl) rfl ?_
    exact Hfin.out _ _ (by go_grown) rfl
  | none =>
    unfold AtOutP at Hat
    have hfin : ∀ e w', Below w.heap.size w w' → e = .returned (.tuple #[.agg #[.int .i64 0, .string ⟨#[]⟩, .int .i64 0, .int .i64 0], .bool false]) → AtOutP w none e w' := fun e w' h1 h2 => ⟨h1, h2⟩
    have Hfin := Lib.hid hfin
    clear hfin
    go_enter Try.func65, Try.ntmps65
    go_wp2_with (go_at_call 89; refine Hat.out.mono ?_; rintro e w1 ⟨hb1, rfl⟩; obtain ⟨hbw, hz1, q0, q1, q2, q3, f0, f1, f2, f3, HK⟩ := Hafter.out _ hb1; clear hb1)
    obtain ⟨u0, u1, u2, u3, hk⟩ := HK.out
    have hset := setcellsP zeroP hk
    simp only [zeroP, zeroS] at hset
    obtain ⟨s0, s1, s2, s3⟩ := hset
    refine bodyPost_ret (by simp [results, Try.results65, go_sem, s0, s1, s2, s3]; rfl) rfl ?_
    exact Hfin.out _ _ (by go_grown) rfl

end Go.Proofs.Ythgidldcblchmaa
