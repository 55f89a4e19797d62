/-
  ponderkeep.Syms of a list with itself.
-/
import Derived.Test.YthgidldcblchmaaOwnsS
namespace Go.Proofs.Ythgidldcblchmaa
set_option linter.unusedVariables false
open Go.RowKit
theorem neq_self (x : Sy) (w : World) : (binOp .neq 27 (.agg #[.int .i64 x.k, .string x.t, .int .i64 x.n]) (.agg #[.int .i64 x.k, .string x.t, .int .i64 x.n])).run Try.prog w = .ok (.bool false) w := by
  simp [go_sem]
theorem syms_empty (w : World) (pa pb : Option Addr) (ca cb : Nat) : Calls Try.prog 33 #[.slice pa 0 ca, .slice pb 0 cb] w fun e w' => e = .returned (.bool true) ∧ Below w.heap.size w w' := by
  go_enter Try.func33, Try.ntmps33
  go_wp2_with fail
  go_loopw [5] (fun i wr => i = .int .i64 0 ∧ wr = w) (fun _ _ => 0)
  case atStart => exact ⟨rfl, rfl⟩
  case round =>
    obtain ⟨rfl, rfl⟩ := hrel
    go_wp2_with fail
    go_ret
    exact ⟨rfl, Below.refl _ _⟩
set_option maxRecDepth 100000 in
set_option maxHeartbeats 4000000 in
theorem syms_some (w : World) (a oa ca b ob cb : Nat) (xs : List Sy) (hz : xs.length ≤ 1000000) (ha : a < w.heap.size) (hb : b < w.heap.size)
    (hca : ∀ i (h : i < xs.length) j c, (encS xs[i])[j]? = some c → w.cell? ⟨a, oa + i * 3 + j, none⟩ = some c) (hcb : ∀ i (h : i < xs.length) j c, (encS xs[i])[j]? = some c → w.cell? ⟨b, ob + i * 3 + j, none⟩ = some c) :
    Calls Try.prog 33 #[.slice (some ⟨a, oa, none⟩) xs.length ca, .slice (some ⟨b, ob, none⟩) xs.length cb] w fun e w' => e = .returned (.bool true) ∧ Below w.heap.size w w' := by
  have Ha := Lib.hid hca
  have Hb := Lib.hid hcb
  clear hca hcb
  go_enter Try.func33, Try.ntmps33
  go_wp2_with fail
  go_loopw [5] (fun i wr => ∃ k : Nat, k ≤ xs.length ∧ i = .int .i64 k ∧ Below w.heap.size w wr) (fun i _ => xs.length - (intOf i).toNat)
  case atStart => exact ⟨0, Nat.zero_le _, rfl, Below.refl _ _⟩
  case round =>
    obtain ⟨k, hk, rfl, hbw⟩ := hrel
    by_cases hlt : k < xs.length
    · have h0 := fun j c h => (hbw.cell (p := ⟨a, oa + k * 3 + j, none⟩) ha).trans (Ha.out k hlt j c h)
      have g0 := fun j c h => (hbw.cell (p := ⟨b, ob + k * 3 + j, none⟩) hb).trans (Hb.out k hlt j c h)
      generalize xs[k] = x at h0 g0
      have c0 := h0 0 _ rfl
      have c1 := h0 1 _ rfl
      have c2 := h0 2 _ rfl
      have d0 := g0 0 _ rfl
      have d1 := g0 1 _ rfl
      have d2 := g0 2 _ rfl
      simp only [Nat.add_zero] at c0 d0
      have hne := neq_self x
      have hki : (k : Int) < (xs.length : Int) := by omega
      clear h0 g0
      go_wp2_with fail
      go_quiet (fail)
      go_wp2_with fail
      go_roundw
      case rel => exact ⟨k + 1, by omega, by go_num, bdN _ hbw⟩
      case measure => simp [intOf]; omega
    · obtain rfl : k = xs.length := by omega
      go_wp2_with fail
      go_ret
      exact ⟨rfl, hbw⟩
theorem syms_self (w : World) (va vb : Value) (xs : List Sy) (hz : xs.length ≤ 1000000) (ha : SliceAt encS 3 w va xs) (hb : SliceAt encS 3 w vb xs) :
    Calls Try.prog 33 #[va, vb] w fun e w' => e = .returned (.bool true) ∧ Below w.heap.size w w' := by
  rcases ha with ⟨rfl, rfl⟩ | ⟨a, oa, ca, rfl, ha, -, hca⟩
  · rcases hb with ⟨rfl, -⟩ | ⟨b, ob, cb, rfl, -, -, -⟩
    · exact syms_empty w _ _ _ _
    · exact syms_empty w _ _ _ _
  · rcases hb with ⟨rfl, rfl⟩ | ⟨b, ob, cb, rfl, hb, -, hcb⟩
    · exact syms_empty w _ _ _ _
    · exact syms_some w a oa ca b ob cb xs hz ha hb hca hcb
theorem ArgAt.at {w : World} {p : Option Addr} {n c : Nat} {xs : List Sy} (h : ArgAt w (.slice p n c) xs) (hn : 0 < xs.length) :
    ∃ b off, p = some ⟨b, off, none⟩ ∧ b < w.heap.size ∧ ∀ i (h : i < xs.length) j u, (encS xs[i])[j]? = some u → w.cell? ⟨b, off + i * 3 + j, none⟩ = some u := by
  rcases h with ⟨a, cap, -, rfl⟩ | ⟨-, rfl⟩ | ⟨b, off, cap, h1, h2, -, h4⟩
  · simp at hn
  · simp at hn
  · cases h1; exact ⟨b, off, rfl, h2, h4⟩
theorem SliceAt.but {w w' : World} {v : Value} {ys : List Sy} {x : Nat} {p : Value} {t : TypeId} {f : Nat × Nat} (h : SliceAt encS 3 w v ys) (hg : w.grownBy w' (some x)) (hr : w.heap[x]? = some (.cells #[p] t f)) : SliceAt encS 3 w' v ys := by
  rcases h with h | ⟨b, off, cap, h1, h2, h3, h4⟩
  · exact .inl h
  · refine .inr ⟨b, off, cap, h1, Nat.lt_of_lt_of_le h2 hg.size, h3, fun i hi j c hc => ?_⟩
    have hne : b ≠ x := by
      rintro rfl
      have h5 := h4 i hi 1 _ rfl
      have h6 := h4 i hi 2 _ rfl
      rw [cells_of hr] at h5
      simp at h5
    have hb := hg.block b h2 (by simpa using hne)
    have := h4 i hi j c hc
    simpa [World.cell?, hb] using this
end Go.Proofs.Ythgidldcblchmaa
