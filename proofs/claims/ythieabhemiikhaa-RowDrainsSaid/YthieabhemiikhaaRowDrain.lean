/-
  A queue's Drain, as an iterator: it takes out what it tells.
-/
import Derived.Test.YthieabhemiikhaaRowFree
import Derived.LoopIn
namespace Go.Proofs.Ythieabhemiikhaa
set_option linter.unusedVariables false
open Go.RowKit Go.Shelf
attribute [local go_sem] Oper.semAt_some
theorem drain_any (w : World) (q : Nat) : Calls Try.prog 21 #[.pointer (some ⟨q, 0, none⟩)] w fun e w' => e = .returned (.func (.func 32) #[] #[.pointer (some ⟨w.heap.size, 0, none⟩)]) ∧ w' = w.alloc (.cells #[.pointer (some ⟨q, 0, none⟩)] 23) := by
  go_enter Try.func21, Try.ntmps21
  go_wp2
  go_ret
  exact ⟨rfl, rfl⟩
set_option maxRecDepth 100000 in
set_option maxHeartbeats 4000000 in
theorem drain_free (n : Nat) (q Bt room : Nat) (Top : Nat → World → Prop) (Start : World → Prop) (Jy Jr : Nat → Int → World → Prop) (JD : World → Prop) (Jx : Code → World → Prop)
    (hS : ∀ W, Start W → ∃ m, Top m W) (hR : ∀ m x W, Jr m x W → Top m W)
    (hT : ∀ m W, Top m W → ∃ v zs, QI W q v room (zs.map VI) ∧ W.heap[Bt]? = some (.cells #[.pointer (some ⟨q, 0, none⟩)] 23 (0, 0)) ∧
      ((zs = [] ∧ ∀ W', Below W.heap.size W W' → JD W') ∨ ∃ x zs' m', zs = x :: zs' ∧ m = m' + 1 ∧ ∀ W' v', QI W' q v' room (zs'.map VI) → Touch (Own2 q v) W W' → Kin W v v' → Jy m' x W')) :
    SeqFree Fence.wide n Try.prog 32 #[.pointer (some ⟨Bt, 0, none⟩)] (fun x : Int => #[.int .i64 x]) Start Jy Jr JD (fun _ => Jx) Jx := by
  intro l W1 Bk Bx hs hk hx hb hY
  obtain ⟨m0, h0⟩ := hS W1 hs
  have HY := Lib.hid hY
  have HT := Lib.hid hT
  have HK := Lib.hid hk
  have HB := Lib.hid hb
  have H0 := Lib.hid h0
  have HRR := Lib.hid hR
  clear hY hT hk hx hb h0 hS hR hs
  refine callsIn_of_wp Try.func32 rfl trivial ?_ rfl
  simp only [Try.ntmps32, List.size_toArray, List.length_cons, List.length_nil, Nat.reduceAdd, Nat.reduceSub, Array.replicate_succ, Array.replicate_zero, List.push_toArray, List.append_toArray, List.nil_append, List.cons_append]
  gi_wp2_with fail
  gi_loopg [] m0 (fun k wr => Hid (Top k wr ∧ Bk wr))
  case atStart => exact ⟨H0.out, HB.out⟩
  case round =>
    obtain ⟨hTop, hBk⟩ := hrel.out
    obtain ⟨v, zs, hQ, hBt, hcase⟩ := HT.out gk wr hTop
    have cB : wr.cell? ⟨Bt, 0, none⟩ = some (.pointer (some ⟨q, 0, none⟩)) := by rw [cells_of hBt]; rfl
    rcases hcase with ⟨rfl, hJD⟩ | ⟨x, zs', m', rfl, rfl, hJy⟩
    · have hp := callsIn_wide (n := n - 1).2 ((pop_nilI wr q v room hQ).mono (R' := fun e w' => e = .returned (.tuple #[.int .i64 0, .bool false]) ∧ Hid (JD w' ∧ Bk w')) (by
        rintro e w' ⟨he, rfl⟩
        exact ⟨he, hJD _ ((Below.refl _ _).alloc (Nat.le_refl _) _), HK.out _ _ (KeepsOthers.alloc _ _) hBk⟩))
      have HP := Lib.hid hp
      clear hp hJD hQ hBt hTop hBk
      gi_wp2_with ((try refine ⟨trivial, ?_⟩); (try refine ⟨fun h => (by cases h), ?_⟩); gi_at_call 13; refine HP.out.mono ?_; rintro e W2 ⟨rfl, h2⟩)
      refine ⟨fun _ h => (by cases h), ?_⟩
      gi_wp2_with fail
      refine bodyPost_ret (results_none rfl _ _ _) rfl ?_
      exact ⟨⟨_, rfl⟩, .inl h2.out⟩
    · have hp := callsIn_wide (n := n - 1).2 ((pop_consI wr q v room (VI x) (zs'.map VI) hQ).mono (R' := fun e w' => e = .returned (.tuple #[.int .i64 x, .bool true]) ∧ YieldAt Fence.wide (n - 1) Try.prog l #[.int .i64 x] w' fun e W' => (e = .returned (.bool true) ∧ Hid (Top m' W' ∧ Bk W')) ∨ (e = .returned (.bool false) ∧ Hid (∃ c, Jx c W' ∧ Bx c W'))) (by
        rintro e w' ⟨he, v', p1, p2, p3⟩
        exact ⟨he, YieldAt.mono (HY.out (n - 1) m' x w' (hJy w' v' p1 p2 p3) (HK.out _ _ (touch_others p2 (own2_cells hQ)) hBk)) fun e W' h => h.imp (fun ⟨h1, h2, h3⟩ => ⟨h1, HRR.out _ _ _ h2, h3⟩) (fun ⟨h1, h2⟩ => ⟨h1, h2⟩)⟩))
      have HP := Lib.hid hp
      clear hp hJy hQ hBt hTop hBk
      gi_wp2_with (first
        | ((try refine ⟨trivial, ?_⟩); (try refine ⟨fun h => (by cases h), ?_⟩); gi_at_call 13; refine HP.out.mono ?_; rintro e W2 ⟨rfl, fn, tmps, assign, body, hy, hR⟩)
        | ((try refine ⟨fun h => (by cases h), ?_⟩); refine hR.mono ?_; clear hR; rintro e W3 (⟨rfl, h3⟩ | ⟨rfl, h3⟩)))
      · go_roundg m'
        case measure => omega
        case rel => exact h3
      · refine bodyPost_ret (results_none rfl _ _ _) rfl ?_
        exact ⟨⟨_, rfl⟩, .inr h3.out⟩
end Go.Proofs.Ythieabhemiikhaa
