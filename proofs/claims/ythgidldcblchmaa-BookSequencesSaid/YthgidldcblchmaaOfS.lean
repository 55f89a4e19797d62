/-
  A list of symbols as an iterator. No condition.
-/
import Derived.RangeFuncNested
import Derived.RangeFuncBound
import Derived.RangeFuncCalls
import Derived.RangeFuncLeaves
import Derived.Shelf.Abstract
import Derived.Shelf.RegionOpen
import Derived.WalkKit
import Derived.OwnWalkIn
import Derived.TacticsInMore
import Derived.LoopNIn
import Derived.LoopIn
import Derived.BigGuardIn
import Derived.Test.YthgidldcblchmaaKit3
import Derived.Test.YthgidldcblchmaaKitSeq
import Derived.Test.YthgidldcblchmaaOrdS
namespace Go.Proofs.Ythgidldcblchmaa
set_option linter.unusedVariables false
open Go.RowKit Go.Shelf
attribute [local go_sem] Oper.semAt_some

/-- Every cell that was there is as it was, but those of block s. -/
def KC (s : Nat) (W W' : World) : Prop := ∀ (p : Addr) (v : Value), p.block ≠ s → W.cell? p = some v → W'.cell? p = some v
theorem KC.refl (s : Nat) (W : World) : KC s W W := fun _ _ _ h => h
theorem KC.trans {s : Nat} {A B C : World} (h : KC s A B) (k : KC s B C) : KC s A C := fun p v hp hv => k p v hp (h p v hp hv)
theorem KC.below {s : Nat} {W W' : World} (h : Below W.heap.size W W') : KC s W W' := fun p v _ hv => (h.cell (p := p) (World.block_lt_of_cell? W p hv)).trans hv
theorem KC.grown {s : Nat} {W W' : World} (h : W.grownBy W' (some s)) : KC s W W' := fun p v hp hv => by
  have hl := World.block_lt_of_cell? W p hv
  have hb := h.block p.block hl (by simpa using hp)
  rw [← hv]; exact World.cell?_of_block (w := W) (a := p) hb
theorem KC.put (s : Nat) (W : World) (l : Nat) (o o' : Obj) (h : W.heap[l]? = some o) (hc : o.isCells = false) : KC s W (W.putObj l o') := fun p v _ hv => by
  by_cases e : p.block = l
  · exfalso
    subst e
    unfold World.cell? at hv
    rw [h] at hv
    cases o <;> simp_all [Obj.isCells]
  · rw [← hv]; exact World.cell?_of_block (w := W) (a := p) (World.putObj_heap_other e)
/-- The elements of a list that came in, not in block s. -/
def ListAt (W : World) (s : Nat) (a : Option Addr) (xs : List Sy) : Prop := ∀ k (h : k < xs.length), ∃ b off, a = some ⟨b, off, none⟩ ∧ b ≠ s ∧ W.cell? ⟨b, off + k * 3, none⟩ = some (.int .i64 xs[k].k) ∧ W.cell? ⟨b, off + k * 3 + 1, none⟩ = some (.string xs[k].t) ∧ W.cell? ⟨b, off + k * 3 + 2, none⟩ = some (.int .i64 xs[k].n)
theorem ListAt.kc {W W' : World} {s : Nat} {a : Option Addr} {xs : List Sy} (h : ListAt W s a xs) (hk : KC s W W') : ListAt W' s a xs := fun k hl => by
  obtain ⟨b, off, h1, h2, h3, h4, h5⟩ := h k hl
  exact ⟨b, off, h1, h2, hk _ _ h2 h3, hk _ _ h2 h4, hk _ _ h2 h5⟩
theorem of_anyS (w : World) (a : Option Addr) (n c : Nat) : Calls Try.prog 49 #[.slice a n c] w fun e w' => e = .returned (.func (.func 80) #[] #[.pointer (some ⟨w.heap.size, 0, none⟩)]) ∧ w' = w.alloc (.cells #[.slice a n c] 44) := by
  go_enter Try.func49, Try.ntmps49
  go_wp2
  go_ret
  exact ⟨rfl, rfl⟩
set_option maxRecDepth 100000 in
set_option maxHeartbeats 4000000 in
theorem of1_in (n l Bt s cap : Nat) (a : Option Addr) (xs : List Sy) (hz : xs.length ≤ 1000000) (J Jx : List Sy → World → Prop) (W : World)
    (hY : ∀ pre x W1, J pre W1 → pre.length < xs.length → YieldAt Fence.wide (n - 1) Try.prog l #[.agg #[.int .i64 x.k, .string x.t, .int .i64 x.n]] W1 fun e W' =>
      (e = .returned (.bool true) ∧ J (pre ++ [x]) W' ∧ KC s W1 W') ∨ (e = .returned (.bool false) ∧ Jx (pre ++ [x]) W'))
    (hBt : W.cell? ⟨Bt, 0, none⟩ = some (.slice a xs.length cap)) (hne : Bt ≠ s) (he : ListAt W s a xs) (h0 : J [] W) :
    CallsIn Fence.wide n Try.prog 80 #[.func (.yield l) #[] #[], .pointer (some ⟨Bt, 0, none⟩)] W fun e W' => (∃ v, e = .returned v) ∧
      ((∃ ys, ys = xs ∧ J ys W') ∨ (∃ pre, pre <+: xs ∧ Jx pre W')) := by
  have HY := Lib.hid hY
  have HB := Lib.hid hBt
  have HE := Lib.hid he
  have H0 := Lib.hid h0
  clear hY hBt he h0
  refine callsIn_of_wp Try.func80 rfl trivial ?_ rfl
  simp only [Try.ntmps80, List.size_toArray, List.length_cons, List.length_nil, Nat.reduceAdd, Nat.reduceSub, Array.replicate_succ, Array.replicate_zero, List.push_toArray, List.append_toArray, List.nil_append, List.cons_append]
  gi_wp2_with fail
  gi_loopw [3] (fun i wr => ∃ k : Nat, k ≤ xs.length ∧ i = .int .i64 k ∧ Hid (J (xs.take k) wr ∧ wr.cell? ⟨Bt, 0, none⟩ = some (.slice a xs.length cap) ∧ ListAt wr s a xs)) (fun i _ => xs.length - (intOf i).toNat)
  case atStart => exact ⟨0, Nat.zero_le _, rfl, by rw [List.take_zero]; exact H0.out, HB.out, HE.out⟩
  case round =>
    obtain ⟨k, hk, rfl, hI⟩ := hrel
    have cT := hI.out.2.1
    by_cases hlt : k < xs.length
    · obtain ⟨b, off, rfl, hbs, c0, c1, c2⟩ := hI.out.2.2 k hlt
      have hki : (k : Int) < (xs.length : Int) := by omega
      obtain ⟨fn, tmps, assign, body, hy, hR⟩ := HY.out (xs.take k) xs[k] wr hI.out.1 (by rw [List.length_take]; omega)
      have hR2 := hR.mono (R' := fun e W' => (e = .returned (.bool true) ∧ Hid (J (xs.take (k + 1)) W' ∧ W'.cell? ⟨Bt, 0, none⟩ = some (.slice (some ⟨b, off, none⟩) xs.length cap) ∧ ListAt W' s (some ⟨b, off, none⟩) xs)) ∨ (e = .returned (.bool false) ∧ Hid (Jx (xs.take (k + 1)) W'))) (by
        rintro e W' (⟨he, hj, hkc⟩ | ⟨he, hj⟩)
        · exact .inl ⟨he, by rw [List.take_succ_eq_append_getElem hlt]; exact hj, hkc _ _ hne hI.out.2.1, hI.out.2.2.kc hkc⟩
        · exact .inr ⟨he, by rw [List.take_succ_eq_append_getElem hlt]; exact hj⟩)
      generalize xs[k] = z at c0 c1 c2 hy hR2
      clear hR hI
      gi_wp2_with ((try refine ⟨fun h => (by cases h), ?_⟩); refine hR2.mono ?_; clear hR2; rintro e W5 (⟨rfl, h5⟩ | ⟨rfl, h5⟩))
      · go_roundw
        case rel => exact ⟨k + 1, by omega, by go_num, h5⟩
        case measure => simp [intOf]; omega
      · refine bodyPost_ret (results_none rfl _ _ _) rfl ?_
        exact ⟨⟨_, rfl⟩, .inr ⟨_, List.take_prefix _ _, h5.out⟩⟩
    · obtain rfl : k = xs.length := by omega
      gi_wp2_with fail
      go_end0
      exact ⟨⟨_, rfl⟩, .inl ⟨_, List.take_length, hI.out.1⟩⟩
theorem of_stopsS (n Bt s cap : Nat) (a : Option Addr) (xs : List Sy) (hz : xs.length ≤ 1000000) (w : World) (hBt : w.heap[Bt]? = some (.cells #[.slice a xs.length cap] 44 (0, 0))) (hne : Bt ≠ s) (he : ListAt w s a xs) :
    SeqStopsK Fence.wide n Try.prog 80 #[.pointer (some ⟨Bt, 0, none⟩)] (fun x : Sy => #[.agg #[.int .i64 x.k, .string x.t, .int .i64 x.n]]) (KC s) (fun ys => ys = xs) (fun pre => pre <+: xs) xs.length w := fun l J Jx W hW _ _ hY h0 =>
  of1_in n l Bt s cap a xs hz J Jx W hY (by rw [cells_of ((hW.block Bt (heap_lt hBt)).trans hBt)]; rfl) hne (he.kc (KC.below hW)) h0
end Go.Proofs.Ythgidldcblchmaa
