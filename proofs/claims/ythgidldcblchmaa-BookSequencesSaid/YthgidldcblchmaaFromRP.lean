/-
  From of package order at pairs, where each yield is told which element it is. No condition.
-/
import Derived.RangeFuncNested
import Derived.RangeFuncBound
import Derived.RangeFuncCalls
import Derived.RangeFuncLeaves
import Derived.Shelf.Abstract
import Derived.Shelf.RegionOpen
import Derived.WalkKit
import Derived.OwnWalkIn
import Derived.TacticsInMore
import Derived.LoopNIn
import Derived.LoopIn
import Derived.BigGuardIn
import Derived.Test.YthgidldcblchmaaKit3
import Derived.Stop.RegionWithIn
import Derived.Test.YthgidldcblchmaaAllRP
import Derived.Test.YthgidldcblchmaaFindP
namespace Go.Proofs.Ythgidldcblchmaa
set_option linter.unusedVariables false
open Go.RowKit Go.Shelf
attribute [local go_sem] Oper.semAt_some
theorem since_append {α : Type} {c : α → α → Int} (x : α) (a b : List α) : since c x (a ++ b) = since c x a ++ since c x b := by simp [since]
theorem since_all {α : Type} {c : α → α → Int} (H : Cmp c) {x v : α} {b : List α} (h : c x v ≤ 0) (hb : ∀ y ∈ b, c v y < 0) : since c x (v :: b) = v :: b := by
  unfold since
  rw [List.filter_eq_self]
  intro y hy
  rcases List.mem_cons.1 hy with rfl | hy
  · simpa using h
  · have := H.lt_of_le_of_lt h (hb y hy); simp only [decide_eq_true_eq]; omega
theorem since_none {α : Type} {c : α → α → Int} (H : Cmp c) {x v : α} {a : List α} (h : 0 < c x v) (ha : ∀ y ∈ a, c y v < 0) : since c x (a ++ [v]) = [] := by
  unfold since
  rw [List.filter_eq_nil_iff]
  intro y hy
  rcases List.mem_append.1 hy with hy | hy
  · have h3 := gt_all H (x := x) (v := v) (by omega) ha y hy
    simp only [decide_eq_true_eq]; omega
  · simp at hy; subst hy; simp; omega
theorem since_mid_gt {α : Type} {c : α → α → Int} (H : Cmp c) {x v : α} {a b : List α} (hs : Sorted c (a ++ v :: b)) (h : 0 < c x v) : since c x (a ++ v :: b) = since c x b := by
  obtain ⟨-, -, ha, -⟩ := sorted_mid hs
  have : a ++ v :: b = (a ++ [v]) ++ b := by simp
  rw [this, since_append, since_none H h ha]; rfl
theorem since_mid_le {α : Type} {c : α → α → Int} (H : Cmp c) {x v : α} {a b : List α} (hs : Sorted c (a ++ v :: b)) (h : c x v ≤ 0) : since c x (a ++ v :: b) = since c x a ++ v :: b := by
  obtain ⟨-, -, -, hb⟩ := sorted_mid hs
  rw [since_append, since_all H h hb]
def FwdPostR (J Jx : List Pr → World → Prop) (xs pre : List Pr) (W : World) (r : Bool) (W' : World) : Prop :=
  (r = true ∧ J (pre ++ xs) W' ∧ KN 162 W W') ∨ (r = false ∧ ∃ q, q <+: xs ∧ Jx (pre ++ q) W')
theorem FwdPostR.of {J Jx : List Pr → World → Prop} {xs pre : List Pr} {W W' : World} {e : Ending}
    (h : (e = .returned (.bool true) ∧ J (pre ++ xs) W' ∧ KN 162 W W') ∨ (e = .returned (.bool false) ∧ ∃ q, q <+: xs ∧ Jx (pre ++ q) W')) : ∃ r : Bool, e = .returned (.bool r) ∧ FwdPostR J Jx xs pre W r W' := by
  rcases h with ⟨h1, h2⟩ | ⟨h1, h2⟩
  · exact ⟨true, h1, .inl ⟨rfl, h2⟩⟩
  · exact ⟨false, h1, .inr ⟨rfl, h2⟩⟩
theorem FwdPostR.to {J Jx : List Pr → World → Prop} {xs pre : List Pr} {W0 W W' : World} {r : Bool} (hk : KN 162 W0 W) (h : FwdPostR J Jx xs pre W r W') :
    (Ending.returned (.bool r) = .returned (.bool true) ∧ J (pre ++ xs) W' ∧ KN 162 W0 W') ∨ (Ending.returned (.bool r) = .returned (.bool false) ∧ ∃ q, q <+: xs ∧ Jx (pre ++ q) W') := by
  rcases h with ⟨rfl, h1, h2⟩ | ⟨rfl, h2⟩
  · exact .inl ⟨rfl, h1, hk.trans h2⟩
  · exact .inr ⟨rfl, h2⟩
theorem fwdR_cat {J Jx : List Pr → World → Prop} {L R pre : List Pr} {v : Pr} {W W' : World} {e : Ending}
    (h : (e = .returned (.bool true) ∧ J (pre ++ L ++ [v] ++ R) W' ∧ KN 162 W W') ∨ (e = .returned (.bool false) ∧ ∃ q, q <+: R ∧ Jx (pre ++ L ++ [v] ++ q) W')) :
    (e = .returned (.bool true) ∧ J (pre ++ (L ++ v :: R)) W' ∧ KN 162 W W') ∨ (e = .returned (.bool false) ∧ ∃ q, q <+: L ++ v :: R ∧ Jx (pre ++ q) W') := by
  rcases h with ⟨h1, h2, h3⟩ | ⟨h1, q, hq, h2⟩
  · exact .inl ⟨h1, by simpa [List.append_assoc] using h2, h3⟩
  · obtain ⟨r, rfl⟩ := hq
    exact .inr ⟨h1, L ++ v :: q, ⟨r, by simp⟩, by simpa [List.append_assoc] using h2⟩
set_option maxRecDepth 100000 in
set_option maxHeartbeats 8000000 in
theorem fwdFromR_in (l : Nat) (R : List Pr → Pr → Prop) (J Jx : List Pr → World → Prop) (hJ : ∀ pre W W', J pre W → Below W.heap.size W W' → J pre W') (a : Pr)
    (hY : ∀ m pre x W, J pre W → R pre x → YieldAt Fence.wide m Try.prog l #[.agg #[.int .i64 x.k.k, .string x.k.t, .int .i64 x.k.n, .int .i64 x.v]] W fun e W' =>
      (e = .returned (.bool true) ∧ J (pre ++ [x]) W' ∧ KN 162 W W') ∨ (e = .returned (.bool false) ∧ Jx (pre ++ [x]) W')) (T : BT Pr) :
    ∀ (n : Nat) (p : Option Addr) (pre : List Pr) (W : World), Sorted cmpP T.toList → TreeP W p T → J pre W → (∀ p x q, since cmpP a T.toList = p ++ x :: q → R (pre ++ p) x) →
      CallsIn Fence.wide n Try.prog 108 #[.pointer p, .agg #[.int .i64 a.k.k, .string a.k.t, .int .i64 a.k.n, .int .i64 a.v], .func (.yield l) #[] #[]] W fun e W' =>
        (e = .returned (.bool true) ∧ J (pre ++ since cmpP a T.toList) W' ∧ KN 162 W W') ∨ (e = .returned (.bool false) ∧ ∃ q, q <+: since cmpP a T.toList ∧ Jx (pre ++ q) W') := by
  induction T with
  | leaf =>
    intro n p pre W _ ht hj _
    obtain rfl : p = none := ht
    have hB : Below W.heap.size W (W.alloc (.cells #[.int .i64 a.k.k, .string a.k.t, .int .i64 a.k.n, .int .i64 a.v] 100)) := by go_grown
    refine callsIn_of_wp Try.func108 rfl trivial ?_ rfl
    simp only [Try.ntmps108, List.size_toArray, List.length_cons, List.length_nil, Nat.reduceAdd, Nat.reduceSub, Array.replicate_succ, Array.replicate_zero, List.push_toArray, List.append_toArray, List.nil_append, List.cons_append]
    gi_wp2_with fail
    go_ret
    exact .inl ⟨rfl, by simpa [BT.toList, since] using hJ _ _ _ hj hB, KN.below hB⟩
  | node tl v tr ihl ihr =>
    intro n p pre W hs ht hj hN
    obtain ⟨b, pl, pr, rfl, hc, hl, hr⟩ := ht
    obtain ⟨hsl, hsr, -, -⟩ := sorted_mid hs
    simp only [BT.toList] at hN
    obtain ⟨W1, hW1⟩ : ∃ W1, W1 = W.alloc (.cells #[.int .i64 a.k.k, .string a.k.t, .int .i64 a.k.n, .int .i64 a.v] 100) := ⟨_, rfl⟩
    have hB : Below W.heap.size W W1 := by rw [hW1]; go_grown
    have hbox : W1.heap[W.heap.size]? = some (.cells #[.int .i64 a.k.k, .string a.k.t, .int .i64 a.k.n, .int .i64 a.v] 100 (0, 0)) := by rw [hW1]; exact new_at rfl
    have KEEP : ∀ w', Below W1.heap.size W1 w' → (w'.cell? ⟨W.heap.size, 0, none⟩ = some (.int .i64 a.k.k) ∧ w'.cell? ⟨W.heap.size, 1, none⟩ = some (.string a.k.t) ∧ w'.cell? ⟨W.heap.size, 2, none⟩ = some (.int .i64 a.k.n) ∧ w'.cell? ⟨W.heap.size, 3, none⟩ = some (.int .i64 a.v) ∧ w'.cell? ⟨b, 0, none⟩ = some (.pointer pl) ∧ w'.cell? ⟨b, 1, none⟩ = some (.pointer pr) ∧ w'.cell? ⟨b, 2, none⟩ = some (.int .i64 v.k.k) ∧ w'.cell? ⟨b, 3, none⟩ = some (.string v.k.t) ∧ w'.cell? ⟨b, 4, none⟩ = some (.int .i64 v.k.n) ∧ w'.cell? ⟨b, 5, none⟩ = some (.int .i64 v.v)) := by
      intro w' h
      obtain ⟨x0, x1, x2, x3, -, -, -, -, -⟩ := box_cellsP hbox h
      obtain ⟨d0, d1, d2, d3, d4, d5, -⟩ := node_cellsP (w := w') hc (hB.trans (h.mono hB.size))
      exact ⟨x0, x1, x2, x3, d0, d1, d2, d3, d4, d5⟩
    have hKN : ∀ w', KN 162 W w' → w'.cell? ⟨b, 0, none⟩ = some (.pointer pl) ∧ w'.cell? ⟨b, 1, none⟩ = some (.pointer pr) ∧ w'.cell? ⟨b, 2, none⟩ = some (.int .i64 v.k.k) ∧ w'.cell? ⟨b, 3, none⟩ = some (.string v.k.t) ∧ w'.cell? ⟨b, 4, none⟩ = some (.int .i64 v.k.n) ∧ w'.cell? ⟨b, 5, none⟩ = some (.int .i64 v.v) := by
      intro w' h
      obtain ⟨d0, d1, d2, d3, d4, d5, -⟩ := node_cellsP (w := w') (h b _ _ hc) (Below.refl _ _)
      exact ⟨d0, d1, d2, d3, d4, d5⟩
    have hK := Lib.hid KEEP
    have HKN := Lib.hid hKN
    have HW1 := Lib.hid hW1
    have hm : ∀ w : World, (method 321 100 (.agg #[.int .i64 a.k.k, .string a.k.t, .int .i64 a.k.n, .int .i64 a.v]) "Compare").run Try.prog w = .ok (171, .agg #[.int .i64 a.k.k, .string a.k.t, .int .i64 a.k.n, .int .i64 a.v]) w := fun _ => by kernel_rfl
    have hcmp := fun w' => callsIn_wide (n := n - 1).2 (cmp_anyP a v w')
    have Hcmp := Lib.hid hcmp
    have HB := Lib.hid hB
    have Hl := Lib.hid hl
    have Hr := Lib.hid hr
    have Hs := Lib.hid hs
    clear KEEP hKN hW1 hcmp hB hbox hc hl hr
    obtain ⟨k0, k1, k2, k3, k4, k5, k6, k7, k8, k9⟩ := hK.out _ ((Below.refl _ _).drew)
    by_cases h1 : 0 < cmpP a v
    · have hsin := since_mid_gt cmpP_cmp hs h1
      rw [hsin] at hN
      have hih := fun W' (hb : Below W.heap.size W W') => ihr (n - 1) pr pre W' hsr (Hr.out.mono hb) (hJ _ _ _ hj hb) hN
      have HI := Lib.hid hih
      have HS := Lib.hid hsin
      clear hih hsin ihl ihr hs hN hsl hsr
      refine callsIn_of_wp Try.func108 rfl trivial ?_ rfl
      simp only [Try.ntmps108, List.size_toArray, List.length_cons, List.length_nil, Nat.reduceAdd, Nat.reduceSub, Array.replicate_succ, Array.replicate_zero, List.push_toArray, List.append_toArray, List.nil_append, List.cons_append]
      gi_wp2_with fail
      rw [← HW1.out]
      gi_region_with (refine ⟨trivial, (fun h => by cases h), ?_⟩; gi_at_call 171; refine (Hcmp.out _).mono ?_; rintro e w2 ⟨rfl, hb2⟩; have hb2 := (Below.refl W1.heap.size W1).drew.trans hb2)
      all_goals
        clear k0 k1 k2 k3 k4 k5 k6 k7 k8 k9 hm Hcmp
        obtain ⟨k0, k1, k2, k3, k4, k5, k6, k7, k8, k9⟩ := hK.out _ hb2.drew
        have hb3 : Below W.heap.size W w2.drew := HB.out.trans (hb2.drew.mono HB.out.size)
        gi_wp2_with fail
        gi_region_with (refine ⟨trivial, (fun h => by cases h), ?_⟩; gi_at_call 108; refine (HI.out _ hb3).mono ?_; intro e w3 hp; obtain ⟨r, rfl, hp3⟩ := FwdPostR.of hp; clear hp)
        all_goals
          gi_wp2_with fail
          go_ret
          simp only [BT.toList]
          rw [HS.out]
          exact FwdPostR.to (KN.below hb3) hp3
    · have hsin := since_mid_le cmpP_cmp hs (show cmpP a v ≤ 0 by omega)
      rw [hsin] at hN
      have hNl : ∀ p x q, since cmpP a tl.toList = p ++ x :: q → R (pre ++ p) x := fun p x q h => hN p x (q ++ v :: tr.toList) (by rw [h]; simp)
      have hNv : R (pre ++ since cmpP a tl.toList) v := hN _ _ tr.toList rfl
      have hNr : ∀ p x q, tr.toList = p ++ x :: q → R (pre ++ since cmpP a tl.toList ++ [v] ++ p) x := fun p x q h => by have := hN (since cmpP a tl.toList ++ v :: p) x q (by rw [h]; simp); simpa using this
      have HNv := Lib.hid hNv
      have HNr := Lib.hid hNr
      clear hN
      have hih := fun W' (hb : Below W.heap.size W W') => ihl (n - 1) pl pre W' hsl (Hl.out.mono hb) (hJ _ _ _ hj hb) hNl
      have HI := Lib.hid hih
      have HS := Lib.hid hsin
      have HY := Lib.hid hY
      clear hNl hNv hNr
      generalize since cmpP a tl.toList = L at HI HS HNv HNr
      have hfw := fun w' (hk : KN 162 W w') (hj' : J (pre ++ L ++ [v]) w') => fwdR_inP Fence.wide rfl trivial rfl l R J Jx HY.out tr (n - 1) pr (pre ++ L ++ [v]) w' (hk.tree Hr.out) hj' HNr.out
      have HF := Lib.hid hfw
      have h2 : decide (0 < cmpP a v) = false := by simpa using h1
      clear hih hsin ihl ihr hs hsl hsr hY hfw h1
      refine callsIn_of_wp Try.func108 rfl trivial ?_ rfl
      simp only [Try.ntmps108, List.size_toArray, List.length_cons, List.length_nil, Nat.reduceAdd, Nat.reduceSub, Array.replicate_succ, Array.replicate_zero, List.push_toArray, List.append_toArray, List.nil_append, List.cons_append]
      gi_wp2_with fail
      rw [← HW1.out]
      gi_region_with (refine ⟨trivial, (fun h => by cases h), ?_⟩; gi_at_call 171; refine (Hcmp.out _).mono ?_; rintro e w2 ⟨rfl, hb2⟩; have hb2 := (Below.refl W1.heap.size W1).drew.trans hb2)
      all_goals
        clear k0 k1 k2 k3 k4 k5 k6 k7 k8 k9 hm Hcmp
        obtain ⟨k0, k1, k2, k3, k4, k5, k6, k7, k8, k9⟩ := hK.out _ hb2.drew
        have hb3 : Below W.heap.size W w2.drew := HB.out.trans (hb2.drew.mono HB.out.size)
        gi_wp2_with fail
        gi_region_with (first
          | (refine ⟨trivial, (fun h => by cases h), ?_⟩; gi_at_call 108; refine (HI.out _ hb3).mono ?_; rintro e w3 (⟨rfl, hJ3, hK3⟩ | ⟨rfl, q, hq, hx3⟩); rotate_left; (gi_wp2; refine wpAnyIn_ready (rs := [7]) (by kernel_rfl) (by simp) ?_; refine AllReadyIn.cons rfl (fun K hK => ?_) AllReadyIn.nil; go_simp; (first | (refine hK _ _ ?_) | (refine ⟨fun _ _ => trivial, hK _ _ ?_⟩) | (refine ⟨trivial, hK _ _ ?_⟩)); clear hK K; refine wpAnyIn_take (i := 8) (v := undef) rfl rfl (by kernel_rfl) (by kernel_rfl) (by kernel_rfl) (fun _ _ _ h => h) ⟨Or.inr ⟨by rfl, rfl⟩, fun _ => rfl⟩ ?_; refine wpAnyIn_take (i := 9) (v := undef) rfl rfl (by kernel_rfl) (by kernel_rfl) (by kernel_rfl) (fun _ _ _ h => h) ⟨Or.inr ⟨by rfl, rfl⟩, fun _ => rfl⟩ ?_; refine wpAnyIn_take (i := 10) (v := undef) rfl rfl (by kernel_rfl) (by kernel_rfl) (by kernel_rfl) (fun _ _ _ h => h) ⟨Or.inr ⟨by rfl, rfl⟩, fun _ => rfl⟩ ?_; refine wpAnyIn_take (i := 11) (v := undef) rfl rfl (by kernel_rfl) (by kernel_rfl) (by kernel_rfl) (fun _ _ _ h => h) ⟨Or.inr ⟨by rfl, rfl⟩, fun _ => rfl⟩ ?_; refine wpAnyIn_take (i := 12) (v := undef) rfl rfl (by kernel_rfl) (by kernel_rfl) (by kernel_rfl) (fun _ _ _ h => h) ⟨Or.inr ⟨by rfl, rfl⟩, fun _ => rfl⟩ ?_; refine wpAnyIn_ready (rs := [13]) (by kernel_rfl) (by simp) ?_; refine AllReadyIn.cons rfl (fun K hK => ?_) AllReadyIn.nil; go_simp; (first | (refine hK _ _ ?_) | (refine ⟨fun _ _ => trivial, hK _ _ ?_⟩) | (refine ⟨trivial, hK _ _ ?_⟩)); clear hK K; refine wpAnyIn_ready (rs := [14]) (by kernel_rfl) (by simp) ?_; refine AllReadyIn.cons rfl (fun K hK => ?_) AllReadyIn.nil; go_simp; (first | (refine hK _ _ ?_) | (refine ⟨fun _ _ => trivial, hK _ _ ?_⟩) | (refine ⟨trivial, hK _ _ ?_⟩)); clear hK K; refine wpAnyIn_ready (rs := [15]) (by kernel_rfl) (by simp) ?_; refine AllReadyIn.cons rfl (fun K hK => ?_) AllReadyIn.nil; go_simp; (first | (refine hK _ _ ?_) | (refine ⟨fun _ _ => trivial, hK _ _ ?_⟩) | (refine ⟨trivial, hK _ _ ?_⟩)); clear hK K; refine wpAnyIn_take (i := 16) (v := undef) rfl rfl (by kernel_rfl) (by kernel_rfl) (by kernel_rfl) (fun _ _ _ h => h) ⟨Or.inr ⟨by rfl, rfl⟩, fun _ => rfl⟩ ?_; refine wpAnyIn_take (i := 17) (v := undef) rfl rfl (by kernel_rfl) (by kernel_rfl) (by kernel_rfl) (fun _ _ _ h => h) ⟨Or.inr ⟨by rfl, rfl⟩, fun _ => rfl⟩ ?_; refine wpAnyIn_take (i := 18) (v := undef) rfl rfl (by kernel_rfl) (by kernel_rfl) (by kernel_rfl) (fun _ _ _ h => h) ⟨Or.inr ⟨by rfl, rfl⟩, fun _ => rfl⟩ ?_; refine wpAnyIn_take (i := 19) (v := undef) rfl rfl (by kernel_rfl) (by kernel_rfl) (by kernel_rfl) (fun _ _ _ h => h) ⟨Or.inr ⟨by rfl, rfl⟩, fun _ => rfl⟩ ?_; refine wpAnyIn_take (i := 20) (v := undef) rfl rfl (by kernel_rfl) (by kernel_rfl) (by kernel_rfl) (fun _ _ _ h => h) ⟨Or.inr ⟨by rfl, rfl⟩, fun _ => rfl⟩ ?_; refine wpAnyIn_ready (rs := [21]) (by kernel_rfl) (by simp) ?_; refine AllReadyIn.cons rfl (fun K hK => ?_) AllReadyIn.nil; go_simp; (first | (refine hK _ _ ?_) | (refine ⟨fun _ _ => trivial, hK _ _ ?_⟩) | (refine ⟨trivial, hK _ _ ?_⟩)); clear hK K; refine wpAnyIn_ready (rs := [22]) (by kernel_rfl) (by simp) ?_; refine AllReadyIn.cons rfl (fun K hK => ?_) AllReadyIn.nil; go_simp; (first | (refine hK _ _ ?_) | (refine ⟨fun _ _ => trivial, hK _ _ ?_⟩) | (refine ⟨trivial, hK _ _ ?_⟩)); clear hK K; refine wpAnyIn_ready (rs := [23]) (by kernel_rfl) (by simp) ?_; refine AllReadyIn.cons rfl (fun K hK => ?_) AllReadyIn.nil; go_simp; (first | (refine hK _ _ ?_) | (refine ⟨fun _ _ => trivial, hK _ _ ?_⟩) | (refine ⟨trivial, hK _ _ ?_⟩)); clear hK K; refine wpAnyIn_done (by kernel_rfl) ?_ _; gi_wp2_with fail; go_ret; simp only [BT.toList]; rw [HS.out]; exact .inr ⟨rfl, q, hq.trans (List.prefix_append _ _), hx3⟩); clear k0 k1 k2 k3 k4 k5 k6 k7 k8 k9; obtain ⟨m0, m1, m2, m3, m4, m5⟩ := HKN.out _ (KN.trans (KN.below hb3) hK3); obtain ⟨fn, tmps, assign, body, hy, hR⟩ := HY.out (n - 1) (pre ++ L) v w3 hJ3 HNv.out)
          | ((try refine ⟨(fun h => by cases h), ?_⟩); refine hR.mono ?_; clear hR; rintro e w4 (⟨rfl, hJ4, hK4⟩ | ⟨rfl, hx4⟩); rotate_left; (gi_wp2; refine wpAnyIn_ready (rs := [14]) (by kernel_rfl) (by simp) ?_; refine AllReadyIn.cons rfl (fun K hK => ?_) AllReadyIn.nil; go_simp; (first | (refine hK _ _ ?_) | (refine ⟨fun _ _ => trivial, hK _ _ ?_⟩) | (refine ⟨trivial, hK _ _ ?_⟩)); clear hK K; refine wpAnyIn_ready (rs := [15]) (by kernel_rfl) (by simp) ?_; refine AllReadyIn.cons rfl (fun K hK => ?_) AllReadyIn.nil; go_simp; (first | (refine hK _ _ ?_) | (refine ⟨fun _ _ => trivial, hK _ _ ?_⟩) | (refine ⟨trivial, hK _ _ ?_⟩)); clear hK K; refine wpAnyIn_take (i := 16) (v := undef) rfl rfl (by kernel_rfl) (by kernel_rfl) (by kernel_rfl) (fun _ _ _ h => h) ⟨Or.inr ⟨by rfl, rfl⟩, fun _ => rfl⟩ ?_; refine wpAnyIn_take (i := 17) (v := undef) rfl rfl (by kernel_rfl) (by kernel_rfl) (by kernel_rfl) (fun _ _ _ h => h) ⟨Or.inr ⟨by rfl, rfl⟩, fun _ => rfl⟩ ?_; refine wpAnyIn_take (i := 18) (v := undef) rfl rfl (by kernel_rfl) (by kernel_rfl) (by kernel_rfl) (fun _ _ _ h => h) ⟨Or.inr ⟨by rfl, rfl⟩, fun _ => rfl⟩ ?_; refine wpAnyIn_take (i := 19) (v := undef) rfl rfl (by kernel_rfl) (by kernel_rfl) (by kernel_rfl) (fun _ _ _ h => h) ⟨Or.inr ⟨by rfl, rfl⟩, fun _ => rfl⟩ ?_; refine wpAnyIn_take (i := 20) (v := undef) rfl rfl (by kernel_rfl) (by kernel_rfl) (by kernel_rfl) (fun _ _ _ h => h) ⟨Or.inr ⟨by rfl, rfl⟩, fun _ => rfl⟩ ?_; refine wpAnyIn_ready (rs := [21]) (by kernel_rfl) (by simp) ?_; refine AllReadyIn.cons rfl (fun K hK => ?_) AllReadyIn.nil; go_simp; (first | (refine hK _ _ ?_) | (refine ⟨fun _ _ => trivial, hK _ _ ?_⟩) | (refine ⟨trivial, hK _ _ ?_⟩)); clear hK K; refine wpAnyIn_ready (rs := [22]) (by kernel_rfl) (by simp) ?_; refine AllReadyIn.cons rfl (fun K hK => ?_) AllReadyIn.nil; go_simp; (first | (refine hK _ _ ?_) | (refine ⟨fun _ _ => trivial, hK _ _ ?_⟩) | (refine ⟨trivial, hK _ _ ?_⟩)); clear hK K; refine wpAnyIn_ready (rs := [23]) (by kernel_rfl) (by simp) ?_; refine AllReadyIn.cons rfl (fun K hK => ?_) AllReadyIn.nil; go_simp; (first | (refine hK _ _ ?_) | (refine ⟨fun _ _ => trivial, hK _ _ ?_⟩) | (refine ⟨trivial, hK _ _ ?_⟩)); clear hK K; refine wpAnyIn_done (by kernel_rfl) ?_ _; gi_wp2_with fail; go_ret; simp only [BT.toList]; rw [HS.out]; exact .inr ⟨rfl, L ++ [v], by simp, by simpa [List.append_assoc] using hx4⟩); clear m0 m1 m2 m3 m4 m5; obtain ⟨m0, m1, m2, m3, m4, m5⟩ := HKN.out _ (KN.trans (KN.below hb3) (KN.trans hK3 hK4)))
          | (refine ⟨trivial, (fun h => by cases h), ?_⟩; gi_at_call 93; refine (HF.out w4 (KN.trans (KN.below hb3) (KN.trans hK3 hK4)) hJ4).mono ?_; intro e w5 hp; obtain ⟨r, rfl, hp5⟩ := FwdPostR.of hp; clear hp))
        all_goals
          gi_wp2_with fail
          go_ret
          simp only [BT.toList]
          rw [HS.out]
          have := FwdPostR.to (KN.trans (KN.below hb3) (KN.trans hK3 hK4)) hp5
          exact fwdR_cat this
set_option maxHeartbeats 4000000 in
theorem from_overR (n : Nat) (Bt Bx b : Nat) (a : Pr) (xs : List Pr) (w : World) (hc : w.heap[Bt]? = some (.cells #[.pointer (some ⟨b, 0, none⟩)] 97 (0, 0))) (hx : w.heap[Bx]? = some (.cells #[.int .i64 a.k.k, .string a.k.t, .int .i64 a.k.n, .int .i64 a.v] 100 (0, 0))) (hS : SetP w b xs) (R : List Pr → Pr → Prop) (hR : ∀ p x q, since cmpP a xs = p ++ x :: q → R p x) :
    SeqOver Fence.wide n Try.prog 107 #[.pointer (some ⟨Bt, 0, none⟩), .pointer (some ⟨Bx, 0, none⟩)] (fun x : Pr => #[.agg #[.int .i64 x.k.k, .string x.k.t, .int .i64 x.k.n, .int .i64 x.v]]) (KN 162) (fun ys => ys = since cmpP a xs) (fun pre => pre <+: since cmpP a xs) R w := by
  intro l J Jx W hW hJ _ hY h0
  obtain ⟨p0, T, hroot, hT, rfl, hs⟩ := IsSet.mono hS hW
  have c0 : W.cell? ⟨b, 0, none⟩ = some (.pointer p0) := by rw [cells_of hroot]; rfl
  have cB : W.cell? ⟨Bt, 0, none⟩ = some (.pointer (some ⟨b, 0, none⟩)) := by rw [cells_of ((hW.block _ (heap_lt hc)).trans hc)]; rfl
  have hx2 := (hW.block _ (heap_lt hx)).trans hx
  have x0 : W.cell? ⟨Bx, 0, none⟩ = some (.int .i64 a.k.k) := by rw [cells_of hx2]; rfl
  have x1 : W.cell? ⟨Bx, 1, none⟩ = some (.string a.k.t) := by rw [cells_of hx2]; rfl
  have x2 : W.cell? ⟨Bx, 2, none⟩ = some (.int .i64 a.k.n) := by rw [cells_of hx2]; rfl
  have x3 : W.cell? ⟨Bx, 3, none⟩ = some (.int .i64 a.v) := by rw [cells_of hx2]; rfl
  have hJ' : ∀ pre W1 W2, J pre W1 → Below W1.heap.size W1 W2 → J pre W2 := fun pre W1 W2 h hb => hJ pre W1 W2 none h ⟨hb.os, hb.tape, hb.output, hb.size, fun i hi _ => hb.block i hi⟩ (fun r e => by cases e)
  have hp := fwdFromR_in l R J Jx hJ' a (fun m pre x W1 hj hl => YieldAt.mono (hY m pre x W1 hj hl) fun _ _ h => h.2) T (n - 1) p0 [] W.drew hs (hT.mono (Below.refl _ _).drew) (hJ' _ _ _ h0 (Below.refl _ _).drew) (fun p x q h => by simpa using hR p x q h)
  have Hp := Lib.hid hp
  clear hp hroot hT hs hJ hJ' hY h0 hc hx hx2 hS hW hR
  refine callsIn_of_wp Try.func107 rfl trivial ?_ rfl
  simp only [Try.ntmps107, List.size_toArray, List.length_cons, List.length_nil, Nat.reduceAdd, Nat.reduceSub, Array.replicate_succ, Array.replicate_zero, List.push_toArray, List.append_toArray, List.nil_append, List.cons_append]
  gi_wp2_with fail
  gi_region_with (refine ⟨trivial, (fun h => by cases h), ?_⟩; gi_at_call 108; refine Hp.out.mono ?_; intro e w5 hp; obtain ⟨r, rfl, hp5⟩ := FwdPostR.of hp; clear hp)
  all_goals
    gi_wp2_with fail
    go_end0
    rcases hp5 with ⟨-, h1, -⟩ | ⟨-, q, hq, h1⟩
    · exact ⟨⟨_, rfl⟩, .inl ⟨_, rfl, by simpa using h1⟩⟩
    · exact ⟨⟨_, rfl⟩, .inr ⟨q, hq, by simpa using h1⟩⟩
end Go.Proofs.Ythgidldcblchmaa
