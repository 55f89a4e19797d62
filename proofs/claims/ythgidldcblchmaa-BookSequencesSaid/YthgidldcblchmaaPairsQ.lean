/-
  Pairs of a map from a key on, as two lists; the first n pairs. No condition but a bound on sizes.
-/
import Derived.RangeFuncNested
import Derived.RangeFuncBound
import Derived.RangeFuncCalls
import Derived.RangeFuncLeaves
import Derived.Shelf.Abstract
import Derived.Shelf.RegionOpen
import Derived.WalkKit
import Derived.OwnWalkIn
import Derived.TacticsInMore
import Derived.LoopNIn
import Derived.LoopIn
import Derived.BigGuardIn
import Derived.Test.YthgidldcblchmaaKit3
import Derived.Test.YthgidldcblchmaaPairsP
import Derived.Test.YthgidldcblchmaaFromRP
namespace Go.Proofs.Ythgidldcblchmaa
set_option linter.unusedVariables false
open Go.RowKit Go.Shelf
attribute [local go_sem] Oper.semAt_some
set_option maxRecDepth 100000 in
set_option maxHeartbeats 8000000 in
theorem pairs_take (w : World) (b s : Nat) (k : Sy) (m : Nat) (xs : List Pr) (hM : MapP w b s xs) (hz : xs.length ≤ 999) (hm9 : m ≤ 999) :
    Calls Try.prog 32 #[.pointer (some ⟨b, 0, none⟩), .agg #[.int .i64 k.k, .string k.t, .int .i64 k.n], .bool true, .int .i64 m] w (PairsOut w (xs.take m)) := by
  obtain ⟨i0, hi, hi0, hi1, hi2⟩ := info_parts infoSP
  obtain ⟨j0, hj, hj0, hj1, hj2⟩ := info_parts infoIP
  obtain ⟨W2, hW2⟩ : ∃ W2, W2 = (((w.alloc (.cells #[.int .i64 k.k, .string k.t, .int .i64 k.n] 27)).alloc (.cells #[.int .i64 m] 3)).alloc (.cells #[.slice none 0 0] 44)).alloc (.cells #[.slice none 0 0] 45) := ⟨_, rfl⟩
  have hB : Below w.heap.size w W2 := by rw [hW2]; go_grown
  have h5 : W2.heap[w.heap.size]? = some (.cells #[.int .i64 k.k, .string k.t, .int .i64 k.n] 27 (0, 0)) := by rw [hW2]; exact (Below.heap_alloc _ _ _ (by simp <;> omega)).trans ((Below.heap_alloc _ _ _ (by simp <;> omega)).trans ((Below.heap_alloc _ _ _ (by simp <;> omega)).trans (new_at rfl)))
  have h7 : W2.heap[w.heap.size + 1]? = some (.cells #[.int .i64 m] 3 (0, 0)) := by rw [hW2]; exact (Below.heap_alloc _ _ _ (by simp <;> omega)).trans ((Below.heap_alloc _ _ _ (by simp <;> omega)).trans (new_at (by simp <;> omega)))
  have h10 : Boxed W2 (w.heap.size + 2) 44 (.slice none 0 0) := by rw [hW2]; exact (Below.heap_alloc _ _ _ (by simp <;> omega)).trans (new_at (by simp <;> omega))
  have h11 : Boxed W2 (w.heap.size + 3) 45 (.slice none 0 0) := by rw [hW2]; exact new_at (by simp)
  have hm2 := MapP.mono hM hB
  have hz2 : W2.heap.size = w.heap.size + 4 := by rw [hW2]; simp
  have HM := Lib.hid hm2
  have HB := Lib.hid hB
  have H5 := Lib.hid h5
  have H7 := Lib.hid h7
  have H10 := Lib.hid h10
  have H11 := Lib.hid h11
  have HW := Lib.hid hW2
  have HZ2 := Lib.hid hz2
  have x0 : W2.cell? ⟨w.heap.size, 0, none⟩ = some (.int .i64 k.k) := by rw [cells_of h5]; rfl
  have x1 : W2.cell? ⟨w.heap.size, 1, none⟩ = some (.string k.t) := by rw [cells_of h5]; rfl
  have x2 : W2.cell? ⟨w.heap.size, 2, none⟩ = some (.int .i64 k.n) := by rw [cells_of h5]; rfl
  clear hm2 hB h5 h7 h10 h11 hW2 hz2 hM
  refine callsIn_wide.1 (callsIn_of_wp_marks (n := 3) Try.func32 rfl trivial (wpIn_wide.2 ?_) rfl)
  simp only [Try.ntmps32, List.size_toArray, List.length_cons, List.length_nil, Nat.reduceAdd, Nat.reduceSub, Array.replicate_succ, Array.replicate_zero, List.push_toArray, List.append_toArray, List.nil_append, List.cons_append]
  go_wp2_with fail
  rw [← HW.out]
  refine (from_mapP W2 b s k xs HM.out).mono ?_
  rintro e w3 ⟨⟨lb, rfl⟩, b3⟩
  have HB3 := Lib.hid b3
  clear b3 x0 x1 x2
  have hef := eql_func_nilMP (.func 94) #[] lb
  go_wp2_with fail
  refine (all_mapP w3 b s xs (MapP.mono HM.out HB3.out)).mono ?_
  rintro e w6 ⟨Bl, Bt, rfl, hBl, b6, h1, h2⟩
  have hef := eql_func_nilMP (.func 94) #[] #[.pointer (some ⟨Bl, 0, none⟩)]
  have HB6 := Lib.hid (HB3.out.trans (b6.mono HB3.out.size))
  have H1 := Lib.hid h1
  have H2 := Lib.hid h2
  clear b6 h1 h2
  go_wp2_with fail
  clear hef
  have HM6 := Lib.hid (MapP.mono HM.out HB6.out)
  have hz6 : w.heap.size + 1 + 1 + 1 + 1 ≤ w6.heap.size := by have h1 := HZ2.out; have h2 := HB6.out.size; omega
  have c7 : ∀ V, Below (w.heap.size + 1 + 1) w6 V → V.cell? ⟨w.heap.size + 1, 0, none⟩ = some (.int .i64 m) := fun V h => by
    have h7 := (HB6.out.block _ (heap_lt H7.out)).trans H7.out
    rw [cells_of ((h.block _ (by omega)).trans h7)]; rfl
  have C7 := Lib.hid c7
  have B10 : Hid (Boxed w6 (w.heap.size + 1 + 1) 44 (.slice none 0 0)) := Lib.hid ((HB6.out.block _ (heap_lt H10.out)).trans H10.out)
  have B11 : Hid (Boxed w6 (w.heap.size + 1 + 1 + 1) 45 (.slice none 0 0)) := Lib.hid ((HB6.out.block _ (heap_lt H11.out)).trans H11.out)
  have BB := Lib.hid (HB.out.trans (HB6.out.mono HB.out.size))
  clear c7 HM HB H5 H7 H10 H11 HW HB3 HB6
  refine (wpIn_wide (n := 3)).1 ?_
  refine wpIn_rangeFunc_over rfl rfl (gf := 94) (lb := #[.pointer (some ⟨Bl, 0, none⟩)]) rfl trivial (enters_of Try.func94 (by kernel_rfl) rfl)
    (seq_mapP 2 w6 s xs Bl Bt H1.out H2.out HM6.out.2 (fun pre x => ∃ post, xs = pre ++ x :: post) (fun a x b h => ⟨b, h⟩)) (fun h k => KPP.trans h k) (fun W l o o' _ h hc _ => KPP.put W l o o' h hc) (Below.refl _ _) (fun _ => rfl)
    (fun pre V => Below (w.heap.size + 1 + 1) w6 V ∧ (((∃ v, Boxed V (w.heap.size + 1 + 1) 44 v ∧ V.ownsRow (w.heap.size + 1 + 1) 27 3 v pre.length (pre.flatMap fun p => encS p.k) ∧ True) ∧ (∃ v, Boxed V (w.heap.size + 1 + 1 + 1) 45 v ∧ V.ownsRow (w.heap.size + 1 + 1) 3 1 v pre.length (pre.map fun p => .int .i64 p.v) ∧ True)) ∧ pre.length ≤ m))
    (fun c pre V => Below (w.heap.size + 1 + 1) w6 V ∧ (((∃ v, Boxed V (w.heap.size + 1 + 1) 44 v ∧ V.ownsRow (w.heap.size + 1 + 1) 27 3 v m ((pre.take m).flatMap fun p => encS p.k) ∧ True) ∧ (∃ v, Boxed V (w.heap.size + 1 + 1 + 1) 45 v ∧ V.ownsRow (w.heap.size + 1 + 1) 3 1 v m ((pre.take m).map fun p => .int .i64 p.v) ∧ True)) ∧ (c = .exit 0 ∧ m < pre.length)))
    (OwnFrom.and (ownFrom_below (by omega) (by omega)) (Own.from (own_and (own_and (holdsRow_own (w.heap.size + 1 + 1) (w.heap.size + 1 + 1) 44 27 3 (fun pre : List Pr => pre.length) (fun pre => pre.flatMap fun p => encS p.k) (fun _ _ => True)) (holdsRow_own (w.heap.size + 1 + 1) (w.heap.size + 1 + 1 + 1) 45 3 1 (fun pre : List Pr => pre.length) (fun pre => pre.map fun p => .int .i64 p.v) (fun _ _ => True))) (fun _ _ _ _ h _ _ => h)) _))
    (fun c => (OwnFrom.and (ownFrom_below (by omega) (by omega)) (Own.from (own_and (own_and (holdsRow_own (w.heap.size + 1 + 1) (w.heap.size + 1 + 1) 44 27 3 (fun _ : List Pr => m) (fun pre => (pre.take m).flatMap fun p => encS p.k) (fun _ _ => True)) (holdsRow_own (w.heap.size + 1 + 1) (w.heap.size + 1 + 1 + 1) 45 3 1 (fun _ : List Pr => m) (fun pre => (pre.take m).map fun p => .int .i64 p.v) (fun _ _ => True))) (fun _ _ _ _ h _ _ => h)) _)))
    ⟨Below.refl _ _, ⟨⟨_, B10.out, World.ownsRow_nil _ _ _ _, trivial⟩, ⟨_, B11.out, World.ownsRow_nil _ _ _ _, trivial⟩⟩, Nat.zero_le _⟩
    (fun x a' V => ∃ Bx, V.heap[Bx]? = some (.cells #[.int .i64 x.k.k, .string x.k.t, .int .i64 x.k.n] 27 (0, 0)) ∧ a' = { tmps := #[.pointer (some ⟨b, 0, none⟩), .agg #[.int .i64 k.k, .string k.t, .int .i64 k.n], .bool true, .int .i64 m, undef, .pointer (some ⟨w.heap.size, 0, none⟩), undef, .pointer (some ⟨w.heap.size + 1, 0, none⟩), .slice none 0 0, .slice none 0 0, .pointer (some ⟨w.heap.size + 1 + 1, 0, none⟩), .pointer (some ⟨w.heap.size + 1 + 1 + 1, 0, none⟩), .func (.func 94) #[] #[.pointer (some ⟨Bl, 0, none⟩)], .pointer (some ⟨Bx, 0, none⟩), .int .i64 x.v, .pointer (some ⟨b, 0, none⟩), .agg #[.int .i64 k.k, .string k.t, .int .i64 k.n], .func (.func 94) #[] lb, .bool true, .pointer (some ⟨b, 0, none⟩), .func (.func 94) #[] #[.pointer (some ⟨Bl, 0, none⟩)], .func (.func 94) #[] #[.pointer (some ⟨Bl, 0, none⟩)], .bool false, .func (.func 94) #[] #[.pointer (some ⟨Bl, 0, none⟩)], .agg #[.int .i64 x.k.k, .string x.k.t, .int .i64 x.k.n], .int .i64 x.v, undef, undef, undef, undef, undef, undef, undef, undef, undef, undef, undef, undef, undef, undef], defers := [] })
    (fun x a' => by
      rintro s X Y row ⟨Bx, h2, h3⟩ hg hrow
      exact ⟨Bx, kept_block h2 hg (fun r e => (hrow r e).2), h3⟩) ?assign ?body ?done ?stop
  case assign =>
    rintro l pre x V K ⟨hB, ⟨⟨v1, hv1, hr1, -⟩, ⟨v2, hv2, hr2, -⟩⟩, hpm⟩ hK
    have hsz := hB.size
    gi_wp2
    have hA := (Below.refl V.heap.size V).alloc (Nat.le_refl _) (.cells #[.int .i64 x.k.k, .string x.k.t, .int .i64 x.k.n] 27)
    exact hK _ _ ((KeepsOthers.alloc _ _).from _) ⟨KN.below hA, KN.below hA⟩ ⟨hB.alloc (by omega) _, ⟨⟨v1, hv1.alloc _, hr1.alloc _, trivial⟩, ⟨v2, hv2.alloc _, hr2.alloc _, trivial⟩⟩, hpm⟩ ⟨V.heap.size, new_at rfl, rfl⟩
  case body =>
    rintro l pre x a' V hl ⟨r, hr⟩ ⟨hB, ⟨⟨v1, hv1, hr1, -⟩, ⟨v2, hv2, hr2, -⟩⟩, hpm⟩ ⟨Bx, hx, rfl⟩ ⟨post, hp⟩
    have hlt : pre.length < xs.length := by have := congrArg List.length hp; simp at this; omega
    obtain ⟨p1, q1, rfl⟩ := row_form hr1
    obtain ⟨p2, q2, rfl⟩ := row_form hr2
    have c10 := hv1.cell
    have c11 := hv2.cell
    have c7 := C7.out V hB
    have x0 : V.cell? ⟨Bx, 0, none⟩ = some (.int .i64 x.k.k) := by rw [cells_of hx]; rfl
    have x1 : V.cell? ⟨Bx, 1, none⟩ = some (.string x.k.t) := by rw [cells_of hx]; rfl
    have x2 : V.cell? ⟨Bx, 2, none⟩ = some (.int .i64 x.k.n) := by rw [cells_of hx]; rfl
    have hsz := hB.size
    have V1 := Lib.hid hv1
    have V2 := Lib.hid hv2
    have R1 := Lib.hid hr1
    have R2 := Lib.hid hr2
    have HBv := Lib.hid hB
    clear hp hx hr hv1 hv2 hr1 hr2 hB
    by_cases hpe : pre.length = m
    · have hge : decide (m ≤ pre.length) = true := by simp; omega
      have e1 : (pre ++ [x]).take m = pre := by rw [← hpe]; exact List.take_left
      have hfin : (∃ v, Boxed V (w.heap.size + 1 + 1) 44 v ∧ V.ownsRow (w.heap.size + 1 + 1) 27 3 v m (((pre ++ [x]).take m).flatMap fun p => encS p.k) ∧ True) ∧ (∃ v, Boxed V (w.heap.size + 1 + 1 + 1) 45 v ∧ V.ownsRow (w.heap.size + 1 + 1) 3 1 v m (((pre ++ [x]).take m).map fun p => .int .i64 p.v) ∧ True) := by
        rw [e1, ← hpe]
        exact ⟨⟨_, V1.out, R1.out, trivial⟩, ⟨_, V2.out, R2.out, trivial⟩⟩
      have HFin := Lib.hid hfin
      have HLn := Lib.hid (show m < (pre ++ [x]).length by simp; omega)
      clear hfin e1 hpe
      gi_wp2_with fail
      exact ⟨KeepsFrom.refl _ _, HBv.out, HFin.out, rfl, HLn.out⟩
    · have hge : decide (m ≤ pre.length) = false := by simp; omega
      have hpl : pre.length < m := by omega
      gi_wp2_with (first
        | (gi_at_builtin; refine wpListIn_append_own _ rfl _ _ 44 rfl (w.heap.size + 1 + 1) 27 i0 (.agg #[.int .i64 0, .string ⟨#[]⟩, .int .i64 0]) 3 32 Try.underlying44 hi hi0 hi1 hi2 rfl (by decide) _ _ _ rfl (R1.out.alloc _) ⟨V.heap.size, 0, none⟩ 1 1 (encS x.k) rfl rfl (cell3_new _ _ _) (by simp [encS, Value.oneCell']) (by unfold maxLen; omega) (by omega) (by simp; omega) ?_; intro v' w1 hown' hgrow _; obtain ⟨g', cap', rfl⟩ := ownsRow_succ hown'; have hkn1 := appended_KN (v' := .slice (some ⟨g', 0, none⟩) (pre.length + 1) cap') (nt := 162) V1.out (by decide) (by decide) (by decide) R1.out hgrow; have hkn2 := appended_KN (v' := .slice (some ⟨g', 0, none⟩) (pre.length + 1) cap') (nt := 52) V1.out (by decide) (by decide) (by decide) R1.out hgrow; have hkn3 := appended_KN (v' := .slice (some ⟨g', 0, none⟩) (pre.length + 1) cap') (nt := 45) V1.out (by decide) (by decide) (by decide) R1.out hgrow; have hkn4 := appended_KN (v' := .slice (some ⟨g', 0, none⟩) (pre.length + 1) cap') (nt := 3) V1.out (by decide) (by decide) (by decide) R1.out hgrow; obtain ⟨hb1, hb2, hr2, hk2, hbb2⟩ := V1.out.appended (by decide) R1.out (by omega) (Nat.le_refl _) hown' hgrow; have hc1 := hb1.cell; have hf1 := hb1.frozen; have V1' := Lib.hid hb2; have R1' := Lib.hid hr2; have K1 := Lib.hid hk2; have BB1 := Lib.hid hbb2; have V2' := Lib.hid (hkn3 _ _ _ V2.out); have R2' := Lib.hid (ownsRow_kn hkn4 R2.out); have KNa := Lib.hid (⟨hkn1, hkn2⟩ : KPP V _); have c11' := (show Boxed _ _ _ _ from V2'.out).cell; have hsz1 : V.heap.size ≤ w1.heap.size := (by have h := hbb2.size; simpa using h); have Hco : Hid (∀ j u, [Value.int .i64 x.v][j]? = some u → ((w1.setCell ⟨w.heap.size + 1 + 1, 0, none⟩ (.slice (some ⟨g', 0, none⟩) (pre.length + 1) cap')).alloc (.cells #[.int .i64 x.v] 3)).cell? ((⟨w1.heap.size, 0, none⟩ : Addr).add j) = some u) := Lib.hid (by have h := cell_one_new (w1.setCell ⟨w.heap.size + 1 + 1, 0, none⟩ (.slice (some ⟨g', 0, none⟩) (pre.length + 1) cap')) (.int .i64 x.v) 3; rw [show (w1.setCell ⟨w.heap.size + 1 + 1, 0, none⟩ (.slice (some ⟨g', 0, none⟩) (pre.length + 1) cap')).heap.size = w1.heap.size by simp] at h; exact h); clear hkn1 hkn2 hkn3 hkn4 hb1 hb2 hr2 hk2 hbb2 hown' hgrow c10 c11 c7 x0 x1 x2)
        | (gi_at_builtin; refine wpListIn_append_own _ rfl _ _ 45 rfl (w.heap.size + 1 + 1) 3 j0 (.int .i64 0) 1 8 Try.underlying45 hj hj0 hj1 hj2 rfl (by decide) _ _ _ rfl (R2'.out.alloc _) ⟨w1.heap.size, 0, none⟩ 1 1 [.int .i64 x.v] rfl rfl Hco.out (by simp [Value.oneCell']) (by unfold maxLen; omega) (by omega) (by simp; omega) ?_; intro v'' w2 hown'' hgrow2 _; obtain ⟨g'', cap'', rfl⟩ := ownsRow_succ hown''; have hkn1 := appended_KN (v' := .slice (some ⟨g'', 0, none⟩) (pre.length + 1) cap'') (nt := 162) V2'.out (by decide) (by decide) (by decide) R2'.out hgrow2; have hkn2 := appended_KN (v' := .slice (some ⟨g'', 0, none⟩) (pre.length + 1) cap'') (nt := 52) V2'.out (by decide) (by decide) (by decide) R2'.out hgrow2; have hkn3 := appended_KN (v' := .slice (some ⟨g'', 0, none⟩) (pre.length + 1) cap'') (nt := 44) V2'.out (by decide) (by decide) (by decide) R2'.out hgrow2; have hkn4 := appended_KN (v' := .slice (some ⟨g'', 0, none⟩) (pre.length + 1) cap'') (nt := 27) V2'.out (by decide) (by decide) (by decide) R2'.out hgrow2; obtain ⟨hb1, hb2, hr2, hk2, hbb2⟩ := (show Boxed _ _ _ _ from V2'.out).appended (by decide) R2'.out (by simp; omega) (by omega) hown'' hgrow2; have hc2 := hb1.cell; have hf2 := hb1.frozen; have V1e := Lib.hid (hkn3 _ _ _ V1'.out); have R1e := Lib.hid (ownsRow_kn hkn4 R1'.out); have KNb := Lib.hid (⟨hkn1, hkn2⟩ : KPP _ _); have V2e := Lib.hid hb2; have R2e := Lib.hid hr2; have K2 := Lib.hid hk2; have BB2 := Lib.hid hbb2; clear hkn1 hkn2 hkn3 hkn4 hb1 hb2 hr2 hk2 hbb2 hown'' hgrow2))
      exact ⟨(K1.out.from _).trans (K2.out.from _), KPP.trans KNa.out KNb.out, (HBv.out.trans BB1.out).trans BB2.out, ⟨⟨_, V1e.out, by simpa [List.flatMap_append] using R1e.out, trivial⟩, ⟨_, V2e.out, by simpa using R2e.out, trivial⟩⟩, by simp; omega⟩
  case done =>
    rintro D zs V hD rfl ⟨hB, ⟨⟨v1, hv1, hr1, -⟩, ⟨v2, hv2, hr2, -⟩⟩, hpm⟩ hK
    have e1 : zs.take m = zs := List.take_of_length_le hpm
    rw [← e1] at hr1 hr2
    clear e1
    have c10 := hv1.cell
    have c11 := hv2.cell
    have HBv := Lib.hid hB
    have R1 := Lib.hid hr1
    have R2 := Lib.hid hr2
    have HK := Lib.hid hK
    clear hv1 hv2 hr1 hr2 hB hK
    go_wp2_with fail
    go_quiet (fail)
    go_wp2_with fail
    refine ⟨by simp, .inl ⟨_, _, rfl, run_takeDeferred HK.out, ?_⟩⟩
    refine ⟨_, results_tmp2 rfl _ _ _, v1, v2, rfl, ?_, ?_, ?_⟩
    · exact (BB.out.trans (bdN _ (HBv.out.mono (by omega)))).trans (belowK_b (w := w) (Nat.le_refl _) _ D _ _ (by have := BB.out.size; omega) HK.out rfl rfl)
    · exact ownsRow_putObj (ownsRow_base R1.out (by omega)) _ HK.out rfl
    · exact ownsRow_putObj (ownsRow_base R2.out (by omega)) _ HK.out rfl
  case stop =>
    rintro D c pre V hD hp ⟨hB, ⟨⟨v1, hv1, hr1, -⟩, ⟨v2, hv2, hr2, -⟩⟩, rfl, hlm⟩ hK
    have hxl : m < xs.length := Nat.lt_of_lt_of_le hlm hp.length_le
    have e1 : pre.take m = xs.take m := by
      obtain ⟨q, hq⟩ := hp
      rw [← hq, List.take_append_of_le_length (by omega)]
    have e2 : (xs.take m).length = m := by rw [List.length_take]; omega
    rw [e1] at hr1 hr2
    have hr1 : V.ownsRow (w.heap.size + 1 + 1) 27 3 v1 (xs.take m).length ((xs.take m).flatMap fun p => encS p.k) := by rw [e2]; exact hr1
    have hr2 : V.ownsRow (w.heap.size + 1 + 1) 3 1 v2 (xs.take m).length ((xs.take m).map fun p => .int .i64 p.v) := by rw [e2]; exact hr2
    clear hlm e1 e2 hp hxl
    have c10 := hv1.cell
    have c11 := hv2.cell
    have HBv := Lib.hid hB
    have R1 := Lib.hid hr1
    have R2 := Lib.hid hr2
    have HK := Lib.hid hK
    clear hv1 hv2 hr1 hr2 hB hK
    gi_wp2_with fail
    go_wp2_with fail
    go_quiet (fail)
    go_wp2_with fail
    refine ⟨by simp, .inl ⟨_, _, rfl, run_takeDeferred HK.out, ?_⟩⟩
    refine ⟨_, results_tmp2 rfl _ _ _, v1, v2, rfl, ?_, ?_, ?_⟩
    · exact (BB.out.trans (bdN _ (HBv.out.mono (by omega)))).trans (belowK_b (w := w) (Nat.le_refl _) _ D _ _ (by have := BB.out.size; omega) HK.out rfl rfl)
    · exact ownsRow_putObj (ownsRow_base R1.out (by omega)) _ HK.out rfl
    · exact ownsRow_putObj (ownsRow_base R2.out (by omega)) _ HK.out rfl
open Go.RowKit Go.Shelf
attribute [local go_sem] Oper.semAt_some

theorem from_setR (w : World) (b : Nat) (x : Pr) : Calls Try.prog 91 #[.pointer (some ⟨b, 0, none⟩), .agg #[.int .i64 x.k.k, .string x.k.t, .int .i64 x.k.n, .int .i64 x.v]] w fun e w' => ∃ Bt Bx, e = .returned (.func (.func 107) #[] #[.pointer (some ⟨Bt, 0, none⟩), .pointer (some ⟨Bx, 0, none⟩)]) ∧ Below w.heap.size w w' ∧ w'.heap[Bt]? = some (.cells #[.pointer (some ⟨b, 0, none⟩)] 97 (0, 0)) ∧ w'.heap[Bx]? = some (.cells #[.int .i64 x.k.k, .string x.k.t, .int .i64 x.k.n, .int .i64 x.v] 100 (0, 0)) := by
  go_enter Try.func91, Try.ntmps91
  go_wp2
  go_ret
  exact ⟨w.heap.size, w.heap.size + 1, rfl, by go_grown, (Below.heap_alloc _ _ _ (by simp)).trans (new_at rfl), new_at (by simp)⟩
theorem from_mapR (w : World) (b s : Nat) (k : Sy) (xs : List Pr) (h : MapP w b s xs) :
    Calls Try.prog 67 #[.pointer (some ⟨b, 0, none⟩), .agg #[.int .i64 k.k, .string k.t, .int .i64 k.n]] w fun e w' => ∃ Bl Bt Bx, e = .returned (.func (.func 94) #[] #[.pointer (some ⟨Bl, 0, none⟩)]) ∧ Below w.heap.size w w' ∧ w'.heap[Bl]? = some (.cells #[.func (.func 107) #[] #[.pointer (some ⟨Bt, 0, none⟩), .pointer (some ⟨Bx, 0, none⟩)]] 112 (0, 0)) ∧ w'.heap[Bt]? = some (.cells #[.pointer (some ⟨s, 0, none⟩)] 97 (0, 0)) ∧ w'.heap[Bx]? = some (.cells #[.int .i64 k.k, .string k.t, .int .i64 k.n, .int .i64 0] 100 (0, 0)) := by
  obtain ⟨hb, hS⟩ := h
  obtain ⟨W1, hW1⟩ : ∃ W1, W1 = w.alloc (.cells #[.int .i64 k.k, .string k.t, .int .i64 k.n] 27) := ⟨_, rfl⟩
  have hB : Below w.heap.size w W1 := by rw [hW1]; go_grown
  have hx : W1.heap[w.heap.size]? = some (.cells #[.int .i64 k.k, .string k.t, .int .i64 k.n] 27 (0, 0)) := by rw [hW1]; exact new_at rfl
  have hk : ∀ w', Below W1.heap.size W1 w' → (w'.cell? ⟨b, 0, none⟩ = some (.pointer (some ⟨s, 0, none⟩)) ∧ w'.cell? ⟨w.heap.size, 0, none⟩ = some (.int .i64 k.k) ∧ w'.cell? ⟨w.heap.size, 1, none⟩ = some (.string k.t) ∧ w'.cell? ⟨w.heap.size, 2, none⟩ = some (.int .i64 k.n)) := by
    intro w' h
    have h1 := ((hB.trans (h.mono hB.size)).block b (heap_lt hb)).trans hb
    have h2 := (h.block _ (heap_lt hx)).trans hx
    exact ⟨by rw [cells_of h1]; rfl, by rw [cells_of h2]; rfl, by rw [cells_of h2]; rfl, by rw [cells_of h2]; rfl⟩
  obtain ⟨c0, d0, d1, d2⟩ := hk W1 (Below.refl _ _)
  have hK := Lib.hid hk
  have HB := Lib.hid hB
  have HW := Lib.hid hW1
  have hcur : Hid (Below W1.heap.size W1 W1.drew) := Lib.hid (Below.refl _ _).drew
  have hlt := heap_lt hb
  have hltW : b < W1.heap.size := Nat.lt_of_lt_of_le hlt hB.size
  clear hk hB hW1 hb hS hx
  go_enter Try.func67, Try.ntmps67
  go_wp2_with fail
  rw [← HW.out]
  go_region_held3 (fun w' => Below W1.heap.size W1 w' ∧ w'.cell? ⟨b, 0, none⟩ = some (.pointer (some ⟨s, 0, none⟩)) ∧ w'.cell? ⟨w.heap.size, 0, none⟩ = some (.int .i64 k.k) ∧ w'.cell? ⟨w.heap.size, 1, none⟩ = some (.string k.t) ∧ w'.cell? ⟨w.heap.size, 2, none⟩ = some (.int .i64 k.n))
    (first | exact ⟨hcur.out, hK.out _ hcur.out⟩ | go_keep)
    (first
      | (go_at_call 64; refine (at_bookP _ k).mono ?_; rintro e w2 ⟨rfl, h2⟩; replace hcur := Lib.hid (hcur.out.trans (h2.mono hcur.out.size)); clear h2)
      | (go_at_call 91; refine (from_setR _ s ⟨k, 0⟩).mono ?_; rintro e w3 ⟨Bt, Bx, rfl, h3, hq1, hq2⟩; replace hcur := Lib.hid (hcur.out.trans (h3.mono hcur.out.size)); have HQ1 := Lib.hid hq1; have HQ2 := Lib.hid hq2; clear h3 hq1 hq2)
      | (go_at_call 70; refine (apart_anyP _ _ _).mono ?_; rintro e w4 ⟨rfl, rfl⟩; have HQ : Hid ((w3.alloc (.cells #[.func (.func 107) #[] #[.pointer (some ⟨Bt, 0, none⟩), .pointer (some ⟨Bx, 0, none⟩)]] 112)).heap[w3.heap.size]? = some (.cells #[.func (.func 107) #[] #[.pointer (some ⟨Bt, 0, none⟩), .pointer (some ⟨Bx, 0, none⟩)]] 112 (0, 0)) ∧ (w3.alloc (.cells #[.func (.func 107) #[] #[.pointer (some ⟨Bt, 0, none⟩), .pointer (some ⟨Bx, 0, none⟩)]] 112)).heap[Bt]? = some (.cells #[.pointer (some ⟨s, 0, none⟩)] 97 (0, 0)) ∧ (w3.alloc (.cells #[.func (.func 107) #[] #[.pointer (some ⟨Bt, 0, none⟩), .pointer (some ⟨Bx, 0, none⟩)]] 112)).heap[Bx]? = some (.cells #[.int .i64 k.k, .string k.t, .int .i64 k.n, .int .i64 0] 100 (0, 0))) := Lib.hid ⟨new_at rfl, (Below.heap_alloc _ _ _ (heap_lt HQ1.out)).trans HQ1.out, (Below.heap_alloc _ _ _ (heap_lt HQ2.out)).trans HQ2.out⟩; replace hcur := Lib.hid (hcur.out.alloc hcur.out.size (.cells #[.func (.func 107) #[] #[.pointer (some ⟨Bt, 0, none⟩), .pointer (some ⟨Bx, 0, none⟩)]] 112))))
  all_goals
    rename_i hHeld
    have HF := Lib.hid (HB.out.trans (hHeld.1.mono HB.out.size))
    clear hHeld
    go_wp2_with fail
    go_ret
    exact ⟨_, Bt, Bx, rfl, HF.out, HQ.out.1, HQ.out.2.1, HQ.out.2.2⟩
theorem seq_fromP (n : Nat) (w : World) (s : Nat) (k : Sy) (xs : List Pr) (Bl Bt Bx : Nat) (h1 : w.heap[Bl]? = some (.cells #[.func (.func 107) #[] #[.pointer (some ⟨Bt, 0, none⟩), .pointer (some ⟨Bx, 0, none⟩)]] 112 (0, 0))) (h2 : w.heap[Bt]? = some (.cells #[.pointer (some ⟨s, 0, none⟩)] 97 (0, 0))) (h3 : w.heap[Bx]? = some (.cells #[.int .i64 k.k, .string k.t, .int .i64 k.n, .int .i64 0] 100 (0, 0))) (hS : SetP w s xs)
    (R : List Pr → Pr → Prop) (hR : ∀ a x b, since cmpP ⟨k, 0⟩ xs = a ++ x :: b → R a x) :
    SeqOver Fence.wide n Try.prog 94 #[.pointer (some ⟨Bl, 0, none⟩)] (fun x : Pr => #[.agg #[.int .i64 x.k.k, .string x.k.t, .int .i64 x.k.n], .int .i64 x.v]) KPP (fun ys => ys = since cmpP ⟨k, 0⟩ xs) (fun pre => pre <+: since cmpP ⟨k, 0⟩ xs) R w :=
  apart_overP Fence.wide rfl n trivial rfl 107 trivial _ (enters_of Try.func107 (by kernel_rfl) rfl) Bl w h1 _ _ R (from_overR (n - 1) Bt Bx s ⟨k, 0⟩ xs w h2 h3 hS R hR)
set_option maxRecDepth 100000 in
set_option maxHeartbeats 8000000 in
theorem pairs_from (w : World) (b s : Nat) (k : Sy) (xs : List Pr) (hM : MapP w b s xs) (hz : xs.length ≤ 999) :
    Calls Try.prog 32 #[.pointer (some ⟨b, 0, none⟩), .agg #[.int .i64 k.k, .string k.t, .int .i64 k.n], .bool false, .int .i64 1000] w (PairsOut w (since cmpP ⟨k, 0⟩ xs)) := by
  obtain ⟨i0, hi, hi0, hi1, hi2⟩ := info_parts infoSP
  obtain ⟨j0, hj, hj0, hj1, hj2⟩ := info_parts infoIP
  obtain ⟨W2, hW2⟩ : ∃ W2, W2 = (((w.alloc (.cells #[.int .i64 k.k, .string k.t, .int .i64 k.n] 27)).alloc (.cells #[.int .i64 1000] 3)).alloc (.cells #[.slice none 0 0] 44)).alloc (.cells #[.slice none 0 0] 45) := ⟨_, rfl⟩
  have hB : Below w.heap.size w W2 := by rw [hW2]; go_grown
  have h5 : W2.heap[w.heap.size]? = some (.cells #[.int .i64 k.k, .string k.t, .int .i64 k.n] 27 (0, 0)) := by rw [hW2]; exact (Below.heap_alloc _ _ _ (by simp <;> omega)).trans ((Below.heap_alloc _ _ _ (by simp <;> omega)).trans ((Below.heap_alloc _ _ _ (by simp <;> omega)).trans (new_at rfl)))
  have h7 : W2.heap[w.heap.size + 1]? = some (.cells #[.int .i64 1000] 3 (0, 0)) := by rw [hW2]; exact (Below.heap_alloc _ _ _ (by simp <;> omega)).trans ((Below.heap_alloc _ _ _ (by simp <;> omega)).trans (new_at (by simp <;> omega)))
  have h10 : Boxed W2 (w.heap.size + 2) 44 (.slice none 0 0) := by rw [hW2]; exact (Below.heap_alloc _ _ _ (by simp <;> omega)).trans (new_at (by simp <;> omega))
  have h11 : Boxed W2 (w.heap.size + 3) 45 (.slice none 0 0) := by rw [hW2]; exact new_at (by simp)
  have hm2 := MapP.mono hM hB
  have hz2 : W2.heap.size = w.heap.size + 4 := by rw [hW2]; simp
  have HM := Lib.hid hm2
  have HB := Lib.hid hB
  have H5 := Lib.hid h5
  have H7 := Lib.hid h7
  have H10 := Lib.hid h10
  have H11 := Lib.hid h11
  have HW := Lib.hid hW2
  have HZ2 := Lib.hid hz2
  have x0 : W2.cell? ⟨w.heap.size, 0, none⟩ = some (.int .i64 k.k) := by rw [cells_of h5]; rfl
  have x1 : W2.cell? ⟨w.heap.size, 1, none⟩ = some (.string k.t) := by rw [cells_of h5]; rfl
  have x2 : W2.cell? ⟨w.heap.size, 2, none⟩ = some (.int .i64 k.n) := by rw [cells_of h5]; rfl
  clear hm2 hB h5 h7 h10 h11 hW2 hz2 hM
  refine callsIn_wide.1 (callsIn_of_wp_marks (n := 3) Try.func32 rfl trivial (wpIn_wide.2 ?_) rfl)
  simp only [Try.ntmps32, List.size_toArray, List.length_cons, List.length_nil, Nat.reduceAdd, Nat.reduceSub, Array.replicate_succ, Array.replicate_zero, List.push_toArray, List.append_toArray, List.nil_append, List.cons_append]
  go_wp2_with fail
  rw [← HW.out]
  refine (from_mapR W2 b s k xs HM.out).mono ?_
  rintro e w6 ⟨Bl, Bt, Bz, rfl, b6, h1, h2, h3⟩
  have hef := eql_func_nilMP (.func 94) #[] #[.pointer (some ⟨Bl, 0, none⟩)]
  have hsl : (since cmpP (⟨k, 0⟩ : Pr) xs).length ≤ 999 := Nat.le_trans (List.length_filter_le _ _) hz
  have H3 := Lib.hid h3
  clear x0 x1 x2
  have HB6 := Lib.hid b6
  have H1 := Lib.hid h1
  have H2 := Lib.hid h2
  clear b6 h1 h2 h3
  go_wp2_with fail
  clear hef
  have HM6 := Lib.hid (MapP.mono HM.out HB6.out)
  have hz6 : w.heap.size + 1 + 1 + 1 + 1 ≤ w6.heap.size := by have h1 := HZ2.out; have h2 := HB6.out.size; omega
  have c7 : ∀ V, Below (w.heap.size + 1 + 1) w6 V → V.cell? ⟨w.heap.size + 1, 0, none⟩ = some (.int .i64 1000) := fun V h => by
    have h7 := (HB6.out.block _ (heap_lt H7.out)).trans H7.out
    rw [cells_of ((h.block _ (by omega)).trans h7)]; rfl
  have C7 := Lib.hid c7
  have B10 : Hid (Boxed w6 (w.heap.size + 1 + 1) 44 (.slice none 0 0)) := Lib.hid ((HB6.out.block _ (heap_lt H10.out)).trans H10.out)
  have B11 : Hid (Boxed w6 (w.heap.size + 1 + 1 + 1) 45 (.slice none 0 0)) := Lib.hid ((HB6.out.block _ (heap_lt H11.out)).trans H11.out)
  have BB := Lib.hid (HB.out.trans (HB6.out.mono HB.out.size))
  clear c7 HM HB H5 H7 H10 H11 HW HB6
  refine (wpIn_wide (n := 3)).1 ?_
  refine wpIn_rangeFunc_over rfl rfl (gf := 94) (lb := #[.pointer (some ⟨Bl, 0, none⟩)]) rfl trivial (enters_of Try.func94 (by kernel_rfl) rfl)
    (seq_fromP 2 w6 s k xs Bl Bt Bz H1.out H2.out H3.out HM6.out.2 (fun pre x => ∃ post, since cmpP ⟨k, 0⟩ xs = pre ++ x :: post) (fun a x b h => ⟨b, h⟩)) (fun h k => KPP.trans h k) (fun W l o o' _ h hc _ => KPP.put W l o o' h hc) (Below.refl _ _) (fun _ => rfl)
    (fun pre V => Below (w.heap.size + 1 + 1) w6 V ∧ ((∃ v, Boxed V (w.heap.size + 1 + 1) 44 v ∧ V.ownsRow (w.heap.size + 1 + 1) 27 3 v pre.length (pre.flatMap fun p => encS p.k) ∧ True) ∧ (∃ v, Boxed V (w.heap.size + 1 + 1 + 1) 45 v ∧ V.ownsRow (w.heap.size + 1 + 1) 3 1 v pre.length (pre.map fun p => .int .i64 p.v) ∧ True)))
    (fun _ _ _ => False)
    (OwnFrom.and (ownFrom_below (by omega) (by omega)) (Own.from (own_and (holdsRow_own (w.heap.size + 1 + 1) (w.heap.size + 1 + 1) 44 27 3 (fun pre : List Pr => pre.length) (fun pre => pre.flatMap fun p => encS p.k) (fun _ _ => True)) (holdsRow_own (w.heap.size + 1 + 1) (w.heap.size + 1 + 1 + 1) 45 3 1 (fun pre : List Pr => pre.length) (fun pre => pre.map fun p => .int .i64 p.v) (fun _ _ => True))) _))
    (fun _ _ _ _ _ hs _ _ => hs) ⟨Below.refl _ _, ⟨_, B10.out, World.ownsRow_nil _ _ _ _, trivial⟩, ⟨_, B11.out, World.ownsRow_nil _ _ _ _, trivial⟩⟩
    (fun x a' V => ∃ Bx, V.heap[Bx]? = some (.cells #[.int .i64 x.k.k, .string x.k.t, .int .i64 x.k.n] 27 (0, 0)) ∧ a' = { tmps := #[.pointer (some ⟨b, 0, none⟩), .agg #[.int .i64 k.k, .string k.t, .int .i64 k.n], .bool false, .int .i64 1000, undef, .pointer (some ⟨w.heap.size, 0, none⟩), undef, .pointer (some ⟨w.heap.size + 1, 0, none⟩), .slice none 0 0, .slice none 0 0, .pointer (some ⟨w.heap.size + 1 + 1, 0, none⟩), .pointer (some ⟨w.heap.size + 1 + 1 + 1, 0, none⟩), .func (.func 94) #[] #[.pointer (some ⟨Bl, 0, none⟩)], .pointer (some ⟨Bx, 0, none⟩), .int .i64 x.v, .pointer (some ⟨b, 0, none⟩), .agg #[.int .i64 k.k, .string k.t, .int .i64 k.n], .func (.func 94) #[] #[.pointer (some ⟨Bl, 0, none⟩)], .bool false, undef, undef, .func (.func 94) #[] #[.pointer (some ⟨Bl, 0, none⟩)], .bool false, .func (.func 94) #[] #[.pointer (some ⟨Bl, 0, none⟩)], .agg #[.int .i64 x.k.k, .string x.k.t, .int .i64 x.k.n], .int .i64 x.v, undef, undef, undef, undef, undef, undef, undef, undef, undef, undef, undef, undef, undef, undef], defers := [] })
    (fun x a' => by
      rintro s X Y row ⟨Bx, h2, h3⟩ hg hrow
      exact ⟨Bx, kept_block h2 hg (fun r e => (hrow r e).2), h3⟩) ?assign ?body ?done ?stop
  case assign =>
    rintro l pre x V K ⟨hB, ⟨v1, hv1, hr1, -⟩, ⟨v2, hv2, hr2, -⟩⟩ hK
    have hsz := hB.size
    gi_wp2
    have hA := (Below.refl V.heap.size V).alloc (Nat.le_refl _) (.cells #[.int .i64 x.k.k, .string x.k.t, .int .i64 x.k.n] 27)
    exact hK _ _ ((KeepsOthers.alloc _ _).from _) ⟨KN.below hA, KN.below hA⟩ ⟨hB.alloc (by omega) _, ⟨v1, hv1.alloc _, hr1.alloc _, trivial⟩, ⟨v2, hv2.alloc _, hr2.alloc _, trivial⟩⟩ ⟨V.heap.size, new_at rfl, rfl⟩
  case body =>
    rintro l pre x a' V hl ⟨r, hr⟩ ⟨hB, ⟨v1, hv1, hr1, -⟩, ⟨v2, hv2, hr2, -⟩⟩ ⟨Bx, hx, rfl⟩ ⟨post, hp⟩
    have hlt : pre.length < (since cmpP (⟨k, 0⟩ : Pr) xs).length := by have := congrArg List.length hp; simp at this; omega
    obtain ⟨p1, q1, rfl⟩ := row_form hr1
    obtain ⟨p2, q2, rfl⟩ := row_form hr2
    have c10 := hv1.cell
    have c11 := hv2.cell
    have c7 := C7.out V hB
    have x0 : V.cell? ⟨Bx, 0, none⟩ = some (.int .i64 x.k.k) := by rw [cells_of hx]; rfl
    have x1 : V.cell? ⟨Bx, 1, none⟩ = some (.string x.k.t) := by rw [cells_of hx]; rfl
    have x2 : V.cell? ⟨Bx, 2, none⟩ = some (.int .i64 x.k.n) := by rw [cells_of hx]; rfl
    have hge : decide ((1000 : Int) ≤ (pre.length : Int)) = false := by simp; omega
    have hsz := hB.size
    have V1 := Lib.hid hv1
    have V2 := Lib.hid hv2
    have R1 := Lib.hid hr1
    have R2 := Lib.hid hr2
    have HBv := Lib.hid hB
    clear hp hx hr hv1 hv2 hr1 hr2 hB
    gi_wp2_with (first
      | (gi_at_builtin; refine wpListIn_append_own _ rfl _ _ 44 rfl (w.heap.size + 1 + 1) 27 i0 (.agg #[.int .i64 0, .string ⟨#[]⟩, .int .i64 0]) 3 32 Try.underlying44 hi hi0 hi1 hi2 rfl (by decide) _ _ _ rfl (R1.out.alloc _) ⟨V.heap.size, 0, none⟩ 1 1 (encS x.k) rfl rfl (cell3_new _ _ _) (by simp [encS, Value.oneCell']) (by unfold maxLen; omega) (by omega) (by simp; omega) ?_; intro v' w1 hown' hgrow _; obtain ⟨g', cap', rfl⟩ := ownsRow_succ hown'; have hkn1 := appended_KN (v' := .slice (some ⟨g', 0, none⟩) (pre.length + 1) cap') (nt := 162) V1.out (by decide) (by decide) (by decide) R1.out hgrow; have hkn2 := appended_KN (v' := .slice (some ⟨g', 0, none⟩) (pre.length + 1) cap') (nt := 52) V1.out (by decide) (by decide) (by decide) R1.out hgrow; have hkn3 := appended_KN (v' := .slice (some ⟨g', 0, none⟩) (pre.length + 1) cap') (nt := 45) V1.out (by decide) (by decide) (by decide) R1.out hgrow; have hkn4 := appended_KN (v' := .slice (some ⟨g', 0, none⟩) (pre.length + 1) cap') (nt := 3) V1.out (by decide) (by decide) (by decide) R1.out hgrow; obtain ⟨hb1, hb2, hr2, hk2, hbb2⟩ := V1.out.appended (by decide) R1.out (by omega) (Nat.le_refl _) hown' hgrow; have hc1 := hb1.cell; have hf1 := hb1.frozen; have V1' := Lib.hid hb2; have R1' := Lib.hid hr2; have K1 := Lib.hid hk2; have BB1 := Lib.hid hbb2; have V2' := Lib.hid (hkn3 _ _ _ V2.out); have R2' := Lib.hid (ownsRow_kn hkn4 R2.out); have KNa := Lib.hid (⟨hkn1, hkn2⟩ : KPP V _); have c11' := (show Boxed _ _ _ _ from V2'.out).cell; have hsz1 : V.heap.size ≤ w1.heap.size := (by have h := hbb2.size; simpa using h); have Hco : Hid (∀ j u, [Value.int .i64 x.v][j]? = some u → ((w1.setCell ⟨w.heap.size + 1 + 1, 0, none⟩ (.slice (some ⟨g', 0, none⟩) (pre.length + 1) cap')).alloc (.cells #[.int .i64 x.v] 3)).cell? ((⟨w1.heap.size, 0, none⟩ : Addr).add j) = some u) := Lib.hid (by have h := cell_one_new (w1.setCell ⟨w.heap.size + 1 + 1, 0, none⟩ (.slice (some ⟨g', 0, none⟩) (pre.length + 1) cap')) (.int .i64 x.v) 3; rw [show (w1.setCell ⟨w.heap.size + 1 + 1, 0, none⟩ (.slice (some ⟨g', 0, none⟩) (pre.length + 1) cap')).heap.size = w1.heap.size by simp] at h; exact h); clear hkn1 hkn2 hkn3 hkn4 hb1 hb2 hr2 hk2 hbb2 hown' hgrow c10 c11 c7 x0 x1 x2)
      | (gi_at_builtin; refine wpListIn_append_own _ rfl _ _ 45 rfl (w.heap.size + 1 + 1) 3 j0 (.int .i64 0) 1 8 Try.underlying45 hj hj0 hj1 hj2 rfl (by decide) _ _ _ rfl (R2'.out.alloc _) ⟨w1.heap.size, 0, none⟩ 1 1 [.int .i64 x.v] rfl rfl Hco.out (by simp [Value.oneCell']) (by unfold maxLen; omega) (by omega) (by simp; omega) ?_; intro v'' w2 hown'' hgrow2 _; obtain ⟨g'', cap'', rfl⟩ := ownsRow_succ hown''; have hkn1 := appended_KN (v' := .slice (some ⟨g'', 0, none⟩) (pre.length + 1) cap'') (nt := 162) V2'.out (by decide) (by decide) (by decide) R2'.out hgrow2; have hkn2 := appended_KN (v' := .slice (some ⟨g'', 0, none⟩) (pre.length + 1) cap'') (nt := 52) V2'.out (by decide) (by decide) (by decide) R2'.out hgrow2; have hkn3 := appended_KN (v' := .slice (some ⟨g'', 0, none⟩) (pre.length + 1) cap'') (nt := 44) V2'.out (by decide) (by decide) (by decide) R2'.out hgrow2; have hkn4 := appended_KN (v' := .slice (some ⟨g'', 0, none⟩) (pre.length + 1) cap'') (nt := 27) V2'.out (by decide) (by decide) (by decide) R2'.out hgrow2; obtain ⟨hb1, hb2, hr2, hk2, hbb2⟩ := (show Boxed _ _ _ _ from V2'.out).appended (by decide) R2'.out (by simp; omega) (by omega) hown'' hgrow2; have hc2 := hb1.cell; have hf2 := hb1.frozen; have V1e := Lib.hid (hkn3 _ _ _ V1'.out); have R1e := Lib.hid (ownsRow_kn hkn4 R1'.out); have KNb := Lib.hid (⟨hkn1, hkn2⟩ : KPP _ _); have V2e := Lib.hid hb2; have R2e := Lib.hid hr2; have K2 := Lib.hid hk2; have BB2 := Lib.hid hbb2; clear hkn1 hkn2 hkn3 hkn4 hb1 hb2 hr2 hk2 hbb2 hown'' hgrow2))
    exact ⟨(K1.out.from _).trans (K2.out.from _), KPP.trans KNa.out KNb.out, (HBv.out.trans BB1.out).trans BB2.out, ⟨_, V1e.out, by simpa [List.flatMap_append] using R1e.out, trivial⟩, ⟨_, V2e.out, by simpa using R2e.out, trivial⟩⟩
  case done =>
    rintro D zs V hD rfl ⟨hB, ⟨v1, hv1, hr1, -⟩, ⟨v2, hv2, hr2, -⟩⟩ hK
    have c10 := hv1.cell
    have c11 := hv2.cell
    have HBv := Lib.hid hB
    have R1 := Lib.hid hr1
    have R2 := Lib.hid hr2
    have HK := Lib.hid hK
    clear hv1 hv2 hr1 hr2 hB hK
    go_wp2_with fail
    go_quiet (fail)
    go_wp2_with fail
    refine ⟨by simp, .inl ⟨_, _, rfl, run_takeDeferred HK.out, ?_⟩⟩
    refine ⟨_, results_tmp2 rfl _ _ _, v1, v2, rfl, ?_, ?_, ?_⟩
    · exact (BB.out.trans (bdN _ (HBv.out.mono (by omega)))).trans (belowK_b (w := w) (Nat.le_refl _) _ D _ _ (by have := BB.out.size; omega) HK.out rfl rfl)
    · exact ownsRow_putObj (ownsRow_base R1.out (by omega)) _ HK.out rfl
    · exact ownsRow_putObj (ownsRow_base R2.out (by omega)) _ HK.out rfl
  case stop =>
    rintro D c pre W _ _ h _
    exact h.elim
end Go.Proofs.Ythgidldcblchmaa
