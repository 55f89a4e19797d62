/-
  All pairs of a map as two lists. No condition but a bound on sizes.
-/
import Derived.RangeFuncNested
import Derived.RangeFuncBound
import Derived.RangeFuncCalls
import Derived.RangeFuncLeaves
import Derived.Shelf.Abstract
import Derived.Shelf.RegionOpen
import Derived.WalkKit
import Derived.OwnWalkIn
import Derived.TacticsInMore
import Derived.LoopNIn
import Derived.LoopIn
import Derived.BigGuardIn
import Derived.Test.YthgidldcblchmaaKit3
import Derived.Test.YthgidldcblchmaaCountS
import Derived.Test.YthgidldcblchmaaFromMP
import Derived.Test.YthgidldcblchmaaKitApp
import Derived.RangeFuncBox
namespace Go.Proofs.Ythgidldcblchmaa
set_option linter.unusedVariables false
open Go.RowKit Go.Shelf
attribute [local go_sem] Oper.semAt_some

theorem infoSP : (Try.prog.info? 27).map (fun i => (i.zero, i.size, i.bytes)) = some (some (.agg #[.int .i64 0, .string ⟨#[]⟩, .int .i64 0]), 3, 32) := by kernel_rfl
theorem infoIP : (Try.prog.info? 3).map (fun i => (i.zero, i.size, i.bytes)) = some (some (.int .i64 0), 1, 8) := by kernel_rfl
theorem cell3_new (w : World) (x : Sy) (t : TypeId) : ∀ j u, (encS x)[j]? = some u → (w.alloc (.cells #[.int .i64 x.k, .string x.t, .int .i64 x.n] t)).cell? ((⟨w.heap.size, 0, none⟩ : Addr).add j) = some u := by
  intro j u hj
  rw [Go.WideShapes.add_plain, cells_of (new_at rfl)]
  simpa [encS] using hj
theorem ownsRow_kn {W W' : World} {base : Nat} {e : TypeId} {size : Nat} {v : Value} {n : Nat} {xs : List Value} (h : KN e W W') (ho : W.ownsRow base e size v n xs) : W'.ownsRow base e size v n xs := by
  refine ⟨ho.1, ?_⟩
  rcases ho.2 with h1 | ⟨g, cap, cur, a, b, c, d⟩
  · exact .inl h1
  · exact .inr ⟨g, cap, cur, a, b, h g _ _ c, d⟩
theorem ownsRow_base {W : World} {base base' : Nat} {e : TypeId} {size : Nat} {v : Value} {n : Nat} {xs : List Value} (ho : W.ownsRow base e size v n xs) (h : base' ≤ base) : W.ownsRow base' e size v n xs := by
  refine ⟨ho.1, ?_⟩
  rcases ho.2 with h1 | ⟨g, cap, cur, a, b, c, d⟩
  · exact .inl h1
  · exact .inr ⟨g, cap, cur, a, by omega, c, d⟩
theorem row_form {W : World} {base : Nat} {e : TypeId} {size : Nat} {v : Value} {n : Nat} {xs : List Value} (ho : W.ownsRow base e size v n xs) : ∃ q c, v = .slice q n c := by
  rcases ho.2 with ⟨h1, h2⟩ | ⟨g, cap, cur, h1, -⟩
  · exact ⟨none, 0, by rw [h1, h2]⟩
  · exact ⟨_, _, h1⟩
def PairsOut (w : World) (xs : List Pr) (e : Ending) (w' : World) : Prop := ∃ vk vv, e = .returned (.tuple #[vk, vv]) ∧ Below w.heap.size w w' ∧ w'.ownsRow w.heap.size 27 3 vk xs.length (xs.flatMap fun p => encS p.k) ∧ w'.ownsRow w.heap.size 3 1 vv xs.length (xs.map fun p => .int .i64 p.v)
set_option maxRecDepth 100000 in
set_option maxHeartbeats 8000000 in
theorem pairs_any (w : World) (b s : Nat) (k : Sy) (xs : List Pr) (hM : MapP w b s xs) (hz : xs.length ≤ 999) :
    Calls Try.prog 32 #[.pointer (some ⟨b, 0, none⟩), .agg #[.int .i64 k.k, .string k.t, .int .i64 k.n], .bool true, .int .i64 1000] w (PairsOut w xs) := by
  obtain ⟨i0, hi, hi0, hi1, hi2⟩ := info_parts infoSP
  obtain ⟨j0, hj, hj0, hj1, hj2⟩ := info_parts infoIP
  obtain ⟨W2, hW2⟩ : ∃ W2, W2 = (((w.alloc (.cells #[.int .i64 k.k, .string k.t, .int .i64 k.n] 27)).alloc (.cells #[.int .i64 1000] 3)).alloc (.cells #[.slice none 0 0] 44)).alloc (.cells #[.slice none 0 0] 45) := ⟨_, rfl⟩
  have hB : Below w.heap.size w W2 := by rw [hW2]; go_grown
  have h5 : W2.heap[w.heap.size]? = some (.cells #[.int .i64 k.k, .string k.t, .int .i64 k.n] 27 (0, 0)) := by rw [hW2]; exact (Below.heap_alloc _ _ _ (by simp <;> omega)).trans ((Below.heap_alloc _ _ _ (by simp <;> omega)).trans ((Below.heap_alloc _ _ _ (by simp <;> omega)).trans (new_at rfl)))
  have h7 : W2.heap[w.heap.size + 1]? = some (.cells #[.int .i64 1000] 3 (0, 0)) := by rw [hW2]; exact (Below.heap_alloc _ _ _ (by simp <;> omega)).trans ((Below.heap_alloc _ _ _ (by simp <;> omega)).trans (new_at (by simp <;> omega)))
  have h10 : Boxed W2 (w.heap.size + 2) 44 (.slice none 0 0) := by rw [hW2]; exact (Below.heap_alloc _ _ _ (by simp <;> omega)).trans (new_at (by simp <;> omega))
  have h11 : Boxed W2 (w.heap.size + 3) 45 (.slice none 0 0) := by rw [hW2]; exact new_at (by simp)
  have hm2 := MapP.mono hM hB
  have hz2 : W2.heap.size = w.heap.size + 4 := by rw [hW2]; simp
  have HM := Lib.hid hm2
  have HB := Lib.hid hB
  have H5 := Lib.hid h5
  have H7 := Lib.hid h7
  have H10 := Lib.hid h10
  have H11 := Lib.hid h11
  have HW := Lib.hid hW2
  have HZ2 := Lib.hid hz2
  have x0 : W2.cell? ⟨w.heap.size, 0, none⟩ = some (.int .i64 k.k) := by rw [cells_of h5]; rfl
  have x1 : W2.cell? ⟨w.heap.size, 1, none⟩ = some (.string k.t) := by rw [cells_of h5]; rfl
  have x2 : W2.cell? ⟨w.heap.size, 2, none⟩ = some (.int .i64 k.n) := by rw [cells_of h5]; rfl
  clear hm2 hB h5 h7 h10 h11 hW2 hz2 hM
  refine callsIn_wide.1 (callsIn_of_wp_marks (n := 3) Try.func32 rfl trivial (wpIn_wide.2 ?_) rfl)
  simp only [Try.ntmps32, List.size_toArray, List.length_cons, List.length_nil, Nat.reduceAdd, Nat.reduceSub, Array.replicate_succ, Array.replicate_zero, List.push_toArray, List.append_toArray, List.nil_append, List.cons_append]
  go_wp2_with fail
  rw [← HW.out]
  refine (from_mapP W2 b s k xs HM.out).mono ?_
  rintro e w3 ⟨⟨lb, rfl⟩, b3⟩
  have HB3 := Lib.hid b3
  clear b3 x0 x1 x2
  have hef := eql_func_nilMP (.func 94) #[] lb
  go_wp2_with fail
  refine (all_mapP w3 b s xs (MapP.mono HM.out HB3.out)).mono ?_
  rintro e w6 ⟨Bl, Bt, rfl, hBl, b6, h1, h2⟩
  have hef := eql_func_nilMP (.func 94) #[] #[.pointer (some ⟨Bl, 0, none⟩)]
  have HB6 := Lib.hid (HB3.out.trans (b6.mono HB3.out.size))
  have H1 := Lib.hid h1
  have H2 := Lib.hid h2
  clear b6 h1 h2
  go_wp2_with fail
  clear hef
  have HM6 := Lib.hid (MapP.mono HM.out HB6.out)
  have hz6 : w.heap.size + 1 + 1 + 1 + 1 ≤ w6.heap.size := by have h1 := HZ2.out; have h2 := HB6.out.size; omega
  have c7 : ∀ V, Below (w.heap.size + 1 + 1) w6 V → V.cell? ⟨w.heap.size + 1, 0, none⟩ = some (.int .i64 1000) := fun V h => by
    have h7 := (HB6.out.block _ (heap_lt H7.out)).trans H7.out
    rw [cells_of ((h.block _ (by omega)).trans h7)]; rfl
  have C7 := Lib.hid c7
  have B10 : Hid (Boxed w6 (w.heap.size + 1 + 1) 44 (.slice none 0 0)) := Lib.hid ((HB6.out.block _ (heap_lt H10.out)).trans H10.out)
  have B11 : Hid (Boxed w6 (w.heap.size + 1 + 1 + 1) 45 (.slice none 0 0)) := Lib.hid ((HB6.out.block _ (heap_lt H11.out)).trans H11.out)
  have BB := Lib.hid (HB.out.trans (HB6.out.mono HB.out.size))
  clear c7 HM HB H5 H7 H10 H11 HW HB3 HB6
  refine (wpIn_wide (n := 3)).1 ?_
  refine wpIn_rangeFunc_over rfl rfl (gf := 94) (lb := #[.pointer (some ⟨Bl, 0, none⟩)]) rfl trivial (enters_of Try.func94 (by kernel_rfl) rfl)
    (seq_mapP 2 w6 s xs Bl Bt H1.out H2.out HM6.out.2 (fun pre x => ∃ post, xs = pre ++ x :: post) (fun a x b h => ⟨b, h⟩)) (fun h k => KPP.trans h k) (fun W l o o' _ h hc _ => KPP.put W l o o' h hc) (Below.refl _ _) (fun _ => rfl)
    (fun pre V => Below (w.heap.size + 1 + 1) w6 V ∧ ((∃ v, Boxed V (w.heap.size + 1 + 1) 44 v ∧ V.ownsRow (w.heap.size + 1 + 1) 27 3 v pre.length (pre.flatMap fun p => encS p.k) ∧ True) ∧ (∃ v, Boxed V (w.heap.size + 1 + 1 + 1) 45 v ∧ V.ownsRow (w.heap.size + 1 + 1) 3 1 v pre.length (pre.map fun p => .int .i64 p.v) ∧ True)))
    (fun _ _ _ => False)
    (OwnFrom.and (ownFrom_below (by omega) (by omega)) (Own.from (own_and (holdsRow_own (w.heap.size + 1 + 1) (w.heap.size + 1 + 1) 44 27 3 (fun pre : List Pr => pre.length) (fun pre => pre.flatMap fun p => encS p.k) (fun _ _ => True)) (holdsRow_own (w.heap.size + 1 + 1) (w.heap.size + 1 + 1 + 1) 45 3 1 (fun pre : List Pr => pre.length) (fun pre => pre.map fun p => .int .i64 p.v) (fun _ _ => True))) _))
    (fun _ _ _ _ _ hs _ _ => hs) ⟨Below.refl _ _, ⟨_, B10.out, World.ownsRow_nil _ _ _ _, trivial⟩, ⟨_, B11.out, World.ownsRow_nil _ _ _ _, trivial⟩⟩
    (fun x a' V => ∃ Bx, V.heap[Bx]? = some (.cells #[.int .i64 x.k.k, .string x.k.t, .int .i64 x.k.n] 27 (0, 0)) ∧ a' = { tmps := #[.pointer (some ⟨b, 0, none⟩), .agg #[.int .i64 k.k, .string k.t, .int .i64 k.n], .bool true, .int .i64 1000, undef, .pointer (some ⟨w.heap.size, 0, none⟩), undef, .pointer (some ⟨w.heap.size + 1, 0, none⟩), .slice none 0 0, .slice none 0 0, .pointer (some ⟨w.heap.size + 1 + 1, 0, none⟩), .pointer (some ⟨w.heap.size + 1 + 1 + 1, 0, none⟩), .func (.func 94) #[] #[.pointer (some ⟨Bl, 0, none⟩)], .pointer (some ⟨Bx, 0, none⟩), .int .i64 x.v, .pointer (some ⟨b, 0, none⟩), .agg #[.int .i64 k.k, .string k.t, .int .i64 k.n], .func (.func 94) #[] lb, .bool true, .pointer (some ⟨b, 0, none⟩), .func (.func 94) #[] #[.pointer (some ⟨Bl, 0, none⟩)], .func (.func 94) #[] #[.pointer (some ⟨Bl, 0, none⟩)], .bool false, .func (.func 94) #[] #[.pointer (some ⟨Bl, 0, none⟩)], .agg #[.int .i64 x.k.k, .string x.k.t, .int .i64 x.k.n], .int .i64 x.v, undef, undef, undef, undef, undef, undef, undef, undef, undef, undef, undef, undef, undef, undef], defers := [] })
    (fun x a' => by
      rintro s X Y row ⟨Bx, h2, h3⟩ hg hrow
      exact ⟨Bx, kept_block h2 hg (fun r e => (hrow r e).2), h3⟩) ?assign ?body ?done ?stop
  case assign =>
    rintro l pre x V K ⟨hB, ⟨v1, hv1, hr1, -⟩, ⟨v2, hv2, hr2, -⟩⟩ hK
    have hsz := hB.size
    gi_wp2
    have hA := (Below.refl V.heap.size V).alloc (Nat.le_refl _) (.cells #[.int .i64 x.k.k, .string x.k.t, .int .i64 x.k.n] 27)
    exact hK _ _ ((KeepsOthers.alloc _ _).from _) ⟨KN.below hA, KN.below hA⟩ ⟨hB.alloc (by omega) _, ⟨v1, hv1.alloc _, hr1.alloc _, trivial⟩, ⟨v2, hv2.alloc _, hr2.alloc _, trivial⟩⟩ ⟨V.heap.size, new_at rfl, rfl⟩
  case body =>
    rintro l pre x a' V hl ⟨r, hr⟩ ⟨hB, ⟨v1, hv1, hr1, -⟩, ⟨v2, hv2, hr2, -⟩⟩ ⟨Bx, hx, rfl⟩ ⟨post, hp⟩
    have hlt : pre.length < xs.length := by have := congrArg List.length hp; simp at this; omega
    obtain ⟨p1, q1, rfl⟩ := row_form hr1
    obtain ⟨p2, q2, rfl⟩ := row_form hr2
    have c10 := hv1.cell
    have c11 := hv2.cell
    have c7 := C7.out V hB
    have x0 : V.cell? ⟨Bx, 0, none⟩ = some (.int .i64 x.k.k) := by rw [cells_of hx]; rfl
    have x1 : V.cell? ⟨Bx, 1, none⟩ = some (.string x.k.t) := by rw [cells_of hx]; rfl
    have x2 : V.cell? ⟨Bx, 2, none⟩ = some (.int .i64 x.k.n) := by rw [cells_of hx]; rfl
    have hge : decide ((1000 : Int) ≤ (pre.length : Int)) = false := by simp; omega
    have hsz := hB.size
    have V1 := Lib.hid hv1
    have V2 := Lib.hid hv2
    have R1 := Lib.hid hr1
    have R2 := Lib.hid hr2
    have HBv := Lib.hid hB
    clear hp hx hr hv1 hv2 hr1 hr2 hB
    gi_wp2_with (first
      | (gi_at_builtin; refine wpListIn_append_own _ rfl _ _ 44 rfl (w.heap.size + 1 + 1) 27 i0 (.agg #[.int .i64 0, .string ⟨#[]⟩, .int .i64 0]) 3 32 Try.underlying44 hi hi0 hi1 hi2 rfl (by decide) _ _ _ rfl (R1.out.alloc _) ⟨V.heap.size, 0, none⟩ 1 1 (encS x.k) rfl rfl (cell3_new _ _ _) (by simp [encS, Value.oneCell']) (by unfold maxLen; omega) (by omega) (by simp; omega) ?_; intro v' w1 hown' hgrow _; obtain ⟨g', cap', rfl⟩ := ownsRow_succ hown'; have hkn1 := appended_KN (v' := .slice (some ⟨g', 0, none⟩) (pre.length + 1) cap') (nt := 162) V1.out (by decide) (by decide) (by decide) R1.out hgrow; have hkn2 := appended_KN (v' := .slice (some ⟨g', 0, none⟩) (pre.length + 1) cap') (nt := 52) V1.out (by decide) (by decide) (by decide) R1.out hgrow; have hkn3 := appended_KN (v' := .slice (some ⟨g', 0, none⟩) (pre.length + 1) cap') (nt := 45) V1.out (by decide) (by decide) (by decide) R1.out hgrow; have hkn4 := appended_KN (v' := .slice (some ⟨g', 0, none⟩) (pre.length + 1) cap') (nt := 3) V1.out (by decide) (by decide) (by decide) R1.out hgrow; obtain ⟨hb1, hb2, hr2, hk2, hbb2⟩ := V1.out.appended (by decide) R1.out (by omega) (Nat.le_refl _) hown' hgrow; have hc1 := hb1.cell; have hf1 := hb1.frozen; have V1' := Lib.hid hb2; have R1' := Lib.hid hr2; have K1 := Lib.hid hk2; have BB1 := Lib.hid hbb2; have V2' := Lib.hid (hkn3 _ _ _ V2.out); have R2' := Lib.hid (ownsRow_kn hkn4 R2.out); have KNa := Lib.hid (⟨hkn1, hkn2⟩ : KPP V _); have c11' := (show Boxed _ _ _ _ from V2'.out).cell; have hsz1 : V.heap.size ≤ w1.heap.size := (by have h := hbb2.size; simpa using h); have Hco : Hid (∀ j u, [Value.int .i64 x.v][j]? = some u → ((w1.setCell ⟨w.heap.size + 1 + 1, 0, none⟩ (.slice (some ⟨g', 0, none⟩) (pre.length + 1) cap')).alloc (.cells #[.int .i64 x.v] 3)).cell? ((⟨w1.heap.size, 0, none⟩ : Addr).add j) = some u) := Lib.hid (by have h := cell_one_new (w1.setCell ⟨w.heap.size + 1 + 1, 0, none⟩ (.slice (some ⟨g', 0, none⟩) (pre.length + 1) cap')) (.int .i64 x.v) 3; rw [show (w1.setCell ⟨w.heap.size + 1 + 1, 0, none⟩ (.slice (some ⟨g', 0, none⟩) (pre.length + 1) cap')).heap.size = w1.heap.size by simp] at h; exact h); clear hkn1 hkn2 hkn3 hkn4 hb1 hb2 hr2 hk2 hbb2 hown' hgrow c10 c11 c7 x0 x1 x2)
      | (gi_at_builtin; refine wpListIn_append_own _ rfl _ _ 45 rfl (w.heap.size + 1 + 1) 3 j0 (.int .i64 0) 1 8 Try.underlying45 hj hj0 hj1 hj2 rfl (by decide) _ _ _ rfl (R2'.out.alloc _) ⟨w1.heap.size, 0, none⟩ 1 1 [.int .i64 x.v] rfl rfl Hco.out (by simp [Value.oneCell']) (by unfold maxLen; omega) (by omega) (by simp; omega) ?_; intro v'' w2 hown'' hgrow2 _; obtain ⟨g'', cap'', rfl⟩ := ownsRow_succ hown''; have hkn1 := appended_KN (v' := .slice (some ⟨g'', 0, none⟩) (pre.length + 1) cap'') (nt := 162) V2'.out (by decide) (by decide) (by decide) R2'.out hgrow2; have hkn2 := appended_KN (v' := .slice (some ⟨g'', 0, none⟩) (pre.length + 1) cap'') (nt := 52) V2'.out (by decide) (by decide) (by decide) R2'.out hgrow2; have hkn3 := appended_KN (v' := .slice (some ⟨g'', 0, none⟩) (pre.length + 1) cap'') (nt := 44) V2'.out (by decide) (by decide) (by decide) R2'.out hgrow2; have hkn4 := appended_KN (v' := .slice (some ⟨g'', 0, none⟩) (pre.length + 1) cap'') (nt := 27) V2'.out (by decide) (by decide) (by decide) R2'.out hgrow2; obtain ⟨hb1, hb2, hr2, hk2, hbb2⟩ := (show Boxed _ _ _ _ from V2'.out).appended (by decide) R2'.out (by simp; omega) (by omega) hown'' hgrow2; have hc2 := hb1.cell; have hf2 := hb1.frozen; have V1e := Lib.hid (hkn3 _ _ _ V1'.out); have R1e := Lib.hid (ownsRow_kn hkn4 R1'.out); have KNb := Lib.hid (⟨hkn1, hkn2⟩ : KPP _ _); have V2e := Lib.hid hb2; have R2e := Lib.hid hr2; have K2 := Lib.hid hk2; have BB2 := Lib.hid hbb2; clear hkn1 hkn2 hkn3 hkn4 hb1 hb2 hr2 hk2 hbb2 hown'' hgrow2))
    exact ⟨(K1.out.from _).trans (K2.out.from _), KPP.trans KNa.out KNb.out, (HBv.out.trans BB1.out).trans BB2.out, ⟨_, V1e.out, by simpa [List.flatMap_append] using R1e.out, trivial⟩, ⟨_, V2e.out, by simpa using R2e.out, trivial⟩⟩
  case done =>
    rintro D zs V hD rfl ⟨hB, ⟨v1, hv1, hr1, -⟩, ⟨v2, hv2, hr2, -⟩⟩ hK
    have c10 := hv1.cell
    have c11 := hv2.cell
    have HBv := Lib.hid hB
    have R1 := Lib.hid hr1
    have R2 := Lib.hid hr2
    have HK := Lib.hid hK
    clear hv1 hv2 hr1 hr2 hB hK
    go_wp2_with fail
    go_quiet (fail)
    go_wp2_with fail
    refine ⟨by simp, .inl ⟨_, _, rfl, run_takeDeferred HK.out, ?_⟩⟩
    refine ⟨_, results_tmp2 rfl _ _ _, v1, v2, rfl, ?_, ?_, ?_⟩
    · exact (BB.out.trans (bdN _ (HBv.out.mono (by omega)))).trans (belowK_b (w := w) (Nat.le_refl _) _ D _ _ (by have := BB.out.size; omega) HK.out rfl rfl)
    · exact ownsRow_putObj (ownsRow_base R1.out (by omega)) _ HK.out rfl
    · exact ownsRow_putObj (ownsRow_base R2.out (by omega)) _ HK.out rfl
  case stop =>
    rintro D c pre W _ _ h _
    exact h.elim
end Go.Proofs.Ythgidldcblchmaa
