/-
  plain of ponderlaw02: drop. No condition but a bound on sizes.
-/
import Derived.Test.YthgidldcblchmaaBookPlPut
import Derived.Deep.RegionLaw
namespace Go.Proofs.Ythgidldcblchmaa
set_option linter.unusedVariables false
open Go.RowKit
theorem step_append_own {P : Program} {w : World} {ops : Array Oper} {o : Oper} {a : Act} {K : Act → World → Prop} {Q : Exit → Act → World → Prop} {E : Prop} (hgd : o.guard = none) (s x : Operand) (t : TypeId)
    (ho : o.op = .call { callee := .builtin .append, args := #[s, x], argTypes := #[t, t] })
    (base : Nat) (e : TypeId) (i : TypeInfo) (z : Value) (size bytes : Nat) (ht : P.underlying t = some (.slice e)) (hi : P.info? e = some i) (hz : i.zero = some z)
    (hsize : i.size = size) (hby : i.bytes = bytes) (hzs : z.cells.size = size) (hsz : 0 < size)
    (v : Value) (n : Nat) (xs : List Value) (hs : a.eval s = v) (hown : w.ownsRow base e size v n xs)
    (ad : Addr) (m c : Nat) (news : List Value) (hx : a.eval x = .slice (some ad) m c) (hl : news.length = m * size) (hnews : ∀ j u, news[j]? = some u → w.cell? (ad.add j) = some u) (h1 : ∀ u ∈ news, u.oneCell' = true)
    (h63 : n + m ≤ maxLen) (hbytes : (n + m) * bytes ≤ 140737488355328) (hbase : base ≤ w.heap.size)
    (h : ∀ v' w', w'.ownsRow base e size v' (n + m) (xs ++ news) → w.grownBy w' v.ownBlock → K (a.put o.dst v') w') :
    if Region.wanted o (yielded ops a.tmps) = true then Oper.wp P o a w K Q else E := by
  have hw : Region.wanted o (yielded ops a.tmps) = true := by simp [Region.wanted, hgd]
  rw [if_pos hw]
  exact wp_append_own w s x t ho base e i z size bytes ht hi hz hsize hby hzs hsz v n xs hs hown ad m c news hx hl hnews h1 h63 hbytes hbase (fun v' w' h1 h2 _ => h v' w' h1 h2)
/-- A row of one's own, parted: where its parts lie. -/
theorem owns_part {w : World} {base : Nat} {e : TypeId} {size : Nat} {v : Value} {n : Nat} {A M C : List Value} (h : w.ownsRow base e size v n (A ++ (M ++ C))) (hM : M ≠ []) :
    ∃ g cap, v = .slice (some ⟨g, 0, none⟩) n cap ∧ base ≤ g ∧ g < w.heap.size ∧ n ≤ cap ∧ cap ≤ maxLen ∧ ∀ w' : World, w'.heap[g]? = w.heap[g]? → (∀ j u, A[j]? = some u → w'.cell? ((⟨g, 0, none⟩ : Addr).add j) = some u) ∧ (∀ j u, C[j]? = some u → w'.cell? ((⟨g, A.length + M.length, none⟩ : Addr).add j) = some u) := by
  obtain ⟨hl, h | ⟨g, cap, cur, h1, h2, h3, h4, h5, h6, h7⟩⟩ := h
  · exfalso
    have h0 := h.2
    subst h0
    have h1 := List.length_pos_iff.2 hM
    rw [List.length_append, List.length_append] at hl
    omega
  · refine ⟨g, cap, h1, h2, heap_lt h3, h4, h5, fun w' hw => ?_⟩
    have hw3 := hw.trans h3
    have hat : ∀ j u, (A ++ (M ++ C))[j]? = some u → w'.cell? ⟨g, j, none⟩ = some u := fun j u hu => by
      rw [cells_of hw3, ← Array.getElem?_toList]
      rw [← h7, List.getElem?_take] at hu
      split at hu
      · exact hu
      · cases hu
    refine ⟨fun j u hu => ?_, fun j u hu => ?_⟩
    · rw [Go.WideShapes.add_plain, Nat.zero_add]
      exact hat j u (by rw [List.getElem?_append_left (List.getElem?_eq_some_iff.1 hu).1]; exact hu)
    · rw [Go.WideShapes.add_plain]
      refine hat _ u ?_
      rw [List.getElem?_append_right (by omega), List.getElem?_append_right (by omega)]
      rw [← hu]; congr 1; omega
theorem set_heap21 {w : World} {b : Nat} {v r u : Value} {t : TypeId} {f : Nat × Nat} (h : w.heap[b]? = some (.cells #[v, r] t f)) : (w.setCell ⟨b, 1, none⟩ u).heap[b]? = some (.cells #[v, u] t f) := by
  simp [World.setCell, Array.getElem?_modify, h]
theorem keys_parts (a b : List Pr) (o : Pr) : (keysL (a ++ o :: b)).flatMap encS = (keysL a).flatMap encS ++ (encS o.k ++ (keysL b).flatMap encS) := by simp
theorem vals_parts (a b : List Pr) (o : Pr) : valsL (a ++ o :: b) = valsL a ++ ([.int .i64 o.v] ++ valsL b) := by simp
theorem flat_lenS (ks : List Sy) : (ks.flatMap encS).length = ks.length * 3 := flat_length ks
theorem vals_one (ps : List Pr) : ∀ u ∈ valsL ps, u.oneCell' = true := by
  intro u hu
  obtain ⟨p, -, rfl⟩ := List.mem_map.1 hu
  rfl
set_option maxRecDepth 100000 in
set_option maxHeartbeats 4000000 in
theorem drop_none (w : World) (base B : Nat) (v1 v2 : Value) (ps : List Pr) (x : Sy) (hno : x ∉ keysL ps) (hb : base ≤ w.heap.size) (hz : ps.length ≤ 100000) (h : PlainAt w base B v1 v2 ps) :
    Calls Try.prog 28 #[.pointer (some ⟨B, 0, none⟩), .agg #[.int .i64 x.k, .string x.t, .int .i64 x.n]] w (PutPl w base B ps) := by
  obtain ⟨a1, c1, a2, c2, rfl, rfl⟩ := h.form
  obtain ⟨W2, hW2⟩ : ∃ W2, W2 = w.alloc (.cells #[.int .i64 x.k, .string x.t, .int .i64 x.n] 27) := ⟨_, rfl⟩
  have hBl : Below w.heap.size w W2 := by rw [hW2]; go_grown
  have hfind := (find_plain W2 B W2.heap.size a1 c1 a2 ps.length c2 (keysL ps) x (by simp; omega) (h.mono hBl).box (h.mono hBl).list).mono (R' := fun e w' => e = .returned (.int .i64 (-1)) ∧ Below W2.heap.size W2 w') (by
    rintro e w' ⟨⟨r, he, hr⟩, hb'⟩
    refine ⟨?_, hb'⟩
    rcases hr with ⟨rfl, -⟩ | ⟨k, hk, rfl, hk2, -⟩
    · exact he
    · exact absurd (hk2 ▸ List.getElem_mem hk) hno)
  have HF := Lib.hid hfind
  have HB := Lib.hid hBl
  have HW := Lib.hid hW2
  have HP := Lib.hid (h.mono hBl)
  clear hfind hBl hW2 h hno
  go_enter Try.func28, Try.ntmps28
  go_wp2_with fail
  rw [← HW.out]
  refine HF.out.mono ?_
  rintro e w2 ⟨rfl, hb2⟩
  have hfin : PutPl w base B ps (.returned (.tuple #[])) w2 := ⟨rfl, PlT.ofBelow hb (HB.out.trans (hb2.mono HB.out.size)), _, _, HP.out.mono hb2⟩
  have HFin := Lib.hid hfin
  clear hfin hb2
  go_wp2_with fail
  go_end0
  exact HFin.out
set_option maxRecDepth 100000 in
set_option maxHeartbeats 16000000 in
theorem drop_there (w : World) (base B : Nat) (v1 v2 : Value) (ps a b : List Pr) (o : Pr) (hp : ps = a ++ o :: b) (hno : ∀ i (h : i < (keysL ps).length), i < a.length → (keysL ps)[i] ≠ o.k) (hb : base ≤ w.heap.size) (hz : ps.length ≤ 100000) (h : PlainAt w base B v1 v2 ps) :
    Calls Try.prog 28 #[.pointer (some ⟨B, 0, none⟩), .agg #[.int .i64 o.k.k, .string o.k.t, .int .i64 o.k.n]] w (PutPl w base B (a ++ b)) := by
  obtain ⟨i0, hi, hi0, hi1, hi2⟩ := info_parts infoSP
  obtain ⟨j0, hj, hj0, hj1, hj2⟩ := info_parts infoIP
  obtain ⟨a1, c1, a2, c2, rfl, rfl⟩ := h.form
  have hal : a.length < ps.length := by rw [hp]; simp
  have hbl : ps.length = a.length + 1 + b.length := by rw [hp]; simp; omega
  obtain ⟨W2, hW2⟩ : ∃ W2, W2 = w.alloc (.cells #[.int .i64 o.k.k, .string o.k.t, .int .i64 o.k.n] 27) := ⟨_, rfl⟩
  have hBl : Below w.heap.size w W2 := by rw [hW2]; go_grown
  have hfind := (find_plain W2 B W2.heap.size a1 c1 a2 ps.length c2 (keysL ps) o.k (by simp; omega) (h.mono hBl).box (h.mono hBl).list).mono (R' := fun e w' => e = .returned (.int .i64 a.length) ∧ Below W2.heap.size W2 w') (by
    rintro e w' ⟨⟨r, he, hr⟩, hb'⟩
    refine ⟨?_, hb'⟩
    rcases hr with ⟨-, hr⟩ | ⟨k, hk, rfl, hk2, hk3⟩
    · exact absurd (by simp [hp]) (hr a.length (by simpa using hal))
    · rcases Nat.lt_trichotomy k a.length with h1 | h1 | h1
      · exact absurd hk2 (hno k hk h1)
      · rw [he, h1]
      · exact absurd (by simp [hp]) (hk3 a.length h1))
  have HF := Lib.hid hfind
  have HB := Lib.hid hBl
  have HW := Lib.hid hW2
  have HP := Lib.hid (h.mono hBl)
  have hki : (a.length : Int) + 1 ≤ (ps.length : Int) := by omega
  have hge : decide ((a.length : Int) < 0) = false := by simp
  clear hfind hBl hW2 h hno
  go_enter Try.func28, Try.ntmps28
  go_wp2_with fail
  rw [← HW.out]
  refine HF.out.mono ?_
  rintro e w2 ⟨rfl, hb2⟩
  have hP2 := HP.out.mono hb2
  have hk2 := hP2.2.2.1
  have hv2 := hP2.2.2.2
  rw [hp, keys_parts] at hk2
  rw [hp, vals_parts] at hv2
  obtain ⟨g1, d1, e1, hg1, hl1, hd1, hm1, hw1⟩ := owns_part hk2 (by simp [encS])
  obtain ⟨g2, d2, e2, hg2, hl2, hd2, hm2, hw2⟩ := owns_part hv2 (by simp)
  rw [← hp] at e1 e2 hd1 hd2
  obtain ⟨rfl, rfl⟩ : a1 = some ⟨g1, 0, none⟩ ∧ d1 = c1 := by simp at e1; exact ⟨e1.1, e1.2.symm⟩
  obtain ⟨rfl, rfl⟩ : a2 = some ⟨g2, 0, none⟩ ∧ d2 = c2 := by simp at e2; exact ⟨e2.1, e2.2.symm⟩
  have ll1 : ((keysL a).flatMap encS).length + (encS o.k).length = (a.length + 1) * 3 := by rw [flat_lenS]; simp [encS]; omega
  have ll2 : (valsL a).length + [Value.int .i64 o.v].length = a.length + 1 := by simp
  rw [ll1] at hw1
  rw [ll2] at hw2
  have c10 : w2.cell? ⟨B, 0, none⟩ = some (.slice (some ⟨g1, 0, none⟩) ps.length d1) := by rw [cells_of hP2.1]; rfl
  have f10 : w2.frozen? ⟨B, 0, none⟩ = false := frozen_of hP2.1
  have HW1 := Lib.hid hw1
  have HW2 := Lib.hid hw2
  have HP2 := Lib.hid hP2
  have HB2 := Lib.hid (HB.out.trans (hb2.mono HB.out.size))
  have hbw2 : base ≤ w2.heap.size := Nat.le_trans hb HB2.out.size
  have hkc1 : (a.length : Int) ≤ (d1 : Int) := by omega
  have hkc2 : (a.length : Int) ≤ (d2 : Int) := by omega
  have hkp : (a.length : Int) ≤ (ps.length : Int) := by omega
  have hk0 : (0 : Int) ≤ (a.length : Int) := by omega
  have hk1 : (0 : Int) ≤ (a.length : Int) + 1 := by omega
  unfold maxLen at hm1 hm2
  have la : ((keysL a).flatMap encS).length = a.length * 3 := by rw [flat_lenS, keys_length]
  have lb : ((keysL b).flatMap encS).length = (ps.length - (a.length + 1)) * 3 := by rw [flat_lenS, keys_length]; omega
  have la2 : (valsL a).length = a.length * 1 := by simp
  have lb2 : (valsL b).length = (ps.length - (a.length + 1)) * 1 := by simp; omega
  have lf : (a ++ b).length = ps.length - 1 := by simp; omega
  have LA := Lib.hid la
  have LB := Lib.hid lb
  have LA2 := Lib.hid la2
  have LB2 := Lib.hid lb2
  have LF := Lib.hid lf
  clear la lb la2 lb2 lf
  obtain ⟨k, hk⟩ : ∃ k, k = a.length := ⟨_, rfl⟩
  obtain ⟨n, hn⟩ : ∃ n, n = ps.length := ⟨_, rfl⟩
  have HKN := Lib.hid (⟨hk, hn, hbl, hp⟩ : k = a.length ∧ n = ps.length ∧ ps.length = a.length + 1 + b.length ∧ ps = a ++ o :: b)
  simp only [← hk] at *
  simp only [← hn] at *
  have hwr : IntKind.i64.wrap ((k : Int) + 1) = (k : Int) + 1 := by rw [IntKind.wrap_i64]; omega
  have hbn : b.length = n - (k + 1) := by omega
  have HBN := Lib.hid hbn
  have hkn1 : k + 1 ≤ n := by omega
  clear hw1 hw2 hP2 hk2 hv2 e1 e2 ll1 ll2 HP HF HW hb2 hp hk hn hbl hbn
  have hkeep : ∀ w', Below w2.heap.size w2 w' → w'.cell? ⟨B, 0, none⟩ = some (.slice (some ⟨g1, 0, none⟩) n d1) ∧ w'.frozen? ⟨B, 0, none⟩ = false ∧ w'.cell? ⟨B, 1, none⟩ = some (.slice (some ⟨g2, 0, none⟩) n d2) ∧ w'.heap[g1]? = w2.heap[g1]? ∧ w'.heap[g2]? = w2.heap[g2]? := fun w' h => by
    have h1 := (h.block _ HP2.out.lt).trans HP2.out.1
    exact ⟨by rw [cells_of h1]; rfl, frozen_of h1, by rw [cells_of h1]; rfl, h.block _ hl1, h.block _ hl2⟩
  have HKp := Lib.hid hkeep
  clear hkeep
  have hd1' : ∀ w', Below w2.heap.size w2 w' → ∀ j u, ((keysL b).flatMap encS)[j]? = some u → w'.cell? ((⟨g1, (k + 1) * 3, none⟩ : Addr).add j) = some u := fun w' h => (HW1.out w' (h.block _ hl1)).2
  have hc1' : ∀ w', Below w2.heap.size w2 w' → ∀ j u, ((keysL a).flatMap encS)[j]? = some u → w'.cell? ((⟨g1, 0, none⟩ : Addr).add j) = some u := fun w' h => (HW1.out w' (h.block _ hl1)).1
  have HC1 := Lib.hid hc1'
  have HD1 := Lib.hid hd1'
  clear hc1' hd1'
  have hnk : k + (n - (k + 1)) = n - 1 := by omega
  have HNK := Lib.hid hnk
  have hd2' : ∀ w' : World, w'.heap[g2]? = w2.heap[g2]? → (∀ j u, (valsL a)[j]? = some u → w'.cell? ((⟨g2, 0, none⟩ : Addr).add j) = some u) ∧ (∀ j u, (valsL b)[j]? = some u → w'.cell? ((⟨g2, k + 1, none⟩ : Addr).add j) = some u) := fun w' h => HW2.out w' h
  have HD2 := Lib.hid hd2'
  have hgB : g2 ≠ B := by
    rintro rfl
    obtain ⟨-, h | ⟨g', cap, cur, h1, h2, h3, -⟩⟩ := HP2.out.2.2.2
    · exact absurd h.1 (by simp)
    · simp at h1
      obtain ⟨rfl, -⟩ := h1
      rw [HP2.out.1] at h3; simp at h3
  have HG := Lib.hid hgB
  have hBl2 : B < w2.heap.size := HP2.out.lt
  have hbB := HP2.out.2.1
  clear hd2' hnk hgB HKN HBN
  rcases Nat.lt_or_ge (k + 1) d1 with hcc | hcc
  · have hcc0 : ¬ d1 = k + 1 := by omega
    go_wp2_with fail
    go_region_law (first
      | (refine step_append_own rfl (.const (.slice none 0 0)) (.tmp 16) 44 rfl w2.heap.size 27 i0 (.agg #[.int .i64 0, .string ⟨#[]⟩, .int .i64 0]) 3 32 Try.underlying44 hi hi0 hi1 hi2 rfl (by decide) (.slice none 0 0) 0 [] rfl (World.ownsRow_nil _ _ _ _) ⟨g1, 0, none⟩ k d1 ((keysL a).flatMap encS) rfl LA.out (HC1.out _ (Below.refl _ _).drew) (flat_one _) (by unfold maxLen; omega) (by omega) (Nat.le_refl _) ?_; intro v1' w3 hown1 hg1; have HB3 : Hid (Below w2.heap.size w2 w3) := Lib.hid ((Below.refl w2.heap.size w2).drew.trans ⟨hg1.os, hg1.tape, hg1.output, hg1.size, fun i hi => hg1.block i hi (by simp [Value.ownBlock])⟩); have c10' := (HKp.out w3 HB3.out).1; have f10' := (HKp.out w3 HB3.out).2.1; rw [Nat.zero_add, List.nil_append] at hown1; have hown1 := Lib.hid hown1; clear hg1)
      | (refine step_append_own rfl (.tmp 17) (.tmp 24) 44 rfl w2.heap.size 27 i0 (.agg #[.int .i64 0, .string ⟨#[]⟩, .int .i64 0]) 3 32 Try.underlying44 hi hi0 hi1 hi2 rfl (by decide) v1' _ _ rfl hown1.out ⟨g1, (k + 1) * 3, none⟩ (n - (k + 1)) (d1 - (k + 1)) ((keysL b).flatMap encS) rfl LB.out (HD1.out _ HB3.out) (flat_one _) (by unfold maxLen; omega) (by omega) (HB3.out.size) ?_; intro v2' w4 hown2 hg2; have HB4 : Hid (Below w2.heap.size w2 w4) := Lib.hid (HB3.out.trans (below_own hg2 hown1.out HB3.out.size (Nat.le_refl _))); rw [HNK.out] at hown2; obtain ⟨q4, c4, rfl⟩ := row_form hown2; have hown2 := Lib.hid hown2; have c40 := (HKp.out w4 HB4.out).1; have f40 := (HKp.out w4 HB4.out).2.1; clear hg2))
    all_goals
      have h4 := (HB4.out.block _ hBl2).trans HP2.out.1
      have h5 := set_heap2' (u := .slice q4 (n - 1) c4) h4
      have g5 : (w4.setCell ⟨B, 0, none⟩ (.slice q4 (n - 1) c4)).heap[g2]? = w2.heap[g2]? := (Below.heap_setCell _ _ _ _ HG.out).trans (HB4.out.block _ hl2)
      have o5 := ownsRow_kn (KN.but (gset w4 B 0 (.slice q4 (n - 1) c4)) h4 (by decide : 47 ≠ 27)) hown2.out
      have T5 : Hid (PlT base w (w4.setCell ⟨B, 0, none⟩ (.slice q4 (n - 1) c4))) := Lib.hid ((PlT.ofBelow hb (HB2.out.trans (HB4.out.mono HB2.out.size))).trans (PlT.set hbB h4 (.inl rfl)))
      have s5 : w2.heap.size ≤ (w4.setCell ⟨B, 0, none⟩ (.slice q4 (n - 1) c4)).heap.size := by simpa using HB4.out.size
      clear c40 f40 c10' f10' c10 f10 h4
      generalize w4.setCell ⟨B, 0, none⟩ (.slice q4 (n - 1) c4) = W5 at h5 g5 o5 T5 s5 ⊢
      have c51 : W5.cell? ⟨B, 1, none⟩ = some (.slice (some ⟨g2, 0, none⟩) n d2) := by rw [cells_of h5]; rfl
      have f51 : W5.frozen? ⟨B, 1, none⟩ = false := frozen_of h5
      have H5 := Lib.hid h5
      have G5 := Lib.hid g5
      have O5 := Lib.hid o5
      have hkeep5 : ∀ w', Below W5.heap.size W5 w' → w'.cell? ⟨B, 1, none⟩ = some (.slice (some ⟨g2, 0, none⟩) n d2) ∧ w'.frozen? ⟨B, 1, none⟩ = false ∧ w'.heap[g2]? = w2.heap[g2]? := fun w' h => by
        have h1 := (h.block _ (heap_lt H5.out)).trans H5.out
        exact ⟨by rw [cells_of h1]; rfl, frozen_of h1, (h.block _ (by omega)).trans G5.out⟩
      have HK5 := Lib.hid hkeep5
      clear h5 g5 o5 hkeep5
      rcases Nat.lt_or_ge (k + 1) d2 with hcv | hcv
      · have hcv0 : ¬ d2 = k + 1 := by omega
        go_wp2_with fail
        go_region_law (first
          | (refine step_append_own rfl (.const (.slice none 0 0)) (.tmp 34) 45 rfl W5.heap.size 3 j0 (.int .i64 0) 1 8 Try.underlying45 hj hj0 hj1 hj2 rfl (by decide) (.slice none 0 0) 0 [] rfl (World.ownsRow_nil _ _ _ _) ⟨g2, 0, none⟩ k d2 (valsL a) rfl LA2.out ((HD2.out _ ((HK5.out _ (Below.refl _ _).drew).2.2)).1) (vals_one _) (by unfold maxLen; omega) (by omega) (Nat.le_refl _) ?_; intro v6 w6 hown6 hg6; have HB6 : Hid (Below W5.heap.size W5 w6) := Lib.hid ((Below.refl W5.heap.size W5).drew.trans ⟨hg6.os, hg6.tape, hg6.output, hg6.size, fun i hi => hg6.block i hi (by simp [Value.ownBlock])⟩); have c61 := (HK5.out w6 HB6.out).1; have f61 := (HK5.out w6 HB6.out).2.1; rw [Nat.zero_add, List.nil_append] at hown6; have hown6 := Lib.hid hown6; clear hg6)
          | (refine step_append_own rfl (.tmp 35) (.tmp 42) 45 rfl W5.heap.size 3 j0 (.int .i64 0) 1 8 Try.underlying45 hj hj0 hj1 hj2 rfl (by decide) v6 _ _ rfl hown6.out ⟨g2, k + 1, none⟩ (n - (k + 1)) (d2 - (k + 1)) (valsL b) rfl LB2.out ((HD2.out _ ((HK5.out _ HB6.out).2.2)).2) (vals_one _) (by unfold maxLen; omega) (by omega) (HB6.out.size) ?_; intro v7 w7 hown7 hg7; have HB7 : Hid (Below W5.heap.size W5 w7) := Lib.hid (HB6.out.trans (below_own hg7 hown6.out HB6.out.size (Nat.le_refl _))); rw [HNK.out] at hown7; obtain ⟨q7, c7, rfl⟩ := row_form hown7; have hown7 := Lib.hid hown7; have c71 := (HK5.out w7 HB7.out).1; have f71 := (HK5.out w7 HB7.out).2.1; clear hg7))
        all_goals
          have h7 := (HB7.out.block _ (heap_lt H5.out)).trans H5.out
          have h8 := set_heap21 (u := .slice q7 (n - 1) c7) h7
          have hfin : PutPl w base B (a ++ b) (.returned (.tuple #[])) (w7.setCell ⟨B, 1, none⟩ (.slice q7 (n - 1) c7)) := by
            refine ⟨rfl, (T5.out.trans (PlT.ofBelow (Nat.le_trans hbw2 s5) HB7.out)).trans (PlT.set hbB h7 (.inl rfl)), .slice q4 (n - 1) c4, .slice q7 (n - 1) c7, h8, hbB, ?_, ?_⟩
            · rw [LF.out]
              have h := ownsRow_kn (KN.but (gset w7 B 1 (.slice q7 (n - 1) c7)) h7 (by decide : 47 ≠ 27)) (ownsRow_kn (KN.below HB7.out) O5.out)
              have e : (keysL (a ++ b)).flatMap encS = (keysL a).flatMap encS ++ (keysL b).flatMap encS := by simp
              rw [e]; exact ownsRow_base h hbw2
            · rw [LF.out]
              have h := ownsRow_kn (KN.but (gset w7 B 1 (.slice q7 (n - 1) c7)) h7 (by decide : 47 ≠ 3)) hown7.out
              have e : valsL (a ++ b) = valsL a ++ valsL b := by simp
              rw [e]; exact ownsRow_base h (Nat.le_trans hbw2 s5)
          have HFin := Lib.hid hfin
          clear hfin h7 h8 c71 f71 c51 f51
          go_wp2_with fail
          go_end0
          exact HFin.out
      · obtain rfl : d2 = k + 1 := by omega
        have hkk1 : (k : Int) ≤ (k : Int) + 1 := by omega
        have HBZ2 : Hid (valsL b = []) := Lib.hid (List.eq_nil_of_length_eq_zero (by have := LB2.out; omega))
        have HNZ : Hid (n - 1 = k + 0) := Lib.hid (by omega)
        go_wp2_with fail
        go_region_law (first
          | (refine step_append_own rfl (.const (.slice none 0 0)) (.tmp 34) 45 rfl W5.heap.size 3 j0 (.int .i64 0) 1 8 Try.underlying45 hj hj0 hj1 hj2 rfl (by decide) (.slice none 0 0) 0 [] rfl (World.ownsRow_nil _ _ _ _) ⟨g2, 0, none⟩ k (k + 1) (valsL a) rfl LA2.out ((HD2.out _ ((HK5.out _ (Below.refl _ _).drew).2.2)).1) (vals_one _) (by unfold maxLen; omega) (by omega) (Nat.le_refl _) ?_; intro v6 w6 hown6 hg6; have HB6 : Hid (Below W5.heap.size W5 w6) := Lib.hid ((Below.refl W5.heap.size W5).drew.trans ⟨hg6.os, hg6.tape, hg6.output, hg6.size, fun i hi => hg6.block i hi (by simp [Value.ownBlock])⟩); have c61 := (HK5.out w6 HB6.out).1; have f61 := (HK5.out w6 HB6.out).2.1; rw [Nat.zero_add, List.nil_append] at hown6; have hown6 := Lib.hid hown6; clear hg6)
          | (refine step_append_own rfl (.tmp 35) (.tmp 42) 45 rfl W5.heap.size 3 j0 (.int .i64 0) 1 8 Try.underlying45 hj hj0 hj1 hj2 rfl (by decide) v6 _ _ rfl hown6.out ⟨g2, 0, none⟩ 0 0 [] rfl rfl (by simp) (by simp) (by unfold maxLen; omega) (by omega) (HB6.out.size) ?_; intro v7 w7 hown7 hg7; have HB7 : Hid (Below W5.heap.size W5 w7) := Lib.hid (HB6.out.trans (below_own hg7 hown6.out HB6.out.size (Nat.le_refl _))); replace hown7 : w7.ownsRow W5.heap.size 3 1 v7 (n - 1) (valsL a ++ valsL b) := (by rw [HBZ2.out, HNZ.out]; exact hown7); obtain ⟨q7, c7, rfl⟩ := row_form hown7; have hown7 := Lib.hid hown7; have c71 := (HK5.out w7 HB7.out).1; have f71 := (HK5.out w7 HB7.out).2.1; clear hg7))
        all_goals
          have h7 := (HB7.out.block _ (heap_lt H5.out)).trans H5.out
          have h8 := set_heap21 (u := .slice q7 (n - 1) c7) h7
          have hfin : PutPl w base B (a ++ b) (.returned (.tuple #[])) (w7.setCell ⟨B, 1, none⟩ (.slice q7 (n - 1) c7)) := by
            refine ⟨rfl, (T5.out.trans (PlT.ofBelow (Nat.le_trans hbw2 s5) HB7.out)).trans (PlT.set hbB h7 (.inl rfl)), .slice q4 (n - 1) c4, .slice q7 (n - 1) c7, h8, hbB, ?_, ?_⟩
            · rw [LF.out]
              have h := ownsRow_kn (KN.but (gset w7 B 1 (.slice q7 (n - 1) c7)) h7 (by decide : 47 ≠ 27)) (ownsRow_kn (KN.below HB7.out) O5.out)
              have e : (keysL (a ++ b)).flatMap encS = (keysL a).flatMap encS ++ (keysL b).flatMap encS := by simp
              rw [e]; exact ownsRow_base h hbw2
            · rw [LF.out]
              have h := ownsRow_kn (KN.but (gset w7 B 1 (.slice q7 (n - 1) c7)) h7 (by decide : 47 ≠ 3)) hown7.out
              have e : valsL (a ++ b) = valsL a ++ valsL b := by simp
              rw [e]; exact ownsRow_base h (Nat.le_trans hbw2 s5)
          have HFin := Lib.hid hfin
          clear hfin h7 h8 c71 f71 c51 f51
          go_wp2_with fail
          go_end0
          exact HFin.out
  · obtain rfl : d1 = k + 1 := by omega
    have hkk1 : (k : Int) ≤ (k : Int) + 1 := by omega
    have HBZ2 : Hid (valsL b = []) := Lib.hid (List.eq_nil_of_length_eq_zero (by have := LB2.out; omega))
    have HBZ1 : Hid ((keysL b).flatMap encS = []) := Lib.hid (List.eq_nil_of_length_eq_zero (by have := LB.out; omega))
    have HNZ : Hid (n - 1 = k + 0) := Lib.hid (by omega)
    go_wp2_with fail
    go_region_law (first
      | (refine step_append_own rfl (.const (.slice none 0 0)) (.tmp 16) 44 rfl w2.heap.size 27 i0 (.agg #[.int .i64 0, .string ⟨#[]⟩, .int .i64 0]) 3 32 Try.underlying44 hi hi0 hi1 hi2 rfl (by decide) (.slice none 0 0) 0 [] rfl (World.ownsRow_nil _ _ _ _) ⟨g1, 0, none⟩ k (k + 1) ((keysL a).flatMap encS) rfl LA.out (HC1.out _ (Below.refl _ _).drew) (flat_one _) (by unfold maxLen; omega) (by omega) (Nat.le_refl _) ?_; intro v1' w3 hown1 hg1; have HB3 : Hid (Below w2.heap.size w2 w3) := Lib.hid ((Below.refl w2.heap.size w2).drew.trans ⟨hg1.os, hg1.tape, hg1.output, hg1.size, fun i hi => hg1.block i hi (by simp [Value.ownBlock])⟩); have c10' := (HKp.out w3 HB3.out).1; have f10' := (HKp.out w3 HB3.out).2.1; rw [Nat.zero_add, List.nil_append] at hown1; have hown1 := Lib.hid hown1; clear hg1)
      | (refine step_append_own rfl (.tmp 17) (.tmp 24) 44 rfl w2.heap.size 27 i0 (.agg #[.int .i64 0, .string ⟨#[]⟩, .int .i64 0]) 3 32 Try.underlying44 hi hi0 hi1 hi2 rfl (by decide) v1' _ _ rfl hown1.out ⟨g1, 0, none⟩ 0 0 [] rfl rfl (by simp) (by simp) (by unfold maxLen; omega) (by omega) (HB3.out.size) ?_; intro v2' w4 hown2 hg2; have HB4 : Hid (Below w2.heap.size w2 w4) := Lib.hid (HB3.out.trans (below_own hg2 hown1.out HB3.out.size (Nat.le_refl _))); replace hown2 : w4.ownsRow w2.heap.size 27 3 v2' (n - 1) ((keysL a).flatMap encS ++ (keysL b).flatMap encS) := (by rw [HBZ1.out, HNZ.out]; exact hown2); obtain ⟨q4, c4, rfl⟩ := row_form hown2; have hown2 := Lib.hid hown2; have c40 := (HKp.out w4 HB4.out).1; have f40 := (HKp.out w4 HB4.out).2.1; clear hg2))
    all_goals
      have h4 := (HB4.out.block _ hBl2).trans HP2.out.1
      have h5 := set_heap2' (u := .slice q4 (n - 1) c4) h4
      have g5 : (w4.setCell ⟨B, 0, none⟩ (.slice q4 (n - 1) c4)).heap[g2]? = w2.heap[g2]? := (Below.heap_setCell _ _ _ _ HG.out).trans (HB4.out.block _ hl2)
      have o5 := ownsRow_kn (KN.but (gset w4 B 0 (.slice q4 (n - 1) c4)) h4 (by decide : 47 ≠ 27)) hown2.out
      have T5 : Hid (PlT base w (w4.setCell ⟨B, 0, none⟩ (.slice q4 (n - 1) c4))) := Lib.hid ((PlT.ofBelow hb (HB2.out.trans (HB4.out.mono HB2.out.size))).trans (PlT.set hbB h4 (.inl rfl)))
      have s5 : w2.heap.size ≤ (w4.setCell ⟨B, 0, none⟩ (.slice q4 (n - 1) c4)).heap.size := by simpa using HB4.out.size
      clear c40 f40 c10' f10' c10 f10 h4
      generalize w4.setCell ⟨B, 0, none⟩ (.slice q4 (n - 1) c4) = W5 at h5 g5 o5 T5 s5 ⊢
      have c51 : W5.cell? ⟨B, 1, none⟩ = some (.slice (some ⟨g2, 0, none⟩) n d2) := by rw [cells_of h5]; rfl
      have f51 : W5.frozen? ⟨B, 1, none⟩ = false := frozen_of h5
      have H5 := Lib.hid h5
      have G5 := Lib.hid g5
      have O5 := Lib.hid o5
      have hkeep5 : ∀ w', Below W5.heap.size W5 w' → w'.cell? ⟨B, 1, none⟩ = some (.slice (some ⟨g2, 0, none⟩) n d2) ∧ w'.frozen? ⟨B, 1, none⟩ = false ∧ w'.heap[g2]? = w2.heap[g2]? := fun w' h => by
        have h1 := (h.block _ (heap_lt H5.out)).trans H5.out
        exact ⟨by rw [cells_of h1]; rfl, frozen_of h1, (h.block _ (by omega)).trans G5.out⟩
      have HK5 := Lib.hid hkeep5
      clear h5 g5 o5 hkeep5
      rcases Nat.lt_or_ge (k + 1) d2 with hcv | hcv
      · have hcv0 : ¬ d2 = k + 1 := by omega
        go_wp2_with fail
        go_region_law (first
          | (refine step_append_own rfl (.const (.slice none 0 0)) (.tmp 34) 45 rfl W5.heap.size 3 j0 (.int .i64 0) 1 8 Try.underlying45 hj hj0 hj1 hj2 rfl (by decide) (.slice none 0 0) 0 [] rfl (World.ownsRow_nil _ _ _ _) ⟨g2, 0, none⟩ k d2 (valsL a) rfl LA2.out ((HD2.out _ ((HK5.out _ (Below.refl _ _).drew).2.2)).1) (vals_one _) (by unfold maxLen; omega) (by omega) (Nat.le_refl _) ?_; intro v6 w6 hown6 hg6; have HB6 : Hid (Below W5.heap.size W5 w6) := Lib.hid ((Below.refl W5.heap.size W5).drew.trans ⟨hg6.os, hg6.tape, hg6.output, hg6.size, fun i hi => hg6.block i hi (by simp [Value.ownBlock])⟩); have c61 := (HK5.out w6 HB6.out).1; have f61 := (HK5.out w6 HB6.out).2.1; rw [Nat.zero_add, List.nil_append] at hown6; have hown6 := Lib.hid hown6; clear hg6)
          | (refine step_append_own rfl (.tmp 35) (.tmp 42) 45 rfl W5.heap.size 3 j0 (.int .i64 0) 1 8 Try.underlying45 hj hj0 hj1 hj2 rfl (by decide) v6 _ _ rfl hown6.out ⟨g2, k + 1, none⟩ 0 (d2 - (k + 1)) [] rfl rfl (by simp) (by simp) (by unfold maxLen; omega) (by omega) (HB6.out.size) ?_; intro v7 w7 hown7 hg7; have HB7 : Hid (Below W5.heap.size W5 w7) := Lib.hid (HB6.out.trans (below_own hg7 hown6.out HB6.out.size (Nat.le_refl _))); replace hown7 : w7.ownsRow W5.heap.size 3 1 v7 (n - 1) (valsL a ++ valsL b) := (by rw [HBZ2.out, HNZ.out]; exact hown7); obtain ⟨q7, c7, rfl⟩ := row_form hown7; have hown7 := Lib.hid hown7; have c71 := (HK5.out w7 HB7.out).1; have f71 := (HK5.out w7 HB7.out).2.1; clear hg7))
        all_goals
          have h7 := (HB7.out.block _ (heap_lt H5.out)).trans H5.out
          have h8 := set_heap21 (u := .slice q7 (n - 1) c7) h7
          have hfin : PutPl w base B (a ++ b) (.returned (.tuple #[])) (w7.setCell ⟨B, 1, none⟩ (.slice q7 (n - 1) c7)) := by
            refine ⟨rfl, (T5.out.trans (PlT.ofBelow (Nat.le_trans hbw2 s5) HB7.out)).trans (PlT.set hbB h7 (.inl rfl)), .slice q4 (n - 1) c4, .slice q7 (n - 1) c7, h8, hbB, ?_, ?_⟩
            · rw [LF.out]
              have h := ownsRow_kn (KN.but (gset w7 B 1 (.slice q7 (n - 1) c7)) h7 (by decide : 47 ≠ 27)) (ownsRow_kn (KN.below HB7.out) O5.out)
              have e : (keysL (a ++ b)).flatMap encS = (keysL a).flatMap encS ++ (keysL b).flatMap encS := by simp
              rw [e]; exact ownsRow_base h hbw2
            · rw [LF.out]
              have h := ownsRow_kn (KN.but (gset w7 B 1 (.slice q7 (n - 1) c7)) h7 (by decide : 47 ≠ 3)) hown7.out
              have e : valsL (a ++ b) = valsL a ++ valsL b := by simp
              rw [e]; exact ownsRow_base h (Nat.le_trans hbw2 s5)
          have HFin := Lib.hid hfin
          clear hfin h7 h8 c71 f71 c51 f51
          go_wp2_with fail
          go_end0
          exact HFin.out
      · obtain rfl : d2 = k + 1 := by omega
        have hkk1 : (k : Int) ≤ (k : Int) + 1 := by omega
        have HBZ2 : Hid (valsL b = []) := Lib.hid (List.eq_nil_of_length_eq_zero (by have := LB2.out; omega))
        have HNZ : Hid (n - 1 = k + 0) := Lib.hid (by omega)
        go_wp2_with fail
        go_region_law (first
          | (refine step_append_own rfl (.const (.slice none 0 0)) (.tmp 34) 45 rfl W5.heap.size 3 j0 (.int .i64 0) 1 8 Try.underlying45 hj hj0 hj1 hj2 rfl (by decide) (.slice none 0 0) 0 [] rfl (World.ownsRow_nil _ _ _ _) ⟨g2, 0, none⟩ k (k + 1) (valsL a) rfl LA2.out ((HD2.out _ ((HK5.out _ (Below.refl _ _).drew).2.2)).1) (vals_one _) (by unfold maxLen; omega) (by omega) (Nat.le_refl _) ?_; intro v6 w6 hown6 hg6; have HB6 : Hid (Below W5.heap.size W5 w6) := Lib.hid ((Below.refl W5.heap.size W5).drew.trans ⟨hg6.os, hg6.tape, hg6.output, hg6.size, fun i hi => hg6.block i hi (by simp [Value.ownBlock])⟩); have c61 := (HK5.out w6 HB6.out).1; have f61 := (HK5.out w6 HB6.out).2.1; rw [Nat.zero_add, List.nil_append] at hown6; have hown6 := Lib.hid hown6; clear hg6)
          | (refine step_append_own rfl (.tmp 35) (.tmp 42) 45 rfl W5.heap.size 3 j0 (.int .i64 0) 1 8 Try.underlying45 hj hj0 hj1 hj2 rfl (by decide) v6 _ _ rfl hown6.out ⟨g2, 0, none⟩ 0 0 [] rfl rfl (by simp) (by simp) (by unfold maxLen; omega) (by omega) (HB6.out.size) ?_; intro v7 w7 hown7 hg7; have HB7 : Hid (Below W5.heap.size W5 w7) := Lib.hid (HB6.out.trans (below_own hg7 hown6.out HB6.out.size (Nat.le_refl _))); replace hown7 : w7.ownsRow W5.heap.size 3 1 v7 (n - 1) (valsL a ++ valsL b) := (by rw [HBZ2.out, HNZ.out]; exact hown7); obtain ⟨q7, c7, rfl⟩ := row_form hown7; have hown7 := Lib.hid hown7; have c71 := (HK5.out w7 HB7.out).1; have f71 := (HK5.out w7 HB7.out).2.1; clear hg7))
        all_goals
          have h7 := (HB7.out.block _ (heap_lt H5.out)).trans H5.out
          have h8 := set_heap21 (u := .slice q7 (n - 1) c7) h7
          have hfin : PutPl w base B (a ++ b) (.returned (.tuple #[])) (w7.setCell ⟨B, 1, none⟩ (.slice q7 (n - 1) c7)) := by
            refine ⟨rfl, (T5.out.trans (PlT.ofBelow (Nat.le_trans hbw2 s5) HB7.out)).trans (PlT.set hbB h7 (.inl rfl)), .slice q4 (n - 1) c4, .slice q7 (n - 1) c7, h8, hbB, ?_, ?_⟩
            · rw [LF.out]
              have h := ownsRow_kn (KN.but (gset w7 B 1 (.slice q7 (n - 1) c7)) h7 (by decide : 47 ≠ 27)) (ownsRow_kn (KN.below HB7.out) O5.out)
              have e : (keysL (a ++ b)).flatMap encS = (keysL a).flatMap encS ++ (keysL b).flatMap encS := by simp
              rw [e]; exact ownsRow_base h hbw2
            · rw [LF.out]
              have h := ownsRow_kn (KN.but (gset w7 B 1 (.slice q7 (n - 1) c7)) h7 (by decide : 47 ≠ 3)) hown7.out
              have e : valsL (a ++ b) = valsL a ++ valsL b := by simp
              rw [e]; exact ownsRow_base h (Nat.le_trans hbw2 s5)
          have HFin := Lib.hid hfin
          clear hfin h7 h8 c71 f71 c51 f51
          go_wp2_with fail
          go_end0
          exact HFin.out
end Go.Proofs.Ythgidldcblchmaa
