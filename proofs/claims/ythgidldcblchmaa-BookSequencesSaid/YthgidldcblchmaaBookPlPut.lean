/-
  plain of ponderlaw02: put. No condition but a bound on sizes.
-/
import Derived.Test.YthgidldcblchmaaBookPlM
namespace Go.Proofs.Ythgidldcblchmaa
set_option linter.unusedVariables false
open Go.RowKit
def PutPl (w : World) (base B : Nat) (ps : List Pr) (e : Ending) (w' : World) : Prop := e = .returned (.tuple #[]) ∧ PlT base w w' ∧ ∃ v1 v2, PlainAt w' base B v1 v2 ps
set_option maxRecDepth 100000 in
set_option maxHeartbeats 4000000 in
theorem put_there (w : World) (base B : Nat) (v1 v2 : Value) (ps a b : List Pr) (o : Pr) (v : Int) (hp : ps = a ++ o :: b) (hno : ∀ i (h : i < (keysL ps).length), i < a.length → (keysL ps)[i] ≠ o.k) (hb : base ≤ w.heap.size) (hz : ps.length ≤ 100000) (h : PlainAt w base B v1 v2 ps) :
    Calls Try.prog 26 #[.pointer (some ⟨B, 0, none⟩), .agg #[.int .i64 o.k.k, .string o.k.t, .int .i64 o.k.n], .int .i64 v] w (PutPl w base B (a ++ ⟨o.k, v⟩ :: b)) := by
  obtain ⟨a1, c1, a2, c2, rfl, rfl⟩ := h.form
  have hal : a.length < ps.length := by rw [hp]; simp
  obtain ⟨W2, hW2⟩ : ∃ W2, W2 = w.alloc (.cells #[.int .i64 o.k.k, .string o.k.t, .int .i64 o.k.n] 27) := ⟨_, rfl⟩
  have hBl : Below w.heap.size w W2 := by rw [hW2]; go_grown
  have hfind := (find_plain W2 B W2.heap.size a1 c1 a2 ps.length c2 (keysL ps) o.k (by simp; omega) (h.mono hBl).box (h.mono hBl).list).mono (R' := fun e w' => e = .returned (.int .i64 a.length) ∧ Below W2.heap.size W2 w') (by
    rintro e w' ⟨⟨r, he, hr⟩, hb'⟩
    refine ⟨?_, hb'⟩
    rcases hr with ⟨-, hr⟩ | ⟨k, hk, rfl, hk2, hk3⟩
    · exact absurd (by simp [hp]) (hr a.length (by simpa using hal))
    · rcases Nat.lt_trichotomy k a.length with h1 | h1 | h1
      · exact absurd hk2 (hno k hk h1)
      · rw [he, h1]
      · exact absurd (by simp [hp]) (hk3 a.length h1))
  have HF := Lib.hid hfind
  have HB := Lib.hid hBl
  have HW := Lib.hid hW2
  have HP := Lib.hid (h.mono hBl)
  have hki : (a.length : Int) < (ps.length : Int) := by omega
  have hge : decide ((0 : Int) ≤ (a.length : Int)) = true := by simp
  clear hfind hBl hW2 h hno
  go_enter Try.func26, Try.ntmps26
  go_wp2_with fail
  rw [← HW.out]
  refine HF.out.mono ?_
  rintro e w2 ⟨rfl, hb2⟩
  have hP2 := HP.out.mono hb2
  obtain ⟨g, c, cur, hv, hg, hgc, hgk⟩ := owns_int hP2.2.2.2 hal
  obtain ⟨rfl, rfl⟩ : a2 = some ⟨g, 0, none⟩ ∧ c = c2 := by simp at hv; exact ⟨hv.1, hv.2.symm⟩
  have hfz : w2.frozen? ⟨g, a.length, none⟩ = false := frozen_of hgc
  have c10 : w2.cell? ⟨B, 1, none⟩ = some (.slice (some ⟨g, 0, none⟩) ps.length c) := by rw [cells_of hP2.1]; rfl
  have hset := owns_set (p := ⟨o.k, v⟩) (hp ▸ hP2.2.2.2)
  have hfin : PutPl w base B (a ++ ⟨o.k, v⟩ :: b) (.returned (.tuple #[])) (w2.setCell ⟨g, a.length, none⟩ (.int .i64 v)) := by
    have hT : PlT base w2 (w2.setCell ⟨g, a.length, none⟩ (.int .i64 v)) := PlT.set hg hgc (.inr rfl)
    refine ⟨rfl, (PlT.ofBelow hb (HB.out.trans (hb2.mono HB.out.size))).trans hT, .slice a1 ps.length c1, .slice (some ⟨g, 0, none⟩) ps.length c, ?_, hP2.2.1, ?_, ?_⟩
    · refine (Below.heap_setCell _ _ _ _ ?_).trans hP2.1
      rintro rfl
      rw [hP2.1] at hgc; simp at hgc
    · have hk : keysL (a ++ ⟨o.k, v⟩ :: b) = keysL ps := by rw [hp]; simp
      rw [hk]
      have hl : (a ++ (⟨o.k, v⟩ : Pr) :: b).length = ps.length := by rw [hp]; simp
      rw [hl]
      exact ownsRow_kn (KN.but (gset _ _ _ _) hgc (by decide)) hP2.2.2.1
    · have hl : (a ++ (⟨o.k, v⟩ : Pr) :: b).length = ps.length := by rw [hp]; simp
      rw [hl, hp]; exact hset
  have HFin := Lib.hid hfin
  clear hset hfin hgc hP2 hv hb2
  go_wp2_with fail
  go_end0
  exact HFin.out
theorem set_heap2' {w : World} {b : Nat} {v r u : Value} {t : TypeId} {f : Nat × Nat} (h : w.heap[b]? = some (.cells #[v, r] t f)) : (w.setCell ⟨b, 0, none⟩ u).heap[b]? = some (.cells #[u, r] t f) := by
  simp [World.setCell, Array.getElem?_modify, h]
theorem set_both {w : World} {b : Nat} {v r u u' : Value} {t : TypeId} {f : Nat × Nat} (h : w.heap[b]? = some (.cells #[v, r] t f)) : ((w.setCell ⟨b, 0, none⟩ u).setCell ⟨b, 1, none⟩ u').heap[b]? = some (.cells #[u, u'] t f) := by
  simp [World.setCell, Array.getElem?_modify, h]
theorem ints_new (w : World) (v : Int) (t : TypeId) : ∀ j u, [Value.int .i64 v][j]? = some u → (w.alloc (.cells #[.int .i64 v] t)).cell? ((⟨w.heap.size, 0, none⟩ : Addr).add j) = some u := by
  intro j u hj
  rw [Go.WideShapes.add_plain, cells_of (new_at rfl)]
  simpa using hj
theorem owns_snoc {w : World} {base : Nat} {v : Value} {n : Nat} {L : List Pr} (hn : n < L.length) {x : Int} (hx : x = L[n].v) (h : w.ownsRow base 3 1 v (n + 1) (valsL (L.take n) ++ [.int .i64 x])) : w.ownsRow base 3 1 v (n + 1) (valsL (L.take (n + 1))) := by
  have e : valsL (L.take (n + 1)) = valsL (L.take n) ++ [.int .i64 x] := by
    show List.map _ (L.take (n + 1)) = _
    rw [List.take_succ_eq_append_getElem hn, List.map_append, hx]; rfl
  rw [e]; exact h
set_option maxRecDepth 100000 in
set_option maxHeartbeats 8000000 in
theorem put_fresh (w : World) (base B : Nat) (v1 v2 : Value) (a b : List Pr) (x : Sy) (v : Int) (hno : x ∉ keysL (a ++ b)) (hins : ins cmpY x (keysL (a ++ b)) = keysL (a ++ ⟨x, v⟩ :: b)) (hb : base ≤ w.heap.size) (hz : (a ++ b).length ≤ 100000) (h : PlainAt w base B v1 v2 (a ++ b)) :
    Calls Try.prog 26 #[.pointer (some ⟨B, 0, none⟩), .agg #[.int .i64 x.k, .string x.t, .int .i64 x.n], .int .i64 v] w (PutPl w base B (a ++ ⟨x, v⟩ :: b)) := by
  obtain ⟨a1, c1, a2, c2, rfl, rfl⟩ := h.form
  obtain ⟨ps, hps⟩ : ∃ ps, ps = a ++ b := ⟨_, rfl⟩
  obtain ⟨L, hL⟩ : ∃ L : List Pr, L = a ++ ⟨x, v⟩ :: b := ⟨_, rfl⟩
  have hLl : L.length = ps.length + 1 := by rw [hL, hps]; simp; omega
  rw [← hps] at hno hins hz h
  rw [← hL] at hins ⊢
  obtain ⟨W2, hW2⟩ : ∃ W2, W2 = w.alloc (.cells #[.int .i64 x.k, .string x.t, .int .i64 x.n] 27) := ⟨_, rfl⟩
  have hBl : Below w.heap.size w W2 := by rw [hW2]; go_grown
  have hbox : W2.heap[w.heap.size]? = some (.cells #[.int .i64 x.k, .string x.t, .int .i64 x.n] 27 (0, 0)) := by rw [hW2]; exact new_at rfl
  have hfind := (find_plain W2 B W2.heap.size a1 c1 a2 ps.length c2 (keysL ps) x (by simp; omega) (h.mono hBl).box (h.mono hBl).list).mono (R' := fun e w' => e = .returned (.int .i64 (-1)) ∧ Below W2.heap.size W2 w') (by
    rintro e w' ⟨⟨r, he, hr⟩, hb'⟩
    refine ⟨?_, hb'⟩
    rcases hr with ⟨rfl, -⟩ | ⟨k, hk, rfl, hk2, -⟩
    · exact he
    · exact absurd (hk2 ▸ List.getElem_mem hk) hno)
  have HF := Lib.hid hfind
  have HB := Lib.hid hBl
  have HW := Lib.hid hW2
  have HP := Lib.hid (h.mono hBl)
  have hge : decide ((0 : Int) ≤ (-1 : Int)) = false := by decide
  have HX := Lib.hid hbox
  have HIns := Lib.hid hins
  have HNo := Lib.hid hno
  -- where the new one stands
  have hat : ∀ i (hi : i < L.length), (i < a.length → ∃ h2 : i < ps.length, L[i] = ps[i] ∧ L[i].k ≠ x) ∧ (i = a.length → L[i] = ⟨x, v⟩) ∧ (a.length < i → ∃ h2 : i - 1 < ps.length, L[i] = ps[i - 1] ∧ L[i].k ≠ x) := by
    intro i hi
    refine ⟨fun h1 => ?_, fun h1 => ?_, fun h1 => ?_⟩
    · have h2 : i < ps.length := by rw [hps]; simp; omega
      have e : L[i] = ps[i] := by simp only [hL, hps]; rw [List.getElem_append_left h1, List.getElem_append_left h1]
      exact ⟨h2, e, fun e2 => hno (by rw [← e2, e]; exact List.mem_map.2 ⟨_, List.getElem_mem h2, rfl⟩)⟩
    · subst h1; simp only [hL]; rw [List.getElem_append_right (Nat.le_refl _)]; simp
    · have h2 : i - 1 < ps.length := by omega
      have e : L[i] = ps[i - 1] := by
        simp only [hL, hps]
        rw [List.getElem_append_right (by omega), List.getElem_append_right (by omega)]
        have : i - a.length = (i - 1 - a.length) + 1 := by omega
        simp only [this, List.getElem_cons_succ]
      exact ⟨h2, e, fun e2 => hno (by rw [← e2, e]; exact List.mem_map.2 ⟨_, List.getElem_mem h2, rfl⟩)⟩
  have hal : a.length < L.length := by rw [hL]; simp
  have HAt := Lib.hid hat
  have hLz : L.length ≤ 100001 := by omega
  obtain ⟨m, hm⟩ : ∃ m, m = a.length := ⟨_, rfl⟩
  rw [← hm] at HAt hal
  obtain ⟨j0, hj, hj0, hj1, hj2⟩ := info_parts infoIP
  clear hfind hBl hW2 h hno hbox hins hat hm hL hps hLl
  go_enter Try.func26, Try.ntmps26
  go_wp2_with fail
  rw [← HW.out]
  refine HF.out.mono ?_
  rintro e w2 ⟨rfl, hb2⟩
  have hP2 := HP.out.mono hb2
  have hx2 := (hb2.block _ (heap_lt HX.out)).trans HX.out
  have x0 : w2.cell? ⟨w.heap.size, 0, none⟩ = some (.int .i64 x.k) := by rw [cells_of hx2]; rfl
  have x1 : w2.cell? ⟨w.heap.size, 1, none⟩ = some (.string x.t) := by rw [cells_of hx2]; rfl
  have x2 : w2.cell? ⟨w.heap.size, 2, none⟩ = some (.int .i64 x.n) := by rw [cells_of hx2]; rfl
  have c10 : w2.cell? ⟨B, 0, none⟩ = some (.slice a1 ps.length c1) := by rw [cells_of hP2.1]; rfl
  have hsl := slice_own hP2.2.2.1 (keys_length ps).symm rfl
  have hput := putO_ref w2.drew _ (keysL ps) x HNo.out (SliceAt.mono hsl (Below.refl _ _).drew) (by simp; omega)
  have HPut := Lib.hid hput
  have HP2 := Lib.hid hP2
  have HX2 := Lib.hid hx2
  have HB2 := Lib.hid (HB.out.trans (hb2.mono HB.out.size))
  clear hP2 hx2 hsl hput hb2
  go_wp2_with fail
  refine region_tail 5 (by kernel_rfl) (by kernel_rfl) (fun KK hKK => ?_)
  simp only [List.take_succ_cons, List.take_zero]
  repeat (with_reducible refine wpStill_step (fun K hK => ?_); go_simp; (with_reducible refine hK _ ?_); clear hK K)
  refine wpStill_nil (hKK _ _ ?_)
  clear hKK KK
  simp only [List.drop_succ_cons, List.drop_zero]
  go_wp2_with (go_at_call 63; (with_reducible refine HPut.out.mono ?_); rintro e w3 ⟨vk, rfl, hb3', hown'⟩; have hb3 : Hid (Below w2.heap.size w2 w3) := Lib.hid ((Below.refl w2.heap.size w2).drew.trans hb3'); rw [HIns.out, keys_length] at hown'; obtain ⟨q, cq, rfl⟩ := row_form hown'; have hown3 := Lib.hid hown'; clear hown' hb3')
  have hcs : ∀ wr, Below w3.heap.size w3 wr → (wr.cell? ⟨w.heap.size, 0, none⟩ = some (.int .i64 x.k) ∧ wr.cell? ⟨w.heap.size, 1, none⟩ = some (.string x.t) ∧ wr.cell? ⟨w.heap.size, 2, none⟩ = some (.int .i64 x.n) ∧ wr.cell? ⟨B, 1, none⟩ = some (.slice a2 ps.length c2)) ∧ ListAt wr wr.heap.size q (keysL L) ∧ (∀ j (h : j < ps.length), ∃ g, a2 = some ⟨g, 0, none⟩ ∧ wr.cell? ⟨g, j, none⟩ = some (.int .i64 ps[j].v)) ∧ wr.heap[B]? = some (.cells #[.slice a1 ps.length c1, .slice a2 ps.length c2] 47 (0, 0)) := fun wr hr => by
    have h2 := hb3.out.trans (hr.mono hb3.out.size)
    have hx := (h2.block _ (heap_lt HX2.out)).trans HX2.out
    have hP := HP2.out.mono h2
    have hk3 : ListAt wr wr.heap.size q (keysL L) := list_at (SliceAt.mono (slice_own (owns_own (ys := keysL L) hown3.out (by simp) rfl) rfl rfl) hr) (Nat.le_refl _)
    refine ⟨⟨by rw [cells_of hx]; rfl, by rw [cells_of hx]; rfl, by rw [cells_of hx]; rfl, by rw [cells_of hP.1]; rfl⟩, hk3, fun j hj => ?_, hP.1⟩
    obtain ⟨g, c, cur, hv, -, -, hc⟩ := owns_int hP.2.2.2 hj
    exact ⟨g, by simp at hv; exact hv.1, hc⟩
  have HCS := Lib.hid hcs
  have hB3 := Lib.hid (HB2.out.trans (hb3.out.mono HB2.out.size))
  have hbase2 : base ≤ w2.heap.size := Nat.le_trans hb HB2.out.size
  have hbB := HP2.out.2.1
  clear hcs x0 x1 x2 c10 HP2 HX2 HPut HF HP HX HW HB
  go_wp2_with fail
  go_loopw [8, 9, 10] (fun o kk ii wr => ∃ i k : Nat, i ≤ L.length ∧ k = (if i ≤ m then i else i - 1) ∧ ii = .int .i64 i ∧ kk = .int .i64 k ∧ Hid (Below w3.heap.size w3 wr) ∧ Hid (wr.ownsRow w3.heap.size 3 1 o i (valsL (L.take i)))) (fun _ _ i _ => L.length - (intOf i).toNat)
  case atStart => exact ⟨0, 0, Nat.zero_le _, by simp, rfl, rfl, Lib.hid (Below.refl _ _), Lib.hid (World.ownsRow_nil _ _ _ _)⟩
  case round =>
    obtain ⟨i, k, hi, hk, rfl, rfl, hBr, hown⟩ := hrel
    obtain ⟨⟨x0, x1, x2, c10⟩, hkl, hvl, hPB⟩ := HCS.out wr hBr.out
    have hsr := hBr.out.size
    by_cases hlt : i < L.length
    · obtain ⟨gk, ofk, rfl, -, c0, c1', c2'⟩ := hkl i (by simpa using hlt)
      have e : (keysL L)[i]'(by simpa using hlt) = L[i].k := by simp
      rw [e] at c0 c1' c2'
      have hii : (i : Int) < (L.length : Int) := by omega
      obtain ⟨h1, h2, h3⟩ := HAt.out i hlt
      by_cases him : i = m
      · have hy := h2 him
        rw [hy] at c0 c1' c2'
        have hq := eqY_yes (rfl : x = x)
        have HV := Lib.hid (show v = L[i].v by rw [hy])
        have hkn : k = (if i + 1 ≤ m then i + 1 else i + 1 - 1) := by rw [hk, if_pos (by omega), if_neg (by omega)]; omega
        have HK := Lib.hid hkn
        clear hy h1 h2 h3 hkl hvl hPB c10 hk hkn e him
        go_wp2_with fail
        go_quiet (fail)
        obtain ⟨wz, hWz⟩ : ∃ wz, wz = wr.drewN nq := ⟨_, rfl⟩
        have hbz : Below wr.heap.size wr wz := by rw [hWz]; exact bdN _ (Below.refl _ _)
        have hown := Lib.hid (ownsRow_kn (KN.below hbz) hown.out)
        have hBz := Lib.hid (hBr.out.trans (hbz.mono hBr.out.size))
        have hsz := hBz.out.size
        rw [← hWz]
        clear hWz x0 x1 x2 hq c0 c1' c2'
        go_wp2_with (at_builtin; refine wpList_append_own _ rfl (.tmp 41) (.tmp 43) 45 rfl w3.heap.size 3 j0 (.int .i64 0) 1 8 Try.underlying45 hj hj0 hj1 hj2 rfl (by decide) _ _ _ rfl (hown.out.alloc _) ⟨wz.heap.size, 0, none⟩ 1 1 [.int .i64 v] rfl rfl (ints_new _ _ _) (by simp [Value.oneCell']) (by unfold maxLen; omega) (by omega) (by simp; omega) ?_; intro vn wb hown2 hg2 _; have hbb := Lib.hid ((hBz.out.alloc hsz _).trans (below_own (B := w3.heap.size) hg2 (hown.out.alloc _) (by simp; omega) (Nat.le_refl _))); have hownb := Lib.hid (owns_snoc hlt HV.out hown2); clear hg2 hown2)
        go_roundw
        case rel => exact ⟨i + 1, k, by omega, HK.out, by go_num, rfl, hbb, hownb⟩
        case measure => simp [intOf]; omega
      · obtain ⟨hkp, hkv, hkx, hkn⟩ : ∃ hkp : k < ps.length, L[i].v = ps[k].v ∧ L[i].k ≠ x ∧ k + 1 = (if i + 1 ≤ m then i + 1 else i + 1 - 1) := by
          rcases Nat.lt_or_ge i m with him2 | him2
          · obtain ⟨p1, p2, p3⟩ := h1 him2
            obtain rfl : k = i := by rw [hk, if_pos (by omega)]
            exact ⟨p1, by rw [p2], p3, by rw [if_pos (by omega)]⟩
          · obtain ⟨p1, p2, p3⟩ := h3 (by omega)
            obtain rfl : k = i - 1 := by rw [hk, if_neg (by omega)]
            exact ⟨p1, by rw [p2], p3, by rw [if_neg (by omega)]; omega⟩
        obtain ⟨g2, rfl, cv⟩ := hvl k hkp
        have hkk : (k : Int) < (ps.length : Int) := by omega
        have hq := eqY_no hkx
        generalize L[i].k = y at c0 c1' c2' hq
        have HV := Lib.hid hkv.symm
        generalize ps[k].v = pv at cv HV
        have HK := Lib.hid hkn
        clear hkx hkv h1 h2 h3 hkl hvl hPB hk hkn e him
        go_wp2_with fail
        go_quiet (fail)
        obtain ⟨wz, hWz⟩ : ∃ wz, wz = wr.drewN nq := ⟨_, rfl⟩
        have hbz : Below wr.heap.size wr wz := by rw [hWz]; exact bdN _ (Below.refl _ _)
        have hown := Lib.hid (ownsRow_kn (KN.below hbz) hown.out)
        have hBz := Lib.hid (hBr.out.trans (hbz.mono hBr.out.size))
        have hsz := hBz.out.size
        have e10 := (hbz.cell (World.block_lt_of_cell? wr _ c10)).trans c10
        have ecv := (hbz.cell (World.block_lt_of_cell? wr _ cv)).trans cv
        rw [← hWz]
        clear hWz x0 x1 x2 hq c0 c1' c2' c10 cv
        go_wp2_with (at_builtin; refine wpList_append_own _ rfl (.tmp 45) (.tmp 53) 45 rfl w3.heap.size 3 j0 (.int .i64 0) 1 8 Try.underlying45 hj hj0 hj1 hj2 rfl (by decide) _ _ _ rfl (hown.out.alloc _) ⟨wz.heap.size, 0, none⟩ 1 1 [.int .i64 pv] rfl rfl (ints_new _ _ _) (by simp [Value.oneCell']) (by unfold maxLen; omega) (by omega) (by simp; omega) ?_; intro vn wb hown2 hg2 _; have hbb := Lib.hid ((hBz.out.alloc hsz _).trans (below_own (B := w3.heap.size) hg2 (hown.out.alloc _) (by simp; omega) (Nat.le_refl _))); have hownb := Lib.hid (owns_snoc hlt HV.out hown2); clear hg2 hown2)
        go_roundw
        case rel => exact ⟨i + 1, k + 1, by omega, HK.out, by go_num, by go_num, hbb, hownb⟩
        case measure => simp [intOf]; omega
    · obtain rfl : i = L.length := by omega
      have hw := hown.out
      rw [List.take_length] at hw
      obtain ⟨q2, cq2, rfl⟩ := row_form hw
      have hPc := cells_of hPB
      have d0 : wr.cell? ⟨B, 0, none⟩ = some (.slice a1 ps.length c1) := by rw [hPc]; rfl
      have f0 : wr.frozen? ⟨B, 0, none⟩ = false := frozen_of hPB
      have f1 : wr.frozen? ⟨B, 1, none⟩ = false := frozen_of hPB
      have hfin : PutPl w base B L (.returned (.tuple #[])) ((wr.setCell ⟨B, 0, none⟩ (.slice q L.length cq)).setCell ⟨B, 1, none⟩ (.slice q2 L.length cq2)) := by
        have hT : PlT base w ((wr.setCell ⟨B, 0, none⟩ (.slice q L.length cq)).setCell ⟨B, 1, none⟩ (.slice q2 L.length cq2)) := by
          have h1 : PlT base wr (wr.setCell ⟨B, 0, none⟩ (.slice q L.length cq)) := PlT.set hbB hPB (.inl rfl)
          have h2 : PlT base _ ((wr.setCell ⟨B, 0, none⟩ (.slice q L.length cq)).setCell ⟨B, 1, none⟩ (.slice q2 L.length cq2)) := PlT.set hbB (set_heap2' hPB) (.inl rfl)
          exact ((PlT.ofBelow hb (hB3.out.trans (hBr.out.mono hB3.out.size))).trans h1).trans h2
        have k1 := (KN.but (gset wr B 0 (.slice q L.length cq)) hPB (by decide : 47 ≠ 27)).trans (KN.but (gset _ B 1 (.slice q2 L.length cq2)) (set_heap2' hPB) (by decide))
        have k2 := (KN.but (gset wr B 0 (.slice q L.length cq)) hPB (by decide : 47 ≠ 3)).trans (KN.but (gset _ B 1 (.slice q2 L.length cq2)) (set_heap2' hPB) (by decide))
        refine ⟨rfl, hT, .slice q L.length cq, .slice q2 L.length cq2, set_both hPB, hbB, ?_, ?_⟩
        · refine ownsRow_kn k1 (ownsRow_kn (KN.below hBr.out) (ownsRow_base ?_ hbase2))
          exact hown3.out
        · exact ownsRow_kn k2 (ownsRow_base hw (Nat.le_trans hbase2 hb3.out.size))
      have HFin := Lib.hid hfin
      clear hfin hw hPc hPB hkl hvl hown x0 x1 x2
      go_wp2_with fail
      go_end0
      exact HFin.out
/-- put of a plain map, whatever it holds. -/
theorem put_plain (w : World) (base B : Nat) (v1 v2 : Value) (ps : List Pr) (x : Sy) (v : Int) (hs : Sorted cmpP ps) (hb : base ≤ w.heap.size) (hz : ps.length ≤ 100000) (h : PlainAt w base B v1 v2 ps) :
    Calls Try.prog 26 #[.pointer (some ⟨B, 0, none⟩), .agg #[.int .i64 x.k, .string x.t, .int .i64 x.n], .int .i64 v] w (PutPl w base B (putLP ⟨x, v⟩ ps)) := by
  by_cases hx : x ∈ keysL ps
  · obtain ⟨o, ho, rfl⟩ := List.mem_map.1 hx
    obtain ⟨a, b, rfl⟩ := List.append_of_mem ho
    rw [put_mid hs rfl]
    refine put_there w base B v1 v2 _ a b o v rfl (fun i hi hl => ?_) hb hz h
    obtain ⟨-, -, ha, -⟩ := sorted_mid hs
    have h1 := ha a[i] (List.getElem_mem hl)
    have e : (keysL (a ++ o :: b))[i] = a[i].k := by simp only [List.getElem_map, List.getElem_append_left hl]
    rw [e]
    intro h2
    have h3 : cmpP a[i] o = 0 := (cmpP_key _ _).2 h2
    omega
  · obtain ⟨h1, h2⟩ := put_new hx v
    obtain ⟨a, b, e1, e2⟩ := ins_split h2
    rw [h1, e2]
    have hk := ins_keys x v ps
    rw [e2] at hk
    subst e1
    exact put_fresh w base B v1 v2 a b x v hx hk.symm hb hz h
end Go.Proofs.Ythgidldcblchmaa
