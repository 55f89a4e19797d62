/-
  Walks over same of the statements, over ponderkeep.List at tokens. What the listed variables give is a premise.
-/
import Derived.Test.YtocdclcemebaeaaDoorLexList
import Derived.Test.YtocdclcemebaeaaDoorLexHelp
namespace Go.Proofs.YtocdclcemebaeaaDoor
set_option linter.unusedVariables false
open Go.RowKit Go.Shelf
attribute [local go_sem] Oper.semAt_some
theorem take_succ_eq {α : Type} {xs ys : List α} {k : Nat} (h1 : k < xs.length) (h2 : k < ys.length) (h : xs.take k = ys.take k) (e : xs[k] = ys[k]) : xs.take (k + 1) = ys.take (k + 1) := by
  rw [List.take_succ_eq_append_getElem h1, List.take_succ_eq_append_getElem h2, h, e]
theorem strs_ne {a b : ByteArray} (h : ¬ a = b) : (!a.toList == b.toList) = true := by
  simp only [Bool.not_eq_true', beq_eq_false_iff_ne, ne_eq]
  intro e
  rw [Lib.toList_data, Lib.toList_data] at e
  exact h (ByteArray.ext (Array.toList_inj.mp e))
theorem same_diff (w : World) (pa pb : Option Addr) (na nb ca cb : Nat) (h : na ≠ nb) (h1 : na ≤ 1000000) (h2 : nb ≤ 1000000) : Calls Tryd.prog 11 #[.slice pa na ca, .slice pb nb cb] w fun e w' => e = .returned (.bool false) ∧ Below w.heap.size w w' := by
  have hd : ((na : Int) != (nb : Int)) = true := by simp; omega
  go_enter Tryd.func11, Tryd.ntmps11
  go_wp2_with fail
  go_ret
  exact ⟨rfl, Below.refl _ _⟩
theorem same_empty (w : World) (pa pb : Option Addr) (ca cb : Nat) : Calls Tryd.prog 11 #[.slice pa 0 ca, .slice pb 0 cb] w fun e w' => e = .returned (.bool true) ∧ Below w.heap.size w w' := by
  go_enter Tryd.func11, Tryd.ntmps11
  go_wp2_with fail
  go_loopw [5] (fun i wr => i = .int .i64 0 ∧ wr = w) (fun _ _ => 0)
  case atStart => exact ⟨rfl, rfl⟩
  case round =>
    obtain ⟨rfl, rfl⟩ := hrel
    go_wp2_with fail
    go_ret
    exact ⟨rfl, Below.refl _ _⟩
set_option maxRecDepth 100000 in
set_option maxHeartbeats 4000000 in
theorem same_two (w : World) (a oa ca b ob cb : Nat) (xs ys : List Sy) (he : ys.length = xs.length) (hz : xs.length ≤ 1000000) (ha : a < w.heap.size) (hb : b < w.heap.size)
    (hca : CellsAt w a oa xs) (hcb : CellsAt w b ob ys) :
    Calls Tryd.prog 11 #[.slice (some ⟨a, oa, none⟩) xs.length ca, .slice (some ⟨b, ob, none⟩) xs.length cb] w fun e w' => e = .returned (.bool (decide (xs = ys))) ∧ Below w.heap.size w w' := by
  have Ha := Lib.hid hca
  have Hb := Lib.hid hcb
  have HE := Lib.hid he
  clear hca hcb he
  go_enter Tryd.func11, Tryd.ntmps11
  go_wp2_with fail
  go_loopw [5] (fun i wr => ∃ k : Nat, k ≤ xs.length ∧ i = .int .i64 k ∧ Hid (Below w.heap.size w wr) ∧ Hid (xs.take k = ys.take k)) (fun i _ => xs.length - (intOf i).toNat)
  case atStart => exact ⟨0, Nat.zero_le _, rfl, Lib.hid (Below.refl _ _), Lib.hid rfl⟩
  case round =>
    obtain ⟨k, hk, rfl, hbw, htk⟩ := hrel
    by_cases hlt : k < xs.length
    · have hly : k < ys.length := by have := HE.out; omega
      obtain ⟨c0, c1, c2⟩ := (CellsAt.mono Ha.out ha hbw.out).three hlt
      obtain ⟨d0, d1, d2⟩ := (CellsAt.mono Hb.out hb hbw.out).three hly
      have hki : (k : Int) < (xs.length : Int) := by omega
      by_cases hxy : xs[k] = ys[k]
      · have HN := Lib.hid (take_succ_eq hlt hly htk.out hxy)
        rw [← hxy] at d0 d1 d2
        generalize xs[k] = x at c0 c1 c2 d0 d1 d2
        clear hxy
        go_wp2_with fail
        go_quiet (fail)
        go_wp2_with fail
        go_roundw
        case rel => exact ⟨k + 1, by omega, by go_num, Lib.hid (bdN _ hbw.out), HN⟩
        case measure => simp [intOf]; omega
      · have HN : Hid (decide (xs = ys) = false) := Lib.hid (by simp; intro e; subst e; exact hxy rfl)
        generalize xs[k] = x at c0 c1 c2 hxy
        generalize ys[k] = y at d0 d1 d2 hxy
        by_cases hk : x.k = y.k
        · have bk : (x.k != y.k) = false := by simp [hk]
          by_cases ht : x.t = y.t
          · have hn : ¬ x.n = y.n := fun h => hxy (by cases x; cases y; simp at *; exact ⟨hk, ht, h⟩)
            have bt : (!x.t.toList == y.t.toList) = false := by simp [ht]
            have bn : (x.n != y.n) = true := by simp [hn]
            clear hxy hk ht hn
            go_wp2_with fail
            go_quiet (fail)
            go_wp2_with fail
            go_ret
            exact ⟨by rw [HN.out]; rfl, bdN _ hbw.out⟩
          · have bt := strs_ne ht
            clear hxy hk ht
            go_wp2_with fail
            go_quiet (fail)
            go_wp2_with fail
            go_ret
            exact ⟨by rw [HN.out]; rfl, bdN _ hbw.out⟩
        · have bk : (x.k != y.k) = true := by simp [hk]
          clear hxy hk
          go_wp2_with fail
          go_quiet (fail)
          go_wp2_with fail
          go_ret
          exact ⟨by rw [HN.out]; rfl, bdN _ hbw.out⟩
    · obtain rfl : k = xs.length := by omega
      have HN : Hid (decide (xs = ys) = true) := Lib.hid (by have h1 := htk.out; have h2 := HE.out; rw [List.take_length, ← h2, List.take_length] at h1; simpa using h1)
      go_wp2_with fail
      go_ret
      exact ⟨by rw [HN.out]; rfl, hbw.out⟩
theorem same_any (w : World) (va vb : Value) (xs ys : List Sy) (hz : xs.length ≤ 1000000) (hz2 : ys.length ≤ 1000000) (ha : SliceAt encS 3 w va xs) (hb : SliceAt encS 3 w vb ys) :
    Calls Tryd.prog 11 #[va, vb] w fun e w' => e = .returned (.bool (decide (xs = ys))) ∧ Below w.heap.size w w' := by
  have hv : ∀ {v : Value} {zs : List Sy}, SliceAt encS 3 w v zs → ∃ p c, v = .slice p zs.length c := by
    intro v zs h
    rcases h with ⟨rfl, rfl⟩ | ⟨b, off, cap, rfl, -⟩
    · exact ⟨none, 0, rfl⟩
    · exact ⟨_, _, rfl⟩
  by_cases he : xs.length = ys.length
  · by_cases h0 : xs.length = 0
    · have hx := List.eq_nil_of_length_eq_zero h0
      have hy := List.eq_nil_of_length_eq_zero (he ▸ h0)
      subst hx; subst hy
      obtain ⟨p, c, rfl⟩ := hv ha
      obtain ⟨q, d, rfl⟩ := hv hb
      exact same_empty w _ _ _ _
    · rcases ha with ⟨rfl, rfl⟩ | ⟨a, oa, ca, rfl, ha, -, hca⟩
      · simp at h0
      · rcases hb with ⟨rfl, rfl⟩ | ⟨b, ob, cb, rfl, hb, -, hcb⟩
        · simp [he] at h0
        · rw [← he]
          exact same_two w a oa ca b ob cb xs ys he.symm hz ha hb hca hcb
  · obtain ⟨p, c, rfl⟩ := hv ha
    obtain ⟨q, d, rfl⟩ := hv hb
    refine (same_diff w p q _ _ c d he hz hz2).mono fun e w' ⟨h1, h2⟩ => ⟨?_, h2⟩
    rw [h1]
    have : decide (xs = ys) = false := by simp; intro e; exact he (by rw [e])
    rw [this]
theorem eql_func_nilT (fn : Fn) (a b : Array Value) (w : World) : (binOp .eql 32 (.func fn a b) .nilFunc).run Tryd.prog w = .ok (.bool false) w := by kernel_rfl
/-- A text's box, and a loop's variable laid behind it. -/
theorem atTok_new (w : World) (Bt : Nat) (t : ByteArray) (hBt : w.heap[Bt]? = some (.cells #[.string t] 9 (0, 0))) (T : TypeId) : AtTok w.heap.size w.heap.size Bt t w (w.alloc (.cells #[.slice none 0 0] T)) := by
  have hB0 : Below w.heap.size w (w.alloc (.cells #[.slice none 0 0] T)) := (Below.refl _ w).alloc (Nat.le_refl _) _
  have bO := Boxed.new w T (.slice none 0 0)
  have hO : ∀ k, OBox w.heap.size (w.alloc (.cells #[.slice none 0 0] T)) k → k = w.heap.size := fun k ho => by
    rcases ho with ho | ⟨v, h1, h2⟩
    · exact ho
    · rw [bO.cell] at h1; cases h1; simp [Value.ownBlock] at h2
  have hlt := heap_lt hBt
  exact ⟨(hB0.block _ hlt).trans hBt, fun k ho => by rw [hO k ho]; simp, fun ho => by have := hO _ ho; omega, hB0, by simp, by simp⟩
set_option maxRecDepth 100000 in
set_option maxHeartbeats 4000000 in
theorem tlist_any (t : ByteArray) (ht : t.size ≤ 1000000) (w : World) (hL : LexAt w) (Bt : Nat) (hBt : w.heap[Bt]? = some (.cells #[.string t] 9 (0, 0))) (xs : List Sy) (hxs : xs = lexL t.data.toList) :
    Calls Tryd.prog 13 #[.func (.func 21) #[] #[.pointer (some ⟨Bt, 0, none⟩)]] w (ListOutT w xs) := by
  have hlen : xs.length ≤ 1000001 := by
    have h1 := lex_len _ 0 t.data.toList (Nat.le_refl _)
    rw [str_size] at h1
    rw [hxs, lexL_from]; omega
  refine (callsIn_wide (n := 3)).1 ?_
  obtain ⟨i0, hi, hz0, hz1, hz2⟩ := info_parts infoT
  refine callsIn_of_wp_marks Tryd.func13 rfl trivial ?_ rfl
  simp only [Tryd.ntmps13, List.size_toArray, List.length_cons, List.length_nil, Nat.reduceAdd, Nat.reduceSub, Array.replicate_succ, Array.replicate_zero, List.push_toArray, List.append_toArray, List.nil_append, List.cons_append]
  have hef := eql_func_nilT (.func 21) #[] #[.pointer (some ⟨Bt, 0, none⟩)]
  have hA := atTok_new w Bt t hBt 26
  have bO := Boxed.new w 26 (.slice none 0 0)
  have hB1 : Below w.heap.size w (w.alloc (.cells #[.slice none 0 0] 26)) := (Below.refl _ w).alloc (Nat.le_refl _) _
  gi_wp2
  refine wpIn_rangeFunc_ownH rfl (by omega) (gf := 21) (lb := #[.pointer (some ⟨Bt, 0, none⟩)]) rfl trivial (enters_of Tryd.func21 (by kernel_rfl) rfl)
    (tok_stops 2 w.heap.size w.heap.size Bt t ht w hL rfl xs hxs _ hA) (fun h k => KT.trans h k) (fun W l o o' hl h hc _ => KT.put (by simp at hl; omega) (by simp at hl; omega) h hc) (Below.refl _ _) (fun _ => rfl)
    (fun pre W => RowBox w.heap.size w.heap.size W pre ∧ Below w.heap.size w W)
    (fun _ _ _ => False)
    (OwnFrom.and (Own.from (holdsRow_own w.heap.size w.heap.size 26 30 3 (fun pre => pre.length) (fun pre => pre.flatMap encS) (fun pre v => v = .slice none 0 0 ↔ pre = [])) _) (ownFrom_below (Nat.le_refl _) (by simp)))
    (fun _ _ _ _ _ hs _ _ => hs)
    ⟨⟨_, bO, World.ownsRow_nil _ _ _ _, by simp⟩, hB1⟩
    (fun x a' W => ∃ Bx, W.heap[Bx]? = some (.cells #[.int .i64 x.k, .string x.t, .int .i64 x.n] 30 (0, 0)) ∧ a' = { tmps := #[.func (.func 21) #[] #[.pointer (some ⟨Bt, 0, none⟩)], undef, .slice none 0 0, .pointer (some ⟨w.heap.size, 0, none⟩), .pointer (some ⟨Bx, 0, none⟩), .func (.func 21) #[] #[.pointer (some ⟨Bt, 0, none⟩)], .bool false, .func (.func 21) #[] #[.pointer (some ⟨Bt, 0, none⟩)], .agg #[.int .i64 x.k, .string x.t, .int .i64 x.n], undef, undef, undef, undef, undef], defers := [] })
    (fun x a' => by
      rintro s X Y row ⟨Bx, h2, h3⟩ hg hrow
      exact ⟨Bx, kept_block h2 hg (fun r e => (hrow r e).2), h3⟩) ?assign ?body ?done ?stop
  case assign =>
    rintro l pre x W K ⟨⟨v, hv, hrow, hnil⟩, hB⟩ hK
    have hsz := hB.size
    have hlt := hv.lt
    gi_wp2
    have hA := (Below.refl W.heap.size W).alloc (Nat.le_refl _) (.cells #[.int .i64 x.k, .string x.t, .int .i64 x.n] 30)
    exact hK _ _ ((KeepsOthers.alloc _ _).from _) (KT.ofBelow hlt hsz hA) ⟨⟨v, hv.alloc _, hrow.alloc _, hnil⟩, hB.alloc hsz _⟩ ⟨W.heap.size, new_at rfl, rfl⟩
  case body =>
    rintro l pre x a' W hl ⟨r, hr⟩ ⟨⟨v, hv, hrow, hnil⟩, hB⟩ ⟨Bx, hx, rfl⟩ hlt
    have hc := hv.cell
    obtain ⟨x0, x1, x2, -, -, -, -⟩ := box_cells hx (Below.refl _ _)
    gi_wp2_with (gi_at_builtin; refine wpListIn_append_own_at _ rfl _ _ 26 rfl w.heap.size 30 i0 (.agg #[.int .i64 0, .string ⟨#[]⟩, .int .i64 0]) 3 32 Tryd.underlying26 hi hz0 hz1 hz2 rfl (by decide) _ _ _ rfl (hrow.alloc _) ⟨W.heap.size, 0, none⟩ 1 1 (encS x) rfl rfl (cell_three_new _ _ _) (by simp [encS, Value.oneCell']) (by unfold maxLen; omega) (by omega) (by have := hB.size; simp; omega) ?_; intro v' w1 hown' hgrow _ hor; obtain ⟨g', cap', rfl⟩ := ownsRow_succ hown'; obtain ⟨hv1, hv2, hr2, hk2, hb2⟩ := hv.appended (by decide) hrow hB.size (Nat.le_refl _) hown' hgrow; have hkt := Lib.hid (KT.append hv (by decide) hrow (Nat.le_refl _) hB.size (Nat.le_refl _) hown' hgrow hor); have hc1 := hv1.cell; have hf1 := hv1.frozen; clear hor)
    exact ⟨hk2.from _, hkt.out, ⟨_, hv2, by simpa using hr2, by simp⟩, hB.trans hb2⟩
  case done =>
    rintro D ys W hD rfl ⟨⟨v, hv, hrow, hnil⟩, hB⟩ hK
    have hc := hv.cell
    gi_wp2
    refine ⟨by simp, .inl ⟨_, _, rfl, run_takeDeferred hK, ?_⟩⟩
    exact ⟨_, results_tmp rfl _ _ _, v, rfl, ownsRow_putObj hrow _ hK rfl, hnil, hB.trans (belowK_b (w := w) (Nat.le_refl _) W D _ _ (by simp at hD; omega) hK rfl rfl)⟩
  case stop =>
    rintro D c pre W _ _ h _
    exact h.elim
end Go.Proofs.YtocdclcemebaeaaDoor
