/-
  The walk over ponderref05.All. No condition but a bound on sizes.
-/
import Derived.Test.YtocdclcemebaeaaDoorLexOneD
import Derived.Test.YtocdclcemebaeaaDoorLexList
import Derived.OwnWalk
import Derived.Deep.AppendLies
namespace Go.Proofs.YtocdclcemebaeaaDoor
set_option linter.unusedVariables false
open Go.RowKit
theorem infoR : (Tryd.prog.info? 46).map (fun i => (i.zero, i.size, i.bytes)) = some (some (.agg #[.int .i64 0, .string ⟨#[]⟩, .int .i64 0]), 3, 32) := by kernel_rfl
theorem gbelow_none {a b : World} (h : Below a.heap.size a b) : a.grownBy b none :=
  ⟨h.os, h.tape, h.output, h.size, fun i hi _ => h.block i hi⟩
theorem below_own {a b : World} {B base : Nat} {e : TypeId} {size : Nat} {v : Value} {n : Nat} {cs : List Value} (h : a.grownBy b v.ownBlock) (ho : a.ownsRow base e size v n cs) (hB : B ≤ a.heap.size) (hbase : B ≤ base) : Below B a b :=
  ⟨h.os, h.tape, h.output, h.size, fun i hi => h.block i (by omega) (fun e => by have := (ho.lt i e.symm).1; omega)⟩
theorem own_below {a b : World} {base : Nat} {e : TypeId} {size : Nat} {v : Value} {n : Nat} {cs : List Value} (ho : a.ownsRow base e size v n cs) (h : Below a.heap.size a b) : b.ownsRow base e size v n cs :=
  ho.kept (gbelow_none h) (by cases hv : v.ownBlock <;> simp)
theorem lex_gap (n : Nat) (l : List UInt8) : lexFrom n l = lexFrom (n + gapL false l) (l.drop (gapL false l)) := by
  rw [lex_step n l, lex_step (n + gapL false l) (l.drop (gapL false l)), gap_stops, Nat.add_zero, List.drop_zero]
theorem cell_second (w2 : World) (z : Sy) : ∀ j u, (encS z)[j]? = some u → ((w2.alloc (.cells #[.int .i64 z.k, .string z.t, .int .i64 z.n] 46)).alloc (.cells #[.int .i64 z.k, .string z.t, .int .i64 z.n] 46)).cell? ((⟨w2.heap.size + 1, 0, none⟩ : Addr).add j) = some u := by
  have h := cell_three_new (w2.alloc (.cells #[.int .i64 z.k, .string z.t, .int .i64 z.n] 46)) z 46
  have e : (w2.alloc (.cells #[.int .i64 z.k, .string z.t, .int .i64 z.n] 46)).heap.size = w2.heap.size + 1 := by simp
  rw [e] at h
  exact h
def ListOutR (w : World) (xs : List Sy) (e : Ending) (W' : World) : Prop := ∃ v, e = .returned v ∧ W'.ownsRow w.heap.size 46 3 v xs.length (xs.flatMap encS) ∧ Below w.heap.size w W'
set_option maxRecDepth 100000 in
set_option maxHeartbeats 4000000 in
theorem rall_any (t : ByteArray) (ht : t.size ≤ 100000) (w : World) (xs : List Sy) (hxs : xs = lexL t.data.toList) : Calls Tryd.prog 10 #[.string t] w (ListOutR w xs) := by
  obtain ⟨i0, hi, hz0, hz1, hz2⟩ := info_parts infoR
  have hlen : xs.length ≤ 100001 := by
    have h1 := lex_len _ 0 t.data.toList (Nat.le_refl _)
    rw [hxs, lexL_from]
    rw [str_size] at h1
    omega
  obtain ⟨g0, hg0⟩ : ∃ g0, g0 = 0 + gapL false (t.data.toList.drop 0) := ⟨_, rfl⟩
  have hs0 := fun w' => rskip_any t w' (by omega) 0 (Nat.zero_le _) g0 hg0
  have hg0s : g0 ≤ t.size := by
    have := gap_le false (t.data.toList.drop 0)
    rw [List.length_drop, str_size] at this
    omega
  have hx0 : xs = [] ++ lexFrom g0 (t.data.toList.drop g0) := by
    rw [hxs, lexL_from, lex_gap, List.nil_append, hg0, List.drop_zero, Nat.zero_add]
  have hgap0 : gapL false (t.data.toList.drop g0) = 0 := by rw [hg0, List.drop_zero, Nat.zero_add]; exact gap_stops false _
  have hfin : ∀ v w2, w2.ownsRow w.heap.size 46 3 v xs.length (xs.flatMap encS) → Below w.heap.size w w2 → ListOutR w xs (.returned v) w2 := fun v w2 h1 h2 => ⟨v, rfl, h1, h2⟩
  have HS0 := Lib.hid hs0
  have HX0 := Lib.hid hx0
  have HG0 := Lib.hid hgap0
  have HFin := Lib.hid hfin
  clear hs0 hx0 hgap0 hg0 hfin hxs
  go_enter Tryd.func10, Tryd.ntmps10
  go_wp2_with (go_at_call 19; refine (HS0.out _).mono ?_; rintro e w' ⟨rfl, rfl⟩)
  go_loopw [3, 4] (fun o i wr => ∃ (v : Value) (k : Nat) (pre : List Sy), v = o ∧ k ≤ t.size ∧ i = .int .i64 k ∧ Hid (wr.ownsRow w.heap.size 46 3 v pre.length (pre.flatMap encS)) ∧ Hid (xs = pre ++ lexFrom k (t.data.toList.drop k) ∧ gapL false (t.data.toList.drop k) = 0) ∧ Hid (Below w.heap.size w wr)) (fun _ i _ => t.size - (intOf i).toNat)
  case atStart => exact ⟨_, g0, [], rfl, hg0s, rfl, Lib.hid (World.ownsRow_nil _ _ _ _), Lib.hid ⟨HX0.out, HG0.out⟩, Lib.hid (Below.refl _ _)⟩
  case round =>
    obtain ⟨v, k, pre, rfl, hk, rfl, hown, hI, hB⟩ := hrel
    obtain ⟨hxe, hgz⟩ := hI.out
    have hpl : pre.length + 1 ≤ 100001 := by
      have h1 := congrArg List.length hxe
      rw [List.length_append] at h1
      have h2 := List.length_pos_iff.2 (lex_ne k (t.data.toList.drop k))
      omega
    by_cases hlt : k < t.size
    · have hki : (k : Int) < (t.size : Int) := by omega
      obtain ⟨l, hl⟩ : ∃ l, l = t.data.toList.drop k := ⟨_, rfl⟩
      have hln : l.length = t.size - k := by rw [hl, List.length_drop, str_size]
      have hne : l ≠ [] := by intro e; rw [e] at hln; simp at hln; omega
      obtain ⟨z, hz⟩ : ∃ z, z = tokL k l := ⟨_, rfl⟩
      obtain ⟨K, hK⟩ : ∃ K, K = k + (cutL l).2 := ⟨_, rfl⟩
      have hcl := cut_le l
      have hcp := cut_pos l hne
      have hone := fun w' => rone_any t w' (by omega) k hlt z (by rw [hz, hl]) K (by rw [hK, hl])
      have h5 : z.k ≠ 5 := by rw [hz]; exact tok_five k l hne
      have hst := lex_step k l
      rw [← hl] at hxe hgz
      rw [hgz] at hst
      simp only [List.drop_zero, Nat.add_zero] at hst
      rw [← hz, ← hK] at hst
      have hdr : l.drop (cutL l).2 = t.data.toList.drop K := by rw [hl, List.drop_drop, ← hl, hK]
      rw [hdr] at hst
      have hKs : K ≤ t.size := by omega
      obtain ⟨g, hg⟩ : ∃ g, g = K + gapL false (t.data.toList.drop K) := ⟨_, rfl⟩
      have hgs : g ≤ t.size := by
        have := gap_le false (t.data.toList.drop K)
        rw [List.length_drop, str_size] at this
        omega
      have hskip := fun w' => rskip_any t w' (by omega) K hKs g hg
      have hnext : lexFrom K (t.data.toList.drop K) = lexFrom g (t.data.toList.drop g) := by rw [lex_gap, List.drop_drop, hg]
      have hgnext : gapL false (t.data.toList.drop g) = 0 := by rw [hg, ← List.drop_drop]; exact gap_stops false _
      have hkg : k + 1 ≤ g := by omega
      unfold OneOut at hone
      have HO := Lib.hid hone
      have HS := Lib.hid hskip
      have HXE := Lib.hid hxe
      have HST := Lib.hid hst
      have HNX := Lib.hid (show _ ∧ _ from ⟨hnext, hgnext⟩)
      have hsz := hB.out.size
      clear hone hskip hxe hst hgz hnext hgnext hdr hl hln hne hz hK hcl hcp hg hI
      have hB0 := hB
      by_cases k6 : z.k = 6
      · have b6 : (z.k == 6) = true := by simp [k6]
        have HE : Hid (xs = pre ++ [z]) := Lib.hid (by rw [HXE.out, HST.out, if_pos (.inr k6)])
        clear k6 h5
        go_wp2_with (first
          | (go_at_call 20; refine (HO.out _).mono ?_; rintro e w2 ⟨rfl, hb2⟩; have HB2 := Lib.hid (hB0.out.trans (hb2.mono hsz)); have hown1 := Lib.hid ((own_below hown.out hb2).alloc (.cells #[.int .i64 z.k, .string z.t, .int .i64 z.n] 46)); have hsz2 := HB2.out.size; have hx2 : Hid ((w2.alloc (.cells #[.int .i64 z.k, .string z.t, .int .i64 z.n] 46)).heap[w2.heap.size]? = some (.cells #[.int .i64 z.k, .string z.t, .int .i64 z.n] 46 (0, 0))) := Lib.hid (new_at rfl); have hnb : Hid (∀ j, v.ownBlock = some j → j < w2.heap.size) := Lib.hid (fun j hj => ((own_below hown.out hb2).lt j hj).2); have Hcn := Lib.hid (cell_second w2 z); clear hb2)
          | (at_builtin; refine wpList_append_own _ rfl (.tmp 19) (.tmp 21) 23 rfl w.heap.size 46 i0 (.agg #[.int .i64 0, .string ⟨#[]⟩, .int .i64 0]) 3 32 Tryd.underlying23 hi hz0 hz1 hz2 rfl (by decide) _ _ _ rfl (hown1.out.alloc _) ⟨w2.heap.size + 1, 0, none⟩ 1 1 (encS z) rfl rfl Hcn.out (by simp [encS, Value.oneCell']) (by unfold maxLen; omega) (by omega) (by simp; omega) ?_; intro v2 wb hown2' hg2 _; have hown2 := Lib.hid hown2'; have HBb := Lib.hid (((HB2.out.alloc hsz2 _).alloc (by simp; omega) _).trans (below_own (B := w.heap.size) hg2 (hown1.out.alloc _) (by simp; omega) (Nat.le_refl _))); have cb : wb.cell? ⟨w2.heap.size, 0, none⟩ = some (.int .i64 z.k) := (by rw [cells_of ((hg2.block w2.heap.size (by simp; omega) (fun e => by have := hnb.out _ e.symm; omega)).trans ((Below.heap_alloc _ _ _ (by simp)).trans hx2.out))]; rfl); clear hown2' hg2)
          | (go_at_call 19; refine (HS.out _).mono ?_; rintro e w' ⟨rfl, rfl⟩))
        go_ret
        exact HFin.out _ _ (by rw [HE.out]; simpa using hown2.out) HBb.out
      · have b6 : (z.k == 6) = false := by simp [k6]
        have HE : Hid (xs = (pre ++ [z]) ++ lexFrom g (t.data.toList.drop g)) := Lib.hid (by rw [HXE.out, HST.out, if_neg (by simp only [not_or]; exact ⟨h5, k6⟩), HNX.out.1, List.append_assoc]; rfl)
        clear k6 h5
        go_wp2_with (first
          | (go_at_call 20; refine (HO.out _).mono ?_; rintro e w2 ⟨rfl, hb2⟩; have HB2 := Lib.hid (hB0.out.trans (hb2.mono hsz)); have hown1 := Lib.hid ((own_below hown.out hb2).alloc (.cells #[.int .i64 z.k, .string z.t, .int .i64 z.n] 46)); have hsz2 := HB2.out.size; have hx2 : Hid ((w2.alloc (.cells #[.int .i64 z.k, .string z.t, .int .i64 z.n] 46)).heap[w2.heap.size]? = some (.cells #[.int .i64 z.k, .string z.t, .int .i64 z.n] 46 (0, 0))) := Lib.hid (new_at rfl); have hnb : Hid (∀ j, v.ownBlock = some j → j < w2.heap.size) := Lib.hid (fun j hj => ((own_below hown.out hb2).lt j hj).2); have Hcn := Lib.hid (cell_second w2 z); clear hb2)
          | (at_builtin; refine wpList_append_own _ rfl (.tmp 19) (.tmp 21) 23 rfl w.heap.size 46 i0 (.agg #[.int .i64 0, .string ⟨#[]⟩, .int .i64 0]) 3 32 Tryd.underlying23 hi hz0 hz1 hz2 rfl (by decide) _ _ _ rfl (hown1.out.alloc _) ⟨w2.heap.size + 1, 0, none⟩ 1 1 (encS z) rfl rfl Hcn.out (by simp [encS, Value.oneCell']) (by unfold maxLen; omega) (by omega) (by simp; omega) ?_; intro v2 wb hown2' hg2 _; have hown2 := Lib.hid hown2'; have HBb := Lib.hid (((HB2.out.alloc hsz2 _).alloc (by simp; omega) _).trans (below_own (B := w.heap.size) hg2 (hown1.out.alloc _) (by simp; omega) (Nat.le_refl _))); have cb : wb.cell? ⟨w2.heap.size, 0, none⟩ = some (.int .i64 z.k) := (by rw [cells_of ((hg2.block w2.heap.size (by simp; omega) (fun e => by have := hnb.out _ e.symm; omega)).trans ((Below.heap_alloc _ _ _ (by simp)).trans hx2.out))]; rfl); clear hown2' hg2)
          | (go_at_call 19; refine (HS.out _).mono ?_; rintro e w' ⟨rfl, rfl⟩))
        go_roundw
        case rel => exact ⟨_, g, pre ++ [z], rfl, hgs, rfl, Lib.hid (by simpa using hown2.out), Lib.hid ⟨HE.out, HNX.out.2⟩, HBb⟩
        case measure => simp [intOf]; omega
    · obtain rfl : k = t.size := by omega
      have HE : Hid (xs = pre ++ [⟨5, ⟨#[]⟩, t.size⟩]) := Lib.hid (by rw [hxe, List.drop_of_length_le (by rw [str_size]; exact Nat.le_refl _), lex_nil])
      have hsz := hB.out.size
      clear hxe hgz hI
      go_wp2_with (at_builtin; refine wpList_append_own _ rfl (.tmp 30) (.tmp 34) 23 rfl w.heap.size 46 i0 (.agg #[.int .i64 0, .string ⟨#[]⟩, .int .i64 0]) 3 32 Tryd.underlying23 hi hz0 hz1 hz2 rfl (by decide) _ _ _ rfl (hown.out.alloc _) ⟨wr.heap.size, 0, none⟩ 1 1 (encS ⟨5, ⟨#[]⟩, t.size⟩) rfl rfl (cell_three_new _ ⟨5, ⟨#[]⟩, t.size⟩ _) (by simp [encS, Value.oneCell']) (by unfold maxLen; omega) (by omega) (by simp; omega) ?_; intro v2 wb hown2' hg2 _; have hown2 := Lib.hid hown2'; have HBb := Lib.hid ((hB.out.alloc hsz _).trans (below_own (B := w.heap.size) hg2 (hown.out.alloc _) (by simp; omega) (Nat.le_refl _))); clear hown2' hg2)
      go_ret
      exact HFin.out _ _ (by rw [HE.out]; simpa using hown2.out) HBb.out
end Go.Proofs.YtocdclcemebaeaaDoor
