/-
  Walks over package book at pairs ponder/book.pair[ponder/api.Sym, int]: Put. No condition but a bound on sizes.
-/
import Derived.Test.YthgidldcblchmaaProg
import Derived.Test.YthgidldcblchmaaKit
import Derived.Test.YthgidldcblchmaaBookGetP
import Derived.Test.YthgidldcblchmaaDropP
import Derived.WalkKit
import Derived.WalkLawsBesides
import Derived.Handy
import Derived.Lib.Hide
import Derived.StillTailTactics
import Derived.BigQuiet
import Derived.Deep.QuietTactic
import Derived.Deep.RegionHeld3
namespace Go.Proofs.Ythgidldcblchmaa
set_option linter.unusedVariables false
open Go.RowKit

theorem setobjP (v : Pr) {w : World} {B : Nat} {u0 u1 u2 u3 : Value} {t : TypeId} (h : w.heap[B]? = some (.cells #[u0, u1, u2, u3] t (0, 0))) : ((((w.setCell ⟨B, 0, none⟩ (.int .i64 v.k.k)).setCell ⟨B, 1, none⟩ (.string v.k.t)).setCell ⟨B, 2, none⟩ (.int .i64 v.k.n)).setCell ⟨B, 3, none⟩ (.int .i64 v.v)).heap[B]? = some (.cells #[.int .i64 v.k.k, .string v.k.t, .int .i64 v.k.n, .int .i64 v.v] t (0, 0)) := by
  simp [World.setCell, Array.getElem?_modify, h]
/-- What Put makes of the pairs. -/
def putLP (x : Pr) (xs : List Pr) : List Pr := match look cmpP x xs with
  | none => ins cmpP x xs
  | some o => ins cmpP ⟨o.k, x.v⟩ (del cmpP x xs)
set_option maxHeartbeats 2000000 in
theorem put_oldP (w : World) (b s : Nat) (x o : Pr) (xs : List Pr) (h : MapP w b s xs) (hz : xs.length ≤ 1000000) (ho : look cmpP x xs = some o) :
    Calls Try.prog 25 #[.pointer (some ⟨b, 0, none⟩), .agg #[.int .i64 x.k.k, .string x.k.t, .int .i64 x.k.n], .int .i64 x.v] w (PutMOutP w b s false (ins cmpP ⟨o.k, x.v⟩ (del cmpP x xs))) := by
  obtain ⟨hb, hS⟩ := h
  have hn : has cmpP x xs = true := by rw [has_look, ho]; rfl
  have hsort : Sorted cmpP xs := by obtain ⟨p, T, -, -, -, hs⟩ := hS; exact hs
  have hdl : (del cmpP x xs).length ≤ 1000000 := Nat.le_trans (List.length_filter_le _ _) hz
  have hne : b ≠ s := by
    rintro rfl
    obtain ⟨p, T, hr, -⟩ := hS
    rw [hb] at hr; cases hr
  have hlt := heap_lt hb
  have hsl := IsSet.lt hS
  obtain ⟨W2, hW2⟩ : ∃ W2, W2 = (w.alloc (.cells #[.int .i64 x.k.k, .string x.k.t, .int .i64 x.k.n] 27)).alloc (.cells #[.int .i64 x.k.k, .string x.k.t, .int .i64 x.k.n, .int .i64 x.v] 100) := ⟨_, rfl⟩
  have hB : Below w.heap.size w W2 := by rw [hW2]; go_grown
  have hbox : W2.heap[w.heap.size + 1]? = some (.cells #[.int .i64 x.k.k, .string x.k.t, .int .i64 x.k.n, .int .i64 x.v] 100 (0, 0)) := by rw [hW2]; exact new_at (by simp)
  have hk : ∀ w', W2.grownBy w' (some s) → (w'.cell? ⟨b, 0, none⟩ = some (.pointer (some ⟨s, 0, none⟩)) ∧ w'.cell? ⟨w.heap.size + 1, 0, none⟩ = some (.int .i64 x.k.k) ∧ w'.cell? ⟨w.heap.size + 1, 1, none⟩ = some (.string x.k.t) ∧ w'.cell? ⟨w.heap.size + 1, 2, none⟩ = some (.int .i64 x.k.n) ∧ w'.cell? ⟨w.heap.size + 1, 3, none⟩ = some (.int .i64 x.v)) := by
    intro w' h
    have h1 := (h.block b (Nat.lt_of_lt_of_le hlt hB.size) (by simpa using hne)).trans ((hB.block b hlt).trans hb)
    have h2 := (h.block (w.heap.size + 1) (heap_lt hbox) (by simp; omega)).trans hbox
    refine ⟨by rw [cells_of h1]; rfl, ?_, ?_, ?_, ?_⟩ <;> (rw [cells_of h2]; rfl)
  have hput := fun w' (h : Below w.heap.size w w') => (put_anyP w' s x xs (IsSet.mono hS h) hz).mono (R' := fun e w2 => e = .returned (.bool false) ∧ w'.grownBy w2 (some s) ∧ SetP w2 s xs) (by
    rintro e w2 ⟨he, h1, h2⟩
    rw [hn] at he
    rw [ins_has cmpP_cmp hsort hn] at h2
    exact ⟨he, h1, h2⟩)
  have hget := fun w' (h : SetP w' s xs) => (get_setP x w' s xs h).mono (R' := fun e w2 => e = .returned (.tuple #[.agg #[.int .i64 o.k.k, .string o.k.t, .int .i64 o.k.n, .int .i64 o.v], .bool true]) ∧ Below w'.heap.size w' w2) (by
    rintro e w2 ⟨h1, h2⟩
    rw [ho] at h2; exact ⟨h2, h1⟩)
  have hdrop := fun w' (h : SetP w' s xs) => (drop_anyP w' s x xs h hz).mono (R' := fun e w2 => (∃ q, e = .returned (.bool q)) ∧ w'.grownBy w2 (some s) ∧ SetP w2 s (del cmpP x xs)) (by
    rintro e w2 ⟨he, h1, h2⟩
    exact ⟨⟨_, he⟩, h1, h2⟩)
  have hput2 := fun w' (h : SetP w' s (del cmpP x xs)) => (put_anyP w' s ⟨o.k, x.v⟩ (del cmpP x xs) h hdl).mono (R' := fun e w2 => (∃ q, e = .returned (.bool q)) ∧ w'.grownBy w2 (some s) ∧ SetP w2 s (ins cmpP ⟨o.k, x.v⟩ (del cmpP x xs))) (by
    rintro e w2 ⟨he, h1, h2⟩
    exact ⟨⟨_, he⟩, h1, h2⟩)
  have hfin : ∀ (e : Ending) (w2 : World), e = .returned (.bool false) → W2.grownBy w2 (some s) → SetP w2 s (ins cmpP ⟨o.k, x.v⟩ (del cmpP x xs)) → PutMOutP w b s false (ins cmpP ⟨o.k, x.v⟩ (del cmpP x xs)) e w2 := fun e w2 he h2 h3 =>
    ⟨he, gtrans (gbelow hB) h2, ⟨(h2.block b (Nat.lt_of_lt_of_le hlt hB.size) (by simpa using hne)).trans ((hB.block b hlt).trans hb), h3⟩⟩
  have hs2 : s < W2.heap.size := Nat.lt_of_lt_of_le hsl hB.size
  have hK := Lib.hid hk
  have Hput := Lib.hid hput
  have Hget := Lib.hid hget
  have Hdrop := Lib.hid hdrop
  have Hput2 := Lib.hid hput2
  have Hfin := Lib.hid hfin
  have HB := Lib.hid hB
  have HW := Lib.hid hW2
  obtain ⟨c0, d0, d1, d2, d3⟩ := hk W2 ⟨rfl, rfl, rfl, Nat.le_refl _, fun _ _ _ => rfl⟩
  clear hk hput hget hdrop hput2 hfin hB hb hS hW2 hbox ho hn hsort hdl hz
  go_enter Try.func25, Try.ntmps25
  go_wp2_with fail
  rw [← HW.out]
  refine region_tail 5 (by kernel_rfl) (by kernel_rfl) (fun KK hKK => ?_)
  simp only [List.take_succ_cons, List.take_zero]
  repeat (with_reducible refine wpStill_step (fun K hK => ?_); go_simp; (with_reducible refine hK _ ?_); clear hK K)
  refine wpStill_nil (hKK _ _ ?_)
  clear hKK KK
  simp only [List.drop_succ_cons, List.drop_zero]
  go_wp2_with (go_at_call 60; (with_reducible refine (Hput.out _ HB.out.drew).mono ?_); rintro e w1 ⟨rfl, hg, hs⟩)
  have HG : Hid (W2.grownBy w1 (some s)) := Lib.hid (gtrans (gbelow (Below.refl _ _).drew) hg)
  have HS := Lib.hid hs
  have hlt1 : b < w1.heap.size := Nat.lt_of_lt_of_le hlt (Nat.le_trans HB.out.size HG.out.size)
  have hk1 : ∀ w', Below w1.heap.size w1 w' → (w'.cell? ⟨b, 0, none⟩ = some (.pointer (some ⟨s, 0, none⟩)) ∧ w'.cell? ⟨w.heap.size + 1, 0, none⟩ = some (.int .i64 x.k.k) ∧ w'.cell? ⟨w.heap.size + 1, 1, none⟩ = some (.string x.k.t) ∧ w'.cell? ⟨w.heap.size + 1, 2, none⟩ = some (.int .i64 x.k.n) ∧ w'.cell? ⟨w.heap.size + 1, 3, none⟩ = some (.int .i64 x.v)) := fun w' h => hK.out w' (gtrans HG.out (gbelow h))
  have hK1 := Lib.hid hk1
  have h0 : Hid (Below w1.heap.size w1 w1.drew) := Lib.hid (Below.refl _ _).drew
  clear hg hs hk1 c0 d0 d1 d2 d3
  obtain ⟨c0, d0, d1, d2, d3⟩ := hK1.out w1 (Below.refl _ _)
  go_wp2_with fail
  go_region_held3 (fun w' => Below w1.heap.size w1 w' ∧ w'.cell? ⟨b, 0, none⟩ = some (.pointer (some ⟨s, 0, none⟩)) ∧ w'.cell? ⟨w.heap.size + 1, 0, none⟩ = some (.int .i64 x.k.k) ∧ w'.cell? ⟨w.heap.size + 1, 1, none⟩ = some (.string x.k.t) ∧ w'.cell? ⟨w.heap.size + 1, 2, none⟩ = some (.int .i64 x.k.n) ∧ w'.cell? ⟨w.heap.size + 1, 3, none⟩ = some (.int .i64 x.v))
    (first | exact ⟨h0.out, hK1.out _ h0.out⟩ | exact ⟨hB3.out, hK1.out _ hB3.out⟩ | exact ⟨hB3.out.alloc hB3.out.size _, hK1.out _ (hB3.out.alloc hB3.out.size _)⟩ | exact ⟨h0.out.alloc h0.out.size _, hK1.out _ (h0.out.alloc h0.out.size _)⟩ | exact (fun hh => ⟨hh, hK1.out _ hh⟩) (((((hB3.out.setCell (Nat.le_refl _) _).setCell (Nat.le_refl _) _).setCell (Nat.le_refl _) _).setCell (Nat.le_refl _) _)) | exact (fun hh => ⟨hh, hK1.out _ hh⟩) ((((((hB3.out.alloc hB3.out.size _).setCell hB3.out.size _).setCell hB3.out.size _).setCell hB3.out.size _).setCell hB3.out.size _)) | go_keep)
    (first | (go_at_call 61; refine (Hget.out _ (by first | exact IsSet.mono HS.out h0.out | exact IsSet.mono HS.out (h0.out.alloc h0.out.size _))).mono ?_; rintro e w3 ⟨rfl, h3⟩; have hB3 : Hid (Below w1.heap.size w1 w3) := Lib.hid (by first | exact h0.out.trans (h3.mono h0.out.size) | exact (h0.out.alloc h0.out.size _).trans (h3.mono (h0.out.alloc h0.out.size _).size)); obtain ⟨hc3, hf3, hl3⟩ := bcell3 h3; have H3 := Lib.hid h3; clear h3))
  all_goals
    rename_i hHeld
    have HH := Lib.hid hHeld.1
    clear hHeld hc3 hf3 hl3
    first
      | (replace HH : Hid (Below w1.heap.size w1 (w3.alloc (.cells #[.int .i64 o.k.k, .string o.k.t, .int .i64 o.k.n, .int .i64 o.v] 100))) := HH
         have HX : Hid ((w3.alloc (.cells #[.int .i64 o.k.k, .string o.k.t, .int .i64 o.k.n, .int .i64 o.v] 100)).heap[w3.heap.size]? = some (.cells #[.int .i64 o.k.k, .string o.k.t, .int .i64 o.k.n, .int .i64 o.v] 100 (0, 0))) := Lib.hid (new_at rfl)
         have HXn : Hid (s < w3.heap.size ∧ b ≠ w3.heap.size) := Lib.hid (by have h1 := HB.out.size; have h2 := HG.out.size; have h3 := hB3.out.size; omega)
         clear H3 hB3
         generalize w3.alloc (.cells #[.int .i64 o.k.k, .string o.k.t, .int .i64 o.k.n, .int .i64 o.v] 100) = w5 at HH HX ⊢
         generalize w3.heap.size = X at HX HXn ⊢)
      | (have HX := Lib.hid (setobjP o ((H3.out.block w1.heap.size (by simp)).trans (new_at_drew rfl)))
         have HXn : Hid (s < w1.heap.size ∧ b ≠ w1.heap.size) := Lib.hid (by have h1 := HB.out.size; have h2 := HG.out.size; omega)
         clear H3 hB3
         generalize (((w3.setCell ⟨w1.heap.size, 0, none⟩ (.int .i64 o.k.k)).setCell ⟨w1.heap.size, 1, none⟩ (.string o.k.t)).setCell ⟨w1.heap.size, 2, none⟩ (.int .i64 o.k.n)).setCell ⟨w1.heap.size, 3, none⟩ (.int .i64 o.v) = w5 at HH HX ⊢
         generalize w1.heap.size = X at HX HXn ⊢)
    have HG5 : Hid (W2.grownBy w5 (some s)) := Lib.hid (gtrans HG.out (gbelow HH.out))
    have HS5 : Hid (SetP w5 s xs) := Lib.hid (IsSet.mono HS.out HH.out)
    have HS5d : Hid (SetP w5.drew s xs) := Lib.hid (IsSet.mono HS5.out (Below.refl _ _).drew)
    clear HS HG HH hK1 h0 c0 d0 d1 d2 d3
    obtain ⟨c0, d0, d1, d2, d3⟩ := hK.out w5 HG5.out
    go_wp2_with fail
    refine region_tail 5 (by kernel_rfl) (by kernel_rfl) (fun KK hKK => ?_)
    simp only [List.take_succ_cons, List.take_zero]
    repeat (with_reducible refine wpStill_step (fun K hK => ?_); go_simp; (with_reducible refine hK _ ?_); clear hK K)
    refine wpStill_nil (hKK _ _ ?_)
    clear hKK KK
    simp only [List.drop_succ_cons, List.drop_zero]
    go_wp2_with (go_at_call 62; (with_reducible refine (Hdrop.out _ HS5d.out).mono ?_); rintro e w6 ⟨⟨q6, rfl⟩, hg6, hs6⟩)
    have hg6' : w5.grownBy w6 (some s) := gtrans (gbelow (Below.refl _ _).drew) hg6
    have HX6 : Hid (w6.heap[X]? = some (.cells #[.int .i64 o.k.k, .string o.k.t, .int .i64 o.k.n, .int .i64 o.v] 100 (0, 0))) := Lib.hid ((hg6'.block X (heap_lt HX.out) (by have := HXn.out; simp; omega)).trans HX.out)
    have HG6 : Hid (W2.grownBy w6 (some s)) := Lib.hid (gtrans HG5.out hg6')
    have HS6d : Hid (SetP w6.drew s (del cmpP x xs)) := Lib.hid (IsSet.mono hs6 (Below.refl _ _).drew)
    clear hg6 hg6' hs6 HS5 HS5d HG5 HX c0 d0 d1 d2 d3
    obtain ⟨c0, d0, d1, d2, d3⟩ := hK.out w6 HG6.out
    have hX6 := cells_of HX6.out
    have k0 : w6.cell? ⟨X, 0, none⟩ = some (.int .i64 o.k.k) := by rw [hX6]; rfl
    have k1 : w6.cell? ⟨X, 1, none⟩ = some (.string o.k.t) := by rw [hX6]; rfl
    have k2 : w6.cell? ⟨X, 2, none⟩ = some (.int .i64 o.k.n) := by rw [hX6]; rfl
    clear hX6
    go_wp2_with fail
    refine region_tail 8 (by kernel_rfl) (by kernel_rfl) (fun KK hKK => ?_)
    simp only [List.take_succ_cons, List.take_zero]
    repeat (with_reducible refine wpStill_step (fun K hK => ?_); go_simp; (with_reducible refine hK _ ?_); clear hK K)
    refine wpStill_nil (hKK _ _ ?_)
    clear hKK KK
    simp only [List.drop_succ_cons, List.drop_zero]
    go_wp2_with (go_at_call 60; (with_reducible refine (Hput2.out _ HS6d.out).mono ?_); rintro e w7 ⟨⟨q7, rfl⟩, hg7, hs7⟩)
    go_ret
    exact Hfin.out _ _ rfl (gtrans HG6.out (gtrans (gbelow (Below.refl _ _).drew) hg7)) hs7
end Go.Proofs.Ythgidldcblchmaa
