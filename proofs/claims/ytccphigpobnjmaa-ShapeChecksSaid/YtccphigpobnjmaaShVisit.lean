/-
  Package shape: visit and walk, the conditions with their inner ones as an iterator, whose loop's body may write what is told. No condition but bounds on how many they are.
-/
import Derived.Test.YtccphigpobnjmaaShOwns
import Derived.Test.YtccphigpobnjmaaKitFree
namespace Go.Proofs.Ytccphigpobnjmaa
set_option linter.unusedVariables false
open Go.RowKit Go.Shelf
attribute [local go_sem] Oper.semAt_some
/-- An element: its count, its depth, the condition. -/
abbrev Xc := Nat × Nat × Co
def encX (x : Xc) : Array Value := #[.agg #[.int .i64 (x.1 : Int), .int .i64 (x.2.1 : Int)], .agg #[.int .i64 x.2.2.h.kind, .bool x.2.2.h.goal, .string x.2.2.h.id, .slice x.2.2.h.aa x.2.2.h.attr.length x.2.2.h.ac, .slice x.2.2.h.va x.2.2.h.value.length x.2.2.h.vc, .bool x.2.2.h.acc, .slice x.2.2.h.ca x.2.2.l.length x.2.2.h.cc]]
theorem flat_step (l : List Co) {k : Nat} (hk : k < l.length) (n d : Nat) : flatL (l.drop k) n d = (n, d, l[k]) :: (flatL l[k].l (n + 1) (d + 1) ++ flatL (l.drop (k + 1)) (n + 1 + sizeL l[k].l) d) := by
  rw [List.drop_eq_getElem_cons hk]
  cases hc : l[k] with
  | mk h m => simp only [flatL, Co.l]
theorem set_two {w : World} {b : Nat} {v r u : Value} {t : TypeId} {f : Nat × Nat} (h : w.heap[b]? = some (.cells #[v, r] t f)) : (w.setCell ⟨b, 0, none⟩ u).heap[b]? = some (.cells #[u, r] t f) := by
  simp [World.setCell, Array.getElem?_modify, h]
structure VisitJ (O : World → Nat → Prop) (G : World → Prop) (B0 base : Nat) (w0 : World) (J : List Xc → World → Prop) : Prop where
  grow : ∀ pre X Y, J pre X → Below X.heap.size X Y → J pre Y
  set : ∀ pre X a v, J pre X → base ≤ a.block → ¬ O X a.block → J pre (X.setCell a v)
  good : ∀ pre X, J pre X → G X
  low : ∀ pre X, J pre X → Below B0 w0 X
  base : ∀ pre X, J pre X → base ≤ X.heap.size
def Visits (O : World → Nat → Prop) (G : World → Prop) (B0 : Nat) (w0 : World) (l : Nat) (J : List Xc → World → Prop) (JX : World → Prop) (xs : List Xc) (cs : List Co) : Prop :=
  ∀ (m n d : Nat) (pre rest : List Xc) (a : Option Addr) (cap : Nat) (W : World), xs = pre ++ flatL cs n d ++ rest → n + sizeL cs ≤ 1000000 → d + sizeL cs ≤ 1000000 → CondsAt w0 a cs → J pre W →
    CallsIn Fence.wide m Try.prog 65 #[.slice a cs.length cap, .agg #[.int .i64 n, .int .i64 d], .func (.yield l) #[] #[]] W fun e W' =>
      (e = .returned (.tuple #[.int .i64 ((n + sizeL cs : Nat) : Int), .bool true]) ∧ J (pre ++ flatL cs n d) W' ∧ KV O G B0 W W') ∨ ((∃ v : Int, e = .returned (.tuple #[.int .i64 v, .bool false])) ∧ JX W')
set_option maxRecDepth 100000 in
set_option maxHeartbeats 8000000 in
theorem visit_step {O : World → Nat → Prop} {G : World → Prop} {B0 base : Nat} (hO : Owns O G B0) {w0 : World} (hB0 : B0 = w0.heap.size) (hbase : B0 ≤ base) (l : Nat) {J : List Xc → World → Prop} {JX : World → Prop} (hJ : VisitJ O G B0 base w0 J) (xs : List Xc)
    (hY : ∀ m pre x r W1, xs = pre ++ x :: r → J pre W1 → YieldAt Fence.wide m Try.prog l (encX x) W1 fun e W' => KV O G B0 W1 W' ∧ ((e = .returned (.bool true) ∧ J (pre ++ [x]) W') ∨ (e = .returned (.bool false) ∧ JX W')))
    (cs : List Co) (ih : ∀ m, sizeL m < sizeL cs → Visits O G B0 w0 l J JX xs m) : Visits O G B0 w0 l J JX xs cs := by
  intro m n d pre rest a cap W hxs hn hd h h0
  have Hel := Lib.hid h.elts
  have Hin := Lib.hid (fun k (hk : k < cs.length) => ih cs[k].l (size_inner cs hk))
  have Hic := Lib.hid (fun k (hk : k < cs.length) => h.inner hk)
  have hln := len_size cs
  have hlen : cs.length ≤ 1000000 := by omega
  have HY := Lib.hid hY
  have HJ := Lib.hid hJ
  have HO := Lib.hid hO
  have HXS := Lib.hid hxs
  have HN := Lib.hid hn
  have HD := Lib.hid hd
  have H0 := Lib.hid h0
  have HB0 := Lib.hid hB0
  have hbz := hJ.base _ _ h0
  have hdd : d ≤ 1000000 := by omega
  clear h ih hY hJ hO hxs hn hd h0 hln hB0
  refine callsIn_of_wp Try.func65 rfl trivial ?_ rfl
  simp only [Try.ntmps65, List.size_toArray, List.length_cons, List.length_nil, Nat.reduceAdd, Nat.reduceSub, Array.replicate_succ, Array.replicate_zero, List.push_toArray, List.append_toArray, List.nil_append, List.cons_append]
  obtain ⟨W1, hW1⟩ : ∃ W1, W1 = W.alloc (.cells #[.int .i64 n, .int .i64 d] 77) := ⟨_, rfl⟩
  have hB1 : Below W.heap.size W W1 := by rw [hW1]; go_grown
  have hat1 : W1.heap[W.heap.size]? = some (.cells #[.int .i64 n, .int .i64 d] 77 (0, 0)) := by rw [hW1]; exact new_at rfl
  have HB1 := Lib.hid hB1
  have HAT1 := Lib.hid hat1
  have HW1 := Lib.hid hW1
  clear hB1 hat1 hW1
  gi_wp2_with fail
  rw [← HW1.out]
  gi_loopw [10, 11, 14] (fun _ _ i wr => ∃ (k : Nat) (q : List Xc), k ≤ cs.length ∧ i = .int .i64 k ∧ wr.heap[W.heap.size]? = some (.cells #[.int .i64 ((n + sizeL (cs.take k) : Nat) : Int), .int .i64 d] 77 (0, 0)) ∧
    Hid (J q wr ∧ xs = q ++ flatL (cs.drop k) (n + sizeL (cs.take k)) d ++ rest ∧ pre ++ flatL cs n d = q ++ flatL (cs.drop k) (n + sizeL (cs.take k)) d ∧ KV O G B0 W wr ∧ ¬ O wr W.heap.size ∧ W.heap.size < wr.heap.size)) (fun _ _ i _ => cs.length - (intOf i).toNat)
  case atStart =>
    exact ⟨0, pre, Nat.zero_le _, rfl, by simpa [sizeL] using HAT1.out, HJ.out.grow _ _ _ H0.out HB1.out, by simpa [sizeL] using HXS.out, by simp [sizeL], KV.ofBelow HO.out (HJ.out.good _ _ H0.out) HB1.out, HO.out.fresh (HJ.out.good _ _ H0.out) HB1.out (Nat.le_refl _), heap_lt HAT1.out⟩
  case round =>
    obtain ⟨k, q, hk, rfl, hat, hI⟩ := hrel
    by_cases hlt : k < cs.length
    · obtain ⟨b, off, rfl, hcell⟩ := Hel.out.at hlt
      have hin := Hin.out k hlt
      have hic := Hic.out k hlt
      have hs := size_take_succ cs hlt
      have hs2 := size_take_le cs (k + 1)
      have hz := HN.out
      have hzd := HD.out
      have hst := flat_step cs hlt (n + sizeL (cs.take k)) d
      have hsz := size_inner cs hlt
      obtain ⟨x, hx⟩ : ∃ x, x = cs[k] := ⟨_, rfl⟩
      rw [← hx] at hcell hin hic hs hst hsz
      have hc := hcell wr (HB0.out ▸ HJ.out.low _ _ hI.out.1)
      have c0 := hc 0 _ rfl
      have c1 := hc 1 _ rfl
      have c2 := hc 2 _ rfl
      have c3 := hc 3 _ rfl
      have c4 := hc 4 _ rfl
      have c5 := hc 5 _ rfl
      have c6 := hc 6 _ rfl
      simp only [Nat.add_zero] at c0
      obtain ⟨p, hp⟩ : ∃ p, p = n + sizeL (cs.take k) := ⟨_, rfl⟩
      have hs' : n + sizeL (cs.take (k + 1)) = p + 1 + sizeL x.l := by omega
      rw [← hp] at hst hat hI
      have hp1 : p + 1 + sizeL x.l ≤ 1000000 := by omega
      have hd1 : d + 1 + sizeL x.l ≤ 1000000 := by omega
      obtain ⟨W2, hW2⟩ : ∃ W2, W2 = wr.alloc (.cells #[.int .i64 x.h.kind, .bool x.h.goal, .string x.h.id, .slice x.h.aa x.h.attr.length x.h.ac, .slice x.h.va x.h.value.length x.h.vc, .bool x.h.acc, .slice x.h.ca x.l.length x.h.cc] 64) := ⟨_, rfl⟩
      have hB2 : Below wr.heap.size wr W2 := by rw [hW2]; go_grown
      have hcb : W2.heap[wr.heap.size]? = some (.cells #[.int .i64 x.h.kind, .bool x.h.goal, .string x.h.id, .slice x.h.aa x.h.attr.length x.h.ac, .slice x.h.va x.h.value.length x.h.vc, .bool x.h.acc, .slice x.h.ca x.l.length x.h.cc] 64 (0, 0)) := by rw [hW2]; exact new_at rfl
      have hG : G wr := HJ.out.good _ _ hI.out.1
      have hat2 : W2.heap[W.heap.size]? = some (.cells #[.int .i64 (p : Int), .int .i64 d] 77 (0, 0)) := (hB2.block _ (heap_lt hat)).trans hat
      have hn2 : ¬ O W2 W.heap.size := fun ho => hI.out.2.2.2.2.1 ((HO.out.down _ _ hG hB2).1 _ ho)
      have hn3 : ¬ O W2 wr.heap.size := HO.out.fresh hG hB2 (Nat.le_refl _)
      have hJ2 := HJ.out.grow _ _ _ hI.out.1 hB2
      have hG2 := HJ.out.good _ _ hJ2
      have hkv2 : KV O G B0 W W2 := hI.out.2.2.2.1.trans (KV.ofBelow HO.out hG hB2)
      have hxs2 : xs = q ++ (p, d, x) :: (flatL x.l (p + 1) (d + 1) ++ flatL (cs.drop (k + 1)) (p + 1 + sizeL x.l) d ++ rest) := by rw [hI.out.2.1, hst]; simp
      have hps2 : pre ++ flatL cs n d = (q ++ [(p, d, x)] ++ flatL x.l (p + 1) (d + 1)) ++ flatL (cs.drop (k + 1)) (p + 1 + sizeL x.l) d := by rw [hI.out.2.2.1, hst]; simp
      obtain ⟨fn, tmps, assign, body, hy, hR⟩ := HY.out (m - 1) q (p, d, x) _ W2 hxs2 hJ2
      dsimp only [encX] at hy
      have hR2 := hR.mono (R' := fun e W' => (e = .returned (.bool true) ∧ W'.cell? ⟨W.heap.size, 0, none⟩ = some (.int .i64 p) ∧ W'.cell? ⟨W.heap.size, 1, none⟩ = some (.int .i64 d) ∧ W'.cell? ⟨wr.heap.size, 6, none⟩ = some (.slice x.h.ca x.l.length x.h.cc) ∧
          Hid (J (q ++ [(p, d, x)]) W' ∧ KV O G B0 W W' ∧ ¬ O W' W.heap.size ∧ W'.heap[W.heap.size]? = some (.cells #[.int .i64 (p : Int), .int .i64 d] 77 (0, 0)) ∧ W.heap.size < W'.heap.size)) ∨
        (e = .returned (.bool false) ∧ W'.cell? ⟨W.heap.size, 0, none⟩ = some (.int .i64 p) ∧ Hid (JX W'))) (by
        rintro e W' ⟨hk2, h2⟩
        have e1 := hk2.block hG2 _ _ _ _ hat2 hn2
        have e2 := hk2.block hG2 _ _ _ _ hcb hn3
        have f0 : W'.cell? ⟨W.heap.size, 0, none⟩ = some (.int .i64 p) := by rw [cells_of e1]; rfl
        rcases h2 with ⟨he, hj⟩ | ⟨he, hj⟩
        · exact .inl ⟨he, f0, by rw [cells_of e1]; rfl, by rw [cells_of e2]; rfl, hj, hkv2.trans hk2, fun ho => hn2 (hk2.own hG2 _ (heap_lt hat2) ho), e1, heap_lt e1⟩
        · exact .inr ⟨he, f0, hj⟩)
      have a0 : W2.cell? ⟨W.heap.size, 0, none⟩ = some (.int .i64 p) := by rw [cells_of hat2]; rfl
      have a1 : W2.cell? ⟨W.heap.size, 1, none⟩ = some (.int .i64 d) := by rw [cells_of hat2]; rfl
      have b0 : W2.cell? ⟨wr.heap.size, 0, none⟩ = some (.int .i64 x.h.kind) := by rw [cells_of hcb]; rfl
      have b1 : W2.cell? ⟨wr.heap.size, 1, none⟩ = some (.bool x.h.goal) := by rw [cells_of hcb]; rfl
      have b2 : W2.cell? ⟨wr.heap.size, 2, none⟩ = some (.string x.h.id) := by rw [cells_of hcb]; rfl
      have b3 : W2.cell? ⟨wr.heap.size, 3, none⟩ = some (.slice x.h.aa x.h.attr.length x.h.ac) := by rw [cells_of hcb]; rfl
      have b4 : W2.cell? ⟨wr.heap.size, 4, none⟩ = some (.slice x.h.va x.h.value.length x.h.vc) := by rw [cells_of hcb]; rfl
      have b5 : W2.cell? ⟨wr.heap.size, 5, none⟩ = some (.bool x.h.acc) := by rw [cells_of hcb]; rfl
      have b6 : W2.cell? ⟨wr.heap.size, 6, none⟩ = some (.slice x.h.ca x.l.length x.h.cc) := by rw [cells_of hcb]; rfl
      have HS := Lib.hid hs'
      have HXS2 := Lib.hid hxs2
      have HPS2 := Lib.hid hps2
      have hv : ∀ (m' : Nat) (W5 : World), Hid (J (q ++ [(p, d, x)]) W5 ∧ KV O G B0 W W5 ∧ ¬ O W5 W.heap.size ∧ W5.heap[W.heap.size]? = some (.cells #[.int .i64 (p : Int), .int .i64 d] 77 (0, 0)) ∧ W.heap.size < W5.heap.size) →
          CallsIn Fence.wide m' Try.prog 65 #[.slice x.h.ca x.l.length x.h.cc, .agg #[.int .i64 ((p : Int) + 1), .int .i64 ((d : Int) + 1)], .func (.yield l) #[] #[]] W5 fun e W' =>
            (e = .returned (.tuple #[.int .i64 ((p + 1 + sizeL x.l : Nat) : Int), .bool true]) ∧ W'.cell? ⟨W.heap.size, 0, none⟩ = some (.int .i64 p) ∧ W'.frozen? ⟨W.heap.size, 0, none⟩ = false ∧
              Hid (J (q ++ [(p, d, x)] ++ flatL x.l (p + 1) (d + 1)) W' ∧ KV O G B0 W W' ∧ ¬ O W' W.heap.size ∧ W'.heap[W.heap.size]? = some (.cells #[.int .i64 (p : Int), .int .i64 d] 77 (0, 0)) ∧ W.heap.size < W'.heap.size)) ∨
            (∃ v : Int, e = .returned (.tuple #[.int .i64 v, .bool false]) ∧ Hid (JX W')) := by
        intro m' W5 h5
        have hG5 : G W5 := HJ.out.good _ _ h5.out.1
        refine (hin m' (p + 1) (d + 1) (q ++ [(p, d, x)]) (flatL (cs.drop (k + 1)) (p + 1 + sizeL x.l) d ++ rest) x.h.ca x.h.cc W5 (by rw [hxs2]; simp) hp1 hd1 hic h5.out.1).mono ?_
        rintro e W' (⟨he, hj, hk6⟩ | ⟨⟨v, he⟩, hj⟩)
        · have e1 := hk6.block hG5 _ _ _ _ h5.out.2.2.2.1 h5.out.2.2.1
          exact .inl ⟨he, by rw [cells_of e1]; rfl, frozen_of e1, hj, h5.out.2.1.trans hk6, fun ho => h5.out.2.2.1 (hk6.own hG5 _ h5.out.2.2.2.2 ho), e1, heap_lt e1⟩
        · exact .inr ⟨v, he, hj⟩
      have HV := Lib.hid hv
      have hp9 : p ≤ 1000000 := by omega
      have hm9 : p + 1 + sizeL x.l ≤ 1000000 := hp1
      clear hv hx hcell hin hic hs hs2 hz hzd hst hsz hc hp hs' hp1 hd1 hB2 hcb hG hat2 hn2 hn3 hJ2 hG2 hkv2 hxs2 hps2 hR hat
      subst hW2
      gi_wp2_with (first
        | ((try refine ⟨trivial, fun h => (by cases h), ?_⟩); refine (HV.out _ _ h5).mono ?_; rintro e W6 (⟨rfl, g0, gf, h6⟩ | ⟨v, rfl, h6⟩))
        | ((try refine ⟨fun h => (by cases h), ?_⟩); refine hR2.mono ?_; clear hR2; rintro e W5 (⟨rfl, d0, d1, d6, h5⟩ | ⟨rfl, d0, h5⟩)))
      · go_roundw
        case rel =>
          obtain ⟨j1, j2, j3, j4, j5⟩ := h6.out
          have hs2 := HO.out.set W6 ⟨W.heap.size, 0, none⟩ (.int .i64 ((p : Int) + 1 + (sizeL x.l : Int))) (HJ.out.good _ _ j1) j3
          exact ⟨k + 1, q ++ [(p, d, x)] ++ flatL x.l (p + 1) (d + 1), by omega, by go_num, by rw [HS.out, set_two j4]; go_num, HJ.out.set _ _ _ _ j1 hbz j3, by rw [HS.out, HXS2.out]; simp, by rw [HS.out]; exact HPS2.out, KV.set HO.out (HJ.out.good _ _ H0.out) j2 _ (Nat.le_refl _) j3, fun ho => j3 (hs2.1 _ ho), by simpa using j5⟩
        case measure => simp [intOf]; omega
      · go_ret2
        exact .inr ⟨⟨_, rfl⟩, h6.out⟩
      · go_ret2
        exact .inr ⟨⟨_, rfl⟩, h5.out⟩
    · obtain rfl : k = cs.length := by omega
      rw [List.take_length, List.drop_length] at hI
      rw [List.take_length] at hat
      have g0 : wr.cell? ⟨W.heap.size, 0, none⟩ = some (.int .i64 ((n + sizeL cs : Nat) : Int)) := by rw [cells_of hat]; rfl
      have hpq : pre ++ flatL cs n d = q := by rw [hI.out.2.2.1]; simp [flatL]
      have HF := Lib.hid (show J (pre ++ flatL cs n d) wr ∧ KV O G B0 W wr from ⟨by rw [hpq]; exact hI.out.1, hI.out.2.2.2.1⟩)
      clear hI hat hpq
      gi_wp2_with fail
      go_ret2
      exact .inl ⟨rfl, HF.out.1, HF.out.2⟩
theorem visit_in {O : World → Nat → Prop} {G : World → Prop} {B0 base : Nat} (hO : Owns O G B0) {w0 : World} (hB0 : B0 = w0.heap.size) (hbase : B0 ≤ base) (l : Nat) {J : List Xc → World → Prop} {JX : World → Prop} (hJ : VisitJ O G B0 base w0 J) (xs : List Xc)
    (hY : ∀ m pre x r W1, xs = pre ++ x :: r → J pre W1 → YieldAt Fence.wide m Try.prog l (encX x) W1 fun e W' => KV O G B0 W1 W' ∧ ((e = .returned (.bool true) ∧ J (pre ++ [x]) W') ∨ (e = .returned (.bool false) ∧ JX W')))
    (cs : List Co) : Visits O G B0 w0 l J JX xs cs := by
  have key : ∀ n, ∀ l' : List Co, sizeL l' ≤ n → Visits O G B0 w0 l J JX xs l' := by
    intro n
    induction n with
    | zero => exact fun l' h => visit_step hO hB0 hbase l hJ xs hY l' (fun m hm => by omega)
    | succ n ih => exact fun l' h => visit_step hO hB0 hbase l hJ xs hY l' (fun m hm => ih m (by omega))
  exact key _ cs (Nat.le_refl _)
end Go.Proofs.Ytccphigpobnjmaa
