/-
  ponderkeep.CopyProd: a production in new memory. No condition but bounds on sizes.
-/
import Derived.Test.YtccphigpobnjmaaShCheck
import Derived.Test.YtccphigpobnjmaaShMet
import Derived.Test.YtccphigpobnjmaaKitLoad
import Derived.Deep.RegionHeld3
namespace Go.Proofs.Ytccphigpobnjmaa
set_option linter.unusedVariables false
open Go.RowKit
/-- A test, a condition, without the places where their parts lie. -/
def Ts.bare (t : Ts) : Ts := ⟨t.rel, t.var, t.s, t.list, none, 0⟩
def Ch.bare (h : Ch) : Ch := ⟨h.kind, h.goal, h.id, h.attr.map Ts.bare, none, 0, h.value.map Ts.bare, none, 0, h.acc, none, 0⟩
def bareL : List Co → List Co
  | [] => []
  | .mk h m :: l => .mk h.bare (bareL m) :: bareL l
theorem bare_len : ∀ l : List Co, (bareL l).length = l.length
  | [] => by simp [bareL]
  | .mk h m :: l => by simp only [bareL, List.length_cons, bare_len l]
theorem bare_size : ∀ l : List Co, sizeL (bareL l) = sizeL l
  | [] => by simp [bareL]
  | .mk h m :: l => by simp only [bareL, sizeL, bare_size m, bare_size l]
theorem bare_wt : ∀ l : List Co, wtL (bareL l) = wtL l
  | [] => by simp [bareL]
  | .mk h m :: l => by simp only [bareL, wtL, bare_wt m, bare_wt l, Ch.bare, List.length_map]
theorem bare_testB (l : List Ts) : (l.map Ts.bare).all testB = l.all testB := by rw [List.all_map]; rfl
theorem bare_cond (h : Ch) (n : Nat) (d : Int) : condE h.bare n d = condE h n d := by
  unfold condE singleE groupE
  simp only [Ch.bare, List.length_map, bare_testB]
theorem bare_first : ∀ (l : List Co) (n : Nat) (d : Int), firstE (bareL l) n d = firstE l n d
  | [], _, _ => by simp [bareL]
  | .mk h m :: l, n, d => by simp only [bareL, firstE, bare_cond, bare_len, bare_first m, bare_first l, bare_size]
theorem bare_tests : ∀ (l : List Ts) (st : Stt), testsS (l.map Ts.bare) st = testsS l st
  | [], _ => rfl
  | t :: l, st => by
    have h : oneS t.bare st = oneS t st := rfl
    have h2 : t.bare.var = t.var := rfl
    rw [List.map_cons]
    unfold testsS
    rw [h, h2, bare_tests l]
theorem bare_condS (h : Ch) (st : Stt) : condS h.bare st = condS h st := by
  have h1 : idS h.bare st = idS h st := rfl
  have h2 : h.bare.id = h.id := rfl
  have h3 : h.bare.attr = h.attr.map Ts.bare := rfl
  have h4 : h.bare.value = h.value.map Ts.bare := rfl
  unfold condS
  rw [h1, h2, h3, h4, bare_tests, bare_tests]
theorem bare_bad : ∀ (l : List Co) (n : Nat) (st : Stt), badS (bareL l) n st = badS l n st
  | [], _, _ => by simp [bareL]
  | .mk h m :: l, n, st => by
    have hk : h.bare.kind = h.kind := rfl
    simp only [bareL, bad_cons, bare_bad m, bare_bad l, bare_condS, bare_size, hk]
def Pr.bare (p : Pr) : Pr := ⟨p.name, bareL p.conds, none, 0, p.acts, none, 0⟩
theorem bare_shape (p : Pr) : shapeE p.bare = shapeE p := by
  have h1 : p.bare.conds.length = p.conds.length := bare_len _
  have h2 : sizeL p.bare.conds = sizeL p.conds := bare_size _
  have h3 : firstE p.bare.conds 0 0 = firstE p.conds 0 0 := bare_first _ _ _
  have h4 : p.bare.acts = p.acts := rfl
  have h5 : p.bare.name = p.name := rfl
  have hw : wholeE p.bare = wholeE p := by unfold wholeE; rw [h1, h2, h4, h5]
  unfold shapeE
  rw [hw, h2, h3, h4]
theorem bare_kind (p : Pr) : kindP p.bare = kindP p := by
  unfold kindP
  cases hc : p.conds with
  | nil => simp [Pr.bare, hc, bareL]
  | cons c l => obtain ⟨h, m⟩ := c; simp [Pr.bare, hc, bareL, Co.h, Ch.bare]
theorem bare_check (p : Pr) : checkE p.bare = checkE p := by
  unfold checkE
  have h1 : stP p.bare = stP p := by unfold stP; exact bare_bad _ _ _
  have h2 : p.bare.acts = p.acts := rfl
  have h3 : sizeL p.bare.conds = sizeL p.conds := bare_size _
  rw [bare_shape, bare_kind, h1, h2, h3]
theorem check_same {p q : Pr} (h : p.bare = q.bare) : checkE p = checkE q := by rw [← bare_check p, h, bare_check]
/-- What lies at a is in a block of the kind N. -/
def InB {α : Type} (N : Nat → Prop) (a : Option Addr) (l : List α) : Prop := l ≠ [] → ∃ b off, a = some ⟨b, off, none⟩ ∧ N b
def TestsN (w : World) (N : Nat → Prop) (a : Option Addr) (l : List Ts) : Prop := EltsK encT 6 w a l ∧ InB N a l ∧ ∀ x ∈ l, EltsK encS 3 w x.a x.list ∧ x.list.length ≤ 1000000000 ∧ InB N x.a x.list
inductive CondsN (w : World) (N : Nat → Prop) : Option Addr → List Co → Prop
  | mk (a : Option Addr) (l : List Co) (he : EltsK encC 7 w a l) (hn : InB N a l) (ha : ∀ c ∈ l, TestsN w N c.h.aa c.h.attr) (hv : ∀ c ∈ l, TestsN w N c.h.va c.h.value) (hi : ∀ c ∈ l, CondsN w N c.h.ca c.l) : CondsN w N a l
theorem InB.imp {α : Type} {N M : Nat → Prop} {a : Option Addr} {l : List α} (h : InB N a l) (hi : ∀ b, N b → M b) : InB M a l := fun hl => let ⟨b, o, h1, h2⟩ := h hl; ⟨b, o, h1, hi b h2⟩
/-- Where a world has changed in no block of the kind N. -/
structure Calm (N : Nat → Prop) (w w' : World) : Prop where
  size : w.heap.size ≤ w'.heap.size
  keep : ∀ b, N b → b < w.heap.size → w'.heap[b]? = w.heap[b]?
theorem Calm.elts {α : Type} {E : α → List Value} {K : Nat} {N : Nat → Prop} {w w' : World} {a : Option Addr} {l : List α} (hc : Calm N w w') (h : EltsK E K w a l) (hn : InB N a l) : EltsK E K w' a l := fun k hk => by
  obtain ⟨b, off, h1, h2, h3⟩ := h k hk
  obtain ⟨b', o', h1', hN⟩ := hn (by rintro rfl; simp at hk)
  rw [h1] at h1'; cases h1'
  refine ⟨b, off, h1, Nat.lt_of_lt_of_le h2 hc.size, fun j c hj => ?_⟩
  rw [World.cell?_of_block (hc.keep b hN h2)]
  exact h3 j c hj
theorem TestsN.calm {N : Nat → Prop} {w w' : World} {a : Option Addr} {l : List Ts} (h : TestsN w N a l) (hc : Calm N w w') : TestsN w' N a l :=
  ⟨hc.elts h.1 h.2.1, h.2.1, fun x hx => ⟨hc.elts (h.2.2 x hx).1 (h.2.2 x hx).2.2, (h.2.2 x hx).2.1, (h.2.2 x hx).2.2⟩⟩
theorem CondsN.calm {N : Nat → Prop} {w w' : World} (hc : Calm N w w') {a : Option Addr} {l : List Co} (h : CondsN w N a l) : CondsN w' N a l := by
  induction h with
  | mk a l he hn ha hv hi ih => exact .mk a l (hc.elts he hn) hn (fun c h => (ha c h).calm hc) (fun c h => (hv c h).calm hc) ih
/-- The kind may be told otherwise, of blocks that there are. -/
theorem EltsK.lt {α : Type} {E : α → List Value} {K : Nat} {w : World} {l : List α} {b off : Nat} (h : EltsK E K w (some ⟨b, off, none⟩) l) (hl : l ≠ []) : b < w.heap.size := by
  obtain ⟨b', o', h1, h2, -⟩ := h 0 (List.length_pos_iff.2 hl)
  cases h1; exact h2
theorem InB.imp_lt {α : Type} {E : α → List Value} {K : Nat} {w : World} {N M : Nat → Prop} {a : Option Addr} {l : List α} (h : InB N a l) (he : EltsK E K w a l) (hi : ∀ b, b < w.heap.size → N b → M b) : InB M a l := fun hl => by
  obtain ⟨b, o, h1, h2⟩ := h hl
  subst h1
  exact ⟨b, o, rfl, hi b (he.lt hl) h2⟩
theorem TestsN.imp {N M : Nat → Prop} {w : World} {a : Option Addr} {l : List Ts} (h : TestsN w N a l) (hi : ∀ b, b < w.heap.size → N b → M b) : TestsN w M a l :=
  ⟨h.1, h.2.1.imp_lt h.1 hi, fun x hx => ⟨(h.2.2 x hx).1, (h.2.2 x hx).2.1, (h.2.2 x hx).2.2.imp_lt (h.2.2 x hx).1 hi⟩⟩
theorem CondsN.imp {N M : Nat → Prop} {w : World} {a : Option Addr} {l : List Co} (h : CondsN w N a l) : (∀ b, b < w.heap.size → N b → M b) → CondsN w M a l := by
  induction h with
  | mk a l he hn ha hv hi ih => exact fun hp => .mk a l he (hn.imp_lt he hp) (fun c h => (ha c h).imp hp) (fun c h => (hv c h).imp hp) (fun c h => ih c h hp)
theorem TestsN.plain {N : Nat → Prop} {w : World} {a : Option Addr} {l : List Ts} (h : TestsN w N a l) : TestsAt w a l := ⟨h.1, fun x hx => ⟨(h.2.2 x hx).1, (h.2.2 x hx).2.1⟩⟩
theorem CondsN.plain {N : Nat → Prop} {w : World} {a : Option Addr} {l : List Co} (h : CondsN w N a l) : CondsAt w a l := by
  induction h with
  | mk a l he hn ha hv hi ih => exact .mk a l he (fun c h => (ha c h).plain) (fun c h => (hv c h).plain) ih
open Go.RowKit
theorem infoSYM : (Try.prog.info? 47).map (fun i => (i.zero, i.size, i.bytes)) = some (some (.agg #[.int .i64 0, .string ⟨#[]⟩, .int .i64 0]), 3, 32) := by kernel_rfl
theorem infoACT : (Try.prog.info? 59).map (fun i => (i.zero, i.size, i.bytes)) = some (some (.agg #[.string ⟨#[]⟩, .string ⟨#[]⟩, .int .i64 0, .string ⟨#[]⟩, .int .i64 0, .int .i64 0, .string ⟨#[]⟩, .int .i64 0, .string ⟨#[]⟩, .int .i64 0, .string ⟨#[]⟩, .int .i64 0, .string ⟨#[]⟩, .int .i64 0, .int .i64 0, .string ⟨#[]⟩, .int .i64 0, .string ⟨#[]⟩, .int .i64 0]), 19, 224) := by kernel_rfl
theorem own_inB {α : Type} {w : World} {base e K n c : Nat} {a : Option Addr} {l : List α} {xs : List Value} (h : w.ownsRow base e K (.slice a n c) l.length xs) : InB (fun b => base ≤ b) a l := fun hl => by
  obtain ⟨-, ⟨h1, h2⟩ | ⟨g, cap, cur, h1, hb, -⟩⟩ := h
  · exact absurd (List.eq_nil_of_length_eq_zero h2) hl
  · cases h1; exact ⟨g, 0, rfl, hb⟩
theorem encS_len (s : Sy) : (encS s).length = 3 := rfl
theorem encA_len (s : Ac) : (encA s).length = 19 := rfl
theorem encS_one (s : Sy) : ∀ u ∈ encS s, u.oneCell' = true := by simp [encS, Value.oneCell']
theorem encA_one (s : Ac) : ∀ u ∈ encA s, u.oneCell' = true := by simp [encA, Value.oneCell']
theorem below_nil {w w' : World} (hg : w.grownBy w' (Value.slice none 0 0).ownBlock) : Below w.heap.size w w' := ⟨hg.os, hg.tape, hg.output, hg.size, fun k hk => hg.block k hk (by simp [Value.ownBlock])⟩
set_option maxHeartbeats 1000000 in
theorem copy_syms (l : List Sy) (a : Option Addr) (c : Nat) (w : World) (he : EltsK encS 3 w a l) (hl : l.length ≤ 1000000000) : Calls Try.prog 106 #[.slice a l.length c] w fun e w' => ∃ a' c', e = .returned (.slice a' l.length c') ∧ EltsK encS 3 w' a' l ∧ InB (fun b => w.heap.size ≤ b) a' l ∧ Below w.heap.size w w' := by
  obtain ⟨i0, hi, hz0, hz1, hz2⟩ := info_parts infoSYM
  have HE := Lib.hid he
  clear he
  go_enter Try.func106, Try.ntmps106
  go_wp2_with (at_builtin; refine wpList_append_elts (E := encS) (fun _ => rfl) encS_one rfl (.const (.slice none 0 0)) (.tmp 3) 44 rfl w.heap.size 47 i0 (.agg #[.int .i64 0, .string ⟨#[]⟩, .int .i64 0]) 32 Try.underlying44 hi hz0 hz1 hz2 rfl (by decide) (.slice none 0 0) 0 [] rfl (World.ownsRow_nil _ _ _ _) a c l rfl HE.out (by unfold maxLen; omega) (by omega) (Nat.le_refl _) ?_; intro v1 w1 hown hg hor; rw [Nat.zero_add, List.nil_append] at hown; obtain ⟨a1, c1, rfl⟩ := own_slice' hown; have HO := Lib.hid hown; have HG := Lib.hid (below_nil hg); clear hown hg hor)
  go_ret
  exact ⟨a1, c1, rfl, elts_of_own encS_len HO.out, own_inB HO.out, HG.out⟩
set_option maxHeartbeats 1000000 in
theorem copy_acts (l : List Ac) (a : Option Addr) (c : Nat) (w : World) (he : EltsK encA 19 w a l) (hl : l.length ≤ 1000000) : Calls Try.prog 47 #[.slice a l.length c] w fun e w' => ∃ a' c', e = .returned (.slice a' l.length c') ∧ EltsK encA 19 w' a' l ∧ InB (fun b => w.heap.size ≤ b) a' l ∧ Below w.heap.size w w' := by
  obtain ⟨i0, hi, hz0, hz1, hz2⟩ := info_parts infoACT
  have HE := Lib.hid he
  clear he
  go_enter Try.func47, Try.ntmps47
  go_wp2_with (at_builtin; refine wpList_append_elts (E := encA) (fun _ => rfl) encA_one rfl (.const (.slice none 0 0)) (.tmp 3) 23 rfl w.heap.size 59 i0 (.agg #[.string ⟨#[]⟩, .string ⟨#[]⟩, .int .i64 0, .string ⟨#[]⟩, .int .i64 0, .int .i64 0, .string ⟨#[]⟩, .int .i64 0, .string ⟨#[]⟩, .int .i64 0, .string ⟨#[]⟩, .int .i64 0, .string ⟨#[]⟩, .int .i64 0, .int .i64 0, .string ⟨#[]⟩, .int .i64 0, .string ⟨#[]⟩, .int .i64 0]) 224 Try.underlying23 hi hz0 hz1 hz2 rfl (by decide) (.slice none 0 0) 0 [] rfl (World.ownsRow_nil _ _ _ _) a c l rfl HE.out (by unfold maxLen; omega) (by omega) (Nat.le_refl _) ?_; intro v1 w1 hown hg hor; rw [Nat.zero_add, List.nil_append] at hown; obtain ⟨a1, c1, rfl⟩ := own_slice' hown; have HO := Lib.hid hown; have HG := Lib.hid (below_nil hg); clear hown hg hor)
  go_ret
  exact ⟨a1, c1, rfl, elts_of_own encA_len HO.out, own_inB HO.out, HG.out⟩
/-- Blocks made since, but the row's own. -/
def NR (base : Nat) (v : Value) : Nat → Prop := fun b => base ≤ b ∧ v.ownBlock ≠ some b
theorem row_off {v v' : Value} {s b : Nat} (hor : v'.ownBlock = v.ownBlock ∨ v'.ownBlock = some s) (hb : b < s) (hn : v.ownBlock ≠ some b) : v'.ownBlock ≠ some b := by
  rcases hor with h | h
  · rw [h]; exact hn
  · rw [h]; intro e; cases e; omega
theorem calm_append {base : Nat} {w w1 w2 : World} {v : Value} (hb : Below w.heap.size w w1) (hg : w1.grownBy w2 v.ownBlock) : Calm (NR base v) w w2 :=
  ⟨Nat.le_trans hb.size hg.size, fun b hN hlt => (hg.block b (Nat.lt_of_lt_of_le hlt hb.size) (fun e => hN.2 e.symm)).trans (hb.block b hlt)⟩
theorem elts_single' {α : Type} {E : α → List Value} {K : Nat} {w : World} {x : α} {T : TypeId} : EltsK E K (w.alloc (.cells (E x).toArray T)) (some ⟨w.heap.size, 0, none⟩) [x] := fun k hk => by
  obtain rfl : k = 0 := by simpa using hk
  refine ⟨w.heap.size, 0, rfl, by simp, fun j c hc => ?_⟩
  rw [cells_of (new_at rfl)]
  simpa using hc
theorem own_belowC {w w' : World} {base n t sz : Nat} {v : Value} {xs : List Value} (h : w.ownsRow base t sz v n xs) (hb : Below w.heap.size w w') : w'.ownsRow base t sz v n xs :=
  h.kept (row := none) ⟨hb.os, hb.tape, hb.output, hb.size, fun k hk _ => hb.block k hk⟩ (by cases h' : v.ownBlock <;> simp)
theorem own_other {w : World} {base n t sz P i : Nat} {v u : Value} {xs : List Value} (h : w.ownsRow base t sz v n xs) (hne : ∀ k, v.ownBlock = some k → k ≠ P) : (w.setCell ⟨P, i, none⟩ u).ownsRow base t sz v n xs :=
  h.kept (gset w P i u) (by
    cases hv : v.ownBlock with
    | none => exact .inl rfl
    | some g => exact .inr (fun e => hne g hv (by cases e; rfl)))
theorem own_moreT {w : World} {base e : Nat} {v : Value} {k : List Ts} {s : Ts} (h : w.ownsRow base e 6 v (k.length + [s].length) (k.flatMap encT ++ [s].flatMap encT)) : w.ownsRow base e 6 v (k ++ [s]).length ((k ++ [s]).flatMap encT) := by
  rw [List.length_append, List.flatMap_append]; exact h
theorem cells_fn {w : World} {b : Nat} {c : Array Value} {t : TypeId} {f : Nat × Nat} (h : w.heap[b]? = some (.cells c t f)) : ∀ (j : Nat) (v : Value), c.toList[j]? = some v → w.cell? ((⟨b, 0, none⟩ : Addr).add j) = some v := fun j v hv => by
  rw [Addr.add_lit, Nat.zero_add, cells_of h]; simpa using hv
theorem set_at {w : World} {b i : Nat} {c : Array Value} {t : TypeId} {f : Nat × Nat} {u : Value} (h : w.heap[b]? = some (.cells c t f)) {c2 : Array Value} (hc : c.set! i u = c2) : (w.setCell ⟨b, i, none⟩ u).heap[b]? = some (.cells c2 t f) := by
  subst hc
  simp [World.setCell, Array.getElem?_modify, h]
theorem calm_new {wr w2 w4 : World} {i : Nat} {u : Value} {o : Obj} {v : Value} {base e size n : Nat} {xs : List Value} (hO : wr.ownsRow base e size v n xs) (hg : ((w2.setCell ⟨wr.heap.size, i, none⟩ u).alloc o).grownBy w4 v.ownBlock) : Calm (fun b => wr.heap.size + 1 ≤ b) w2 w4 :=
  ⟨Nat.le_trans (by simp) hg.size, fun b hb hlt => (hg.block b (by simp; omega) (fun e => by have := (hO.lt b e.symm).2; omega)).trans ((Below.heap_alloc _ _ _ (by simpa using hlt)).trans (Below.heap_setCell _ _ _ _ (by show b ≠ wr.heap.size; omega)))⟩
theorem size_set {w : World} {a : Addr} {u : Value} : (w.setCell a u).heap.size = w.heap.size := by simp
theorem elts_after {α : Type} {E : α → List Value} {K : Nat} {w : World} {x : α} {T : TypeId} {a : Addr} {u : Value} : EltsK E K ((w.setCell a u).alloc (.cells (E x).toArray T)) (some ⟨w.heap.size, 0, none⟩) [x] := by
  have h := elts_single' (E := E) (K := K) (w := w.setCell a u) (x := x) (T := T)
  rwa [size_set] at h
set_option maxRecDepth 100000 in
set_option maxHeartbeats 4000000 in
theorem copy_tests (l : List Ts) (a : Option Addr) (c : Nat) (w : World) (h : TestsAt w a l) (hl : l.length ≤ 100000) : Calls Try.prog 95 #[.slice a l.length c] w fun e w' => ∃ a' c' l', e = .returned (.slice a' l'.length c') ∧ l'.map Ts.bare = l.map Ts.bare ∧ TestsN w' (fun b => w.heap.size ≤ b) a' l' ∧ Below w.heap.size w w' := by
  obtain ⟨i0, hi, hz0, hz1, hz2⟩ := info_parts infoTEST
  have Hel := Lib.hid h.1
  have Hli := Lib.hid (fun x (hx : x ∈ l) => (⟨(h.2 x hx).1, (h.2 x hx).2⟩ : EltsK encS 3 w x.a x.list ∧ x.list.length ≤ 1000000000))
  have hi67 : (Try.prog.info? 67).map (·.size) = some 6 := by kernel_rfl
  have H67 := Lib.hid hi67
  clear h hi67
  go_enter Try.func95, Try.ntmps95
  go_wp2_with fail
  go_loopw [3, 4, 5] (fun o i _ wr => ∃ (k : Nat) (l' : List Ts) (a' : Option Addr) (c' : Nat), k ≤ l.length ∧ i = .int .i64 k ∧ o = .slice a' l'.length c' ∧ Hid (l'.map Ts.bare = (l.take k).map Ts.bare) ∧ Hid (wr.ownsRow w.heap.size 67 6 (.slice a' l'.length c') l'.length (l'.flatMap encT)) ∧ Hid (∀ x ∈ l', EltsK encS 3 wr x.a x.list ∧ x.list.length ≤ 1000000000 ∧ InB (NR w.heap.size (.slice a' l'.length c')) x.a x.list) ∧ Hid (Below w.heap.size w wr)) (fun _ i _ _ => l.length - (intOf i).toNat)
  case atStart => exact ⟨0, [], none, 0, Nat.zero_le _, rfl, rfl, Lib.hid rfl, Lib.hid (World.ownsRow_nil _ _ _ _), Lib.hid (by simp), Lib.hid (Below.refl _ _)⟩
  case round =>
    obtain ⟨k, l', a', c', hk, rfl, rfl, HS, HO, HI, HB⟩ := hrel
    have HLL : Hid (l'.length = k) := Lib.hid (by have := congrArg List.length HS.out; simpa [Nat.min_eq_left hk] using this)
    have hll1 : l'.length ≤ 100000 := by have := HLL.out; omega
    by_cases hlt : k < l.length
    · obtain ⟨b, off, rfl, hcell⟩ := Hel.out.at hlt
      have hc := hcell _ HB.out
      have hws := HB.out.size
      obtain ⟨hli, hln⟩ := Hli.out l[k] (List.getElem_mem hlt)
      have htk : (l.take (k + 1)).map Ts.bare = (l.take k).map Ts.bare ++ [l[k].bare] := by rw [List.take_succ_eq_append_getElem hlt, List.map_append]; rfl
      obtain ⟨x, hx⟩ : ∃ x, x = l[k] := ⟨_, rfl⟩
      rw [← hx] at hc hli hln htk
      have c5 := hc 5 _ rfl
      have HCL := Lib.hid (fun (j : Nat) (v : Value) (hv : [.int .i64 x.rel, .string x.var, .int .i64 x.s.k, .string x.s.t, .int .i64 x.s.n, .slice x.a x.list.length x.cap][j]? = some v) => (by rw [Addr.add_lit]; exact hc j v hv : wr.cell? ((⟨b, off + k * 6, none⟩ : Addr).add j) = some v))
      obtain ⟨W1, hW1⟩ : ∃ W1, W1 = wr.alloc (.cells #[.int .i64 x.rel, .string x.var, .int .i64 x.s.k, .string x.s.t, .int .i64 x.s.n, .slice x.a x.list.length x.cap] 67) := ⟨_, rfl⟩
      have hg1 : W1.heap[wr.heap.size]? = some (.cells #[.int .i64 x.rel, .string x.var, .int .i64 x.s.k, .string x.s.t, .int .i64 x.s.n, .slice x.a x.list.length x.cap] 67 (0, 0)) := by rw [hW1]; exact new_at rfl
      have hb1 : Below wr.heap.size wr W1 := by rw [hW1]; go_grown
      have hsz1 : W1.heap.size = wr.heap.size + 1 := by rw [hW1]; simp
      have c51 : W1.cell? ⟨b, off + k * 6 + 5, none⟩ = some (.slice x.a x.list.length x.cap) := (hb1.cell (p := ⟨b, off + k * 6 + 5, none⟩) (World.block_lt_of_cell? wr _ c5)).trans c5
      have HCP := Lib.hid (copy_syms x.list x.a x.cap W1 (hli.mono (HB.out.trans (hb1.mono hws))) (by omega))
      have HG1 := Lib.hid hg1
      have HB1 := Lib.hid hb1
      have HSZ := Lib.hid hsz1
      have HTK := Lib.hid htk
      rw [hW1] at c51 HCP HG1 HB1 HSZ
      clear hx hc hcell hW1 hg1 hb1 hsz1 htk hli W1
      go_wp2_with (first | (refine wpList_load rfl (.tmp 14) 67 rfl (A := ⟨b, off + k * 6, none⟩) rfl Try.underlying67 rfl (cs := [.int .i64 x.rel, .string x.var, .int .i64 x.s.k, .string x.s.t, .int .i64 x.s.n, .slice x.a x.list.length x.cap]) H67.out HCL.out ?_) | (refine wpList_store_new rfl (.tmp 5) (.tmp 15) 67 rfl rfl (c' := #[.int .i64 x.rel, .string x.var, .int .i64 x.s.k, .string x.s.t, .int .i64 x.s.n, .slice x.a x.list.length x.cap]) rfl H67.out rfl (by simp [Value.oneCell']) ?_) | (go_at_call 106; refine (HCP.out).mono ?_; rintro e w2 ⟨a2, c2, rfl, he2, hn2, hb2⟩; have HE2 := Lib.hid he2; have HN2 := Lib.hid hn2; have hg2 := (hb2.block _ (heap_lt HG1.out)).trans HG1.out; have HO3 := Lib.hid (own_other (i := 5) (u := .slice a2 x.list.length c2) (own_belowC (HO.out.alloc _) hb2) (fun k hk => by have := (HO.out.lt k hk).2; exact Nat.ne_of_lt this)); have HB3 := Lib.hid ((HB1.out.trans (hb2.mono HB1.out.size)).setCell (p := ⟨wr.heap.size, 5, none⟩) (Nat.le_refl _) (.slice a2 x.list.length c2)); have HS3 := Lib.hid (set_at hg2 (i := 5) (u := .slice a2 x.list.length c2) (c2 := #[.int .i64 x.rel, .string x.var, .int .i64 x.s.k, .string x.s.t, .int .i64 x.s.n, .slice a2 x.list.length c2]) rfl); have u5 := cell_at' hg2 5 (v := .slice x.a x.list.length x.cap) rfl; have f5 := frozen_of hg2 (i := 5); clear he2 hn2 hb2 hg2) | (refine wpList_load rfl (.tmp 5) 67 rfl (A := ⟨wr.heap.size, 0, none⟩) rfl Try.underlying67 rfl (cs := [.int .i64 x.rel, .string x.var, .int .i64 x.s.k, .string x.s.t, .int .i64 x.s.n, .slice a2 x.list.length c2]) H67.out (cells_fn HS3.out) ?_) | (at_builtin; refine wpList_append_elts encT_len encT_one rfl (.tmp 23) (.tmp 25) 62 rfl w.heap.size 67 i0 (.agg #[.int .i64 0, .string ⟨#[]⟩, .int .i64 0, .string ⟨#[]⟩, .int .i64 0, .slice none 0 0]) 80 Try.underlying62 hi hz0 hz1 hz2 rfl (by decide) (.slice a' l'.length c') l'.length (l'.flatMap encT) rfl (HO3.out.alloc _) (some ⟨w2.heap.size, 0, none⟩) 1 [(⟨x.rel, x.var, x.s, x.list, a2, c2⟩ : Ts)] rfl (elts_after (E := encT) (x := (⟨x.rel, x.var, x.s, x.list, a2, c2⟩ : Ts)) (T := 67)) (by unfold maxLen; simp; omega) (by simp; omega) (Nat.le_trans hws (Nat.le_trans HB3.out.size (by simp))) ?_; intro v4 w4 hown hg hor; have HG4 := Lib.hid hg; have HR4 := Lib.hid hor; have HB24 := Lib.hid (HB3.out.alloc HB3.out.size (.cells #[.int .i64 x.rel, .string x.var, .int .i64 x.s.k, .string x.s.t, .int .i64 x.s.n, .slice a2 x.list.length c2] 67)); have HB4 := Lib.hid (below_app (HB.out.trans (HB24.out.mono hws)) (Nat.le_refl _) (Nat.le_refl _) (HO3.out.alloc _) hg); replace hown := own_moreT hown; obtain ⟨a4, c4, rfl⟩ := own_slice' hown; have HO4 := Lib.hid hown; clear hown hg hor))
      go_roundw
      case rel =>
        refine ⟨k + 1, l' ++ [(⟨x.rel, x.var, x.s, x.list, a2, c2⟩ : Ts)], a4, c4, by omega, by go_num, (by rw [List.length_append]; rfl), Lib.hid (by rw [List.map_append, HTK.out, HS.out]; rfl), HO4, Lib.hid ?_, HB4⟩
        intro y hy
        rcases List.mem_append.1 hy with hy | hy
        · obtain ⟨e1, e2, e3⟩ := HI.out y hy
          have hcalm : Calm (NR w.heap.size (.slice a' l'.length c')) wr w4 := calm_append HB24.out HG4.out
          exact ⟨hcalm.elts e1 e3, e2, e3.imp_lt e1 (fun b hb hN => ⟨hN.1, row_off HR4.out (Nat.lt_of_lt_of_le hb HB24.out.size) hN.2⟩)⟩
        · obtain rfl : y = (⟨x.rel, x.var, x.s, x.list, a2, c2⟩ : Ts) := by simpa using hy
          have hcalm := calm_new HO.out HG4.out
          have hn : InB (fun b => wr.heap.size + 1 ≤ b) a2 x.list := HN2.out.imp (fun b hb => by simpa using hb)
          refine ⟨hcalm.elts HE2.out hn, hln, hn.imp_lt HE2.out (fun b hb hN => ⟨by omega, row_off HR4.out (by simp; omega) (fun e => by have := (HO.out.lt b e).2; omega)⟩)⟩
      case measure => simp [intOf]; omega
    · obtain rfl : k = l.length := by omega
      have HQ := Lib.hid (show l'.map Ts.bare = l.map Ts.bare by have := HS.out; rwa [List.take_length] at this)
      go_wp2_with fail
      go_ret
      exact ⟨a', c', l', rfl, HQ.out, ⟨elts_of_own encT_len HO.out, own_inB HO.out, fun x hx => ⟨(HI.out x hx).1, (HI.out x hx).2.1, (HI.out x hx).2.2.imp (fun b hb => hb.1)⟩⟩, HB.out⟩
open Go.RowKit
theorem Calm.trans {N : Nat → Prop} {w w1 w2 : World} (h : Calm N w w1) (k : Calm N w1 w2) : Calm N w w2 := ⟨Nat.le_trans h.size k.size, fun b hN hb => (k.keep b hN (Nat.lt_of_lt_of_le hb h.size)).trans (h.keep b hN hb)⟩
theorem Calm.below {N : Nat → Prop} {w w' : World} (h : Below w.heap.size w w') : Calm N w w' := ⟨h.size, fun b _ hb => h.block b hb⟩
theorem Calm.set {B P i : Nat} {w : World} {u : Value} (h : P < B) : Calm (fun b => B ≤ b) w (w.setCell ⟨P, i, none⟩ u) := ⟨by simp, fun b hb _ => Below.heap_setCell _ _ _ _ (by show b ≠ P; omega)⟩
theorem Calm.row {B P : Nat} {w : World} {c : Array Value} (h : P < B) : Calm (fun b => B ≤ b) w (w.setRow P c) := ⟨by simp [World.setRow], fun b hb _ => setRow_other (by omega)⟩
theorem below_row' {B P : Nat} {w w' : World} {c : Array Value} (h : Below B w w') (hP : B ≤ P) : Below B w (w'.setRow P c) := ⟨h.os, h.tape, h.output, Nat.le_trans h.size (by simp [World.setRow]), fun k hk => (setRow_other (by omega)).trans (h.block k hk)⟩
theorem results_aggcell {fn : Func} {p : Tmp} {t : TypeId} (h : fn.results = #[.cell p t]) (tmps : Array Value) (w : World) (A : Addr) (cs : List Value) (fs : Array Field) (hp : tmps.getD p undef = .pointer (some A)) (hu : Try.prog.underlying t = some (.struct fs))
    (hi : (Try.prog.info? t).map (·.size) = some cs.length) (hc : ∀ j v, cs[j]? = some v → w.cell? (A.add j) = some v) : (results fn tmps).run Try.prog w = .ok (.agg cs.toArray) w := by
  have hp' : tmps[p]?.getD undef = .pointer (some A) := by simpa using hp
  have hl := run_loadVar_cells (P := Try.prog) w A t cs _ hu rfl hi hc
  simp [results, h, hp', asAddr, hl]
theorem bare_made {x : Co} {l3 l4 : List Ts} {l5 : List Co} {a3 a4 a5 : Option Addr} {c3 c4 c5 : Nat} (h3 : l3.map Ts.bare = x.h.attr.map Ts.bare) (h4 : l4.map Ts.bare = x.h.value.map Ts.bare) (h5 : bareL l5 = bareL x.l) : bareL [Co.mk ⟨x.h.kind, x.h.goal, x.h.id, l3, a3, c3, l4, a4, c4, x.h.acc, a5, c5⟩ l5] = bareL [x] := by
  obtain ⟨h, m⟩ := x
  simp only [Co.h, Co.l] at h3 h4 h5
  simp only [bareL, Ch.bare, Co.h, h3, h4, h5]
/-- A condition whose tests and inner conditions lie in blocks of some kind. -/
def CoN (w : World) (N : Nat → Prop) (c : Co) : Prop := TestsN w N c.h.aa c.h.attr ∧ TestsN w N c.h.va c.h.value ∧ CondsN w N c.h.ca c.l
theorem CoN.calm {N : Nat → Prop} {w w' : World} {c : Co} (h : CoN w N c) (hc : Calm N w w') : CoN w' N c := ⟨h.1.calm hc, h.2.1.calm hc, h.2.2.calm hc⟩
theorem CoN.imp {N M : Nat → Prop} {w : World} {c : Co} (h : CoN w N c) (hi : ∀ b, b < w.heap.size → N b → M b) : CoN w M c := ⟨h.1.imp hi, h.2.1.imp hi, h.2.2.imp hi⟩
def CopyC (l : List Co) : Prop := ∀ (a : Option Addr) (c : Nat) (w : World), sizeL l ≤ 1000 → wtL l ≤ 1000 → CondsAt w a l →
  Calls Try.prog 46 #[.slice a l.length c] w fun e w' => ∃ a' c' l', e = .returned (.slice a' l'.length c') ∧ bareL l' = bareL l ∧ CondsN w' (fun b => w.heap.size ≤ b) a' l' ∧ Below w.heap.size w w'
set_option maxRecDepth 100000 in
set_option maxHeartbeats 8000000 in
theorem copy_cond (x : Co) (w : World) (ih : CopyC x.l) (hz : sizeL x.l ≤ 1000) (hw : wtL x.l ≤ 1000) (h1 : x.h.attr.length ≤ 1000) (h2 : x.h.value.length ≤ 1000) (ha : TestsAt w x.h.aa x.h.attr) (hv : TestsAt w x.h.va x.h.value) (hc : CondsAt w x.h.ca x.l) :
    Calls Try.prog 74 #[.agg #[.int .i64 x.h.kind, .bool x.h.goal, .string x.h.id, .slice x.h.aa x.h.attr.length x.h.ac, .slice x.h.va x.h.value.length x.h.vc, .bool x.h.acc, .slice x.h.ca x.l.length x.h.cc]] w fun e w' => ∃ x' : Co, e = .returned (.agg #[.int .i64 x'.h.kind, .bool x'.h.goal, .string x'.h.id, .slice x'.h.aa x'.h.attr.length x'.h.ac, .slice x'.h.va x'.h.value.length x'.h.vc, .bool x'.h.acc, .slice x'.h.ca x'.l.length x'.h.cc]) ∧ bareL [x'] = bareL [x] ∧ CoN w' (fun b => w.heap.size ≤ b) x' ∧ Below w.heap.size w w' := by
  obtain ⟨W2, hW2⟩ : ∃ W2, W2 = (w.alloc (.cells #[.int .i64 x.h.kind, .bool x.h.goal, .string x.h.id, .slice x.h.aa x.h.attr.length x.h.ac, .slice x.h.va x.h.value.length x.h.vc, .bool x.h.acc, .slice x.h.ca x.l.length x.h.cc] 64)).alloc (.cells #[.int .i64 0, .bool false, .string ⟨#[]⟩, .slice none 0 0, .slice none 0 0, .bool false, .slice none 0 0] 64) := ⟨_, rfl⟩
  have hB : Below w.heap.size w W2 := by rw [hW2]; go_grown
  have hg : W2.heap[w.heap.size]? = some (.cells #[.int .i64 x.h.kind, .bool x.h.goal, .string x.h.id, .slice x.h.aa x.h.attr.length x.h.ac, .slice x.h.va x.h.value.length x.h.vc, .bool x.h.acc, .slice x.h.ca x.l.length x.h.cc] 64 (0, 0)) := by rw [hW2]; exact (Below.heap_alloc _ _ _ (by simp)).trans (new_at rfl)
  have hr : W2.heap[w.heap.size + 1]? = some (.cells #[.int .i64 0, .bool false, .string ⟨#[]⟩, .slice none 0 0, .slice none 0 0, .bool false, .slice none 0 0] 64 (0, 0)) := by rw [hW2]; exact new_at (by simp)
  have hsz : W2.heap.size = w.heap.size + 2 := by rw [hW2]; simp
  have hi7 : (Try.prog.info? 64).map (·.size) = some 7 := by kernel_rfl
  have H7 := Lib.hid hi7
  have HT := Lib.hid (copy_tests x.h.attr x.h.aa x.h.ac W2 (ha.mono hB) (by omega))
  have HV := Lib.hid (fun w' (hb : Below w.heap.size w w') => copy_tests x.h.value x.h.va x.h.vc w' (hv.mono hb) (by omega))
  have HC := Lib.hid (fun w' (hb : Below w.heap.size w w') => ih x.h.ca x.h.cc w' hz hw (hc.mono hb))
  have HB := Lib.hid hB
  have HG := Lib.hid hg
  have HR := Lib.hid hr
  have HSZ := Lib.hid hsz
  have b3 := cell_at' hg 3 (v := .slice x.h.aa x.h.attr.length x.h.ac) rfl
  have t1 : Hid (0 = 0) := rfl
  clear hi7 hB hg hr ha hv hc ih hsz
  rw [hW2] at b3
  subst hW2
  go_enter Try.func74, Try.ntmps74
  go_wp2_with (first | (have _t := t1; go_at_call 95; refine (HT.out).mono ?_; rintro e w3 ⟨a3, c3, l3, rfl, e3, n3, hb⟩; have hg3 := (hb.block _ (heap_lt HG.out)).trans HG.out; have hr3 := (hb.block _ (heap_lt HR.out)).trans HR.out; have HG3 := Lib.hid (set_at hg3 (i := 3) (u := .slice a3 l3.length c3) (c2 := #[.int .i64 x.h.kind, .bool x.h.goal, .string x.h.id, .slice a3 l3.length c3, .slice x.h.va x.h.value.length x.h.vc, .bool x.h.acc, .slice x.h.ca x.l.length x.h.cc]) rfl); have HR3 := Lib.hid ((Below.heap_setCell w3 ⟨w.heap.size, 3, none⟩ (.slice a3 l3.length c3) (w.heap.size + 1) (by simp)).trans hr3); have HB3 := Lib.hid ((HB.out.trans (hb.mono HB.out.size)).setCell (p := ⟨w.heap.size, 3, none⟩) (Nat.le_refl _) (.slice a3 l3.length c3)); have HN3 := Lib.hid ((n3.imp (M := fun b => w.heap.size + 2 ≤ b) (fun b _ hN => by have := HSZ.out; omega)).calm (Calm.set (P := w.heap.size) (i := 3) (u := .slice a3 l3.length c3) (by omega))); have HE3 := Lib.hid e3; have HZ3 : Hid (w.heap.size + 2 ≤ (w3.setCell ⟨w.heap.size, 3, none⟩ (.slice a3 l3.length c3)).heap.size) := Lib.hid (by have h1 := hb.size; have h2 := HSZ.out; rw [size_set]; omega); have u3 := cell_at' hg3 3 (v := .slice x.h.aa x.h.attr.length x.h.ac) rfl; have f3 := frozen_of hg3 (i := 3); have u4 := cell_at' HG3.out 4 (v := .slice x.h.va x.h.value.length x.h.vc) rfl; clear hb hg3 hr3 n3 e3 _t t1) | (go_at_call 95; refine (HV.out _ HB3.out).mono ?_; rintro e w4 ⟨a4, c4, l4, rfl, e4, n4, hb⟩; have hg4 := (hb.block _ (heap_lt HG3.out)).trans HG3.out; have hr4 := (hb.block _ (heap_lt HR3.out)).trans HR3.out; have HG4 := Lib.hid (set_at hg4 (i := 4) (u := .slice a4 l4.length c4) (c2 := #[.int .i64 x.h.kind, .bool x.h.goal, .string x.h.id, .slice a3 l3.length c3, .slice a4 l4.length c4, .bool x.h.acc, .slice x.h.ca x.l.length x.h.cc]) rfl); have HR4 := Lib.hid ((Below.heap_setCell w4 ⟨w.heap.size, 4, none⟩ (.slice a4 l4.length c4) (w.heap.size + 1) (by simp)).trans hr4); have HB4 := Lib.hid ((HB3.out.trans (hb.mono HB3.out.size)).setCell (p := ⟨w.heap.size, 4, none⟩) (Nat.le_refl _) (.slice a4 l4.length c4)); have HN34 := Lib.hid ((HN3.out.calm (Calm.below hb)).calm (Calm.set (P := w.heap.size) (i := 4) (u := .slice a4 l4.length c4) (by omega))); have HN4 := Lib.hid ((n4.imp (M := fun b => w.heap.size + 2 ≤ b) (fun b _ hN => Nat.le_trans HZ3.out hN)).calm (Calm.set (P := w.heap.size) (i := 4) (u := .slice a4 l4.length c4) (by omega))); have HE4 := Lib.hid e4; have HZ4 : Hid (w.heap.size + 2 ≤ (w4.setCell ⟨w.heap.size, 4, none⟩ (.slice a4 l4.length c4)).heap.size) := Lib.hid (by rw [size_set]; exact Nat.le_trans HZ3.out hb.size); have y4 := cell_at' hg4 4 (v := .slice x.h.va x.h.value.length x.h.vc) rfl; have g4 := frozen_of hg4 (i := 4); have y6 := cell_at' HG4.out 6 (v := .slice x.h.ca x.l.length x.h.cc) rfl; clear hb hg4 hr4 n4 e4) | (go_at_call 46; refine (HC.out _ HB4.out).mono ?_; rintro e w5 ⟨a5, c5, l5, rfl, e5, n5, hb⟩; have hg5 := (hb.block _ (heap_lt HG4.out)).trans HG4.out; have hr5 := (hb.block _ (heap_lt HR4.out)).trans HR4.out; have HG5 := Lib.hid (set_at hg5 (i := 6) (u := .slice a5 l5.length c5) (c2 := #[.int .i64 x.h.kind, .bool x.h.goal, .string x.h.id, .slice a3 l3.length c3, .slice a4 l4.length c4, .bool x.h.acc, .slice a5 l5.length c5]) rfl); have HR5 := Lib.hid ((Below.heap_setCell w5 ⟨w.heap.size, 6, none⟩ (.slice a5 l5.length c5) (w.heap.size + 1) (by simp)).trans hr5); have HB5 := Lib.hid ((HB4.out.trans (hb.mono HB4.out.size)).setCell (p := ⟨w.heap.size, 6, none⟩) (Nat.le_refl _) (.slice a5 l5.length c5)); have HB6 := Lib.hid (below_row' (P := w.heap.size + 1) (c := #[.int .i64 x.h.kind, .bool x.h.goal, .string x.h.id, .slice a3 l3.length c3, .slice a4 l4.length c4, .bool x.h.acc, .slice a5 l5.length c5]) HB5.out (Nat.le_succ _)); have HR6 := Lib.hid (setRow_same (c' := #[.int .i64 x.h.kind, .bool x.h.goal, .string x.h.id, .slice a3 l3.length c3, .slice a4 l4.length c4, .bool x.h.acc, .slice a5 l5.length c5]) HR5.out); have hq : Calm (fun b => w.heap.size + 2 ≤ b) w5 ((w5.setCell ⟨w.heap.size, 6, none⟩ (.slice a5 l5.length c5)).setRow (w.heap.size + 1) #[.int .i64 x.h.kind, .bool x.h.goal, .string x.h.id, .slice a3 l3.length c3, .slice a4 l4.length c4, .bool x.h.acc, .slice a5 l5.length c5]) := (Calm.set (P := w.heap.size) (i := 6) (u := .slice a5 l5.length c5) (by omega)).trans (Calm.row (by omega)); have HCN : Hid (CoN ((w5.setCell ⟨w.heap.size, 6, none⟩ (.slice a5 l5.length c5)).setRow (w.heap.size + 1) #[.int .i64 x.h.kind, .bool x.h.goal, .string x.h.id, .slice a3 l3.length c3, .slice a4 l4.length c4, .bool x.h.acc, .slice a5 l5.length c5]) (fun b => w.heap.size ≤ b) (.mk ⟨x.h.kind, x.h.goal, x.h.id, l3, a3, c3, l4, a4, c4, x.h.acc, a5, c5⟩ l5)) := Lib.hid (CoN.imp (N := fun b => w.heap.size + 2 ≤ b) ⟨(HN34.out.calm (Calm.below hb)).calm hq, (HN4.out.calm (Calm.below hb)).calm hq, (n5.imp (fun b _ hN => Nat.le_trans HZ4.out hN)).calm hq⟩ (fun b _ hN => by omega)); have HBE : Hid (bareL [Co.mk ⟨x.h.kind, x.h.goal, x.h.id, l3, a3, c3, l4, a4, c4, x.h.acc, a5, c5⟩ l5] = bareL [x]) := Lib.hid (bare_made HE3.out HE4.out e5); have z6 := cell_at' hg5 6 (v := .slice x.h.ca x.l.length x.h.cc) rfl; have q6 := frozen_of hg5 (i := 6); clear hb hg5 hr5 n5 e5 hq) | (refine wpList_load rfl (.tmp 1) 64 rfl (A := ⟨w.heap.size, 0, none⟩) rfl Try.underlying64 rfl (cs := [.int .i64 x.h.kind, .bool x.h.goal, .string x.h.id, .slice a3 l3.length c3, .slice a4 l4.length c4, .bool x.h.acc, .slice a5 l5.length c5]) H7.out (cells_fn HG5.out) ?_) | (refine wpList_store_row rfl (.tmp 2) (.tmp 15) 64 rfl (g := w.heap.size + 1) rfl HR5.out (c' := #[.int .i64 x.h.kind, .bool x.h.goal, .string x.h.id, .slice a3 l3.length c3, .slice a4 l4.length c4, .bool x.h.acc, .slice a5 l5.length c5]) rfl H7.out rfl (by simp [Value.oneCell']) ?_))
  refine bodyPost_ret (results_aggcell rfl _ _ ⟨w.heap.size + 1, 0, none⟩ [.int .i64 x.h.kind, .bool x.h.goal, .string x.h.id, .slice a3 l3.length c3, .slice a4 l4.length c4, .bool x.h.acc, .slice a5 l5.length c5] _ rfl Try.underlying64 H7.out (cells_fn HR6.out)) rfl ?_
  exact ⟨.mk ⟨x.h.kind, x.h.goal, x.h.id, l3, a3, c3, l4, a4, c4, x.h.acc, a5, c5⟩ l5, rfl, HBE.out, HCN.out, HB6.out⟩
theorem bare_append : ∀ a b : List Co, bareL (a ++ b) = bareL a ++ bareL b
  | [], b => by simp [bareL]
  | .mk h m :: a, b => by simp only [List.cons_append, bareL, bare_append a b]
theorem infoCONDC : (Try.prog.info? 64).map (fun i => (i.zero, i.size, i.bytes)) = some (some (.agg #[.int .i64 0, .bool false, .string ⟨#[]⟩, .slice none 0 0, .slice none 0 0, .bool false, .slice none 0 0]), 7, 112) := by kernel_rfl
theorem encC_len (s : Co) : (encC s).length = 7 := rfl
theorem encC_one (s : Co) : ∀ u ∈ encC s, u.oneCell' = true := by simp [encC, encH, Value.oneCell']
theorem own_moreC {w : World} {base e : Nat} {v : Value} {k : List Co} {s : Co} (h : w.ownsRow base e 7 v (k.length + [s].length) (k.flatMap encC ++ [s].flatMap encC)) : w.ownsRow base e 7 v (k ++ [s]).length ((k ++ [s]).flatMap encC) := by
  rw [List.length_append, List.flatMap_append]; exact h
theorem calm_new2 {wr w2 w4 : World} {o : Obj} {v : Value} {base e size n : Nat} {xs : List Value} (hO : wr.ownsRow base e size v n xs) (hg : (w2.alloc o).grownBy w4 v.ownBlock) : Calm (fun b => wr.heap.size ≤ b) w2 w4 :=
  ⟨Nat.le_trans (by simp) hg.size, fun b hb hlt => (hg.block b (by simp; omega) (fun e => by have := (hO.lt b e.symm).2; omega)).trans (Below.heap_alloc _ _ _ hlt)⟩
set_option maxRecDepth 100000 in
set_option maxHeartbeats 8000000 in
theorem copy_step (l : List Co) (ih : ∀ m, sizeL m < sizeL l → CopyC m) : CopyC l := by
  intro a c w hz hw h
  obtain ⟨i0, hi, hz0, hz1, hz2⟩ := info_parts infoCONDC
  have Hel := Lib.hid h.elts
  have Hco := Lib.hid (fun k (hk : k < l.length) w' (hb : Below w.heap.size w w') => copy_cond l[k] w' (ih l[k].l (size_inner l hk)) (by have := size_inner l hk; omega) (by have := wt_take_succ l hk; have := wt_take_le l (k + 1); omega) (by have := wt_take_succ l hk; have := wt_take_le l (k + 1); omega) (by have := wt_take_succ l hk; have := wt_take_le l (k + 1); omega) ((h.tests hk).1.mono hb) ((h.tests hk).2.mono hb) ((h.inner hk).mono hb))
  have hln := len_size l
  have hlen : l.length ≤ 1000 := by omega
  have hi7 : (Try.prog.info? 64).map (·.size) = some 7 := by kernel_rfl
  have H7 := Lib.hid hi7
  clear h ih hz hw hln hi7
  go_enter Try.func46, Try.ntmps46
  go_wp2_with fail
  go_loopw [3, 4] (fun o i wr => ∃ (k : Nat) (l' : List Co) (a' : Option Addr) (c' : Nat), k ≤ l.length ∧ i = .int .i64 k ∧ o = .slice a' l'.length c' ∧ Hid (bareL l' = bareL (l.take k)) ∧ Hid (wr.ownsRow w.heap.size 64 7 (.slice a' l'.length c') l'.length (l'.flatMap encC)) ∧ Hid (∀ x ∈ l', CoN wr (NR w.heap.size (.slice a' l'.length c')) x) ∧ Hid (Below w.heap.size w wr)) (fun _ i _ => l.length - (intOf i).toNat)
  case atStart => exact ⟨0, [], none, 0, Nat.zero_le _, rfl, rfl, Lib.hid rfl, Lib.hid (World.ownsRow_nil _ _ _ _), Lib.hid (by simp), Lib.hid (Below.refl _ _)⟩
  case round =>
    obtain ⟨k, l', a', c', hk, rfl, rfl, HS, HO, HI, HB⟩ := hrel
    have HLL : Hid (l'.length = k) := Lib.hid (by have := congrArg List.length HS.out; rw [bare_len, bare_len] at this; simpa [Nat.min_eq_left hk] using this)
    have hll1 : l'.length ≤ 1000 := by have := HLL.out; omega
    by_cases hlt : k < l.length
    · obtain ⟨b, off, rfl, hcell⟩ := Hel.out.at hlt
      have hc := hcell _ HB.out
      have hws := HB.out.size
      have hco := Hco.out k hlt wr HB.out
      have htk : bareL (l.take (k + 1)) = bareL (l.take k) ++ bareL [l[k]] := by rw [List.take_succ_eq_append_getElem hlt, bare_append]
      obtain ⟨x, hx⟩ : ∃ x, x = l[k] := ⟨_, rfl⟩
      rw [← hx] at hc hco htk
      have HCL := Lib.hid (fun (j : Nat) (v : Value) (hv : [.int .i64 x.h.kind, .bool x.h.goal, .string x.h.id, .slice x.h.aa x.h.attr.length x.h.ac, .slice x.h.va x.h.value.length x.h.vc, .bool x.h.acc, .slice x.h.ca x.l.length x.h.cc][j]? = some v) => (by rw [Addr.add_lit]; exact hc j v hv : wr.cell? ((⟨b, off + k * 7, none⟩ : Addr).add j) = some v))
      have HCO := Lib.hid hco
      have HTK := Lib.hid htk
      clear hx hc hcell htk hco
      go_wp2_with (first | (refine wpList_load rfl (.tmp 14) 64 rfl (A := ⟨b, off + k * 7, none⟩) rfl Try.underlying64 rfl (cs := [.int .i64 x.h.kind, .bool x.h.goal, .string x.h.id, .slice x.h.aa x.h.attr.length x.h.ac, .slice x.h.va x.h.value.length x.h.vc, .bool x.h.acc, .slice x.h.ca x.l.length x.h.cc]) H7.out HCL.out ?_) | (go_at_call 74; refine (HCO.out).mono ?_; rintro e w2 ⟨x', rfl, e2, n2, hb⟩; have HE2 := Lib.hid e2; have HN2 := Lib.hid n2; have HB2 := Lib.hid hb; have HO2 := Lib.hid (own_belowC HO.out hb); clear e2 n2 hb) | (at_builtin; refine wpList_append_elts encC_len encC_one rfl (.tmp 11) (.tmp 17) 22 rfl w.heap.size 64 i0 (.agg #[.int .i64 0, .bool false, .string ⟨#[]⟩, .slice none 0 0, .slice none 0 0, .bool false, .slice none 0 0]) 112 Try.underlying22 hi hz0 hz1 hz2 rfl (by decide) (.slice a' l'.length c') l'.length (l'.flatMap encC) rfl (HO2.out.alloc _) (some ⟨w2.heap.size, 0, none⟩) 1 [x'] rfl (elts_single' (E := encC) (x := x') (T := 64)) (by unfold maxLen; simp; omega) (by simp; omega) (Nat.le_trans hws (Nat.le_trans HB2.out.size (by simp))) ?_; intro v4 w4 hown hg hor; have HG4 := Lib.hid hg; have HR4 := Lib.hid hor; have HB24 := Lib.hid (HB2.out.alloc HB2.out.size (.cells #[.int .i64 x'.h.kind, .bool x'.h.goal, .string x'.h.id, .slice x'.h.aa x'.h.attr.length x'.h.ac, .slice x'.h.va x'.h.value.length x'.h.vc, .bool x'.h.acc, .slice x'.h.ca x'.l.length x'.h.cc] 64)); have HB4 := Lib.hid (below_app (HB.out.trans (HB24.out.mono hws)) (Nat.le_refl _) (Nat.le_refl _) (HO2.out.alloc _) hg); replace hown := own_moreC hown; obtain ⟨a4, c4, rfl⟩ := own_slice' hown; have HO4 := Lib.hid hown; clear hown hg hor))
      go_roundw
      case rel =>
        refine ⟨k + 1, l' ++ [x'], a4, c4, by omega, by go_num, (by rw [List.length_append]; rfl), Lib.hid (by rw [bare_append, HTK.out, HS.out, HE2.out]), HO4, Lib.hid ?_, HB4⟩
        intro y hy
        rcases List.mem_append.1 hy with hy | hy
        · have e1 := HI.out y hy
          have hcalm : Calm (NR w.heap.size (.slice a' l'.length c')) wr w4 := calm_append HB24.out HG4.out
          exact (e1.imp (M := fun b => NR w.heap.size (.slice a' l'.length c') b ∧ b < wr.heap.size) (fun b hb hN => ⟨hN, hb⟩)).calm ⟨hcalm.size, fun b hb hlt => hcalm.keep b hb.1 hlt⟩ |>.imp (fun b _ hN => ⟨hN.1.1, row_off HR4.out (Nat.lt_of_lt_of_le hN.2 HB24.out.size) hN.1.2⟩)
        · obtain rfl : y = x' := by simpa using hy
          have hcalm := calm_new2 HO.out HG4.out
          exact (HN2.out.imp (M := fun b => wr.heap.size ≤ b ∧ b < w2.heap.size) (fun b hb hN => ⟨hN, hb⟩)).calm ⟨hcalm.size, fun b hb hlt => hcalm.keep b hb.1 hlt⟩ |>.imp (fun b _ hN => ⟨by omega, row_off HR4.out (by simp; omega) (fun e => by have := (HO.out.lt b e).2; omega)⟩)
      case measure => simp [intOf]; omega
    · obtain rfl : k = l.length := by omega
      have HQ := Lib.hid (show bareL l' = bareL l by have := HS.out; rwa [List.take_length] at this)
      go_wp2_with fail
      go_ret
      exact ⟨a', c', l', rfl, HQ.out, .mk a' l' (elts_of_own encC_len HO.out) (own_inB HO.out) (fun c hc => ((HI.out c hc).imp (fun b _ hb => hb.1)).1) (fun c hc => ((HI.out c hc).imp (fun b _ hb => hb.1)).2.1) (fun c hc => ((HI.out c hc).imp (fun b _ hb => hb.1)).2.2), HB.out⟩
theorem copy_conds (l : List Co) : CopyC l := by
  have key : ∀ n, ∀ l : List Co, sizeL l ≤ n → CopyC l := by
    intro n
    induction n with
    | zero => exact fun l h => copy_step l (fun m hm => by omega)
    | succ n ih => exact fun l h => copy_step l (fun m hm => ih m (by omega))
  exact key _ l (Nat.le_refl _)
open Go.RowKit
theorem step_store_row {P : Program} {w : World} {ops : Array Oper} {o : Oper} {a : Act} {K : Act → World → Prop} {Q : Exit → Act → World → Prop} {E : Prop} (hg : o.guard = none) (p x : Operand) (t : TypeId) (ho : o.op = .store t p x) {g : Nat} (hv : a.eval p = .pointer (some ⟨g, 0, none⟩))
    {c c' : Array Value} {ty : TypeId} (hb : w.heap[g]? = some (.cells c ty (0, 0))) (hx : a.eval x = .agg c') (hi : (P.info? t).map (·.size) = some c'.size) (hs : c.size = c'.size) (h1 : c'.all (·.oneCell') = true)
    (h : K (a.put o.dst undef) (w.setRow g c')) : if Region.wanted o (yielded ops a.tmps) = true then Oper.wp P o a w K Q else E := by
  have hw : Region.wanted o (yielded ops a.tmps) = true := by simp [Region.wanted, hg]
  rw [if_pos hw]
  have hl : (Instr.storeAt t (.pointer (some ⟨g, 0, none⟩)) (.agg c')).run P w = .ok () (w.setRow g c') := by
    simp only [Instr.storeAt, Instr.sureAddr, Sem.run_bind, Sem.run_pure, Result.andThen]
    exact run_storeVar_row _ _ _ _ c c' hb hi hs h1
  unfold Oper.wp execOp
  simp only [ho, hv, hx, Sem.run_bind, Sem.run_pure, Result.andThen_ok, hl]
  exact h
set_option maxRecDepth 100000 in
set_option maxHeartbeats 8000000 in
theorem copy_prod (p : Pr) (w : World) (hz : sizeL p.conds ≤ 1000) (hw : wtL p.conds ≤ 1000) (ha : p.acts.length ≤ 1000) (hp : PrAt w p) :
    Calls Try.prog 15 #[.agg #[.string p.name, .slice p.ca p.conds.length p.cc, .slice p.aa p.acts.length p.ac]] w fun e w' => ∃ q : Pr, e = .returned (.agg #[.string q.name, .slice q.ca q.conds.length q.cc, .slice q.aa q.acts.length q.ac]) ∧ q.bare = p.bare ∧ PrAt w' q ∧ Below w.heap.size w w' := by
  obtain ⟨W2, hW2⟩ : ∃ W2, W2 = (w.alloc (.cells #[.string p.name, .slice p.ca p.conds.length p.cc, .slice p.aa p.acts.length p.ac] 25)).alloc (.cells #[.string ⟨#[]⟩, .slice none 0 0, .slice none 0 0] 25) := ⟨_, rfl⟩
  have hB : Below w.heap.size w W2 := by rw [hW2]; go_grown
  have hg : W2.heap[w.heap.size]? = some (.cells #[.string p.name, .slice p.ca p.conds.length p.cc, .slice p.aa p.acts.length p.ac] 25 (0, 0)) := by rw [hW2]; exact (Below.heap_alloc _ _ _ (by simp)).trans (new_at rfl)
  have hr : W2.heap[w.heap.size + 1]? = some (.cells #[.string ⟨#[]⟩, .slice none 0 0, .slice none 0 0] 25 (0, 0)) := by rw [hW2]; exact new_at (by simp)
  have hsz : w.heap.size + 2 ≤ W2.heap.size := by rw [hW2]; simp
  have hi25 : (Try.prog.info? 25).map (·.size) = some 3 := by kernel_rfl
  have H25 := Lib.hid hi25
  have HBOX := Lib.hid (fun w' (h : Below W2.heap.size W2 w') => (⟨(h.block _ (heap_lt hg)).trans hg, (h.block _ (heap_lt hr)).trans hr⟩ : w'.heap[w.heap.size]? = some (.cells #[.string p.name, .slice p.ca p.conds.length p.cc, .slice p.aa p.acts.length p.ac] 25 (0, 0)) ∧ w'.heap[w.heap.size + 1]? = some (.cells #[.string ⟨#[]⟩, .slice none 0 0, .slice none 0 0] 25 (0, 0))))
  have HS := Lib.hid (fun w' (h : Below W2.heap.size W2 w') => (⟨cell_at' (HBOX.out _ h).1 0 rfl, cell_at' (HBOX.out _ h).1 1 rfl, cell_at' (HBOX.out _ h).1 2 rfl⟩ : w'.cell? ⟨w.heap.size, 0, none⟩ = some (.string p.name) ∧ w'.cell? ⟨w.heap.size, 1, none⟩ = some (.slice p.ca p.conds.length p.cc) ∧ w'.cell? ⟨w.heap.size, 2, none⟩ = some (.slice p.aa p.acts.length p.ac)))
  have HS2 := Lib.hid (fun w' (c : Array Value) (h : Below W2.heap.size W2 w') => (⟨cell_at' ((setRow_other (by omega)).trans (HBOX.out _ h).1) 0 rfl, cell_at' ((setRow_other (by omega)).trans (HBOX.out _ h).1) 1 rfl, cell_at' ((setRow_other (by omega)).trans (HBOX.out _ h).1) 2 rfl⟩ : (w'.setRow (w.heap.size + 1) c).cell? ⟨w.heap.size, 0, none⟩ = some (.string p.name) ∧ (w'.setRow (w.heap.size + 1) c).cell? ⟨w.heap.size, 1, none⟩ = some (.slice p.ca p.conds.length p.cc) ∧ (w'.setRow (w.heap.size + 1) c).cell? ⟨w.heap.size, 2, none⟩ = some (.slice p.aa p.acts.length p.ac)))
  have HCC := Lib.hid (fun w' (h : Below W2.heap.size W2 w') => copy_conds p.conds p.ca p.cc w' hz hw (hp.conds.mono (hB.trans (h.mono hB.size))))
  have HCA := Lib.hid (fun w' (h : Below W2.heap.size W2 w') => copy_acts p.acts p.aa p.ac w' (hp.acts.mono (hB.trans (h.mono hB.size))) (by omega))
  have HB := Lib.hid hB
  have HSZ := Lib.hid hsz
  have hcur : Hid (Below W2.heap.size W2 W2.drew) := Lib.hid (Below.refl _ _).drew
  have b0 := cell_at' hg 0 (v := .string p.name) rfl
  have b1 := cell_at' hg 1 (v := .slice p.ca p.conds.length p.cc) rfl
  have b2 := cell_at' hg 2 (v := .slice p.aa p.acts.length p.ac) rfl
  clear hi25 hB hg hr hp hsz hz hw ha
  go_enter Try.func15, Try.ntmps15
  go_wp2_with fail
  rw [← hW2]
  clear hW2
  go_region_held3 (fun w' => w'.cell? ⟨w.heap.size, 0, none⟩ = some (.string p.name) ∧ w'.cell? ⟨w.heap.size, 1, none⟩ = some (.slice p.ca p.conds.length p.cc) ∧ w'.cell? ⟨w.heap.size, 2, none⟩ = some (.slice p.aa p.acts.length p.ac))
    (first | exact HS.out _ hcur.out | exact HS2.out _ _ hcur.out | go_keep)
    (first
      | (have _t := HNA; go_at_call 46; (with_reducible refine (HCC.out _ hcur.out).mono ?_); rintro e wc ⟨a3, c3, l3, rfl, e3, n3, hb⟩; have HN3 := Lib.hid (n3.imp (M := fun b => w.heap.size + 2 ≤ b) (fun b _ hN => Nat.le_trans (Nat.le_trans HSZ.out hcur.out.size) hN)); have HE3 := Lib.hid e3; have HN4 := Lib.hid (⟨HNA.out.1.mono hb, HNA.out.2⟩ : EltsK encA 19 wc a4 p.acts ∧ InB (fun b => w.heap.size + 2 ≤ b) a4 p.acts); replace hcur : Hid (Below W2.heap.size W2 wc) := Lib.hid (hcur.out.trans (hb.mono hcur.out.size)); have r0 := cell_at' (HBOX.out _ hcur.out).2 0 (v := .string ⟨#[]⟩) rfl; have r1 := cell_at' (HBOX.out _ hcur.out).2 1 (v := .slice none 0 0) rfl; have r2 := cell_at' (HBOX.out _ hcur.out).2 2 (v := .slice none 0 0) rfl; have f0 := frozen_of (HBOX.out _ hcur.out).2 (i := 0); have f1 := frozen_of (HBOX.out _ hcur.out).2 (i := 1); have f2 := frozen_of (HBOX.out _ hcur.out).2 (i := 2); clear HNA n3 e3 hb)
      | (go_at_call 46; (with_reducible refine (HCC.out _ hcur.out).mono ?_); rintro e wc ⟨a3, c3, l3, rfl, e3, n3, hb⟩; have HNC := Lib.hid (n3.imp (M := fun b => w.heap.size + 2 ≤ b) (fun b _ hN => Nat.le_trans (Nat.le_trans HSZ.out hcur.out.size) hN)); have HE3 := Lib.hid e3; replace hcur : Hid (Below W2.heap.size W2 wc) := Lib.hid (hcur.out.trans (hb.mono hcur.out.size)); have r0 := cell_at' (HBOX.out _ hcur.out).2 0 (v := .string ⟨#[]⟩) rfl; have r1 := cell_at' (HBOX.out _ hcur.out).2 1 (v := .slice none 0 0) rfl; have r2 := cell_at' (HBOX.out _ hcur.out).2 2 (v := .slice none 0 0) rfl; have f0 := frozen_of (HBOX.out _ hcur.out).2 (i := 0); have f1 := frozen_of (HBOX.out _ hcur.out).2 (i := 1); have f2 := frozen_of (HBOX.out _ hcur.out).2 (i := 2); clear n3 e3 hb)
      | (have _t := HNC; go_at_call 47; (with_reducible refine (HCA.out _ hcur.out).mono ?_); rintro e wa ⟨a4, c4, rfl, e4, n4, hb⟩; have HN3 := Lib.hid (HNC.out.calm (Calm.below hb)); have HN4 := Lib.hid (⟨e4, n4.imp (fun b hN => Nat.le_trans (Nat.le_trans HSZ.out hcur.out.size) hN)⟩ : EltsK encA 19 wa a4 p.acts ∧ InB (fun b => w.heap.size + 2 ≤ b) a4 p.acts); replace hcur : Hid (Below W2.heap.size W2 wa) := Lib.hid (hcur.out.trans (hb.mono hcur.out.size)); have r0 := cell_at' (HBOX.out _ hcur.out).2 0 (v := .string ⟨#[]⟩) rfl; have r1 := cell_at' (HBOX.out _ hcur.out).2 1 (v := .slice none 0 0) rfl; have r2 := cell_at' (HBOX.out _ hcur.out).2 2 (v := .slice none 0 0) rfl; have f0 := frozen_of (HBOX.out _ hcur.out).2 (i := 0); have f1 := frozen_of (HBOX.out _ hcur.out).2 (i := 1); have f2 := frozen_of (HBOX.out _ hcur.out).2 (i := 2); clear HNC n4 e4 hb)
      | (go_at_call 47; (with_reducible refine (HCA.out _ hcur.out).mono ?_); rintro e wa ⟨a4, c4, rfl, e4, n4, hb⟩; have HNA := Lib.hid (⟨e4, n4.imp (fun b hN => Nat.le_trans (Nat.le_trans HSZ.out hcur.out.size) hN)⟩ : EltsK encA 19 wa a4 p.acts ∧ InB (fun b => w.heap.size + 2 ≤ b) a4 p.acts); replace hcur : Hid (Below W2.heap.size W2 wa) := Lib.hid (hcur.out.trans (hb.mono hcur.out.size)); have r0 := cell_at' (HBOX.out _ hcur.out).2 0 (v := .string ⟨#[]⟩) rfl; have r1 := cell_at' (HBOX.out _ hcur.out).2 1 (v := .slice none 0 0) rfl; have r2 := cell_at' (HBOX.out _ hcur.out).2 2 (v := .slice none 0 0) rfl; have f0 := frozen_of (HBOX.out _ hcur.out).2 (i := 0); have f1 := frozen_of (HBOX.out _ hcur.out).2 (i := 1); have f2 := frozen_of (HBOX.out _ hcur.out).2 (i := 2); clear n4 e4 hb))
  all_goals
    go_wp2_with fail
    have g0 := set_at (HBOX.out _ hcur.out).2 (i := 0) (u := .string p.name) (c2 := #[.string p.name, .slice none 0 0, .slice none 0 0]) rfl
    have g1 := set_at g0 (i := 1) (u := (.slice a3 l3.length c3)) (c2 := #[.string p.name, (.slice a3 l3.length c3), .slice none 0 0]) rfl
    have g2 := set_at g1 (i := 2) (u := (.slice a4 p.acts.length c4)) (c2 := #[.string p.name, (.slice a3 l3.length c3), (.slice a4 p.acts.length c4)]) rfl
    refine bodyPost_ret (results_aggcell rfl _ _ ⟨w.heap.size + 1, 0, none⟩ [.string p.name, (.slice a3 l3.length c3), (.slice a4 p.acts.length c4)] _ rfl Try.underlying25 H25.out (cells_fn g2)) rfl ?_
    have hq := fun (W : World) => ((Calm.set (B := w.heap.size + 2) (P := w.heap.size + 1) (i := 0) (u := .string p.name) (w := W) (by omega)).trans (Calm.set (P := w.heap.size + 1) (i := 1) (u := (.slice a3 l3.length c3)) (by omega))).trans (Calm.set (P := w.heap.size + 1) (i := 2) (u := (.slice a4 p.acts.length c4)) (by omega))
    refine ⟨⟨p.name, l3, a3, c3, p.acts, a4, c4⟩, rfl, ?_, ⟨(HN3.out.calm (hq _)).plain, (hq _).elts HN4.out.1 HN4.out.2⟩, ?_⟩
    · show Pr.mk p.name (bareL l3) none 0 p.acts none 0 = Pr.mk p.name (bareL p.conds) none 0 p.acts none 0
      rw [HE3.out]
    · exact (((HB.out.trans (hcur.out.mono HB.out.size)).setCell (p := ⟨w.heap.size + 1, 0, none⟩) (Nat.le_succ _) _).setCell (p := ⟨w.heap.size + 1, 1, none⟩) (Nat.le_succ _) _).setCell (p := ⟨w.heap.size + 1, 2, none⟩) (Nat.le_succ _) _
end Go.Proofs.Ytccphigpobnjmaa
