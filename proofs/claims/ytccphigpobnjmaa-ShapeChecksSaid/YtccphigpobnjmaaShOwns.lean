/-
  What the body of a loop over an iterator may write, told for each world. No condition.
-/
import Derived.RangeFuncNested
import Derived.RangeFuncBound
import Derived.RangeFuncCalls
import Derived.RangeFuncLeaves
import Derived.RangeFuncBox
import Derived.Shelf.Abstract
import Derived.Shelf.RegionOpen
import Derived.WalkKit
import Derived.WalkSpells
import Derived.OwnWalkIn
import Derived.TacticsInMore
import Derived.LoopNIn
import Derived.LoopIn
import Derived.BigGuardIn
import Derived.Test.YtccphigpobnjmaaShRConds
import Derived.Test.YtccphigpobnjmaaKitOver
namespace Go.Proofs.Ytccphigpobnjmaa
set_option linter.unusedVariables false
open Go.RowKit Go.Shelf
/-- O: what a body may write, told for each world; G: the worlds where that is sure; B0: what lies below stays. -/
structure Owns (O : World → Nat → Prop) (G : World → Prop) (B0 : Nat) : Prop where
  inn : ∀ W k, G W → O W k → k < W.heap.size
  grown : ∀ W W' row, G W → W.grownBy W' row → (∀ r, row = some r → B0 ≤ r ∧ ∃ o : Obj, W.heap[r]? = some o ∧ o.isCells = false) → (∀ k, O W' k → O W k) ∧ G W'
  set : ∀ W a v, G W → ¬ O W a.block → (∀ k, O (W.setCell a v) k → O W k) ∧ G (W.setCell a v)
  b0 : ∀ W, G W → B0 ≤ W.heap.size
theorem Below.grownN {W W' : World} (h : Below W.heap.size W W') : W.grownBy W' none := ⟨h.os, h.tape, h.output, h.size, fun k hk _ => h.block k hk⟩
theorem Owns.down {O : World → Nat → Prop} {G : World → Prop} {B0 : Nat} (h : Owns O G B0) (W W' : World) (hg : G W) (hb : Below W.heap.size W W') : (∀ k, O W' k → O W k) ∧ G W' := h.grown W W' none hg (Below.grownN hb) (by simp)
structure KV (O : World → Nat → Prop) (G : World → Prop) (B0 : Nat) (W W' : World) : Prop where
  size : W.heap.size ≤ W'.heap.size
  good : G W → G W'
  block : G W → ∀ k c t f, W.heap[k]? = some (.cells c t f) → ¬ O W k → W'.heap[k]? = some (.cells c t f)
  own : G W → ∀ k, k < W.heap.size → O W' k → O W k
  below : Below B0 W W'
theorem KV.refl (O : World → Nat → Prop) (G : World → Prop) (B0 : Nat) (W : World) : KV O G B0 W W :=
  ⟨Nat.le_refl _, id, fun _ _ _ _ _ h _ => h, fun _ _ _ h => h, Below.refl _ _⟩
theorem KV.trans {O : World → Nat → Prop} {G : World → Prop} {B0 : Nat} {X Y Z : World} (h : KV O G B0 X Y) (k : KV O G B0 Y Z) : KV O G B0 X Z :=
  ⟨Nat.le_trans h.size k.size, fun g => k.good (h.good g), fun g i c t f hi hn => k.block (h.good g) i c t f (h.block g i c t f hi hn) (fun ho => hn (h.own g i (heap_lt hi) ho)), fun g i hi ho => h.own g i hi (k.own (h.good g) i (Nat.lt_of_lt_of_le hi h.size) ho), h.below.trans k.below⟩
theorem KV.ofBelow {O : World → Nat → Prop} {G : World → Prop} {B0 : Nat} {W W' : World} (h : Owns O G B0) (hg : G W) (hb : Below W.heap.size W W') : KV O G B0 W W' :=
  ⟨hb.size, fun _ => (h.down W W' hg hb).2, fun _ k c t f hk _ => (hb.block k (heap_lt hk)).trans hk, fun _ k _ ho => (h.down W W' hg hb).1 k ho, hb.mono (h.b0 W hg)⟩
/-- A block that was laid just now is no body's. -/
theorem Owns.fresh {O : World → Nat → Prop} {G : World → Prop} {B0 : Nat} {W W' : World} (h : Owns O G B0) (hg : G W) (hb : Below W.heap.size W W') {k : Nat} (hk : W.heap.size ≤ k) : ¬ O W' k := fun ho => by
  have := h.inn W k hg ((h.down W W' hg hb).1 k ho)
  omega
/-- Nobody writes. -/
theorem owns_none (B0 : Nat) : Owns (fun _ _ => False) (fun W => B0 ≤ W.heap.size) B0 :=
  ⟨fun _ _ _ h => h.elim, fun _ _ _ h hb _ => ⟨fun _ h => h.elim, Nat.le_trans h hb.size⟩, fun _ _ _ h _ => ⟨fun _ h => h.elim, by simpa using h⟩, fun _ h => h⟩
theorem KV.ofGrown {O : World → Nat → Prop} {G : World → Prop} {B0 : Nat} {W W' : World} {row : Option Nat} (h : Owns O G B0) (hg : G W) (hb : W.grownBy W' row) (hr : ∀ r, row = some r → B0 ≤ r ∧ ∃ o : Obj, W.heap[r]? = some o ∧ o.isCells = false) : KV O G B0 W W' :=
  ⟨hb.size, fun _ => (h.grown W W' row hg hb hr).2, fun _ k c t f hk _ => (hb.block k (heap_lt hk) (fun e => by obtain ⟨_, o, ho, hc⟩ := hr k e.symm; rw [hk] at ho; cases ho; cases hc)).trans hk, fun _ k _ ho => (h.grown W W' row hg hb hr).1 k ho,
    ⟨hb.os, hb.tape, hb.output, hb.size, fun k hk => hb.block k (Nat.lt_of_lt_of_le hk (h.b0 W hg)) (fun e => by have := (hr k e.symm).1; omega)⟩⟩
/-- A store into a block that was laid later and is no body's. -/
theorem KV.set {O : World → Nat → Prop} {G : World → Prop} {B0 : Nat} {X Y : World} (h : Owns O G B0) (hg : G X) (k : KV O G B0 X Y) {a : Addr} (v : Value) (ha : X.heap.size ≤ a.block) (hn : ¬ O Y a.block) : KV O G B0 X (Y.setCell a v) := by
  have hs := h.set Y a v (k.good hg) hn
  have hb0 := h.b0 X hg
  refine ⟨by simpa using k.size, fun _ => hs.2, fun _ i c t f hi hno => ?_, fun _ i hi ho => k.own hg i hi (hs.1 i ho), ?_⟩
  · rw [Below.heap_setCell _ _ _ _ (by have := heap_lt hi; omega)]; exact k.block hg i c t f hi hno
  · exact k.below.setCell (by omega) _
/-- One box of cells, at B, and the row that it holds. -/
def OBoxW (B : Nat) (W : World) (k : Nat) : Prop := k = B ∨ ∃ v, W.cell? ⟨B, 0, none⟩ = some v ∧ v.ownBlock = some k
def GBox (B B0 : Nat) (W : World) : Prop := (∃ v, W.cell? ⟨B, 0, none⟩ = some v) ∧ B0 ≤ W.heap.size ∧ ∀ k, OBoxW B W k → k < W.heap.size
theorem owns_box (B B0 : Nat) : Owns (OBoxW B) (GBox B B0) B0 := by
  refine ⟨fun _ k h ho => h.2.2 k ho, fun W W' row h hb hr => ?_, fun W a v h hn => ?_, fun _ h => h.2.1⟩
  · obtain ⟨⟨v, hv⟩, hB0, hin⟩ := h
    have hc : W'.cell? ⟨B, 0, none⟩ = W.cell? ⟨B, 0, none⟩ := World.cell?_of_block (hb.block B (hin B (.inl rfl)) (fun e => by
      obtain ⟨_, o, ho, hc⟩ := hr B e.symm
      cases o <;> simp_all [World.cell?, Obj.isCells]))
    have ho : ∀ k, OBoxW B W' k → OBoxW B W k := fun k ho => ho.imp id fun ⟨u, h1, h2⟩ => ⟨u, hc ▸ h1, h2⟩
    exact ⟨ho, ⟨v, hc.trans hv⟩, Nat.le_trans hB0 hb.size, fun k hk => Nat.lt_of_lt_of_le (hin k (ho k hk)) hb.size⟩
  · obtain ⟨⟨u, hu⟩, hB0, hin⟩ := h
    have hc : (W.setCell a v).cell? ⟨B, 0, none⟩ = W.cell? ⟨B, 0, none⟩ := World.cell?_of_block (Below.heap_setCell _ _ _ _ (fun e => hn (.inl e.symm)))
    have ho : ∀ k, OBoxW B (W.setCell a v) k → OBoxW B W k := fun k ho => ho.imp id fun ⟨u, h1, h2⟩ => ⟨u, hc ▸ h1, h2⟩
    exact ⟨ho, ⟨u, hc.trans hu⟩, by simpa using hB0, fun k hk => by simpa using hin k (ho k hk)⟩
end Go.Proofs.Ytccphigpobnjmaa
