/-
  Package shape: walk, and a range over it, whose body's words are told at three places. No condition but bounds on how many conditions there are.
-/
import Derived.Test.YtccphigpobnjmaaShVisit
namespace Go.Proofs.Ytccphigpobnjmaa
set_option linter.unusedVariables false
open Go.RowKit Go.Shelf
attribute [local go_sem] Oper.semAt_some
theorem walk_any (a : Option Addr) (n c : Nat) (w : World) : Calls Try.prog 39 #[.slice a n c] w fun e w' => e = .returned (.func (.func 64) #[] #[.pointer (some ⟨w.heap.size, 0, none⟩)]) ∧ w' = w.alloc (.cells #[.slice a n c] 22) := by
  go_enter Try.func39, Try.ntmps39
  go_wp2
  go_ret
  exact ⟨rfl, rfl⟩
/-- What a loop over walk asks of its words: base is the heap's size where the loop begins. -/
structure LoopI (O : World → Nat → Prop) (G : World → Prop) (w0 : World) (base : Nat) (I : List Xc → World → Prop) : Prop where
  own : OwnFrom base I
  set : ∀ pre X a v, I pre X → base ≤ a.block → ¬ O X a.block → I pre (X.setCell a v)
  good : ∀ pre X, I pre X → G X
  low : ∀ pre X, I pre X → Below w0.heap.size w0 X
  base : ∀ pre X, I pre X → base ≤ X.heap.size
theorem walk_free {O : World → Nat → Prop} {G : World → Prop} {w0 : World} {base : Nat} (hO : Owns O G w0.heap.size) (hbase : w0.heap.size ≤ base) {A : Option Addr} {cs : List Co} {cap Bt : Nat} (hz : sizeL cs ≤ 500000) (hA : CondsAt w0 A cs) {w : World}
    (hBt : w.heap[Bt]? = some (.cells #[.slice A cs.length cap] 22 (0, 0))) {I : List Xc → World → Prop} {Ix : Code → List Xc → World → Prop} (hI : LoopI O G w0 base I) (h0 : I [] w) (n : Nat) :
    SeqFree (β := List Xc × World) Fence.wide n Try.prog 64 #[.pointer (some ⟨Bt, 0, none⟩)] encX (fun W1 => Below w.heap.size w W1)
      (fun b x W => (∃ r, flatL cs 0 0 = b.1 ++ x :: r) ∧ I b.1 W ∧ KV O G w0.heap.size b.2 W ∧ G b.2) (fun b x W => I (b.1 ++ [x]) W ∧ KV O G w0.heap.size b.2 W ∧ G b.2) (fun W => I (flatL cs 0 0) W)
      (fun b c W => (∃ x r, flatL cs 0 0 = b.1 ++ x :: r ∧ Ix c (b.1 ++ [x]) W) ∧ KV O G w0.heap.size b.2 W ∧ G b.2) (fun c W => ∃ pre x r, flatL cs 0 0 = pre ++ x :: r ∧ Ix c (pre ++ [x]) W) := by
  intro l W1 Bk Bx hst hBk hBx hb hY
  have hkb : ∀ {X Y : World}, Below X.heap.size X Y → KeepsOthers X Y := fun h => ⟨h.size, fun k o hk _ => (h.block k (heap_lt hk)).trans hk⟩
  have hgrow : ∀ pre X Y, I pre X → Below X.heap.size X Y → I pre Y := fun pre X Y h hb => hI.own pre X Y none h (Below.grownN hb) (by simp)
  have h1 : I [] W1 := hgrow _ _ _ h0 hst
  have hv := visit_in (base := base) hO (w0 := w0) rfl hbase l (J := fun pre W => I pre W ∧ Bk W) (JX := fun W => ∃ c, (∃ pre x r, flatL cs 0 0 = pre ++ x :: r ∧ Ix c (pre ++ [x]) W) ∧ Bx c W)
    ⟨fun pre X Y h hb => ⟨hgrow pre X Y h.1 hb, hBk X Y (hkb hb) h.2⟩, fun pre X a v h ha hn => ⟨hI.set pre X a v h.1 ha hn, hBk _ _ (KeepsOthers.setCell X a v) h.2⟩, fun pre X h => hI.good pre X h.1, fun pre X h => hI.low pre X h.1, fun pre X h => hI.base pre X h.1⟩
    (flatL cs 0 0) (fun m pre x r W hx hj => YieldAt.mono (hY m (pre, W) x W ⟨⟨r, hx⟩, hj.1, KV.refl _ _ _ _, hI.good _ _ hj.1⟩ hj.2) (by
      rintro e W' (⟨he, ⟨j1, j2, -⟩, j3⟩ | ⟨he, c, ⟨⟨x', r', e1, j1⟩, j2, -⟩, j3⟩)
      · exact ⟨j2, .inl ⟨he, j1, j3⟩⟩
      · exact ⟨j2, .inr ⟨he, c, ⟨_, _, _, e1, j1⟩, j3⟩⟩)) cs (n - 1) 0 0 [] [] A cap W1 (by simp) (by omega) (by omega) hA ⟨h1, hb⟩
  have hv2 := hv.mono (R' := fun e W' => (∃ v u, e = .returned (.tuple #[v, u])) ∧ Hid ((I (flatL cs 0 0) W' ∧ Bk W') ∨ ∃ c, (∃ pre x r, flatL cs 0 0 = pre ++ x :: r ∧ Ix c (pre ++ [x]) W') ∧ Bx c W')) (by
    rintro e W' (⟨he, j1, -⟩ | ⟨⟨v, he⟩, j⟩)
    · exact ⟨⟨_, _, he⟩, .inl j1⟩
    · exact ⟨⟨_, _, he⟩, .inr j⟩)
  have c0 : W1.cell? ⟨Bt, 0, none⟩ = some (.slice A cs.length cap) := by rw [cells_of ((hst.block _ (heap_lt hBt)).trans hBt)]; rfl
  have HV := Lib.hid hv2
  clear hv hv2 hY h1 hb hBx hBk hst h0 hBt hA
  simp only [List.append_toArray, List.cons_append, List.nil_append]
  refine callsIn_of_wp Try.func64 rfl trivial ?_ rfl
  simp only [Try.ntmps64, List.size_toArray, List.length_cons, List.length_nil, Nat.reduceAdd, Nat.reduceSub, Array.replicate_succ, Array.replicate_zero, List.push_toArray, List.append_toArray, List.nil_append, List.cons_append]
  gi_wp2_with ((try refine ⟨trivial, fun h => (by cases h), ?_⟩); refine HV.out.mono ?_; rintro e W2 ⟨⟨v, u, rfl⟩, h2⟩)
  go_end0
  exact ⟨⟨_, rfl⟩, h2.out⟩
theorem wpIn_walk {n : Nat} {g : Operand} {ps : Array Tmp} {assign body : Code} {Q : Exit → Act → World → Prop} {a : Act} {w w0 : World} {Bt : Nat} (hg : a.eval g = .func (.func 64) #[] #[.pointer (some ⟨Bt, 0, none⟩)])
    {O : World → Nat → Prop} {G : World → Prop} (hO : Owns O G w0.heap.size) {A : Option Addr} {cs : List Co} {cap : Nat} (hz : sizeL cs ≤ 500000) (hA : CondsAt w0 A cs) (hBt : w.heap[Bt]? = some (.cells #[.slice A cs.length cap] 22 (0, 0))) (hps : ps.size = 2)
    (I : List Xc → World → Prop) (Ix : Code → List Xc → World → Prop) (hI : LoopI O G w0 w.heap.size I) (hIx : ∀ c, OwnFrom w.heap.size (Ix c)) (h0 : I [] w) (Ax : Xc → Act → World → Prop) (hAx : ∀ x a', OwnFrom w.heap.size (fun (_ : Unit) W => Ax x a' W))
    (hassign : ∀ (l : Nat) (pre r : List Xc) (x : Xc) (W : World) (K : Act → World → Prop), flatL cs 0 0 = pre ++ x :: r → I pre W → (∀ a' W', KeepsFrom w.heap.size W W' → Below W.heap.size W W' → Ax x a' W' → K a' W') →
      assign.wpIn (Fence.wide.inRound l) (n - 1 - 1) Try.prog (Exit.then K (fun _ _ _ => False)) { tmps := (ps.zip (encX x)).foldl (fun t (p, v) => t.setIfInBounds p v) a.tmps, defers := [] } W)
    (hbody : ∀ (l : Nat) (pre r : List Xc) (x : Xc) (a' : Act) (W : World), w.heap.size ≤ l → (∃ rec, W.heap[l]? = some (.loop rec)) → flatL cs 0 0 = pre ++ x :: r → I pre W → Ax x a' W →
      body.wpIn (Fence.wide.inRound l) (n - 1 - 1) Try.prog (ownPostG w.heap.size (KV O G w0.heap.size) I (fun c ys W' => Ix c ys W' ∧ KV O G w0.heap.size W W') (pre ++ [x]) W) a' W)
    (hdone : ∀ (D : Nat) (W : World), w.heap.size ≤ D → I (flatL cs 0 0) W → W.heap[D]? = some (.deferred (some [])) → Q .normal { a with defers := { target := .collected D, args := #[] } :: a.defers } W)
    (hstop : ∀ (D : Nat) (c : Code) (pre r : List Xc) (x : Xc) (W : World), w.heap.size ≤ D → flatL cs 0 0 = pre ++ x :: r → Ix c (pre ++ [x]) W → W.heap[D]? = some (.deferred (some [])) → c.wpIn Fence.wide n Try.prog Q { a with defers := { target := .collected D, args := #[] } :: a.defers } W) :
    (Code.rangeFunc g ps assign body).wpIn Fence.wide n Try.prog Q a w := by
  have hb0 : w0.heap.size ≤ w.heap.size := (hI.low _ _ h0).size
  have up : ∀ {X : World} {row : Option Nat}, (∀ r, row = some r → w.heap.size ≤ r ∧ ∃ o : Obj, X.heap[r]? = some o ∧ o.isCells = false) → (∀ r, row = some r → w0.heap.size ≤ r ∧ ∃ o : Obj, X.heap[r]? = some o ∧ o.isCells = false) :=
    fun hr r e => ⟨by have := (hr r e).1; omega, (hr r e).2⟩
  have kv : ∀ {B X Y : World} {row : Option Nat}, KV O G w0.heap.size B X → G B → X.grownBy Y row → (∀ r, row = some r → w.heap.size ≤ r ∧ ∃ o : Obj, X.heap[r]? = some o ∧ o.isCells = false) → KV O G w0.heap.size B Y :=
    fun h hG hg hr => h.trans (KV.ofGrown hO (h.good hG) hg (up hr))
  refine wpIn_rangeFunc_free2 (β := List Xc × World) rfl rfl hg trivial (enters_of Try.func64 (by kernel_rfl) rfl) (walk_free hO hb0 hz hA hBt hI (Ix := Ix) h0 (n - 1)) (fun _ => by rw [hps]; rfl) (fun _ h => h)
    (fun s X Y row h hg hr => ⟨h.1, hI.own _ X Y row h.2.1 hg hr, kv h.2.2.1 h.2.2.2 hg hr, h.2.2.2⟩) (fun s X Y row h hg hr => ⟨hI.own _ X Y row h.1 hg hr, kv h.2.1 h.2.2 hg hr, h.2.2⟩)
    (fun s X Y row h hg hr => hI.own _ X Y row h hg hr) (fun b s X Y row h hg hr => ⟨let ⟨x, r, e, hx⟩ := h.1; ⟨x, r, e, hIx _ _ X Y row hx hg hr⟩, kv h.2.1 h.2.2 hg hr, h.2.2⟩) (fun s X Y row h hg hr => let ⟨pre, x, r, e, hx⟩ := h; ⟨pre, x, r, e, hIx _ _ X Y row hx hg hr⟩)
    (fun b x a' W => ((∃ r, flatL cs 0 0 = b.1 ++ x :: r) ∧ I b.1 W ∧ KV O G w0.heap.size b.2 W ∧ G b.2) ∧ Ax x a' W)
    (fun b x a' s X Y row h hg hr => ⟨⟨h.1.1, hI.own _ X Y row h.1.2.1 hg hr, kv h.1.2.2.1 h.1.2.2.2 hg hr, h.1.2.2.2⟩, hAx x a' () X Y row h.2 hg hr⟩) ?_ ?_ hdone (fun D c W hD ⟨pre, x, r, e, hx⟩ hK => hstop D c pre r x W hD e hx hK)
  · rintro l b x W K ⟨⟨r, e⟩, h1, h2, h3⟩ hK
    exact hassign l b.1 r x W K e h1 fun a' W' hk hb hx => hK a' W' hk ⟨⟨⟨r, e⟩, hI.own _ W W' none h1 (Below.grownN hb) (by simp), h2.trans (KV.ofBelow hO (h2.good h3) hb), h3⟩, hx⟩
  · rintro l b x a' W hl hr ⟨⟨⟨r, e⟩, h1, h2, h3⟩, hx⟩
    refine wpIn_mono (hbody l b.1 r x a' W hl hr e h1 hx) fun ex a2 W2 hp => ?_
    cases ex with
    | normal => exact ⟨hp.1, trivial, hp.2.2, h2.trans hp.2.1, h3⟩
    | ret => exact ⟨hp.1, ⟨x, r, e, hp.2.1⟩, h2.trans hp.2.2, h3⟩
    | exit id => exact ⟨hp.1, ⟨x, r, e, hp.2.1⟩, h2.trans hp.2.2, h3⟩
    | goto t => exact ⟨hp.1, ⟨x, r, e, hp.2.1⟩, h2.trans hp.2.2, h3⟩
    | panic ch => exact hp.elim
    | outgrown => exact hp.elim
end Go.Proofs.Ytccphigpobnjmaa
