/-
  Iterators over iterators: the caller's word abides what a loop within the iterator does with its own records. No condition.
-/
import Derived.RangeFuncNested
import Derived.RangeFuncBound
import Derived.Test.YtccphigpobnjmaaKitSeq
namespace Go.Proofs.Ytccphigpobnjmaa
set_option linter.unusedVariables false
open Go.RowKit Go.Shelf
/-- An iterator's contract, where the caller's words abide changes of whatever was laid later and holds no cells; R: what is known of an element that is yielded behind others. -/
def SeqOver {α : Type} (F : Fence) (n : Nat) (P : Program) (g : Nat) (lb : Array Value) (encs : α → Array Value) (Kp : World → World → Prop) (S Sp : List α → Prop) (R : List α → α → Prop) (w : World) : Prop :=
  ∀ (l : Nat) (J Jx : List α → World → Prop) (W : World), Below w.heap.size w W → OwnFrom W.heap.size J → OwnFrom W.heap.size Jx →
    (∀ m pre x W1, J pre W1 → R pre x → YieldAt F m P l (encs x) W1 fun e W' => KeepsFrom W.heap.size W1 W' ∧ ((e = .returned (.bool true) ∧ J (pre ++ [x]) W' ∧ Kp W1 W') ∨ (e = .returned (.bool false) ∧ Jx (pre ++ [x]) W'))) →
    J [] W → CallsIn F n P g (#[.func (.yield l) #[] #[]] ++ lb) W fun e W' => (∃ v, e = .returned v) ∧ ((∃ xs, S xs ∧ J xs W') ∨ (∃ pre, Sp pre ∧ Jx pre W'))
theorem OwnFrom.abides {β : Type} {B : Nat} {J : β → World → Prop} (h : OwnFrom B J) : AbidesFrom B J := fun s W W' row hs hg hr =>
  h s W W' row hs hg fun r e => let ⟨h1, o, h2, h3⟩ := hr r e; ⟨h1, o, h2, Obj.not_cells_of_walk h3⟩
theorem OwnFrom.up {β : Type} {B C : Nat} {J : β → World → Prop} (h : OwnFrom B J) (hB : B ≤ C) : OwnFrom C J := fun s W W' row hs hg hr =>
  h s W W' row hs hg fun r e => let ⟨h1, h2⟩ := hr r e; ⟨Nat.le_trans hB h1, h2⟩
theorem keepsFrom_up {B C : Nat} {X Y : World} (h : KeepsFrom B X Y) (hB : B ≤ C) : KeepsFrom C X Y := ⟨h.size, fun k o hk => h.same k o (Nat.le_trans hB hk)⟩
theorem keepsFrom_put {C L : Nat} (X : World) (o : Obj) (h : L < C) : KeepsFrom C X (X.putObj L o) := ⟨by simp, fun k o' hk hx _ => (World.putObj_heap_other (by omega)).trans hx⟩
theorem SeqStopsK.over {α : Type} {F : Fence} {n : Nat} {P : Program} {g : Nat} {lb : Array Value} {encs : α → Array Value} {Kp : World → World → Prop} {S Sp : List α → Prop} {N : Nat} {w : World}
    (h : SeqStopsK F n P g lb encs Kp S Sp N w) : SeqOver F n P g lb encs Kp S Sp (fun pre _ => pre.length < N) w := fun l J Jx W hW hJ hJx hY h0 =>
  h l J Jx W hW (OwnFrom.abides hJ) (OwnFrom.abides hJx) (fun pre x W1 h1 h2 => YieldAt.mono (hY _ pre x W1 h1 h2) fun _ _ h => h.2) h0
theorem YieldAt.anyD {F : Fence} (hd : F.depth = none) {m m' : Nat} {P : Program} {l : Nat} {args : Array Value} {W : World} {R : Ending → World → Prop} (h : YieldAt F m P l args W R) : YieldAt F m' P l args W R := by
  obtain ⟨fn, tmps, assign, body, hy, h1, h2⟩ := h
  exact ⟨fn, tmps, assign, body, hy, h1, fun c cs _ => h2 c cs (fun d h => by rw [hd] at h; cases h)⟩
theorem wpIn_rangeFunc_over {F : Fence} {n : Nat} {P : Program} {α : Type} {g : Operand} {ps : Array Tmp} {assign body : Code} {Q : Exit → Act → World → Prop} {a : Act} {w : World}
    (hd : F.depth = none) (hro : F.round = none) {gf : Nat} {lb : Array Value} (hg : a.eval g = .func (.func gf) #[] lb) (hFg : F.fn gf) (eg : ∀ args w, (callFunc gf args).run P w = .ok (.enter gf args) w)
    {encs : α → Array Value} {Kp : World → World → Prop} {S Sp : List α → Prop} {R : List α → α → Prop} {w0 : World} (hseq : SeqOver F (n - 1) P gf lb encs Kp S Sp R w0)
    (hKt : ∀ {A B C : World}, Kp A B → Kp B C → Kp A C) (hKb : ∀ (W : World) (l : Nat) (o o' : Obj), w.heap.size ≤ l → W.heap[l]? = some o → o.isCells = false → o.isWalk = false → Kp W (W.putObj l o')) (hb0 : Below w0.heap.size w0 w) (hps : ∀ x, (encs x).size = ps.size)
    (I : List α → World → Prop) (Ix : Code → List α → World → Prop) (hI : OwnFrom w.heap.size I) (hIx : ∀ c, OwnFrom w.heap.size (Ix c)) (h0 : I [] w) (Ax : α → Act → World → Prop) (hAx : ∀ x a', OwnFrom w.heap.size (fun (_ : Unit) W => Ax x a' W))
    (hassign : ∀ (l : Nat) (pre : List α) (x : α) (W : World) (K : Act → World → Prop), I pre W → (∀ a' W', KeepsFrom w.heap.size W W' → Kp W W' → I pre W' → Ax x a' W' → K a' W') →
      assign.wpIn (F.inRound l) (n - 1 - 1) P (Exit.then K (fun _ _ _ => False)) { tmps := (ps.zip (encs x)).foldl (fun t (p, v) => t.setIfInBounds p v) a.tmps, defers := [] } W)
    (hbody : ∀ (l : Nat) (pre : List α) (x : α) (a' : Act) (W : World), w.heap.size ≤ l → (∃ r, W.heap[l]? = some (.loop r)) → I pre W → Ax x a' W → R pre x → body.wpIn (F.inRound l) (n - 1 - 1) P (ownPostG w.heap.size Kp I Ix (pre ++ [x]) W) a' W)
    (hdone : ∀ (D : Nat) (xs : List α) (W : World), w.heap.size ≤ D → S xs → I xs W → W.heap[D]? = some (.deferred (some [])) → Q .normal { a with defers := { target := .collected D, args := #[] } :: a.defers } W)
    (hstop : ∀ (D : Nat) (c : Code) (pre : List α) (W : World), w.heap.size ≤ D → Sp pre → Ix c pre W → W.heap[D]? = some (.deferred (some [])) → c.wpIn F n P Q { a with defers := { target := .collected D, args := #[] } :: a.defers } W) :
    (Code.rangeFunc g ps assign body).wpIn F n P Q a w := by
  refine wpIn_rangeFunc fun fn hfn => ?_
  rw [hro]
  obtain ⟨L, hL⟩ : ∃ L, L = w.heap.size + 1 := ⟨_, rfl⟩
  obtain ⟨mk, hmk⟩ : ∃ mk : LoopState → Option Code → Obj, ∀ s j, mk s j = .loop { state := s, pending := j, fn, tmps := a.tmps, params := ps, assign, body, defers := w.heap.size } := ⟨_, fun _ _ => rfl⟩
  obtain ⟨V, hV⟩ : ∃ V, V = (w.alloc (.deferred (some []))).alloc (mk .ready none) := ⟨_, rfl⟩
  have bV : Below w.heap.size w V := by rw [hV]; exact ((Below.refl w.heap.size w).alloc (Nat.le_refl _) _).alloc (by simp) _
  have vL : V.heap[L]? = some (mk .ready none) := by rw [hV, hL]; exact new_at (by simp)
  have vD : V.heap[w.heap.size]? = some (.deferred (some [])) := by rw [hV]; exact (Below.heap_alloc _ _ _ (by simp)).trans (new_at rfl)
  have vI : I [] V := by rw [hV]; exact hI.alloc _ (hI.alloc _ h0)
  have hDL : w.heap.size ≠ L := by omega
  have hLV : L < V.heap.size := heap_lt vL
  have nc : ∀ s j, (mk s j).isCells = false := fun s j => by rw [hmk]; rfl
  have nw : ∀ s j, (mk s j).isWalk = false := fun s j => by rw [hmk]; rfl
  have hput : ∀ (W : World) (o : Obj) (s : LoopState) (j : Option Code), W.heap[L]? = some o → W.heap[w.heap.size]? = some (.deferred (some [])) →
      (W.putObj L (mk s j)).heap[L]? = some (mk s j) ∧ (W.putObj L (mk s j)).heap[w.heap.size]? = some (.deferred (some [])) := fun W o s j h1 h2 =>
    ⟨World.putObj_heap_same (heap_lt h1), (World.putObj_heap_other hDL).trans h2⟩
  have far : ∀ (i : Nat) (o : Obj) (X Y : World) (row : Option Nat), i < V.heap.size → X.heap[i]? = some o → X.grownBy Y row → (∀ r, row = some r → V.heap.size ≤ r ∧ ∃ o : Obj, X.heap[r]? = some o ∧ o.isCells = false) → Y.heap[i]? = some o :=
    fun i o X Y row hi hx hg hr => (hg.block i (heap_lt hx) (fun e => by have := (hr i e.symm).1; omega)).trans hx
  have up : ∀ {X : World} {row : Option Nat}, (∀ r, row = some r → V.heap.size ≤ r ∧ ∃ o : Obj, X.heap[r]? = some o ∧ o.isCells = false) → (∀ r, row = some r → w.heap.size ≤ r ∧ ∃ o : Obj, X.heap[r]? = some o ∧ o.isCells = false) :=
    fun hr r e => ⟨by have := (hr r e).1; omega, (hr r e).2⟩
  refine ⟨L, [{ target := .collected w.heap.size, args := #[] }], V, { target := .fn (.func gf) lb, args := #[.func (.yield L) #[] #[]] }, V, gf, #[.func (.yield L) #[] #[]] ++ lb, V, ?_, ?_, ?_, ?_, fun h => (by rw [hd] at h; cases h), ?_⟩
  · rw [hV, hL, hmk]; exact run_enterLoop_outer _ _ _ _ _
  · simp only [resolve, hg]; simp [go_sem]
  · intro f' hf'; simp [Target.leads] at hf'; subst hf'; exact hFg
  · simp [invoke, go_sem, eg]
  · refine (hseq L (fun pre W => I pre W ∧ W.heap[L]? = some (mk .ready none) ∧ W.heap[w.heap.size]? = some (.deferred (some []))) (fun pre W => ∃ c, Ix c pre W ∧ W.heap[L]? = some (mk .done (some c)) ∧ W.heap[w.heap.size]? = some (.deferred (some [])))
      V (hb0.trans (bV.mono hb0.size)) (fun s X Y row h hg' hr => ⟨hI s X Y row h.1 hg' (up hr), far _ _ X Y row hLV h.2.1 hg' hr, far _ _ X Y row (by omega) h.2.2 hg' hr⟩)
      (fun s X Y row h hg' hr => let ⟨c, h1, h2, h3⟩ := h; ⟨c, hIx c s X Y row h1 hg' (up hr), far _ _ X Y row hLV h2 hg' hr, far _ _ X Y row (by omega) h3 hg' hr⟩) ?_ ⟨vI, vL, vD⟩).mono ?_
    · rintro m pre x W ⟨hj, k1, k2⟩ hlen
      have hy := run_yield (P := P) (args := encs x) (by rw [← hmk]; exact k1) (hps x)
      refine YieldAt.anyD hd (m := n - 1 - 1) ⟨fn, _, assign, body, hy, roundIn_of_wpIn hfn (hassign L pre x W _ hj fun a' Wa hkf hkp hja hax => ?_)⟩
      have k1 := hkf.same _ _ (by omega) k1 (nc _ _)
      have k2 := hkf.same _ _ (Nat.le_refl _) k2 rfl
      refine ⟨_, run_beginRound (by rw [← hmk]; exact k1) rfl, ?_⟩
      obtain ⟨p1, p2⟩ := hput Wa _ .busy none k1 k2
      rw [← hmk]
      have q0 := hKb Wa L _ (mk .busy none) (by omega) k1 (nc _ _) (nw _ _)
      have keep : ∀ (o o2 : Obj) (W3 : World), KeepsFrom w.heap.size (Wa.putObj L o) W3 → KeepsFrom V.heap.size W (W3.putObj L o2) := fun o o2 W3 hk =>
        ((keepsFrom_up hkf (by omega)).trans (keepsFrom_put Wa o hLV)).trans ((keepsFrom_up hk (by omega)).trans (keepsFrom_put W3 o2 hLV))
      refine wpIn_mono (hbody L pre x a' _ (by omega) ⟨_, by rw [p1, hmk]⟩ (hI.putObj _ hja (by omega) k1 (nc _ _)) ((hAx x a').putObj (s := ()) _ hax (by omega) k1 (nc _ _)) hlen) fun e a3 W3 hp => ?_
      have leave : ∀ (j : Option Code), KeepsFrom w.heap.size (Wa.putObj L (mk .busy none)) W3 →
          (Instr.endRound L j).run P W3 = .ok (.bool j.isNone) (W3.putObj L (mk (if j.isNone then .ready else .done) j)) ∧ W3.heap[L]? = some (mk .busy none) ∧ W3.heap[w.heap.size]? = some (.deferred (some [])) := fun j hk => by
        have q1 := hk.same _ _ (by omega) p1 (nc _ _)
        refine ⟨?_, q1, hk.same _ _ (Nat.le_refl _) p2 rfl⟩
        rw [hmk] at q1 ⊢
        exact run_endRound j q1
      have jumps : ∀ c, KeepsFrom w.heap.size (Wa.putObj L (mk .busy none)) W3 → Ix c (pre ++ [x]) W3 →
          (Instr.endRound L (some c)).run P W3 = .ok (.bool false) (W3.putObj L (mk .done (some c))) ∧ Ix c (pre ++ [x]) (W3.putObj L (mk .done (some c))) ∧ (W3.putObj L (mk .done (some c))).heap[L]? = some (mk .done (some c)) ∧ (W3.putObj L (mk .done (some c))).heap[w.heap.size]? = some (.deferred (some [])) := fun c hk hx => by
        obtain ⟨r1, r2, r3⟩ := leave (some c) hk
        exact ⟨r1, (hIx c).putObj _ hx (by omega) r2 (nc _ _), hput W3 _ .done (some c) r2 r3⟩
      cases e with
      | normal =>
        obtain ⟨hk, hkp3, hr⟩ := hp
        obtain ⟨r1, r2, r3⟩ := leave none hk
        exact ⟨_, _, r1, keep _ _ _ hk, .inl ⟨rfl, ⟨hI.putObj _ hr (by omega) r2 (nc _ _), hput W3 _ .ready none r2 r3⟩, hKt hkp (hKt (hKt q0 hkp3) (hKb W3 L _ _ (by omega) r2 (nc _ _) (nw _ _)))⟩⟩
      | ret =>
        obtain ⟨r1, r2, r3⟩ := jumps _ hp.1 hp.2
        exact ⟨_, _, r1, keep _ _ _ hp.1, .inr ⟨rfl, _, r2, r3⟩⟩
      | exit id =>
        obtain ⟨r1, r2, r3⟩ := jumps _ hp.1 hp.2
        exact ⟨_, _, r1, keep _ _ _ hp.1, .inr ⟨rfl, _, r2, r3⟩⟩
      | goto t =>
        obtain ⟨r1, r2, r3⟩ := jumps _ hp.1 hp.2
        exact ⟨_, _, r1, keep _ _ _ hp.1, .inr ⟨rfl, _, r2, r3⟩⟩
      | panic ch => exact hp.elim
      | outgrown => exact hp.elim
    · rintro e W2 ⟨⟨v, rfl⟩, (⟨xs, hS, hj, k1, k2⟩ | ⟨pre, hSp, c, hx, k1, k2⟩)⟩
      · refine ⟨none, _, run_endLoop (by rw [← hmk]; exact k1) (by simp), ?_⟩
        exact hdone _ xs _ (Nat.le_refl _) hS (hI.putObj _ hj (by omega) k1 (nc _ _)) ((World.putObj_heap_other hDL).trans k2)
      · refine ⟨some c, _, run_endLoop (by rw [← hmk]; exact k1) (by simp), ?_⟩
        exact hstop _ c pre _ (Nat.le_refl _) hSp ((hIx c).putObj _ hx (by omega) k1 (nc _ _)) ((World.putObj_heap_other hDL).trans k2)
end Go.Proofs.Ytccphigpobnjmaa
