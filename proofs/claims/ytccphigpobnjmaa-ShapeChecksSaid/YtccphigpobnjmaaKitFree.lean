/-
  A range over an iterator that has a state of its own, whose body's variables are laid anew in each round: the caller's words are told at three places. No condition.
-/
import Derived.RangeFuncNested
import Derived.RangeFuncBound
import Derived.Sort.LoopGhostIn
import Derived.Test.YtccphigpobnjmaaKitOver
namespace Go.Proofs.Ytccphigpobnjmaa
set_option linter.unusedVariables false
open Go.RowKit Go.Shelf
/-- The iterator's contract, from a world that has Start: at each yield Jy, behind a round that goes on Jr; Bk and Bx are the loop's own books. -/
def SeqFree {α β : Type} (F : Fence) (n : Nat) (P : Program) (g : Nat) (lb : Array Value) (encs : α → Array Value) (Start : World → Prop) (Jy Jr : β → α → World → Prop) (JD : World → Prop) (Jx : β → Code → World → Prop) (JX : Code → World → Prop) : Prop :=
  ∀ (l : Nat) (W1 : World) (Bk : World → Prop) (Bx : Code → World → Prop), Start W1 → (∀ X Y, KeepsOthers X Y → Bk X → Bk Y) → (∀ c X Y, KeepsOthers X Y → Bx c X → Bx c Y) → Bk W1 →
    (∀ m b x W, Jy b x W → Bk W → YieldAt F m P l (encs x) W fun e W' => (e = .returned (.bool true) ∧ Jr b x W' ∧ Bk W') ∨ (e = .returned (.bool false) ∧ ∃ c, Jx b c W' ∧ Bx c W')) →
    CallsIn F n P g (#[.func (.yield l) #[] #[]] ++ lb) W1 fun e W' => (∃ v, e = .returned v) ∧ ((JD W' ∧ Bk W') ∨ ∃ c, JX c W' ∧ Bx c W')
/-- What the body of a round leaves. -/
abbrev FreePost {α β : Type} (B : Nat) (Jr : β → α → World → Prop) (Jx : β → Code → World → Prop) (b : β) (x : α) (W : World) : Exit → Act → World → Prop :=
  ownPostG B (fun _ _ => True) (fun (_ : List Unit) W' => Jr b x W') (fun c _ W' => Jx b c W') [] W
theorem wpIn_rangeFunc_free2 {F : Fence} {n : Nat} {P : Program} {α β : Type} {g : Operand} {ps : Array Tmp} {assign body : Code} {Q : Exit → Act → World → Prop} {a : Act} {w : World}
    (hd : F.depth = none) (hro : F.round = none) {gf : Nat} {lb : Array Value} (hg : a.eval g = .func (.func gf) #[] lb) (hFg : F.fn gf) (eg : ∀ args w, (callFunc gf args).run P w = .ok (.enter gf args) w)
    {encs : α → Array Value} {Start : World → Prop} {Jy Jr : β → α → World → Prop} {JD : World → Prop} {Jx : β → Code → World → Prop} {JX : Code → World → Prop} (hseq : SeqFree F (n - 1) P gf lb encs Start Jy Jr JD Jx JX) (hps : ∀ x, (encs x).size = ps.size)
    (hst : ∀ W1, Below w.heap.size w W1 → Start W1)
    (oy : OwnFrom w.heap.size (fun (s : β × α) W => Jy s.1 s.2 W)) (og : OwnFrom w.heap.size (fun (s : β × α) W => Jr s.1 s.2 W)) (od : OwnFrom w.heap.size (fun (_ : Unit) W => JD W)) (ox : ∀ b, OwnFrom w.heap.size (Jx b)) (oX : OwnFrom w.heap.size JX)
    (Jz : β → α → Act → World → Prop) (oz : ∀ b x a', OwnFrom w.heap.size (fun (_ : Unit) W => Jz b x a' W))
    (hassign : ∀ (l : Nat) (b : β) (x : α) (W : World) (K : Act → World → Prop), Jy b x W → (∀ a' W', KeepsFrom w.heap.size W W' → Jz b x a' W' → K a' W') →
      assign.wpIn (F.inRound l) (n - 1 - 1) P (Exit.then K (fun _ _ _ => False)) { tmps := (ps.zip (encs x)).foldl (fun t (p, v) => t.setIfInBounds p v) a.tmps, defers := [] } W)
    (hbody : ∀ (l : Nat) (b : β) (x : α) (a' : Act) (W : World), w.heap.size ≤ l → (∃ r, W.heap[l]? = some (.loop r)) → Jz b x a' W → body.wpIn (F.inRound l) (n - 1 - 1) P (FreePost w.heap.size Jr Jx b x W) a' W)
    (hdone : ∀ (D : Nat) (W : World), w.heap.size ≤ D → JD W → W.heap[D]? = some (.deferred (some [])) → Q .normal { a with defers := { target := .collected D, args := #[] } :: a.defers } W)
    (hstop : ∀ (D : Nat) (c : Code) (W : World), w.heap.size ≤ D → JX c W → W.heap[D]? = some (.deferred (some [])) → c.wpIn F n P Q { a with defers := { target := .collected D, args := #[] } :: a.defers } W) :
    (Code.rangeFunc g ps assign body).wpIn F n P Q a w := by
  refine wpIn_rangeFunc fun fn hfn => ?_
  rw [hro]
  -- the loop's books: its record lies at L, the rounds' deferred calls at w's end
  obtain ⟨L, hL⟩ : ∃ L, L = w.heap.size + 1 := ⟨_, rfl⟩
  obtain ⟨mk, hmk⟩ : ∃ mk : LoopState → Option Code → Obj, ∀ s j, mk s j = .loop { state := s, pending := j, fn, tmps := a.tmps, params := ps, assign, body, defers := w.heap.size } := ⟨_, fun _ _ => rfl⟩
  obtain ⟨V, hV⟩ : ∃ V, V = (w.alloc (.deferred (some []))).alloc (mk .ready none) := ⟨_, rfl⟩
  have bV : Below w.heap.size w V := by rw [hV]; exact ((Below.refl w.heap.size w).alloc (Nat.le_refl _) _).alloc (by simp) _
  have vL : V.heap[L]? = some (mk .ready none) := by rw [hV, hL]; exact new_at (by simp)
  have vD : V.heap[w.heap.size]? = some (.deferred (some [])) := by rw [hV]; exact (Below.heap_alloc _ _ _ (by simp)).trans (new_at rfl)
  have hDL : w.heap.size ≠ L := by omega
  have nc : ∀ s j, (mk s j).isCells = false := fun s j => by rw [hmk]; rfl
  have hput : ∀ (W : World) (o : Obj) (s : LoopState) (j : Option Code), W.heap[L]? = some o → W.heap[w.heap.size]? = some (.deferred (some [])) →
      (W.putObj L (mk s j)).heap[L]? = some (mk s j) ∧ (W.putObj L (mk s j)).heap[w.heap.size]? = some (.deferred (some [])) := fun W o s j h1 h2 =>
    ⟨World.putObj_heap_same (heap_lt h1), (World.putObj_heap_other hDL).trans h2⟩
  refine ⟨L, [{ target := .collected w.heap.size, args := #[] }], V, { target := .fn (.func gf) lb, args := #[.func (.yield L) #[] #[]] }, V, gf, #[.func (.yield L) #[] #[]] ++ lb, V, ?_, ?_, ?_, ?_, fun h => (by rw [hd] at h; cases h), ?_⟩
  · rw [hV, hL, hmk]; exact run_enterLoop_outer _ _ _ _ _
  · simp only [resolve, hg]; simp [go_sem]
  · intro f' hf'; simp [Target.leads] at hf'; subst hf'; exact hFg
  · simp [invoke, go_sem, eg]
  · refine (hseq L V (fun W => W.heap[L]? = some (mk .ready none) ∧ W.heap[w.heap.size]? = some (.deferred (some []))) (fun c W => W.heap[L]? = some (mk .done (some c)) ∧ W.heap[w.heap.size]? = some (.deferred (some [])))
      (hst V bV) (fun X Y h k => ⟨h.same _ _ k.1 (nc _ _), h.same _ _ k.2 rfl⟩) (fun c X Y h k => ⟨h.same _ _ k.1 (nc _ _), h.same _ _ k.2 rfl⟩) ⟨vL, vD⟩ ?_).mono ?_
    · -- one round
      rintro m b x W hj ⟨k1, k2⟩
      have hy := run_yield (P := P) (args := encs x) (by rw [← hmk]; exact k1) (hps x)
      refine YieldAt.anyD hd (m := n - 1 - 1) ⟨fn, _, assign, body, hy, roundIn_of_wpIn hfn (hassign L b x W _ hj fun a' Wa hkf hz => ?_)⟩
      have k1 := hkf.same _ _ (by omega) k1 (nc _ _)
      have k2 := hkf.same _ _ (Nat.le_refl _) k2 rfl
      refine ⟨_, run_beginRound (by rw [← hmk]; exact k1) rfl, ?_⟩
      obtain ⟨p1, p2⟩ := hput Wa _ .busy none k1 k2
      rw [← hmk]
      refine wpIn_mono (hbody L b x a' _ (by omega) ⟨_, by rw [p1, hmk]⟩ ((oz b x a').putObj (s := ()) _ hz (by omega) k1 (nc _ _))) fun e a3 W3 hp => ?_
      have leave : ∀ (j : Option Code), KeepsFrom w.heap.size (Wa.putObj L (mk .busy none)) W3 →
          (Instr.endRound L j).run P W3 = .ok (.bool j.isNone) (W3.putObj L (mk (if j.isNone then .ready else .done) j)) ∧ W3.heap[L]? = some (mk .busy none) ∧ W3.heap[w.heap.size]? = some (.deferred (some [])) := fun j hk => by
        have q1 := hk.same _ _ (by omega) p1 (nc _ _)
        refine ⟨?_, q1, hk.same _ _ (Nat.le_refl _) p2 rfl⟩
        rw [hmk] at q1 ⊢
        exact run_endRound j q1
      have jumps : ∀ c, KeepsFrom w.heap.size (Wa.putObj L (mk .busy none)) W3 → Jx b c W3 →
          (Instr.endRound L (some c)).run P W3 = .ok (.bool false) (W3.putObj L (mk .done (some c))) ∧ Jx b c (W3.putObj L (mk .done (some c))) ∧ (W3.putObj L (mk .done (some c))).heap[L]? = some (mk .done (some c)) ∧ (W3.putObj L (mk .done (some c))).heap[w.heap.size]? = some (.deferred (some [])) := fun c hk hx => by
        obtain ⟨r1, r2, r3⟩ := leave (some c) hk
        exact ⟨r1, (ox b).putObj _ hx (by omega) r2 (nc _ _), hput W3 _ .done (some c) r2 r3⟩
      cases e with
      | normal =>
        obtain ⟨hk, -, hr⟩ := hp
        obtain ⟨r1, r2, r3⟩ := leave none hk
        exact ⟨_, _, r1, .inl ⟨rfl, og.putObj (s := (b, x)) _ hr (by omega) r2 (nc _ _), hput W3 _ .ready none r2 r3⟩⟩
      | ret =>
        obtain ⟨r1, r2, r3⟩ := jumps _ hp.1 hp.2
        exact ⟨_, _, r1, .inr ⟨rfl, _, r2, r3⟩⟩
      | exit id =>
        obtain ⟨r1, r2, r3⟩ := jumps _ hp.1 hp.2
        exact ⟨_, _, r1, .inr ⟨rfl, _, r2, r3⟩⟩
      | goto t =>
        obtain ⟨r1, r2, r3⟩ := jumps _ hp.1 hp.2
        exact ⟨_, _, r1, .inr ⟨rfl, _, r2, r3⟩⟩
      | panic ch => exact hp.elim
      | outgrown => exact hp.elim
    · -- behind the iterator
      rintro e W2 ⟨⟨v, rfl⟩, (⟨hj, k1, k2⟩ | ⟨c, hx, k1, k2⟩)⟩
      · refine ⟨none, _, run_endLoop (by rw [← hmk]; exact k1) (by simp), ?_⟩
        exact hdone _ _ (Nat.le_refl _) (od.putObj (s := ()) _ hj (by omega) k1 (nc _ _)) ((World.putObj_heap_other hDL).trans k2)
      · refine ⟨some c, _, run_endLoop (by rw [← hmk]; exact k1) (by simp), ?_⟩
        exact hstop _ c _ (Nat.le_refl _) (oX.putObj _ hx (by omega) k1 (nc _ _)) ((World.putObj_heap_other hDL).trans k2)
end Go.Proofs.Ytccphigpobnjmaa
