/-
  The state of a loop that takes out of a queue: the queue, blocks that stay as they are, a variable that collects. First over Drain.
-/
import Derived.Test.YthieabhemiikhaaRowDrain
namespace Go.Proofs.Ythieabhemiikhaa
set_option linter.unusedVariables false
open Go.RowKit Go.Shelf
attribute [local go_sem] Oper.semAt_some
def Q1 (w : World) (q room : Nat) (fx : List (Nat × Obj)) (ys : List Int) (W : World) : Prop :=
  ∃ vq, Below w.heap.size w W ∧ QI W q vq room (ys.map VI) ∧ (∀ g, vq.ownBlock = some g → w.heap.size ≤ g) ∧ ∀ p ∈ fx, W.heap[p.1]? = some p.2 ∧ p.2.isCells = true ∧ p.1 ≠ q ∧ vq.ownBlock ≠ some p.1
def St (w : World) (q B room : Nat) (fx : List (Nat × Obj)) (ys : List Int) (vg : Value) (gs : List Int) (W : World) : Prop :=
  ∃ vq, Below w.heap.size w W ∧ QI W q vq room (ys.map VI) ∧ Boxed W B 28 vg ∧ OffRow W 3 vg (gs.map VI) ∧ (∀ g, vq.ownBlock = some g → w.heap.size ≤ g ∧ vg.ownBlock ≠ some g) ∧ (∀ g, vg.ownBlock = some g → w.heap.size ≤ g) ∧
    ∀ p ∈ fx, W.heap[p.1]? = some p.2 ∧ p.2.isCells = true ∧ p.1 ≠ q ∧ p.1 ≠ B ∧ vq.ownBlock ≠ some p.1 ∧ vg.ownBlock ≠ some p.1
theorem Q1.below {w : World} {q room : Nat} {fx : List (Nat × Obj)} {ys : List Int} {W : World} (h : Q1 w q room fx ys W) : Below w.heap.size w W := by obtain ⟨vq, h1, -⟩ := h; exact h1
theorem Q1.alloc {w : World} {q room : Nat} {fx : List (Nat × Obj)} {ys : List Int} {W W' : World} (h : Q1 w q room fx ys W) (hb : Below W.heap.size W W') : Q1 w q room fx ys W' := by
  obtain ⟨vq, h1, h2, h3, h4⟩ := h
  exact ⟨vq, h1.trans (hb.mono h1.size), h2.mono hb, h3, fun p hp => ⟨(hb.block _ (heap_lt (h4 p hp).1)).trans (h4 p hp).1, (h4 p hp).2⟩⟩
theorem Q1.len {w : World} {q room : Nat} {fx : List (Nat × Obj)} {ys : List Int} {W : World} (h : Q1 w q room fx ys W) :
    Calls Try.prog 15 #[.pointer (some ⟨q, 0, none⟩)] W fun e w' => e = .returned (.int .i64 ys.length) ∧ W = w' := by
  obtain ⟨vq, h1, h2, -⟩ := h
  have := len_anyI W _ _ _ _ h2
  rwa [List.length_map] at this
theorem Q1.fixed {w : World} {q room : Nat} {fx : List (Nat × Obj)} {ys : List Int} {W : World} (h : Q1 w q room fx ys W) {b : Nat} {o : Obj} (hp : (b, o) ∈ fx) : W.heap[b]? = some o := by
  obtain ⟨vq, -, -, -, h4⟩ := h; exact (h4 _ hp).1
theorem St.fixed {w : World} {q B room : Nat} {fx : List (Nat × Obj)} {ys : List Int} {vg : Value} {gs : List Int} {W : World} (h : St w q B room fx ys vg gs W) {b : Nat} {o : Obj} (hp : (b, o) ∈ fx) : W.heap[b]? = some o := by
  obtain ⟨vq, -, -, -, -, -, -, h4⟩ := h; exact (h4 _ hp).1
/-- One block more that stays. -/
theorem Q1.more {w : World} {q room : Nat} {fx : List (Nat × Obj)} {ys : List Int} {W0 W : World} (h0 : Q1 w q room fx ys W0) {b : Nat} {o : Obj} (ho : W.heap[b]? = some o) (hc : o.isCells = true) (hb : Below W0.heap.size W0 W) (hge : W0.heap.size ≤ b) : Q1 w q room ((b, o) :: fx) ys W := by
  obtain ⟨vq, h1, h2, h3, h4⟩ := h0.alloc hb
  obtain ⟨vq0, g1, g2, g3, g4⟩ := h0
  have hvq : vq = vq0 := by
    have e1 := (hb.block _ g2.lt).trans g2.1
    have := h2.1.symm.trans e1
    simp at this; exact this
  refine ⟨vq, h1, h2, h3, fun p hp => ?_⟩
  rcases List.mem_cons.1 hp with rfl | hp
  · exact ⟨ho, hc, by have := g2.lt; simp only; omega, fun e => by rw [hvq] at e; have := g2.2.lt e; simp only at this; omega⟩
  · exact h4 p hp
theorem St.below {w : World} {q B room : Nat} {fx : List (Nat × Obj)} {ys : List Int} {vg : Value} {gs : List Int} {W : World} (h : St w q B room fx ys vg gs W) : Below w.heap.size w W := by obtain ⟨vq, h1, -⟩ := h; exact h1
theorem St.q1 {w : World} {q B room : Nat} {fx : List (Nat × Obj)} {ys : List Int} {vg : Value} {gs : List Int} {W : World} (h : St w q B room fx ys vg gs W) : Q1 w q room fx ys W := by
  obtain ⟨vq, h1, h2, h3, h4, h5, h6, h7⟩ := h
  exact ⟨vq, h1, h2, fun g hg => (h5 g hg).1, fun p hp => ⟨(h7 p hp).1, (h7 p hp).2.1, (h7 p hp).2.2.1, (h7 p hp).2.2.2.2.1⟩⟩
theorem St.new {w : World} {q B room : Nat} {fx : List (Nat × Obj)} {ys : List Int} {W : World} (h : Q1 w q room fx ys W) (hB : Boxed W B 28 (.slice none 0 0)) (hne : ∀ p ∈ fx, p.1 ≠ B) : St w q B room fx ys (.slice none 0 0) [] W := by
  obtain ⟨vq, h1, h2, h3, h4⟩ := h
  exact ⟨vq, h1, h2, hB, OffRow.nil _ _, fun g hg => ⟨h3 g hg, by simp [Value.ownBlock]⟩, by simp [Value.ownBlock], fun p hp => ⟨(h4 p hp).1, (h4 p hp).2.1, (h4 p hp).2.2.1, hne p hp, (h4 p hp).2.2.2, by simp [Value.ownBlock]⟩⟩
theorem St.alloc {w : World} {q B room : Nat} {fx : List (Nat × Obj)} {ys : List Int} {vg : Value} {gs : List Int} {W W' : World} (h : St w q B room fx ys vg gs W) (hb : Below W.heap.size W W') : St w q B room fx ys vg gs W' := by
  obtain ⟨vq, h1, h2, h3, h4, h5, h6, h7⟩ := h
  exact ⟨vq, h1.trans (hb.mono h1.size), h2.mono hb, (hb.block _ h3.lt).trans h3, h4.mono hb, h5, h6, fun p hp => ⟨(hb.block _ (heap_lt (h7 p hp).1)).trans (h7 p hp).1, (h7 p hp).2⟩⟩
theorem St.own {β : Type} (w : World) (q B room : Nat) (fx : List (Nat × Obj)) (R : β → List Int → Value → List Int → Prop) {N : Nat} (hN : w.heap.size ≤ N) : OwnFrom N (fun (s : β) W => ∃ ys vg gs, R s ys vg gs ∧ St w q B room fx ys vg gs W) := by
  rintro s X Y row ⟨ys, vg, gs, hR, vq, h1, h2, h3, h4, h5, h6, h7⟩ hg hrow
  have hr : ∀ r, row = some r → ∃ o : Obj, X.heap[r]? = some o ∧ o.isCells = false := fun r e => (hrow r e).2
  exact ⟨ys, vg, gs, hR, vq, h1.grown hg h1.size (fun k e => Nat.le_trans hN (hrow k e).1), ⟨kept_blk h2.1 hg hr, h2.2.own hg hr⟩, kept_blk h3 hg hr, h4.own hg hr, h5, h6, fun p hp => ⟨(grownBy_keeps_cells hg hr (h7 p hp).1 (h7 p hp).2.1).trans (h7 p hp).1, (h7 p hp).2⟩⟩
/-- Behind a call that writes the queue alone. -/
theorem St.turned {w : World} {q B room : Nat} {fx : List (Nat × Obj)} {ys : List Int} {vg : Value} {gs : List Int} {W W' : World} (h : St w q B room fx ys vg gs W) (hqw : w.heap.size ≤ q) {vq v' : Value} {zs : List Value} {ys' : List Int} (hQ : QI W q vq room zs)
    (p1 : QI W' q v' room (ys'.map VI)) (p2 : Touch (Own2 q vq) W W') (p3 : Kin W vq v') : St w q B room fx ys' vg gs W' := by
  obtain ⟨vq0, h1, h2, h3, h4, h5, h6, h7⟩ := h
  have hvq : vq0 = vq := by
    have := h2.1.symm.trans hQ.1
    simp at this; exact this
  subst hvq
  have hB : ¬ Own2 q vq0 B := by
    rintro (rfl | hk)
    · have := h3.symm.trans h2.1; simp at this
    · obtain ⟨cur, hcur⟩ := h2.2.typed hk
      have := h3.symm.trans hcur; simp at this
  have hgn : ∀ g, vg.ownBlock = some g → ¬ Own2 q vq0 g := by
    rintro g hg (rfl | hk)
    · exact h4.ne h2.1 (by decide) hg rfl
    · exact (h5 g hk).2 hg
  refine ⟨v', h1.trans (p2.below h1.size (fun k _ hk => ?_)), p1, (p2.block _ h3.lt hB).trans h3, h4.but p2 hgn, fun g hg => ?_, h6, fun p hp => ?_⟩
  · rcases hk with rfl | hk
    · exact hqw
    · exact (h5 k hk).1
  · rcases p3 with p3 | p3 | ⟨g', p3, p4⟩
    · exact h5 g (by rw [← p3]; exact hg)
    · rw [p3] at hg; cases hg
    · rw [p3] at hg; cases hg
      exact ⟨Nat.le_trans h1.size p4, fun e => by have := h4.lt e; omega⟩
  · obtain ⟨f1, f2, f3, f4, f5, f6⟩ := h7 p hp
    refine ⟨(p2.block _ (heap_lt f1) ?_).trans f1, f2, f3, f4, ?_, f6⟩
    · rintro (hk | hk)
      · exact f3 hk
      · exact f5 hk
    · rcases p3 with p3 | p3 | ⟨g', p3, p4⟩
      · rw [p3]; exact f5
      · rw [p3]; simp
      · rw [p3]; intro e; cases e; have := heap_lt f1; omega
theorem St.push {w : World} {q B room : Nat} {fx : List (Nat × Obj)} {ys : List Int} {vg : Value} {gs : List Int} {W : World} (h : St w q B room fx ys vg gs W) (hqw : w.heap.size ≤ q) (hc : ys.length + 1 ≤ room) (hr2 : room ≤ 65536) (y : Int) :
    Calls Try.prog 12 #[.pointer (some ⟨q, 0, none⟩), .slice (some ⟨W.heap.size, 0, none⟩) 1 1] (W.alloc (.cells #[.int .i64 y] 3)) fun e W' => e = .returned (.bool true) ∧ Hid (St w q B room fx (ys ++ [y]) vg gs W' ∧ KeepsOthers W W') := by
  have hA : Below W.heap.size W (W.alloc (.cells #[.int .i64 y] 3)) := (Below.refl _ _).alloc (Nat.le_refl _) _
  have h' := h.alloc hA
  obtain ⟨vq, h1, h2, -⟩ := id h'
  have hr : Reads (W.alloc (.cells #[.int .i64 y] 3)) (.slice (some ⟨W.heap.size, 0, none⟩) 1 1) [.int .i64 y] := by
    refine ⟨_, 1, rfl, by simp, by simp [maxLen], .inr ⟨W.heap.size, 0, rfl, by simp, ?_⟩⟩
    intro j hj
    rw [cells_of (new_at rfl)]
    have : j = 0 := by simpa using hj
    subst this; rfl
  refine (push_okI _ q vq room _ h2 _ _ hr (by simp [Value.oneCell']) (by simp; omega) hr2).mono ?_
  rintro e W' ⟨rfl, v', p1, p2, p3⟩
  exact ⟨rfl, h'.turned hqw h2 (by rw [List.map_append]; exact p1) p2 p3, (KeepsOthers.alloc W _).trans (touch_others p2 (own2_cells h2))⟩
/-- 'got = append(got, x)'. -/
theorem St.step {w : World} {q B room : Nat} {fx : List (Nat × Obj)} {ys : List Int} {vg : Value} {gs : List Int} {W : World} (h : St w q B room fx ys vg gs W) (hB : w.heap.size ≤ B) (x : Int) :
    W.cell? ⟨B, 0, none⟩ = some vg ∧ OffRow W 3 vg (gs.map VI) ∧ ∀ v' w1, Grew (W.alloc (.cells #[.int .i64 x] 3)) 3 vg (gs.map VI ++ [VI x]) v' w1 →
      w1.cell? ⟨B, 0, none⟩ = some vg ∧ w1.frozen? ⟨B, 0, none⟩ = false ∧ (∃ a c, v' = .slice a (gs.length + 1) c) ∧ (w1.setCell ⟨B, 0, none⟩ v').cell? ⟨B, 0, none⟩ = some v' ∧ (∀ p ∈ fx, (w1.setCell ⟨B, 0, none⟩ v').heap[p.1]? = some p.2) ∧
      Hid (KeepsOthers W (w1.setCell ⟨B, 0, none⟩ v') ∧ St w q B room fx ys v' (gs ++ [x]) (w1.setCell ⟨B, 0, none⟩ v')) := by
  obtain ⟨vq, h1, h2, h5, h6, h7, h8, h9⟩ := h
  refine ⟨h5.cell, h6, fun v' w1 hg => ?_⟩
  obtain ⟨hv1, ⟨v2, e1, e2, e3⟩, k1, -, -, ht⟩ := BoxRow.step h5 h6 h8 hB h1.size hg
  have hv' : v2 = v' := by
    have := (hv1.set v').symm.trans e1
    simpa using this.symm
  subst hv'
  have hA : Below W.heap.size W (W.alloc (.cells #[.int .i64 x] 3)) := (Below.refl _ _).alloc (Nat.le_refl _) _
  have hf : ∃ a c, v2 = .slice a (gs.length + 1) c := by
    rcases hg.1 with ⟨_, h0⟩ | ⟨g, off, cap, q1, -⟩
    · simp at h0
    · exact ⟨some ⟨g, off, none⟩, cap, by rw [q1]; simp⟩
  have hnq : ¬ (q = B ∨ vg.ownBlock = some q) := by
    rintro (rfl | hk)
    · have := h5.symm.trans h2.1; simp at this
    · exact h6.ne h2.1 (by decide) hk rfl
  have hnv : ∀ g, vq.ownBlock = some g → ¬ (g = B ∨ vg.ownBlock = some g) := by
    rintro g hg (rfl | hk)
    · exact h2.2.ne h5 (by decide) hg rfl
    · exact (h7 g hg).2 hk
  have hown : ∀ g, v2.ownBlock = some g → vg.ownBlock = some g ∨ W.heap.size ≤ g := by
    intro g hgg
    rcases hg.2.2.1 with g3 | ⟨g', g3, g4⟩
    · exact .inl (by rw [← g3]; exact hgg)
    · rw [g3] at hgg; cases hgg; exact .inr (Nat.le_trans hA.size g4)
  have hfx : ∀ p ∈ fx, (w1.setCell ⟨B, 0, none⟩ v2).heap[p.1]? = some p.2 := fun p hp => (ht.block _ (heap_lt (h9 p hp).1) (fun hh => by
    rcases hh with hh | hh
    · exact (h9 p hp).2.2.2.1 hh
    · exact (h9 p hp).2.2.2.2.2 hh)).trans (h9 p hp).1
  refine ⟨hv1.cell, hv1.frozen, hf, e1.cell, hfx, k1, vq, h1.trans (ht.below h1.size (fun b _ hb => ?_)), h2.but ht hnq hnv, e1, e2, fun g hgg => ⟨(h7 g hgg).1, fun e => ?_⟩, e3, fun p hp => ?_⟩
  · rcases hb with rfl | hb
    · exact hB
    · exact h8 _ hb
  · rcases hown g e with h | h
    · exact (h7 g hgg).2 h
    · have := h2.2.lt hgg; omega
  · obtain ⟨f1, f2, f3, f4, f5, f6⟩ := h9 p hp
    refine ⟨hfx p hp, f2, f3, f4, f5, fun e => ?_⟩
    rcases hown _ e with h | h
    · exact f6 h
    · have := heap_lt f1; omega
theorem Q1.list {w : World} {q room : Nat} {fx : List (Nat × Obj)} {ys : List Int} {W : World} (h : Q1 w q room fx ys W) {Bt : Nat} (hBt : W.heap[Bt]? = some (.cells #[.pointer (some ⟨q, 0, none⟩)] 23 (0, 0))) (hn : ys.length ≤ 1000000) :
    Calls Try.prog 17 #[.func (.func 30) #[] #[.pointer (some ⟨Bt, 0, none⟩)]] W fun e W' => ∃ v, e = .returned v ∧ OffRow W' 3 v (ys.map VI) ∧ Below W.heap.size W W' := by
  obtain ⟨vq, h1, h2, -⟩ := h
  exact (list_all W Bt q vq room ys hn hBt h2).mono (fun e W' ⟨v, he, hf⟩ => ⟨v, he, hf.1, hf.2.1⟩)
def FirstOut (w : World) (q B room : Nat) (fx : List (Nat × Obj)) (ys gs : List Int) (e : Ending) (W' : World) : Prop := ∃ v, e = .returned v ∧ Q1 w q room fx ys W' ∧ OffRow W' 3 v (gs.map VI) ∧ ∀ g, v.ownBlock = some g → w.heap.size ≤ g
theorem St.out {w : World} {q B room : Nat} {fx : List (Nat × Obj)} {ys : List Int} {vg : Value} {gs : List Int} {W : World} (h : St w q B room fx ys vg gs W) {D : Nat} (hD : w.heap.size ≤ D) (o' : Obj) {o : Obj} (hK : W.heap[D]? = some o) (hc : o.isCells = false) {fx' : List (Nat × Obj)} (hfx : ∀ p ∈ fx', p ∈ fx) :
    FirstOut w q B room fx' ys gs (.returned vg) (W.putObj D o') := by
  have hr : ∀ r, some D = some r → D ≤ r ∧ ∃ o : Obj, W.heap[r]? = some o ∧ o.isCells = false := fun r e => by cases e; exact ⟨Nat.le_refl _, _, hK, hc⟩
  obtain ⟨ys', vg', gs', ⟨rfl, rfl, rfl⟩, h2⟩ := St.own (β := Unit) w q B room fx (fun _ a b c => a = ys ∧ b = vg ∧ c = gs) hD () W _ (some D) ⟨_, _, _, ⟨rfl, rfl, rfl⟩, h⟩ (grownBy_putObj' W D o') hr
  obtain ⟨vq, e1, e2, e3, e4⟩ := h2.q1
  obtain ⟨vq2, -, -, -, h6, -, h8, -⟩ := h2
  exact ⟨_, rfl, ⟨vq, e1, e2, e3, fun p hp => e4 p (hfx p hp)⟩, h6, h8⟩
set_option maxRecDepth 100000 in
set_option maxHeartbeats 8000000 in
theorem first_drain_pos (w V : World) (q room Bt : Nat) (fx : List (Nat × Obj)) (zs : List Int) (hlen : zs.length ≤ 100) (hqw : w.heap.size ≤ q) (h : Q1 w q room fx zs V) (hBt : (Bt, Obj.cells #[.pointer (some ⟨q, 0, none⟩)] 23 (0, 0)) ∈ fx) (k : Nat) (hk : 1 ≤ k) (hk2 : k ≤ 100) :
    Calls Try.prog 20 #[.func (.func 32) #[] #[.pointer (some ⟨Bt, 0, none⟩)], .int .i64 k] V (FirstOut w q (V.heap.size + 1) room fx (zs.drop k) (zs.take k)) := by
  obtain ⟨i0, hi, hz0, hz1, hz2⟩ := infoI'
  have hk1 : decide ((k : Int) < 1) = false := decide_eq_false (by omega)
  obtain ⟨W0, hW0⟩ : ∃ W0, W0 = (V.alloc (.cells #[.int .i64 k] 3)).alloc (.cells #[.slice none 0 0] 28) := ⟨_, rfl⟩
  obtain ⟨N, hN⟩ : ∃ N, N = V.heap.size := ⟨_, rfl⟩
  have bA : Below V.heap.size V W0 := by rw [hW0]; exact ((Below.refl V.heap.size V).alloc (Nat.le_refl _) _).alloc (by simp) _
  have bO : Boxed W0 (N + 1) 28 (.slice none 0 0) := by rw [hW0, hN]; exact new_at (by simp)
  have bN : W0.heap[N]? = some (.cells #[.int .i64 k] 3 (0, 0)) := by rw [hW0, hN]; exact (Below.heap_alloc _ _ _ (by simp)).trans (new_at rfl)
  have z0 : W0.heap.size = N + 2 := by rw [hW0, hN]; simp
  have hwN : w.heap.size ≤ N := by rw [hN]; exact h.below.size
  have hfn : ∀ p ∈ fx, p.1 < N := fun p hp => by rw [hN]; obtain ⟨vq, -, -, -, h4⟩ := h; exact heap_lt (h4 p hp).1
  have hq0 := Q1.more (fx := fx) h (b := N) bN rfl bA (by omega)
  have hst0 : St w q (N + 1) room ((N, Obj.cells #[.int .i64 k] 3 (0, 0)) :: fx) zs (.slice none 0 0) [] W0 := St.new hq0 bO (fun p hp => by
    rcases List.mem_cons.1 hp with rfl | hp
    · simp
    · have := hfn p hp; omega)
  obtain ⟨FX, hFX⟩ : ∃ FX, FX = (N, Obj.cells #[.int .i64 k] 3 (0, 0)) :: fx := ⟨_, rfl⟩
  rw [← hFX] at hst0
  have hin : (N, Obj.cells #[.int .i64 k] 3 (0, 0)) ∈ FX := by rw [hFX]; simp
  have hiB : (Bt, Obj.cells #[.pointer (some ⟨q, 0, none⟩)] 23 (0, 0)) ∈ FX := by rw [hFX]; simp [hBt]
  have hsub : ∀ p ∈ fx, p ∈ FX := by rw [hFX]; intro p hp; simp [hp]
  have hseq := drain_free 2 q Bt room (fun m W => ∃ ys vg gs, (gs ++ ys = zs ∧ ys.length = m ∧ gs.length < k) ∧ St w q (N + 1) room FX ys vg gs W) (fun W => Below W0.heap.size W0 W)
    (fun m x W => ∃ ys vg gs, (gs ++ x :: ys = zs ∧ ys.length = m ∧ gs.length < k) ∧ St w q (N + 1) room FX ys vg gs W)
    (fun m _ W => ∃ ys vg gs, (gs ++ ys = zs ∧ ys.length = m ∧ gs.length < k) ∧ St w q (N + 1) room FX ys vg gs W)
    (fun W => ∃ ys vg gs, (ys = [] ∧ gs = zs ∧ zs.length < k) ∧ St w q (N + 1) room FX ys vg gs W)
    (fun c W => ∃ ys vg gs, (c = .exit 0 ∧ ys = zs.drop k ∧ gs = zs.take k) ∧ St w q (N + 1) room FX ys vg gs W)
    (fun W hb => ⟨_, zs, _, [], ⟨rfl, rfl, by simp; omega⟩, hst0.alloc hb⟩) (fun m x W h => h)
    (fun m W ⟨ys, vg, gs, ⟨e1, e2, e3⟩, hs⟩ => by
      obtain ⟨vq, s1, s2, -⟩ := id hs
      refine ⟨vq, ys, s2, hs.fixed hiB, ?_⟩
      cases ys with
      | nil =>
        have hz : gs = zs := by simpa using e1
        exact .inl ⟨rfl, fun W' hb => ⟨[], vg, gs, ⟨rfl, hz, by rw [← hz]; exact e3⟩, hs.alloc hb⟩⟩
      | cons x ys => exact .inr ⟨x, ys, ys.length, rfl, by simpa using e2.symm, fun W' v' p1 p2 p3 => ⟨ys, vg, gs, ⟨e1, rfl, e3⟩, hs.turned hqw s2 p1 p2 p3⟩⟩)
  have HSQ := Lib.hid hseq
  have HW0 := Lib.hid hW0
  have HN := Lib.hid hN
  have Z0 := Lib.hid z0
  have HIN := Lib.hid hin
  have HSUB := Lib.hid hsub
  have HF := Lib.hid hfn
  clear hseq hW0 z0 hFX hin hiB hsub hfn hst0 hq0 bN bO bA h hBt hN
  have hef := eql_func_nilI (.func 32) #[] #[.pointer (some ⟨Bt, 0, none⟩)]
  refine callsIn_wide.1 (callsIn_of_wp_marks (n := 3) Try.func20 rfl trivial ?_ rfl)
  simp only [Try.ntmps20, List.size_toArray, List.length_cons, List.length_nil, Nat.reduceAdd, Nat.reduceSub, Array.replicate_succ, Array.replicate_zero, List.push_toArray, List.append_toArray, List.nil_append, List.cons_append]
  gi_wp2
  rw [← HW0.out, ← HN.out]
  have hwW : w.heap.size ≤ W0.heap.size := by have := Z0.out; omega
  have HWW := Lib.hid hwW
  refine wpIn_rangeFunc_free rfl rfl (gf := 32) (lb := #[.pointer (some ⟨Bt, 0, none⟩)]) rfl trivial (enters_of Try.func32 (by kernel_rfl) rfl) HSQ.out (fun _ => rfl)
    (fun W1 hb => hb)
    (St.own w q (N + 1) room FX (fun (s : Nat × Int) ys vg gs => gs ++ s.2 :: ys = zs ∧ ys.length = s.1 ∧ gs.length < k) hwW)
    (St.own w q (N + 1) room FX (fun (s : Nat × Int) ys vg gs => gs ++ ys = zs ∧ ys.length = s.1 ∧ gs.length < k) hwW)
    (St.own w q (N + 1) room FX (fun (s : Unit) ys vg gs => ys = [] ∧ gs = zs ∧ zs.length < k) hwW)
    (fun b => St.own w q (N + 1) room FX (fun (c : Code) ys vg gs => c = .exit 0 ∧ ys = zs.drop k ∧ gs = zs.take k) hwW)
    (St.own w q (N + 1) room FX (fun (c : Code) ys vg gs => c = .exit 0 ∧ ys = zs.drop k ∧ gs = zs.take k) hwW)
    (fun x => { tmps := #[.func (.func 32) #[] #[.pointer (some ⟨Bt, 0, none⟩)], .int .i64 k, undef, .pointer (some ⟨N, 0, none⟩), .slice none 0 0, .pointer (some ⟨N + 1, 0, none⟩), .int .i64 x, .func (.func 32) #[] #[.pointer (some ⟨Bt, 0, none⟩)], .bool false, .bool false, .int .i64 k, .bool false, .bool false, .func (.func 32) #[] #[.pointer (some ⟨Bt, 0, none⟩)], .int .i64 x, undef, undef, undef, undef, undef, undef, undef, undef, undef], defers := [] }) ?assign ?body ?done ?stop
  case assign =>
    intro l x W K hK
    gi_wp2
    exact hK
  case body =>
    rintro l m x W ⟨ys, vg, gs, ⟨h1, h2, h3⟩, hs⟩
    obtain ⟨cB, hrow, hstep⟩ := hs.step (by omega) x
    have hnc : W.cell? ⟨N, 0, none⟩ = some (.int .i64 k) := by rw [cells_of (hs.fixed HIN.out)]; rfl
    have hstep' : ∀ v' w1, Grew (W.alloc (.cells #[.int .i64 x] 3)) 3 vg (gs.map VI ++ [VI x]) v' w1 → w1.cell? ⟨N + 1, 0, none⟩ = some vg ∧ w1.frozen? ⟨N + 1, 0, none⟩ = false ∧ (∃ a c, v' = .slice a (gs.length + 1) c) ∧ (w1.setCell ⟨N + 1, 0, none⟩ v').cell? ⟨N + 1, 0, none⟩ = some v' ∧ (w1.setCell ⟨N + 1, 0, none⟩ v').cell? ⟨N, 0, none⟩ = some (.int .i64 k) ∧ Hid (KeepsOthers W (w1.setCell ⟨N + 1, 0, none⟩ v') ∧ St w q (N + 1) room FX ys v' (gs ++ [x]) (w1.setCell ⟨N + 1, 0, none⟩ v')) := fun v' w1 hg => by
      obtain ⟨a1, a2, a3, a4, a5, a6⟩ := hstep v' w1 hg
      exact ⟨a1, a2, a3, a4, by rw [cells_of (a5 _ HIN.out)]; rfl, a6⟩
    have hgl : gs.length ≤ 100 := by omega
    have HS := Lib.hid hstep'
    have HR := Lib.hid hrow
    have H1 := Lib.hid h1
    have H2 := Lib.hid h2
    clear hstep hstep' hrow hs h1 h2
    by_cases hlast : gs.length + 1 = k
    · have hge : (k : Int) ≤ ((gs.length : Int) + 1) := by omega
      have HL := Lib.hid hlast
      clear hlast
      gi_wp2_with (gi_at_builtin; refine wpListIn_append_off _ rfl _ _ 28 28 rfl (e := 3) (i := i0) (z := .int .i64 0) (bytes := 8) Try.underlying28 hi hz0 hz1 hz2 rfl rfl (HR.out.mono ((Below.refl _ _).alloc (Nat.le_refl _) _)) _ [VI x] rfl (one_src W x) (by unfold maxLen; simp; omega) (by simp; omega) ?_; intro v' w1 hg; obtain ⟨e1, e2, ⟨a', c', rfl⟩, e3, e4, HE⟩ := HS.out _ _ hg; clear hg)
      obtain ⟨f1, f2⟩ := HE.out
      have hz : (gs ++ [x]) ++ ys = zs := by simpa using H1.out
      have hgk : (gs ++ [x]).length = k := by simpa using HL.out
      refine ⟨f1.from _, ys, _, gs ++ [x], ⟨rfl, ?_, ?_⟩, f2⟩
      · rw [← hz, List.drop_append_of_le_length (by omega), List.drop_of_length_le (by omega), List.nil_append]
      · rw [← hz, List.take_append_of_le_length (by omega), List.take_of_length_le (by omega)]
    · have hge : ¬ (k : Int) ≤ ((gs.length : Int) + 1) := by omega
      have HL := Lib.hid hlast
      clear hlast
      gi_wp2_with (gi_at_builtin; refine wpListIn_append_off _ rfl _ _ 28 28 rfl (e := 3) (i := i0) (z := .int .i64 0) (bytes := 8) Try.underlying28 hi hz0 hz1 hz2 rfl rfl (HR.out.mono ((Below.refl _ _).alloc (Nat.le_refl _) _)) _ [VI x] rfl (one_src W x) (by unfold maxLen; simp; omega) (by simp; omega) ?_; intro v' w1 hg; obtain ⟨e1, e2, ⟨a', c', rfl⟩, e3, e4, HE⟩ := HS.out _ _ hg; clear hg)
      obtain ⟨f1, f2⟩ := HE.out
      exact ⟨f1.from _, trivial, ys, _, gs ++ [x], ⟨by simpa using H1.out, H2.out, by have := HL.out; simp; omega⟩, f2⟩
  case done =>
    rintro D W hD ⟨ys, vg, gs, ⟨rfl, rfl, hlt⟩, hs⟩ hK
    have hc : W.cell? ⟨N + 1, 0, none⟩ = some vg := (hs.step (by omega) 0).1
    have hout := hs.out (show w.heap.size ≤ D by have := HWW.out; omega) (.deferred none) hK rfl HSUB.out
    have HO := Lib.hid hout
    have HKD := Lib.hid hK
    clear hs hout hK
    gi_wp2
    refine ⟨by simp, .inl ⟨_, _, rfl, run_takeDeferred HKD.out, ?_⟩⟩
    rw [List.take_of_length_le (by omega), List.drop_of_length_le (by omega)]
    exact ⟨_, results_tmp (t := 4) rfl _ _ _, HO.out⟩
  case stop =>
    rintro D c W hD ⟨ys, vg, gs, ⟨rfl, rfl, rfl⟩, hs⟩ hK
    have hc : W.cell? ⟨N + 1, 0, none⟩ = some vg := (hs.step (by omega) 0).1
    have hout := hs.out (show w.heap.size ≤ D by have := HWW.out; omega) (.deferred none) hK rfl HSUB.out
    have HO := Lib.hid hout
    have HKD := Lib.hid hK
    clear hs hout hK
    gi_wp2
    refine ⟨by simp, .inl ⟨_, _, rfl, run_takeDeferred HKD.out, ?_⟩⟩
    exact ⟨_, results_tmp (t := 4) rfl _ _ _, HO.out⟩
theorem first_drain (w V : World) (q room Bt : Nat) (fx : List (Nat × Obj)) (zs : List Int) (hlen : zs.length ≤ 100) (hqw : w.heap.size ≤ q) (h : Q1 w q room fx zs V) (hBt : (Bt, Obj.cells #[.pointer (some ⟨q, 0, none⟩)] 23 (0, 0)) ∈ fx) (k : Nat) (hk2 : k ≤ 100) :
    Calls Try.prog 20 #[.func (.func 32) #[] #[.pointer (some ⟨Bt, 0, none⟩)], .int .i64 k] V (FirstOut w q (V.heap.size + 1) room fx (zs.drop k) (zs.take k)) := by
  by_cases h0 : k = 0
  · subst h0
    refine (first_zero _ _ _ 0 (by omega) V).mono ?_
    rintro e W' ⟨v, rfl, f1, f2, f3⟩
    exact ⟨v, rfl, h.alloc f2, f1, fun g hg => Nat.le_trans h.below.size (f3 g hg)⟩
  · exact first_drain_pos w V q room Bt fx zs hlen hqw h hBt k (by omega) hk2
end Go.Proofs.Ythieabhemiikhaa
