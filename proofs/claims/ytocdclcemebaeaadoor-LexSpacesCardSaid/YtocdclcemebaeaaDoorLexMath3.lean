/-
  Plain lemmas: tokens written one behind the other. No condition.
-/
import Derived.Test.YtocdclcemebaeaaDoorLexMath
import Derived.Test.YtocdclcemebaeaaDoorLexMath2
namespace Go.Proofs.YtocdclcemebaeaaDoor
set_option linter.unusedVariables false
open Go.RowKit
theorem take_run (p : UInt8 → Bool) : ∀ l : List UInt8, (l.take (runL p l)).all p = true
  | [] => rfl
  | c :: r => by
    cases h : p c with
    | true =>
      rw [runL_cons_true r h, Nat.add_comm, List.take_succ_cons, List.all_cons, h, take_run p r]; rfl
    | false => rw [runL_cons_false r h]; rfl
theorem blank_cases {c : UInt8} (h : blankB c = true) : c = 32 ∨ c = 9 ∨ c = 10 ∨ c = 13 := by
  simp only [blankB, decide_eq_true_eq] at h
  rcases h with h | h | h | h
  · exact .inl (UInt8.toNat_inj.1 h)
  · exact .inr (.inl (UInt8.toNat_inj.1 h))
  · exact .inr (.inr (.inl (UInt8.toNat_inj.1 h)))
  · exact .inr (.inr (.inr (UInt8.toNat_inj.1 h)))
theorem blank_part {c : UInt8} (h : blankB c = true) : partB c = false := by
  rcases blank_cases h with rfl | rfl | rfl | rfl <;> decide
theorem blank_dig {c : UInt8} (h : blankB c = true) : digB c = false := by
  rcases blank_cases h with rfl | rfl | rfl | rfl <;> decide
theorem dig_not {c : UInt8} (h : digB c = true) : smallB c = false ∧ blankB c = false ∧ ¬ c.toNat = 35 ∧ c ≠ 45 := by
  simp only [digB, decide_eq_true_eq] at h
  refine ⟨by simp [smallB]; omega, by simp [blankB]; omega, by omega, fun e => ?_⟩
  subst e; exact absurd h (by decide)
theorem sign_alone (c : UInt8) (hc : blankB c = true) (q : List UInt8) : ∀ s ∈ signsL, gapL false (s ++ c :: q) = 0 ∧ cutL (s ++ c :: q) = (4, s.length) := by
  intro s hs
  unfold signsL at hs
  simp only [List.mem_cons, List.not_mem_nil, or_false] at hs
  rcases blank_cases hc with rfl | rfl | rfl | rfl <;> rcases hs with rfl | rfl | rfl | rfl | rfl | rfl | rfl | rfl | rfl | rfl | rfl | rfl | rfl | rfl | rfl | rfl | rfl | rfl | rfl | rfl <;> exact ⟨rfl, rfl⟩
theorem cut_alone (l : List UInt8) (h5 : (cutL l).1 ≠ 5) (h6 : (cutL l).1 ≠ 6) (c : UInt8) (hc : blankB c = true) (q : List UInt8) :
    gapL false (l.take (cutL l).2 ++ c :: q) = 0 ∧ cutL (l.take (cutL l).2 ++ c :: q) = ((cutL l).1, (l.take (cutL l).2).length) := by
  have hp := blank_part hc
  have hd := blank_dig hc
  unfold cutL at h5 h6
  by_cases h0 : l = []
  · rw [if_pos h0] at h5; exact absurd rfl h5
  rw [if_neg h0] at h5 h6
  by_cases h1 : wordN l ≠ 0
  · have e : cutL l = (1, wordN l) := by unfold cutL; rw [if_neg h0, if_pos h1]
    rw [e]
    cases l with
    | nil => exact absurd rfl h0
    | cons a r =>
      have hw : wordN (a :: r) = if smallB a then runL partB (a :: r) else 0 := rfl
      by_cases ha : smallB a = true
      · rw [if_pos ha] at hw
        have hal := take_run partB (a :: r)
        show gapL false ((a :: r).take (wordN (a :: r)) ++ c :: q) = 0 ∧ cutL ((a :: r).take (wordN (a :: r)) ++ c :: q) = (1, ((a :: r).take (wordN (a :: r))).length)
        rw [hw]
        have hpa := part_small ha
        rw [runL_cons_true r hpa, Nat.add_comm, List.take_succ_cons] at hal ⊢
        generalize r.take (runL partB r) = t at hal ⊢
        have hn : wordN ((a :: t) ++ c :: q) = (a :: t).length := by
          show (if smallB a then runL partB ((a :: t) ++ c :: q) else 0) = _
          rw [if_pos ha, runL_stop q hp hal]
        refine ⟨small_none _ ha, ?_⟩
        unfold cutL
        rw [if_neg (by simp), if_pos (by rw [hn]; simp), hn]
      · rw [hw, if_neg ha] at h1; exact absurd rfl h1
  rw [if_neg h1] at h5 h6
  by_cases h2 : numN l ≠ 0
  · have e : cutL l = (2, numN l) := by unfold cutL; rw [if_neg h0, if_neg h1, if_pos h2]
    rw [e]
    show gapL false (l.take (numN l) ++ c :: q) = 0 ∧ cutL (l.take (numN l) ++ c :: q) = (2, (l.take (numN l)).length)
    cases l with
    | nil => exact absurd rfl h0
    | cons a r =>
      by_cases ha : a = 45
      · subst ha
        have hn : numN (45 :: r) = if runL digB r = 0 then 0 else runL digB r + 1 := rfl
        by_cases hz : runL digB r = 0
        · rw [hn, if_pos hz] at h2; exact absurd rfl h2
        · rw [hn, if_neg hz, List.take_succ_cons]
          have hal := take_run digB r
          have hlen : (r.take (runL digB r)).length ≠ 0 := by rw [List.length_take]; have := runL_le digB r; omega
          generalize r.take (runL digB r) = t at hal hlen ⊢
          have hnum : numN ((45 :: t) ++ c :: q) = (45 :: t).length := by
            unfold numN
            rw [List.cons_append, List.head?_cons, if_pos rfl, List.tail_cons, runL_stop q hd hal, if_neg hlen]; rfl
          refine ⟨rfl, ?_⟩
          unfold cutL
          rw [if_neg (by simp), if_neg (by rw [show wordN ((45 :: t) ++ c :: q) = 0 from rfl]; simp), if_pos (by rw [hnum]; simp), hnum]
      · have hn : numN (a :: r) = runL digB (a :: r) := by unfold numN; rw [List.head?_cons, if_neg (by simpa using ha)]
        rw [hn] at h2 ⊢
        by_cases hda : digB a = true
        · have hal := take_run digB (a :: r)
          rw [runL_cons_true r hda, Nat.add_comm, List.take_succ_cons] at hal ⊢
          generalize r.take (runL digB r) = t at hal ⊢
          obtain ⟨d1, d2, d3, -⟩ := dig_not hda
          have hnum : numN ((a :: t) ++ c :: q) = (a :: t).length := by
            unfold numN
            rw [List.cons_append, List.head?_cons, if_neg (by simpa using ha), ← List.cons_append, runL_stop q hd hal]
          have hwz : wordN ((a :: t) ++ c :: q) = 0 := by
            show (if smallB a then _ else 0) = 0
            rw [d1]; rfl
          refine ⟨gap_none _ d2 d3, ?_⟩
          unfold cutL
          rw [if_neg (by simp), if_neg (by rw [hwz]; simp), if_pos (by rw [hnum]; simp), hnum]
        · rw [runL_cons_false r (by simpa using hda)] at h2; exact absurd rfl h2
  rw [if_neg h2] at h5 h6
  by_cases h3 : varN l ≠ 0
  · have e : cutL l = (3, varN l) := by unfold cutL; rw [if_neg h0, if_neg h1, if_neg h2, if_pos h3]
    rw [e]
    show gapL false (l.take (varN l) ++ c :: q) = 0 ∧ cutL (l.take (varN l) ++ c :: q) = (3, (l.take (varN l)).length)
    obtain ⟨r, m, rfl, hm, hmw, ev, ht, hlen⟩ := var_form h3
    have hp2 : (60 :: r).take (m + 2) = 60 :: (r.take m ++ [62]) := by rw [List.take_succ_cons, ht]
    rw [ev, hp2]
    cases r with
    | nil => simp at hlen
    | cons a r =>
      have hw : wordN (a :: r) = if smallB a then runL partB (a :: r) else 0 := rfl
      by_cases ha : smallB a = true
      · rw [if_pos ha] at hw
        have hal := take_run partB (a :: r)
        rw [← hw, ← hmw] at hal
        have hlt : ((a :: r).take m).length = m := by rw [List.length_take]; omega
        obtain ⟨m, rfl⟩ : ∃ k, m = k + 1 := ⟨m - 1, by omega⟩
        rw [List.take_succ_cons] at hal hlt ⊢
        generalize r.take m = t at hal hlt ⊢
        have hwn : ∀ b, wordN ((a :: t) ++ 62 :: b) = m + 1 := fun b => by
          show (if smallB a then runL partB ((a :: t) ++ 62 :: b) else 0) = _
          rw [if_pos ha, runL_stop b (by decide) hal, hlt]
        have hv : varN (60 :: ((a :: t) ++ 62 :: c :: q)) = m + 3 := by
          show (if (60 : UInt8).toNat = 60 then (if wordN ((a :: t) ++ 62 :: c :: q) = 0 then 0 else if (((a :: t) ++ 62 :: c :: q).drop (wordN ((a :: t) ++ 62 :: c :: q))).head? = some 62 then wordN ((a :: t) ++ 62 :: c :: q) + 2 else 0) else 0) = _
          rw [if_pos (by decide), hwn, if_neg (by omega), if_pos]
          rw [← hlt, List.drop_left]; rfl
        have el : (60 :: ((a :: t) ++ [62])) ++ c :: q = 60 :: ((a :: t) ++ 62 :: c :: q) := by simp
        have hnum : numN (60 :: ((a :: t) ++ 62 :: c :: q)) = 0 := by
          unfold numN
          rw [List.head?_cons, if_neg (by decide)]
          exact runL_cons_false _ (by decide)
        rw [el]
        refine ⟨gap_none _ (by decide) (by decide), ?_⟩
        unfold cutL
        rw [if_neg (by simp), if_neg (by rw [show wordN (60 :: ((a :: t) ++ 62 :: c :: q)) = 0 from rfl]; simp), if_neg (by rw [hnum]; simp), if_pos (by rw [hv]; omega), hv]
        rw [List.length_cons, List.length_append, hlt]; rfl
      · rw [hw, if_neg ha] at hmw; omega
  rw [if_neg h3] at h5 h6
  by_cases h4 : signN l ≠ 0
  · have e : cutL l = (4, signN l) := by unfold cutL; rw [if_neg h0, if_neg h1, if_neg h2, if_neg h3, if_pos h4]
    rw [e]
    show gapL false (l.take (signN l) ++ c :: q) = 0 ∧ cutL (l.take (signN l) ++ c :: q) = (4, (l.take (signN l)).length)
    unfold signN at h4 ⊢
    cases hf : signsL.find? (fun s => s.isPrefixOf l) with
    | none => rw [hf] at h4; exact absurd rfl h4
    | some s =>
      have hs := List.mem_of_find?_eq_some hf
      have hpx : s.isPrefixOf l = true := by have := List.find?_some hf; simpa using this
      have ht : l.take s.length = s := List.prefix_iff_eq_take.1 (List.isPrefixOf_iff_prefix.1 hpx) |>.symm
      show gapL false (l.take s.length ++ c :: q) = 0 ∧ cutL (l.take s.length ++ c :: q) = (4, (l.take s.length).length)
      rw [ht]
      exact sign_alone c hc q s hs
  · rw [if_neg h4] at h6; exact absurd rfl h6
/-- A token written alone with a blank behind it. -/
theorem lex_alone (n b : Nat) (l : List UInt8) (h5 : (tokL n l).k ≠ 5) (h6 : (tokL n l).k ≠ 6) (c : UInt8) (hc : blankB c = true) (q : List UInt8) :
    lexFrom b (textT (tokL n l) ++ c :: q) = ⟨(tokL n l).k, (tokL n l).t, b⟩ :: lexFrom (b + (textT (tokL n l)).length) (c :: q) := by
  rw [tok_text]
  have hf : fitsL (cutL l).1 (nameL (cutL l).1 (l.take (cutL l).2)) = true := by
    apply Decidable.byContradiction
    intro h
    apply h6
    unfold tokL holdL
    rw [if_neg h]
  have ht : ∀ m, tokL m l = ⟨(cutL l).1, ⟨(nameL (cutL l).1 (l.take (cutL l).2)).toArray⟩, m⟩ := fun m => by unfold tokL holdL; rw [if_pos hf]
  have hk : (tokL n l).k = (cutL l).1 := by rw [ht]
  rw [hk] at h5 h6
  obtain ⟨hg, hcut⟩ := cut_alone l h5 h6 c hc q
  have hb : tokL b (l.take (cutL l).2 ++ c :: q) = tokL b l := by
    unfold tokL
    rw [hcut]
    show holdL (cutL l).1 ((l.take (cutL l).2 ++ c :: q).take (l.take (cutL l).2).length) b = _
    rw [List.take_left]
  rw [lex_step, hg, Nat.add_zero, List.drop_zero, hb]
  simp only
  rw [if_neg (by rw [ht]; simp only [not_or]; exact ⟨h5, h6⟩), hcut, List.drop_left, ht, ht]
def sepsL : List (List UInt8) := [[32], [10], [9, 32, 13], [32, 35, 32, 60, 120, 62, 32, 40, 10], [32, 32]]
theorem seps_at (k : Nat) (hk : k < 5) : ∃ c s, sepsL[k]'hk = c :: s ∧ blankB c = true ∧ (sepsL[k]'hk).length ≤ 9 ∧ ∀ V n, lexFrom n (sepsL[k]'hk ++ V) = lexFrom (n + (sepsL[k]'hk).length) V := by
  have key : ∀ (s V : List UInt8) (n : Nat), gapL false (s ++ V) = s.length + gapL false V → lexFrom n (s ++ V) = lexFrom (n + s.length) V := by
    intro s V n h
    rw [lex_step n, lex_step (n + s.length), h]
    have e : (s ++ V).drop (s.length + gapL false V) = V.drop (gapL false V) := by
      rw [← List.drop_drop, List.drop_left]
    rw [e]
    simp only [Nat.add_assoc]
  match k, hk with
  | 0, _ => exact ⟨32, [], rfl, rfl, show (1 : Nat) ≤ 9 by omega, fun V n => key _ V n (show 1 + gapL false V = 1 + gapL false V from rfl)⟩
  | 1, _ => exact ⟨10, [], rfl, rfl, show (1 : Nat) ≤ 9 by omega, fun V n => key _ V n (show 1 + gapL false V = 1 + gapL false V from rfl)⟩
  | 2, _ => exact ⟨9, [32, 13], rfl, rfl, show (3 : Nat) ≤ 9 by omega, fun V n => key _ V n (show 1 + (1 + (1 + gapL false V)) = 3 + gapL false V by omega)⟩
  | 3, _ => exact ⟨32, [35, 32, 60, 120, 62, 32, 40, 10], rfl, rfl, show (9 : Nat) ≤ 9 by omega, fun V n => key _ V n (show 1 + (1 + (1 + (1 + (1 + (1 + (1 + (1 + (1 + gapL false V)))))))) = 9 + gapL false V by omega)⟩
  | 4, _ => exact ⟨32, [32], rfl, rfl, show (2 : Nat) ≤ 9 by omega, fun V n => key _ V n (show 1 + (1 + gapL false V) = 2 + gapL false V by omega)⟩
/-- What a list of tokens is, and how much room its texts take. -/
theorem toks_lex : ∀ (m n : Nat) (l : List UInt8), l.length ≤ m → (∀ z ∈ (lexFrom n l).dropLast, z.k ≠ 5 ∧ z.k ≠ 6 ∧ ∃ n' l', z = tokL n' l') ∧ (∃ z, (lexFrom n l).getLast? = some z ∧ (z.k = 5 → z.t = ⟨#[]⟩)) ∧ ((lexFrom n l).map fun z => (textT z).length).sum ≤ l.length
  | m, n, l, hm => by
    rw [lex_step]
    simp only
    have hT : (textT (tokL (n + gapL false l) (l.drop (gapL false l)))).length = (cutL (l.drop (gapL false l))).2 := by
      rw [tok_text, List.length_take, Nat.min_eq_left (cut_le _)]
    have hcl := cut_le (l.drop (gapL false l))
    have hgl := gap_le false l
    rw [List.length_drop] at hcl
    split
    · rename_i hk
      refine ⟨by simp, ⟨_, rfl, fun h => ?_⟩, ?_⟩
      · have hn : l.drop (gapL false l) = [] := by
          apply Decidable.byContradiction
          intro hne
          exact tok_five _ _ hne h
        rw [hn]; rfl
      · simp only [List.map_cons, List.map_nil, List.sum_cons, List.sum_nil]
        rw [hT]; omega
    · rename_i hk
      have hne : l.drop (gapL false l) ≠ [] := by
        intro h; rw [h] at hk; exact hk (.inl rfl)
      have h1 := cut_pos _ hne
      cases m with
      | zero => omega
      | succ m =>
        obtain ⟨i1, i2, i3⟩ := toks_lex m (n + gapL false l + (cutL (l.drop (gapL false l))).2) ((l.drop (gapL false l)).drop (cutL (l.drop (gapL false l))).2) (by rw [List.length_drop, List.length_drop]; omega)
        have hn2 := lex_ne (n + gapL false l + (cutL (l.drop (gapL false l))).2) ((l.drop (gapL false l)).drop (cutL (l.drop (gapL false l))).2)
        rw [List.length_drop, List.length_drop] at i3
        generalize lexFrom (n + gapL false l + (cutL (l.drop (gapL false l))).2) ((l.drop (gapL false l)).drop (cutL (l.drop (gapL false l))).2) = ys at i1 i2 i3 hn2 ⊢
        refine ⟨?_, ?_, ?_⟩
        · rw [List.dropLast_cons_of_ne_nil hn2]
          intro z hz
          rcases List.mem_cons.1 hz with rfl | hz
          · exact ⟨fun h => hk (.inl h), fun h => hk (.inr h), _, _, rfl⟩
          · exact i1 z hz
        · cases ys with
          | nil => exact absurd rfl hn2
          | cons y ys => rw [List.getLast?_cons_cons]; exact i2
        · simp only [List.map_cons, List.sum_cons]
          rw [hT]; omega
theorem sum_take (f : Sy → Nat) : ∀ (i : Nat) (xs : List Sy), ((xs.take i).map f).sum ≤ (xs.map f).sum
  | 0, _ => by simp
  | _ + 1, [] => by simp
  | i + 1, x :: xs => by
    have := sum_take f i xs
    simp only [List.take_succ_cons, List.map_cons, List.sum_cons]; omega
/-- What has been written of the first i tokens. -/
def Wrote (xs : List Sy) (i : Nat) (u : List UInt8) : Prop :=
  (∀ V, ∃ ys, lexFrom 0 (u ++ V) = ys ++ lexFrom u.length V ∧ ys.map (fun z => (z.k, z.t)) = (xs.take i).map (fun z => (z.k, z.t))) ∧ u.length ≤ ((xs.take i).map fun z => (textT z).length).sum + 9 * i
theorem wrote_none (xs : List Sy) : Wrote xs 0 [] := ⟨fun V => ⟨[], rfl, rfl⟩, Nat.le_refl _⟩
theorem wrote_len {s : List UInt8} {i : Nat} {u : List UInt8} (h : Wrote (lexL s) i u) : u.length ≤ s.length + 9 * i := by
  have h1 := (toks_lex _ 0 s (Nat.le_refl _)).2.2
  have h2 := sum_take (fun z => (textT z).length) i (lexL s)
  have h3 := h.2
  rw [lexL_from] at h2 h3
  omega
theorem wrote_next {s : List UInt8} {i : Nat} {u : List UInt8} (h : Wrote (lexL s) i u) (hi : i + 1 < (lexL s).length) (k : Nat) (hk : k < 5) : Wrote (lexL s) (i + 1) (u ++ (textT ((lexL s)[i]'(by omega)) ++ sepsL[k]'hk)) := by
  have hm : (lexL s)[i]'(by omega) ∈ (lexL s).dropLast := by
    have : (lexL s).dropLast[i]'(by rw [List.length_dropLast]; omega) = (lexL s)[i]'(by omega) := List.getElem_dropLast _
    rw [← this]; exact List.getElem_mem _
  obtain ⟨h5, h6, n', l', hz⟩ := (toks_lex _ 0 s (Nat.le_refl _)).1 _ hm
  obtain ⟨c, s', hs, hc, hl9, hsep⟩ := seps_at k hk
  have ht : (lexL s).take (i + 1) = (lexL s).take i ++ [(lexL s)[i]'(by omega)] := by rw [List.take_succ_eq_append_getElem (by omega)]
  generalize (lexL s)[i]'(by omega) = z at *
  refine ⟨fun V => ?_, ?_⟩
  · obtain ⟨ys, h1, h2⟩ := h.1 (textT z ++ (sepsL[k]'hk ++ V))
    refine ⟨ys ++ [⟨z.k, z.t, u.length⟩], ?_, ?_⟩
    · have e : u ++ (textT z ++ sepsL[k]'hk) ++ V = u ++ (textT z ++ (sepsL[k]'hk ++ V)) := by simp
      rw [e, h1]
      have e2 : lexFrom u.length (textT z ++ (sepsL[k]'hk ++ V)) = ⟨z.k, z.t, u.length⟩ :: lexFrom (u.length + (textT z).length) (sepsL[k]'hk ++ V) := by
        rw [hs, List.cons_append]
        subst hz
        exact lex_alone _ _ _ h5 h6 c hc _
      rw [e2, hsep, List.append_assoc]
      simp only [List.length_append, List.cons_append, List.nil_append, Nat.add_assoc]
    · rw [ht, List.map_append, List.map_append, h2]; rfl
  · have h3 := h.2
    rw [ht]
    simp only [List.length_append, List.map_append, List.map_cons, List.map_nil, List.sum_append, List.sum_cons, List.sum_nil]
    omega
theorem wrote_end {s : List UInt8} {i : Nat} {u : List UInt8} (h : Wrote (lexL s) i u) (hi : i + 1 = (lexL s).length) (h5 : ((lexL s)[i]'(by omega)).k = 5) : (lexL u).map (fun z => (z.k, z.t)) = (lexL s).map (fun z => (z.k, z.t)) := by
  obtain ⟨ys, h1, h2⟩ := h.1 []
  obtain ⟨z, hz, hz5⟩ := (toks_lex _ 0 s (Nat.le_refl _)).2.1
  have hlast : (lexL s)[i]'(by omega) = z := by
    rw [← lexL_from, List.getLast?_eq_getElem?, List.getElem?_eq_getElem (by omega)] at hz
    have := Option.some.inj hz
    rw [← this]
    congr 1; omega
  have e : lexL s = (lexL s).take i ++ [z] := by
    rw [← hlast, ← List.take_succ_eq_append_getElem (by omega), List.take_of_length_le (by omega)]
  rw [hlast] at h5
  rw [List.append_nil, lex_nil] at h1
  rw [lexL_from u, h1, e, List.map_append, List.map_append, h2]
  simp only [List.map_cons, List.map_nil, h5, hz5 h5]
end Go.Proofs.YtocdclcemebaeaaDoor
