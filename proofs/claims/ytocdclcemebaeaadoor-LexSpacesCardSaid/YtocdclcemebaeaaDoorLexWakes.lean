/-
  The example of chapter 5. What the listed variables give is a premise.
-/
import Derived.Test.YtocdclcemebaeaaDoorLexList
namespace Go.Proofs.YtocdclcemebaeaaDoor
set_option linter.unusedVariables false
open Go.RowKit
theorem lex_go {n : Nat} {l : List UInt8} (g : Nat) (k : Int) (sz : Nat) (t : Sy) (hg : gapL false l = g) (hc : cutL (l.drop g) = (k, sz)) (ht : holdL k ((l.drop g).take sz) (n + g : Nat) = t) (h5 : t.k ≠ 5) (h6 : t.k ≠ 6) :
    lexFrom n l = t :: lexFrom (n + g + sz) ((l.drop g).drop sz) := by
  rw [lex_step]
  have e : tokL (n + gapL false l) (l.drop (gapL false l)) = t := by unfold tokL; rw [hg, hc]; exact ht
  simp only [e]
  rw [if_neg (by simp only [not_or]; exact ⟨h5, h6⟩), hg, hc]
def wk : ByteArray := ⟨#[40, 60, 115, 62, 32, 94, 120, 32, 45, 53, 41]⟩
theorem lex_wk : lexL wk.data.toList = [⟨4, ⟨#[40]⟩, 0⟩, ⟨3, ⟨#[115]⟩, 1⟩, ⟨4, ⟨#[94]⟩, 5⟩, ⟨1, ⟨#[120]⟩, 6⟩, ⟨2, ⟨#[45, 53]⟩, 8⟩, ⟨4, ⟨#[41]⟩, 10⟩, ⟨5, ⟨#[]⟩, 11⟩] := by
  have hn : holdL 2 [45, 53] (8 : Nat) = ⟨2, ⟨#[45, 53]⟩, 8⟩ := by
    have h1 : fitsL 2 (nameL 2 [45, 53]) = true := by
      show (parseL [45, 53]).2 = true
      rw [parse_num _ _ (by decide) (by decide)]; decide
    unfold holdL
    rw [h1]; rfl
  show lexFrom 0 [40, 60, 115, 62, 32, 94, 120, 32, 45, 53, 41] = _
  rw [lex_go 0 4 1 ⟨4, ⟨#[40]⟩, 0⟩ rfl rfl rfl (by decide) (by decide)]
  simp only [List.drop_zero, List.drop_succ_cons, Nat.reduceAdd]
  rw [lex_go 0 3 3 ⟨3, ⟨#[115]⟩, 1⟩ rfl rfl rfl (by decide) (by decide)]
  simp only [List.drop_zero, List.drop_succ_cons, Nat.reduceAdd]
  rw [lex_go 1 4 1 ⟨4, ⟨#[94]⟩, 5⟩ rfl rfl rfl (by decide) (by decide)]
  simp only [List.drop_zero, List.drop_succ_cons, Nat.reduceAdd]
  rw [lex_go 0 1 1 ⟨1, ⟨#[120]⟩, 6⟩ rfl rfl rfl (by decide) (by decide)]
  simp only [List.drop_zero, List.drop_succ_cons, Nat.reduceAdd]
  rw [lex_go (n := 7) (l := [32, 45, 53, 41]) 1 2 2 ⟨2, ⟨#[45, 53]⟩, 8⟩ rfl rfl hn (by decide) (by decide)]
  simp only [List.drop_zero, List.drop_succ_cons, Nat.reduceAdd]
  rw [lex_go 0 4 1 ⟨4, ⟨#[41]⟩, 10⟩ rfl rfl rfl (by decide) (by decide)]
  simp only [List.drop_zero, List.drop_succ_cons, Nat.reduceAdd]
  rw [lex_nil]; rfl
/-- The cells of a list that was made. -/
theorem owns_at {w : World} {base : Nat} {e : TypeId} {v : Value} {xs : List Sy} (h : w.ownsRow base e 3 v xs.length (xs.flatMap encS)) (hne : xs ≠ []) : ∃ g cap, v = .slice (some ⟨g, 0, none⟩) xs.length cap ∧ base ≤ g ∧ g < w.heap.size ∧ CellsAt w g 0 xs := by
  rcases owns_cells h with ⟨h1, h2⟩ | ⟨g, cap, h1, h2, h3, h4, h5⟩
  · exact absurd (List.eq_nil_of_length_eq_zero h2) hne
  · refine ⟨g, cap, h1, h2, h3, fun i hi j c hc => ?_⟩
    have hj : j < 3 := by
      have := (List.getElem?_eq_some_iff.1 hc).1
      simpa [encS] using this
    rw [Nat.zero_add]
    exact h5 _ c ((flat_encS xs i hi j hj).trans hc)
set_option maxHeartbeats 2000000 in
theorem lwakes_any (w : World) (hL : LexAt w) : Calls Tryd.prog 9 #[] w fun e w' => e = .returned (.bool true) ∧ Below w.heap.size w w' := by
  have hall := lall_any wk (by decide) w hL
  rw [lex_wk] at hall
  have Hall := Lib.hid hall
  clear hall hL
  go_enter Tryd.func9, Tryd.ntmps9
  go_wp2_with fail
  refine Hall.out.mono ?_
  rintro e w1 ⟨v, rfl, hown, -, hb⟩
  obtain ⟨g, cap, rfl, -, -, hc⟩ := owns_at hown (by simp)
  have c1 : w1.cell? ⟨g, 3, none⟩ = some (.int .i64 3) := hc 1 (by decide) 0 _ rfl
  have c2 : w1.cell? ⟨g, 4, none⟩ = some (.string ⟨#[115]⟩) := hc 1 (by decide) 1 _ rfl
  have c3 : w1.cell? ⟨g, 13, none⟩ = some (.string ⟨#[45, 53]⟩) := hc 4 (by decide) 1 _ rfl
  have c4 : w1.cell? ⟨g, 18, none⟩ = some (.int .i64 5) := hc 6 (by decide) 0 _ rfl
  have c5 : w1.cell? ⟨g, 20, none⟩ = some (.int .i64 11) := hc 6 (by decide) 2 _ rfl
  have HB := Lib.hid hb
  clear hown hc hb Hall
  go_wp2_with fail
  go_ret
  exact ⟨rfl, HB.out⟩
end Go.Proofs.YtocdclcemebaeaaDoor
