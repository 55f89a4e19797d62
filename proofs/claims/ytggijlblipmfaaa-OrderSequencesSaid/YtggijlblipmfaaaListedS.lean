/-
  law.list, ponderkeep.Within.
-/
import Derived.Test.YtggijlblipmfaaaListS
import Derived.Test.YtggijlblipmfaaaArgS
namespace Go.Proofs.Ytggijlblipmfaaa
set_option linter.unusedVariables false
open Go.RowKit
theorem flat_encS : ∀ (ys : List Sy) (i : Nat) (h : i < ys.length) (j : Nat), j < 3 → (ys.flatMap encS)[i * 3 + j]? = (encS ys[i])[j]?
  | [], _, h, _, _ => by simp at h
  | y :: ys, 0, _, j, hj => by
    rw [List.flatMap_cons, List.getElem?_append_left (by simp [encS]; omega)]; simp
  | y :: ys, i + 1, h, j, hj => by
    rw [List.flatMap_cons, List.getElem?_append_right (by simp [encS]; omega)]
    have := flat_encS ys i (by simpa using h) j hj
    have e : (i + 1) * 3 + j - (encS y).length = i * 3 + j := by simp [encS]; omega
    rw [e, this]; simp
theorem slice_of_owns {w : World} {base : Nat} {e : TypeId} {v : Value} {ys : List Sy} (h : w.ownsRow base e 3 v ys.length (ys.flatMap encS)) : SliceAt encS 3 w v ys := by
  rcases owns_cells h with ⟨h1, h2⟩ | ⟨g, cap, h1, h2, h3, h4, h5⟩
  · exact .inl ⟨h1, List.eq_nil_of_length_eq_zero h2⟩
  · refine .inr ⟨g, 0, cap, h1, h3, h4, fun i hi j c hc => ?_⟩
    have hj : j < 3 := by
      have := (List.getElem?_eq_some_iff.1 hc).1
      simpa [encS] using this
    rw [Nat.zero_add]
    exact h5 _ c ((flat_encS ys i hi j hj).trans hc)
def ListedS (w : World) (ys : List Sy) (e : Ending) (w2 : World) : Prop := ∃ v, e = .returned v ∧ Below w.heap.size w w2 ∧ SliceAt encS 3 w2 v ys
theorem list_setS (w : World) (b : Nat) (ys : List Sy) (hz : ys.length ≤ 1000000) (h : SetS w b ys) : Calls Try.prog 29 #[.pointer (some ⟨b, 0, none⟩)] w (ListedS w ys) := by
  have hl := list_allS w b ys hz h
  have hfin : ∀ v w2, Below w.heap.size w w2 → SliceAt encS 3 w2 v ys → ListedS w ys (.returned v) w2 := fun v w2 h1 h2 => ⟨v, rfl, h1, h2⟩
  have Hfin := Lib.hid hfin
  have hB : Below w.heap.size w (w.alloc (.cells #[.pointer (some ⟨b, 0, none⟩)] 23)) := by go_grown
  clear h hfin
  go_enter Try.func29, Try.ntmps29
  go_wp2_with fail
  refine (all_anyS w b).mono ?_
  rintro e w1 ⟨rfl, rfl⟩
  go_wp2_with fail
  refine hl.mono ?_
  rintro e w2 ⟨v, rfl, hown, -, hb⟩
  go_wp2_with fail
  go_ret
  exact Hfin.out _ _ (hB.trans (hb.mono hB.size)) (slice_of_owns hown)
theorem within_any (w : World) (v : Int) (n : Nat) (hv : 0 ≤ v) (hv2 : v ≤ 1000000) (hn : n ≤ 1000000) :
    Calls Try.prog 18 #[.int .i64 v, .int .i64 n] w fun e w' => e = .returned (.int .i64 (if n = 0 then 0 else v % n)) ∧ w' = w := by
  by_cases h0 : n = 0
  · subst h0
    go_enter Try.func18, Try.ntmps18
    go_wp2_with fail
    go_ret
    exact ⟨rfl, rfl⟩
  · have hd : decide ((n : Int) < 1) = false := by simp; omega
    have hz : ((n : Int) == 0) = false := by simp; omega
    have hm1 : 0 ≤ v % (n : Int) := Int.emod_nonneg _ (by omega)
    have hm2 : v % (n : Int) < n := Int.emod_lt_of_pos _ (by omega)
    have hd2 : decide (v % (n : Int) < 0) = false := by simp; omega
    have ht : v.tmod n = v % n := Int.tmod_eq_emod_of_nonneg hv
    go_enter Try.func18, Try.ntmps18
    go_wp2_with fail
    go_ret
    exact ⟨rfl, rfl⟩
end Go.Proofs.Ytggijlblipmfaaa
