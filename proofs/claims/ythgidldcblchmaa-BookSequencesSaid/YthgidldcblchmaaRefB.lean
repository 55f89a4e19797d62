/-
  Walks over ponderref04 at ponder/api.Sym: Before, Has, Put; without, below of the statements; ponderkeep.Syms. No condition but bounds on sizes.
-/
import Derived.Test.YthgidldcblchmaaSymsS
import Derived.Test.YthgidldcblchmaaKit5
import Derived.Laws.AppendOwnNone
namespace Go.Proofs.Ythgidldcblchmaa
set_option linter.unusedVariables false
open Go.RowKit
theorem ret_bool {a b : Bool} (h : a = b) : Ending.returned (.bool a) = .returned (.bool b) := by rw [h]
theorem cmpI_lt {a b : Int} : cmpI a b < 0 ↔ a < b := by unfold cmpI; split <;> (try split) <;> omega
theorem cmpI_zero {a b : Int} : cmpI a b = 0 ↔ a = b := by unfold cmpI; split <;> (try split) <;> omega
theorem cmpS_zero {a b : ByteArray} : cmpS a b = 0 ↔ a = b := ⟨cmpS_eq, fun h => by rw [h]; exact cmpS_cmp.refl b⟩
theorem cmpS_lt {a b : ByteArray} : cmpS a b < 0 ↔ Op.bytesLess a.toList b.toList = true := by
  unfold cmpS; split
  · simp_all
  · split <;> simp_all
theorem cmpY_zero {a b : Sy} : cmpY a b = 0 ↔ a = b := ⟨cmpY_eq, fun h => by rw [h]; exact cmpY_cmp.refl b⟩
theorem befY_k {a b : Sy} (h : a.k ≠ b.k) : decide (cmpY a b < 0) = decide (a.k < b.k) := by
  have h1 : cmpI a.k b.k ≠ 0 := fun e => h (cmpI_zero.1 e)
  unfold cmpY; rw [if_pos h1]; simp [cmpI_lt]
theorem befY_t {a b : Sy} (h : a.k = b.k) (h2 : a.t ≠ b.t) : decide (cmpY a b < 0) = Op.bytesLess a.t.toList b.t.toList := by
  have h1 : cmpI a.k b.k = 0 := cmpI_zero.2 h
  have h3 : cmpS a.t b.t ≠ 0 := fun e => h2 (cmpS_zero.1 e)
  unfold cmpY; rw [if_neg (by simp [h1]), if_pos h3, Bool.eq_iff_iff]; simp [cmpS_lt]
theorem befY_n {a b : Sy} (h : a.k = b.k) (h2 : a.t = b.t) : decide (cmpY a b < 0) = decide (a.n < b.n) := by
  have h1 : cmpI a.k b.k = 0 := cmpI_zero.2 h
  have h3 : cmpS a.t b.t = 0 := cmpS_zero.2 h2
  unfold cmpY; rw [if_neg (by simp [h1]), if_neg (by simp [h3])]; simp [cmpI_lt]
theorem bef_any (a b : Sy) (w : World) : Calls Try.prog 36 #[.agg #[.int .i64 a.k, .string a.t, .int .i64 a.n], .agg #[.int .i64 b.k, .string b.t, .int .i64 b.n]] w fun e w' => e = .returned (.bool (decide (cmpY a b < 0))) ∧ Below w.heap.size w w' := by
  by_cases hk : a.k = b.k
  · have hk' : (a.k != b.k) = false := by simp [hk]
    by_cases ht : a.t = b.t
    · have ht' : (!a.t.toList == b.t.toList) = false := by simp [ht]
      have hr := befY_n hk ht
      rw [hr]
      clear hk ht hr
      go_enter Try.func36, Try.ntmps36
      go_wp2
      go_ret
      exact ⟨rfl, by go_grown⟩
    · have ht' : (!a.t.toList == b.t.toList) = true := by
        simp only [Bool.not_eq_true', beq_eq_false_iff_ne, ne_eq]
        intro e; apply ht
        rw [Lib.toList_data, Lib.toList_data] at e
        exact ByteArray.ext (Array.toList_inj.mp e)
      have hr := befY_t hk ht
      rw [hr]
      clear hk ht hr
      go_enter Try.func36, Try.ntmps36
      go_wp2
      go_ret
      exact ⟨rfl, by go_grown⟩
  · have hk' : (a.k != b.k) = true := by simp [hk]
    have hr := befY_k hk
    rw [hr]
    clear hk hr
    go_enter Try.func36, Try.ntmps36
    go_wp2
    go_ret
    exact ⟨rfl, by go_grown⟩
theorem sy_iff {x y : Sy} : x = y ↔ x.k = y.k ∧ x.t.toList = y.t.toList ∧ x.n = y.n := by
  constructor
  · rintro rfl; exact ⟨rfl, rfl, rfl⟩
  · rintro ⟨h1, h2, h3⟩
    cases x; cases y
    simp only [Lib.toList_data] at h2
    simp only at h1 h3
    subst h1; subst h3
    rw [ByteArray.ext (Array.toList_inj.mp h2)]
theorem eqY_run (x y : Sy) (w : World) : (binOp .eql 27 (.agg #[.int .i64 x.k, .string x.t, .int .i64 x.n]) (.agg #[.int .i64 y.k, .string y.t, .int .i64 y.n])).run Try.prog w = .ok (.bool (decide (x = y))) w := by
  simp only [sy_iff]
  simp [go_sem]
  split <;> (try split) <;> (try split) <;> simp_all
theorem neY_run (x y : Sy) (w : World) : (binOp .neq 27 (.agg #[.int .i64 x.k, .string x.t, .int .i64 x.n]) (.agg #[.int .i64 y.k, .string y.t, .int .i64 y.n])).run Try.prog w = .ok (.bool (!decide (x = y))) w := by
  simp only [sy_iff]
  simp [go_sem]
  split <;> (try split) <;> (try split) <;> simp_all
theorem eqY_yes {x y : Sy} (h : x = y) (w : World) : (binOp .eql 27 (.agg #[.int .i64 x.k, .string x.t, .int .i64 x.n]) (.agg #[.int .i64 y.k, .string y.t, .int .i64 y.n])).run Try.prog w = .ok (.bool true) w := by rw [eqY_run]; simp [h]
theorem eqY_no {x y : Sy} (h : x ≠ y) (w : World) : (binOp .eql 27 (.agg #[.int .i64 x.k, .string x.t, .int .i64 x.n]) (.agg #[.int .i64 y.k, .string y.t, .int .i64 y.n])).run Try.prog w = .ok (.bool false) w := by rw [eqY_run]; simp [h]
theorem neY_yes {x y : Sy} (h : x ≠ y) (w : World) : (binOp .neq 27 (.agg #[.int .i64 x.k, .string x.t, .int .i64 x.n]) (.agg #[.int .i64 y.k, .string y.t, .int .i64 y.n])).run Try.prog w = .ok (.bool true) w := by rw [neY_run]; simp [h]
theorem neY_no {x y : Sy} (h : x = y) (w : World) : (binOp .neq 27 (.agg #[.int .i64 x.k, .string x.t, .int .i64 x.n]) (.agg #[.int .i64 y.k, .string y.t, .int .i64 y.n])).run Try.prog w = .ok (.bool false) w := by rw [neY_run]; simp [h]
theorem has_take_succ (x : Sy) (xs : List Sy) {k : Nat} (h : k < xs.length) : has cmpY x (xs.take (k + 1)) = (has cmpY x (xs.take k) || (cmpY x xs[k] == 0)) := any_take_succ _ xs h
theorem has_of_at {x : Sy} {xs : List Sy} {k : Nat} (h : k < xs.length) (e : xs[k] = x) : has cmpY x xs = true := by
  unfold has; rw [List.any_eq_true]; exact ⟨xs[k], List.getElem_mem h, by rw [e]; simp [cmpY_cmp.refl]⟩
/-- The cells of a list at a place. -/
def CellsAt (w : World) (b off : Nat) (xs : List Sy) : Prop := ∀ i (h : i < xs.length) j c, (encS xs[i])[j]? = some c → w.cell? ⟨b, off + i * 3 + j, none⟩ = some c
theorem CellsAt.mono {w w' : World} {b off : Nat} {xs : List Sy} (h : CellsAt w b off xs) (hb : b < w.heap.size) (hB : Below w.heap.size w w') : CellsAt w' b off xs :=
  fun i hi j c hc => (hB.cell (p := ⟨b, off + i * 3 + j, none⟩) hb).trans (h i hi j c hc)
theorem CellsAt.three {w : World} {b off : Nat} {xs : List Sy} (h : CellsAt w b off xs) {k : Nat} (hk : k < xs.length) :
    w.cell? ⟨b, off + k * 3, none⟩ = some (.int .i64 xs[k].k) ∧ w.cell? ⟨b, off + k * 3 + 1, none⟩ = some (.string xs[k].t) ∧ w.cell? ⟨b, off + k * 3 + 2, none⟩ = some (.int .i64 xs[k].n) :=
  ⟨h k hk 0 _ rfl, h k hk 1 _ rfl, h k hk 2 _ rfl⟩
theorem CellsAt.flat {w : World} {b off : Nat} {xs : List Sy} (h : CellsAt w b off xs) : ∀ j u, (xs.flatMap encS)[j]? = some u → w.cell? ((⟨b, off, none⟩ : Addr).add j) = some u := by
  intro j u hu
  have hj : j < xs.length * 3 := by
    have := (List.getElem?_eq_some_iff.1 hu).1
    rw [List.length_flatMap] at this
    have e : (xs.map fun a => (encS a).length) = List.replicate xs.length 3 := by
      rw [List.eq_replicate_iff]; simp [encS]
    simp only [e, List.sum_replicate_nat] at this
    omega
  have hi : j / 3 < xs.length := by omega
  have e2 := flat_encS xs (j / 3) hi (j % 3) (Nat.mod_lt _ (by omega))
  have e3 : j / 3 * 3 + j % 3 = j := by omega
  rw [e3] at e2
  have := h (j / 3) hi (j % 3) u (e2 ▸ hu)
  rw [Go.WideShapes.add_plain]
  rw [Nat.add_assoc, e3] at this
  exact this
theorem CellsAt.take {w : World} {b off : Nat} {xs : List Sy} (h : CellsAt w b off xs) (k : Nat) : CellsAt w b off (xs.take k) := by
  intro i hi j c hc
  rw [List.getElem_take] at hc
  exact h i (by rw [List.length_take] at hi; omega) j c hc
theorem CellsAt.drop {w : World} {b off : Nat} {xs : List Sy} (h : CellsAt w b off xs) (k : Nat) : CellsAt w b (off + k * 3) (xs.drop k) := by
  intro i hi j c hc
  rw [List.length_drop] at hi
  rw [List.getElem_drop] at hc
  have := h (k + i) (by omega) j c hc
  rw [← this]; congr 2; omega
theorem flat_length (xs : List Sy) : (xs.flatMap encS).length = xs.length * 3 := by
  rw [List.length_flatMap]
  have e : (xs.map fun a => (encS a).length) = List.replicate xs.length 3 := by
    rw [List.eq_replicate_iff]; simp [encS]
  simp only [e, List.sum_replicate_nat]
theorem flat_one (xs : List Sy) : ∀ u ∈ xs.flatMap encS, u.oneCell' = true := by
  intro u hu
  obtain ⟨x, -, hx⟩ := List.mem_flatMap.1 hu
  simp [encS] at hx
  rcases hx with rfl | rfl | rfl <;> simp [Value.oneCell']
theorem slice_own {w : World} {base : Nat} {e : TypeId} {v : Value} {n : Nat} {cs : List Value} {ys : List Sy} (h : w.ownsRow base e 3 v n cs) (hn : n = ys.length) (hc : cs = ys.flatMap encS) : SliceAt encS 3 w v ys := by
  subst hn; subst hc; exact slice_of_owns h
theorem gbelow_none {a b : World} (h : Below a.heap.size a b) : a.grownBy b none :=
  ⟨h.os, h.tape, h.output, h.size, fun i hi _ => h.block i hi⟩
theorem below_own {a b : World} {B base : Nat} {e : TypeId} {size : Nat} {v : Value} {n : Nat} {cs : List Value} (h : a.grownBy b v.ownBlock) (ho : a.ownsRow base e size v n cs) (hB : B ≤ a.heap.size) (hbase : B ≤ base) : Below B a b :=
  ⟨h.os, h.tape, h.output, h.size, fun i hi => h.block i (by omega) (fun e => by have := (ho.lt i e.symm).1; omega)⟩
end Go.Proofs.Ythgidldcblchmaa
