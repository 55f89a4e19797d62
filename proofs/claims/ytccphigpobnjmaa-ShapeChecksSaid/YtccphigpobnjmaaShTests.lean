/-
  Lists of symbols and of tests, wherever they lie; slices.IndexFunc and ContainsFunc over them; listFits, testFails. No condition but bounds on lengths.
-/
import Derived.Test.YtccphigpobnjmaaShLeaf
namespace Go.Proofs.Ytccphigpobnjmaa
set_option linter.unusedVariables false
open Go.RowKit
/-- The cells of a slice's elements, wherever it lies. -/
def EltsK {α : Type} (E : α → List Value) (K : Nat) (w : World) (a : Option Addr) (l : List α) : Prop := ∀ k (h : k < l.length), ∃ b off, a = some ⟨b, off, none⟩ ∧ b < w.heap.size ∧ ∀ j c, (E l[k])[j]? = some c → w.cell? ⟨b, off + k * K + j, none⟩ = some c
theorem EltsK.mono {α : Type} {E : α → List Value} {K : Nat} {w w' : World} {a : Option Addr} {l : List α} (h : EltsK E K w a l) (hb : Below w.heap.size w w') : EltsK E K w' a l := fun k hk => by
  obtain ⟨b, off, h1, h2, h3⟩ := h k hk
  exact ⟨b, off, h1, Nat.lt_of_lt_of_le h2 hb.size, fun j c hc => (hb.cell (p := ⟨b, off + k * K + j, none⟩) h2).trans (h3 j c hc)⟩
theorem EltsK.at {α : Type} {E : α → List Value} {K : Nat} {w : World} {a : Option Addr} {l : List α} (h : EltsK E K w a l) {k : Nat} (hk : k < l.length) : ∃ b off, a = some ⟨b, off, none⟩ ∧ ∀ w', Below w.heap.size w w' → ∀ j c, (E l[k])[j]? = some c → w'.cell? ⟨b, off + k * K + j, none⟩ = some c := by
  obtain ⟨b, off, h1, h2, h3⟩ := h k hk
  exact ⟨b, off, h1, fun w' hb j c hc => (hb.cell (p := ⟨b, off + k * K + j, none⟩) h2).trans (h3 j c hc)⟩
theorem all_take_succ {α : Type} (p : α → Bool) (xs : List α) {k : Nat} (h : k < xs.length) : (xs.take (k + 1)).all p = ((xs.take k).all p && p xs[k]) := by
  rw [List.take_succ_eq_append_getElem h, List.all_append]; simp
theorem all_cut {α : Type} {p : α → Bool} {xs : List α} {k : Nat} (h : k < xs.length) (hp : p xs[k] = false) : xs.all p = false := by
  rw [Bool.eq_false_iff]; intro ha; rw [List.all_eq_true] at ha; rw [ha _ (List.getElem_mem h)] at hp; cases hp
/-- A test: a and cap tell where its list lies. -/
structure Ts where
  rel : Int
  var : ByteArray
  s : Sy
  list : List Sy
  a : Option Addr
  cap : Nat
def encT (x : Ts) : List Value := [.int .i64 x.rel, .string x.var, .int .i64 x.s.k, .string x.s.t, .int .i64 x.s.n, .slice x.a x.list.length x.cap]

set_option maxHeartbeats 1000000 in
theorem index_S (ok : Sy → Bool) (w : World) (a : Option Addr) (cap : Nat) (xs : List Sy) (he : EltsK encS 3 w a xs) (hz : xs.length ≤ 1000000)
    (hp : ∀ x ∈ xs, ∀ w', Below w.heap.size w w' → Calls Try.prog 91 #[.agg #[.int .i64 x.k, .string x.t, .int .i64 x.n]] w' fun e w2 => e = .returned (.bool (!ok x)) ∧ Below w'.heap.size w' w2) :
    Calls Try.prog 121 #[.slice a xs.length cap, .func (.func 91) #[] #[]] w fun e w' => ∃ r : Int, e = .returned (.int .i64 r) ∧ Hid (decide (0 ≤ r) = !xs.all ok) ∧ Below w.heap.size w w' := by
  have Hel := Lib.hid he
  have Hp := Lib.hid hp
  clear he hp
  go_enter Try.func121, Try.ntmps121
  go_wp2_with fail
  go_loopw [5, 8] (fun _ j wr => ∃ k : Nat, k ≤ xs.length ∧ j = .int .i64 k ∧ Below w.heap.size w wr ∧ (xs.take k).all ok = true) (fun _ j _ => xs.length - (intOf j).toNat)
  case atStart => exact ⟨0, Nat.zero_le _, rfl, Below.refl _ _, rfl⟩
  case round =>
    obtain ⟨k, hk, rfl, hbw, hall⟩ := hrel
    by_cases hlt : k < xs.length
    · obtain ⟨b, off, rfl, hcell⟩ := Hel.out.at hlt
      have hc := hcell wr hbw
      have hpx := Hp.out xs[k] (List.getElem_mem hlt)
      have hcut := fun h => all_cut (p := ok) hlt h
      have hsucc := all_take_succ ok xs hlt
      obtain ⟨x, hx⟩ : ∃ x, x = xs[k] := ⟨_, rfl⟩
      rw [← hx] at hc hpx hcut hsucc
      rw [hall, Bool.true_and] at hsucc
      have c0 := hc 0 _ rfl
      have c1 := hc 1 _ rfl
      have c2 := hc 2 _ rfl
      simp only [Nat.add_zero] at c0
      have HS := Lib.hid hsucc
      have HC := Lib.hid hcut
      have HB := Lib.hid hbw
      have HP := Lib.hid hpx
      have hws := hbw.size
      clear hall hx hc hcell hbw hpx hsucc hcut
      cases hq : ok x with
      | true =>
        have HS2 := Lib.hid (HS.out.trans hq)
        go_wp2_with (go_at_call 91; refine (HP.out _ HB.out).mono ?_; rintro e w2 ⟨rfl, h2⟩; rw [hq]; have H2 := Lib.hid h2; clear h2)
        go_roundw
        case rel => exact ⟨k + 1, by omega, by go_num, HB.out.trans (H2.out.mono hws), HS2.out⟩
        case measure => simp [intOf]; omega
      | false =>
        have HC2 := Lib.hid (HC.out hq)
        go_wp2_with (go_at_call 91; refine (HP.out _ HB.out).mono ?_; rintro e w2 ⟨rfl, h2⟩; rw [hq]; have H2 := Lib.hid h2; clear h2)
        go_ret
        exact ⟨k, rfl, Lib.hid (by rw [HC2.out]; simp), HB.out.trans (H2.out.mono hws)⟩
    · obtain rfl : k = xs.length := by omega
      rw [List.take_length] at hall
      have HA := Lib.hid hall
      clear hall
      go_wp2_with fail
      go_ret
      exact ⟨-1, rfl, Lib.hid (by rw [HA.out]; rfl), hbw⟩
theorem contains_S (ok : Sy → Bool) (w : World) (a : Option Addr) (cap : Nat) (xs : List Sy) (he : EltsK encS 3 w a xs) (hz : xs.length ≤ 1000000)
    (hp : ∀ x ∈ xs, ∀ w', Below w.heap.size w w' → Calls Try.prog 91 #[.agg #[.int .i64 x.k, .string x.t, .int .i64 x.n]] w' fun e w2 => e = .returned (.bool (!ok x)) ∧ Below w'.heap.size w' w2) :
    Calls Try.prog 114 #[.slice a xs.length cap, .func (.func 91) #[] #[]] w fun e w' => e = .returned (.bool (!xs.all ok)) ∧ Below w.heap.size w w' := by
  have hi := index_S ok w a cap xs he hz hp
  have HI := Lib.hid hi
  clear hi he hp
  go_enter Try.func114, Try.ntmps114
  go_wp2_with (go_at_call 121; refine HI.out.mono ?_; rintro e w2 ⟨r, rfl, hr, h2⟩)
  go_ret
  exact ⟨by rw [← hr.out]; rfl, h2⟩

set_option maxHeartbeats 1000000 in
theorem index_T (ok : Ts → Bool) (w : World) (a : Option Addr) (cap : Nat) (xs : List Ts) (he : EltsK encT 6 w a xs) (hz : xs.length ≤ 1000000)
    (hp : ∀ x ∈ xs, ∀ w', Below w.heap.size w w' → Calls Try.prog 90 #[.agg #[.int .i64 x.rel, .string x.var, .int .i64 x.s.k, .string x.s.t, .int .i64 x.s.n, .slice x.a x.list.length x.cap]] w' fun e w2 => e = .returned (.bool (!ok x)) ∧ Below w'.heap.size w' w2) :
    Calls Try.prog 101 #[.slice a xs.length cap, .func (.func 90) #[] #[]] w fun e w' => ∃ r : Int, e = .returned (.int .i64 r) ∧ Hid (decide (0 ≤ r) = !xs.all ok) ∧ Below w.heap.size w w' := by
  have Hel := Lib.hid he
  have Hp := Lib.hid hp
  clear he hp
  go_enter Try.func101, Try.ntmps101
  go_wp2_with fail
  go_loopw [5, 8] (fun _ j wr => ∃ k : Nat, k ≤ xs.length ∧ j = .int .i64 k ∧ Below w.heap.size w wr ∧ (xs.take k).all ok = true) (fun _ j _ => xs.length - (intOf j).toNat)
  case atStart => exact ⟨0, Nat.zero_le _, rfl, Below.refl _ _, rfl⟩
  case round =>
    obtain ⟨k, hk, rfl, hbw, hall⟩ := hrel
    by_cases hlt : k < xs.length
    · obtain ⟨b, off, rfl, hcell⟩ := Hel.out.at hlt
      have hc := hcell wr hbw
      have hpx := Hp.out xs[k] (List.getElem_mem hlt)
      have hcut := fun h => all_cut (p := ok) hlt h
      have hsucc := all_take_succ ok xs hlt
      obtain ⟨x, hx⟩ : ∃ x, x = xs[k] := ⟨_, rfl⟩
      rw [← hx] at hc hpx hcut hsucc
      rw [hall, Bool.true_and] at hsucc
      have c0 := hc 0 _ rfl
      have c1 := hc 1 _ rfl
      have c2 := hc 2 _ rfl
      have c3 := hc 3 _ rfl
      have c4 := hc 4 _ rfl
      have c5 := hc 5 _ rfl
      simp only [Nat.add_zero] at c0
      have HS := Lib.hid hsucc
      have HC := Lib.hid hcut
      have HB := Lib.hid hbw
      have HP := Lib.hid hpx
      have hws := hbw.size
      clear hall hx hc hcell hbw hpx hsucc hcut
      cases hq : ok x with
      | true =>
        have HS2 := Lib.hid (HS.out.trans hq)
        go_wp2_with (go_at_call 90; refine (HP.out _ HB.out).mono ?_; rintro e w2 ⟨rfl, h2⟩; rw [hq]; have H2 := Lib.hid h2; clear h2)
        go_roundw
        case rel => exact ⟨k + 1, by omega, by go_num, HB.out.trans (H2.out.mono hws), HS2.out⟩
        case measure => simp [intOf]; omega
      | false =>
        have HC2 := Lib.hid (HC.out hq)
        go_wp2_with (go_at_call 90; refine (HP.out _ HB.out).mono ?_; rintro e w2 ⟨rfl, h2⟩; rw [hq]; have H2 := Lib.hid h2; clear h2)
        go_ret
        exact ⟨k, rfl, Lib.hid (by rw [HC2.out]; simp), HB.out.trans (H2.out.mono hws)⟩
    · obtain rfl : k = xs.length := by omega
      rw [List.take_length] at hall
      have HA := Lib.hid hall
      clear hall
      go_wp2_with fail
      go_ret
      exact ⟨-1, rfl, Lib.hid (by rw [HA.out]; rfl), hbw⟩
theorem contains_T (ok : Ts → Bool) (w : World) (a : Option Addr) (cap : Nat) (xs : List Ts) (he : EltsK encT 6 w a xs) (hz : xs.length ≤ 1000000)
    (hp : ∀ x ∈ xs, ∀ w', Below w.heap.size w w' → Calls Try.prog 90 #[.agg #[.int .i64 x.rel, .string x.var, .int .i64 x.s.k, .string x.s.t, .int .i64 x.s.n, .slice x.a x.list.length x.cap]] w' fun e w2 => e = .returned (.bool (!ok x)) ∧ Below w'.heap.size w' w2) :
    Calls Try.prog 89 #[.slice a xs.length cap, .func (.func 90) #[] #[]] w fun e w' => e = .returned (.bool (!xs.all ok)) ∧ Below w.heap.size w w' := by
  have hi := index_T ok w a cap xs he hz hp
  have HI := Lib.hid hi
  clear hi he hp
  go_enter Try.func89, Try.ntmps89
  go_wp2_with (go_at_call 101; refine HI.out.mono ?_; rintro e w2 ⟨r, rfl, hr, h2⟩)
  go_ret
  exact ⟨by rw [← hr.out]; rfl, h2⟩

def listB (l : List Sy) : Bool := decide (1 ≤ l.length ∧ l.length ≤ 8) && l.all constB
theorem listF_any (w : World) (a : Option Addr) (cap : Nat) (l : List Sy) (he : EltsK encS 3 w a l) (hz : l.length ≤ 1000000000) : Calls Try.prog 102 #[.slice a l.length cap] w fun e w' => e = .returned (.bool (listB l)) ∧ Below w.heap.size w w' := by
  by_cases h1 : 1 ≤ l.length
  · by_cases h2 : l.length ≤ 8
    · have hc := contains_S constB w a cap l he (by omega) (fun x _ w' _ => constF_any x w')
      have HC := Lib.hid hc
      have HR := Lib.hid (show listB l = l.all constB by unfold listB; simp [h1, h2])
      clear hc he
      go_enter Try.func102, Try.ntmps102
      go_wp2_with (go_at_call 114; refine HC.out.mono ?_; rintro e w2 ⟨rfl, hb⟩)
      go_ret
      exact ⟨by rw [HR.out]; simp, hb⟩
    · have HR := Lib.hid (show listB l = false by unfold listB; simp [h2])
      clear he
      go_enter Try.func102, Try.ntmps102
      go_wp2_with fail
      go_ret
      exact ⟨by rw [HR.out]; rfl, Below.refl _ _⟩
  · have HR := Lib.hid (show listB l = false by unfold listB; simp [h1])
    clear he
    go_enter Try.func102, Try.ntmps102
    go_wp2_with fail
    go_ret
    exact ⟨by rw [HR.out]; rfl, Below.refl _ _⟩
end Go.Proofs.Ytccphigpobnjmaa
