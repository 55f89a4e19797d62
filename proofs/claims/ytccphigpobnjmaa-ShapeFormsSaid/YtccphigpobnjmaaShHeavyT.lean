/-
  ponderkeep.heavyTests and Size over conditions that came in. No condition.
-/
import Derived.Test.YtccphigpobnjmaaShArg
import Derived.Test.YtccphigpobnjmaaShSize
namespace Go.Proofs.Ytccphigpobnjmaa
set_option linter.unusedVariables false
open Go.RowKit
def heavyX (x : Ts) : Bool := decide (20 < x.list.length) || decide (100 < x.var.size) || decide (100 < x.s.t.size)
theorem size_le {s : ByteArray} {n : Nat} : ((n : Int) < (s.size : Int)) ↔ n < s.size := by omega
set_option maxHeartbeats 2000000 in
theorem heavyT_any (l : List Ts) (a : Option Addr) (cap : Nat) (w : World) (h : TestsIn w a l) : Calls Try.prog 61 #[.slice a l.length cap] w fun e w' => e = .returned (.bool (l.any heavyX)) ∧ w = w' := by
  have Hel := Lib.hid h.1
  have hml : l.length ≤ maxLen := h.2.2
  unfold maxLen at hml
  have HM := Lib.hid (fun x (hx : x ∈ l) => (h.2.1 x hx).2)
  clear h
  go_enter Try.func61, Try.ntmps61
  go_wp2_with fail
  go_loopw [2, 3] (fun r i wr => ∃ k : Nat, k ≤ l.length ∧ i = .int .i64 k ∧ r = .bool false ∧ wr = w ∧ l.any heavyX = (l.drop k).any heavyX) (fun _ i _ => l.length - (intOf i).toNat)
  case atStart => exact ⟨0, Nat.zero_le _, rfl, rfl, rfl, rfl⟩
  case round =>
    obtain ⟨k, hk, rfl, rfl, rfl, hrun⟩ := hrel
    by_cases hlt : k < l.length
    · obtain ⟨b, off, rfl, hcell⟩ := Hel.out.at hlt
      have hc := hcell _ (Below.refl _ _)
      have hmx := HM.out l[k] (List.getElem_mem hlt)
      unfold maxLen at hmx
      rw [List.drop_eq_getElem_cons hlt, List.any_cons] at hrun
      obtain ⟨x, hx⟩ : ∃ x, x = l[k] := ⟨_, rfl⟩
      rw [← hx] at hc hrun hmx
      have c1 := hc 1 _ rfl
      have c3 := hc 3 _ rfl
      have c5 := hc 5 _ rfl
      clear hx hc hcell
      by_cases q1 : 20 < x.list.length
      · have HQ := Lib.hid (show l.any heavyX = true by rw [hrun]; simp [heavyX, q1])
        have d1 : decide ((20 : Int) < (x.list.length : Int)) = true := decide_eq_true (by omega)
        clear q1 hrun
        go_wp2_with fail
        go_ret
        exact ⟨by rw [HQ.out]; rfl, rfl⟩
      have d1 : decide ((20 : Int) < (x.list.length : Int)) = false := decide_eq_false (by omega)
      by_cases q2 : 100 < x.var.size
      · have HQ := Lib.hid (show l.any heavyX = true by rw [hrun]; simp [heavyX, q2])
        have d2 : decide ((100 : Int) < (x.var.size : Int)) = true := decide_eq_true (by omega)
        clear q1 q2 hrun
        go_wp2_with fail
        go_ret
        exact ⟨by rw [HQ.out]; rfl, rfl⟩
      have d2 : decide ((100 : Int) < (x.var.size : Int)) = false := decide_eq_false (by omega)
      by_cases q3 : 100 < x.s.t.size
      · have HQ := Lib.hid (show l.any heavyX = true by rw [hrun]; simp [heavyX, q3])
        have d3 : decide ((100 : Int) < (x.s.t.size : Int)) = true := decide_eq_true (by omega)
        clear q1 q2 q3 hrun
        go_wp2_with fail
        go_ret
        exact ⟨by rw [HQ.out]; rfl, rfl⟩
      have d3 : decide ((100 : Int) < (x.s.t.size : Int)) = false := decide_eq_false (by omega)
      have HQ := Lib.hid (show l.any heavyX = (l.drop (k + 1)).any heavyX by rw [hrun]; simp [heavyX, q1, q2, q3])
      clear q1 q2 q3 hrun
      go_wp2_with fail
      go_roundw
      case rel => exact ⟨k + 1, by omega, by go_num, rfl, by trivial, HQ.out⟩
      case measure => simp [intOf]; omega
    · obtain rfl : k = l.length := by omega
      have HQ := Lib.hid (show l.any heavyX = false by rw [hrun, List.drop_length]; rfl)
      clear hrun
      go_wp2_with fail
      go_ret
      exact ⟨by rw [HQ.out]; rfl, rfl⟩
/-- How many conditions there are, inner ones, too, counted from n on at depth d: more than 40 is 41 at most each. -/
def kL : List Co → Nat → Nat → Nat
  | [], _, n => n
  | .mk _ m :: l, d, n => if 40 < n then n else kL l d (n + (1 + (if 20 < d + 1 then 41 else min (kL m (d + 1) 0) 41)))
def kS (l : List Co) (d : Nat) : Nat := if 20 < d then 41 else min (kL l d 0) 41
theorem kS_le (l : List Co) (d : Nat) : kS l d ≤ 41 := by unfold kS; split <;> omega
theorem kL_big : ∀ (l : List Co) (d n : Nat), 40 < n → kL l d n = n
  | [], _, _, _ => by simp [kL]
  | .mk h m :: l, d, n, hn => by unfold kL; rw [if_pos hn]
theorem kL_step (l : List Co) {k : Nat} (hk : k < l.length) (d n : Nat) (hn : n ≤ 40) : kL (l.drop k) d n = kL (l.drop (k + 1)) d (n + (1 + kS l[k].l (d + 1))) := by
  rw [List.drop_eq_getElem_cons hk]
  cases hc : l[k] with
  | mk h m => rw [kL, if_neg (by omega)]; rfl
theorem kL_size : ∀ (l : List Co) (d n : Nat), kL l d n ≤ 40 → kL l d n = n + sizeL l
  | [], _, _, _ => by simp [kL, sizeL]
  | .mk h m :: l, d, n, hle => by
    unfold kL at hle ⊢
    by_cases hn : 40 < n
    · rw [if_pos hn] at hle; omega
    · rw [if_neg hn] at hle ⊢
      have hr : n + (1 + (if 20 < d + 1 then 41 else min (kL m (d + 1) 0) 41)) ≤ 40 := by
        by_cases hq : 40 < n + (1 + (if 20 < d + 1 then 41 else min (kL m (d + 1) 0) 41))
        · rw [kL_big _ _ _ hq] at hle; omega
        · omega
      by_cases hd : 20 < d + 1
      · rw [if_pos hd] at hr; omega
      · rw [if_neg hd] at hr hle ⊢
        have h1 := kL_size m (d + 1) 0 (by omega)
        rw [kL_size l d _ hle]
        simp only [sizeL]; omega
theorem kS_size {l : List Co} {d : Nat} (h : kS l d ≤ 40) : sizeL l ≤ 40 := by
  unfold kS at h
  split at h
  · omega
  · have := kL_size l d 0 (by omega); omega
theorem CondsIn.inner {w : World} {a : Option Addr} {l : List Co} (h : CondsIn w a l) {k : Nat} (hk : k < l.length) : CondsIn w l[k].h.ca l[k].l := by
  cases h with
  | mk _ _ he ha hv hi hl => exact hi _ (List.getElem_mem hk)
theorem CondsIn.elts {w : World} {a : Option Addr} {l : List Co} (h : CondsIn w a l) : EltsK encC 7 w a l := by
  cases h with
  | mk _ _ he ha hv hi hl => exact he
theorem CondsIn.many {w : World} {a : Option Addr} {l : List Co} (h : CondsIn w a l) : l.length ≤ maxLen := by
  cases h with
  | mk _ _ he ha hv hi hl => exact hl
theorem CondsIn.tests {w : World} {a : Option Addr} {l : List Co} (h : CondsIn w a l) {k : Nat} (hk : k < l.length) : TestsIn w l[k].h.aa l[k].h.attr ∧ TestsIn w l[k].h.va l[k].h.value := by
  cases h with
  | mk _ _ he ha hv hi hl => exact ⟨ha _ (List.getElem_mem hk), hv _ (List.getElem_mem hk)⟩
def KSized (l : List Co) : Prop := ∀ (d : Nat) (a : Option Addr) (cap : Nat) (w : World), d ≤ 21 → CondsIn w a l → Calls Try.prog 36 #[.slice a l.length cap, .int .i64 40, .int .i64 d] w fun e w' => e = .returned (.int .i64 (kS l d)) ∧ w = w'
set_option maxHeartbeats 2000000 in
theorem ksize_step (l : List Co) (ih : ∀ m, sizeL m < sizeL l → KSized m) : KSized l := by
  intro d a cap w hd h
  have Hel := Lib.hid h.elts
  have Hin := Lib.hid (fun k (hk : k < l.length) (h1 : d + 1 ≤ 21) => ih l[k].l (size_inner l hk) (d + 1) l[k].h.ca l[k].h.cc w h1 (h.inner hk))
  have hml := h.many
  unfold maxLen at hml
  clear h ih
  by_cases hd2 : 20 < d
  · have HQ := Lib.hid (show kS l d = 41 by unfold kS; rw [if_pos hd2])
    have d1 : decide ((20 : Int) < (d : Int)) = true := decide_eq_true (by omega)
    go_enter Try.func36, Try.ntmps36
    go_wp2_with fail
    go_ret
    exact ⟨by rw [HQ.out]; rfl, rfl⟩
  have HKS := Lib.hid (show kS l d = min (kL l d 0) 41 by unfold kS; rw [if_neg hd2])
  have d1 : decide ((20 : Int) < (d : Int)) = false := decide_eq_false (by omega)
  go_enter Try.func36, Try.ntmps36
  go_wp2_with fail
  go_loopw [7, 8] (fun s i wr => ∃ k n : Nat, k ≤ l.length ∧ i = .int .i64 k ∧ s = .int .i64 n ∧ n ≤ 82 ∧ wr = w ∧ kL l d 0 = kL (l.drop k) d n) (fun _ i _ => l.length - (intOf i).toNat)
  case atStart => exact ⟨0, 0, Nat.zero_le _, rfl, rfl, by omega, rfl, rfl⟩
  case round =>
    obtain ⟨k, n, hk, rfl, rfl, hn, rfl, hrun⟩ := hrel
    by_cases hlt : k < l.length
    · by_cases hq : 40 < n
      · have HQ := Lib.hid (show kS l d = 41 by rw [HKS.out, hrun, kL_big _ _ _ hq]; omega)
        have d2 : decide ((n : Int) ≤ 40) = false := decide_eq_false (by omega)
        clear hrun HKS
        go_wp2_with fail
        go_ret
        exact ⟨by rw [HQ.out]; show Ending.returned (.int .i64 (min (n : Int) 41)) = _; rw [show min (n : Int) 41 = ((41 : Nat) : Int) by omega], rfl⟩
      · obtain ⟨b, off, rfl, hcell⟩ := Hel.out.at hlt
        have hc := hcell _ (Below.refl _ _)
        have hin := Hin.out k hlt (by omega)
        rw [kL_step l hlt d n (by omega)] at hrun
        have hks := kS_le l[k].l (d + 1)
        obtain ⟨x, hx⟩ : ∃ x, x = l[k] := ⟨_, rfl⟩
        rw [← hx] at hc hin hrun hks
        have c6 := hc 6 _ rfl
        have HI := Lib.hid hin
        have HR := Lib.hid hrun
        have d2 : decide ((n : Int) ≤ 40) = true := decide_eq_true (by omega)
        clear hx hc hcell hin hrun
        generalize kS x.l (d + 1) = m at HI HR hks
        go_wp2_with (go_at_call 36; refine HI.out.mono ?_; rintro e w2 ⟨rfl, rfl⟩)
        go_roundw
        case rel => exact ⟨k + 1, n + (1 + m), by omega, by go_num, by go_num, by omega, by trivial, HR.out⟩
        case measure => simp [intOf]; omega
    · obtain rfl : k = l.length := by omega
      have HQ := Lib.hid (show kS l d = min n 41 by rw [HKS.out, hrun, List.drop_length]; simp [kL])
      clear hrun HKS
      go_wp2_with fail
      go_ret
      exact ⟨by rw [HQ.out]; show Ending.returned (.int .i64 (min (n : Int) 41)) = _; rw [show min (n : Int) 41 = ((min n 41 : Nat) : Int) by omega], rfl⟩
theorem ksize_any (l : List Co) : KSized l := by
  have key : ∀ n, ∀ l : List Co, sizeL l ≤ n → KSized l := by
    intro n
    induction n with
    | zero => exact fun l h => ksize_step l (fun m hm => by omega)
    | succ n ih => exact fun l h => ksize_step l (fun m hm => ih m (by omega))
  exact key _ l (Nat.le_refl _)
end Go.Proofs.Ytccphigpobnjmaa
