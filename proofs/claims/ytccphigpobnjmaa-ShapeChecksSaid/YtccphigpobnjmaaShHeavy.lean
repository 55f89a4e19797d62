/-
  ponderkeep.HeavyConds and Heavy over a production that came in. No condition.
-/
import Derived.Test.YtccphigpobnjmaaShArg
import Derived.Test.YtccphigpobnjmaaShSize
import Derived.Test.YtccphigpobnjmaaKitLoad
namespace Go.Proofs.Ytccphigpobnjmaa
set_option linter.unusedVariables false
open Go.RowKit
def heavyX (x : Ts) : Bool := decide (20 < x.list.length) || decide (100 < x.var.size) || decide (100 < x.s.t.size)
theorem size_le {s : ByteArray} {n : Nat} : ((n : Int) < (s.size : Int)) ↔ n < s.size := by omega
set_option maxHeartbeats 2000000 in
theorem heavyT_any (l : List Ts) (a : Option Addr) (cap : Nat) (w : World) (h : TestsIn w a l) : Calls Try.prog 61 #[.slice a l.length cap] w fun e w' => e = .returned (.bool (l.any heavyX)) ∧ w = w' := by
  have Hel := Lib.hid h.1
  have hml : l.length ≤ maxLen := h.2.2
  unfold maxLen at hml
  have HM := Lib.hid (fun x (hx : x ∈ l) => (h.2.1 x hx).2)
  clear h
  go_enter Try.func61, Try.ntmps61
  go_wp2_with fail
  go_loopw [2, 3] (fun r i wr => ∃ k : Nat, k ≤ l.length ∧ i = .int .i64 k ∧ r = .bool false ∧ wr = w ∧ l.any heavyX = (l.drop k).any heavyX) (fun _ i _ => l.length - (intOf i).toNat)
  case atStart => exact ⟨0, Nat.zero_le _, rfl, rfl, rfl, rfl⟩
  case round =>
    obtain ⟨k, hk, rfl, rfl, rfl, hrun⟩ := hrel
    by_cases hlt : k < l.length
    · obtain ⟨b, off, rfl, hcell⟩ := Hel.out.at hlt
      have hc := hcell _ (Below.refl _ _)
      have hmx := HM.out l[k] (List.getElem_mem hlt)
      unfold maxLen at hmx
      rw [List.drop_eq_getElem_cons hlt, List.any_cons] at hrun
      obtain ⟨x, hx⟩ : ∃ x, x = l[k] := ⟨_, rfl⟩
      rw [← hx] at hc hrun hmx
      have c1 := hc 1 _ rfl
      have c3 := hc 3 _ rfl
      have c5 := hc 5 _ rfl
      clear hx hc hcell
      by_cases q1 : 20 < x.list.length
      · have HQ := Lib.hid (show l.any heavyX = true by rw [hrun]; simp [heavyX, q1])
        have d1 : decide ((20 : Int) < (x.list.length : Int)) = true := decide_eq_true (by omega)
        clear q1 hrun
        go_wp2_with fail
        go_ret
        exact ⟨by rw [HQ.out]; rfl, rfl⟩
      have d1 : decide ((20 : Int) < (x.list.length : Int)) = false := decide_eq_false (by omega)
      by_cases q2 : 100 < x.var.size
      · have HQ := Lib.hid (show l.any heavyX = true by rw [hrun]; simp [heavyX, q2])
        have d2 : decide ((100 : Int) < (x.var.size : Int)) = true := decide_eq_true (by omega)
        clear q1 q2 hrun
        go_wp2_with fail
        go_ret
        exact ⟨by rw [HQ.out]; rfl, rfl⟩
      have d2 : decide ((100 : Int) < (x.var.size : Int)) = false := decide_eq_false (by omega)
      by_cases q3 : 100 < x.s.t.size
      · have HQ := Lib.hid (show l.any heavyX = true by rw [hrun]; simp [heavyX, q3])
        have d3 : decide ((100 : Int) < (x.s.t.size : Int)) = true := decide_eq_true (by omega)
        clear q1 q2 q3 hrun
        go_wp2_with fail
        go_ret
        exact ⟨by rw [HQ.out]; rfl, rfl⟩
      have d3 : decide ((100 : Int) < (x.s.t.size : Int)) = false := decide_eq_false (by omega)
      have HQ := Lib.hid (show l.any heavyX = (l.drop (k + 1)).any heavyX by rw [hrun]; simp [heavyX, q1, q2, q3])
      clear q1 q2 q3 hrun
      go_wp2_with fail
      go_roundw
      case rel => exact ⟨k + 1, by omega, by go_num, rfl, by trivial, HQ.out⟩
      case measure => simp [intOf]; omega
    · obtain rfl : k = l.length := by omega
      have HQ := Lib.hid (show l.any heavyX = false by rw [hrun, List.drop_length]; rfl)
      clear hrun
      go_wp2_with fail
      go_ret
      exact ⟨by rw [HQ.out]; rfl, rfl⟩
/-- How many conditions there are, inner ones, too, counted from n on at depth d: more than 40 is 41 at most each. -/
def kL : List Co → Nat → Nat → Nat
  | [], _, n => n
  | .mk _ m :: l, d, n => if 40 < n then n else kL l d (n + (1 + (if 20 < d + 1 then 41 else min (kL m (d + 1) 0) 41)))
def kS (l : List Co) (d : Nat) : Nat := if 20 < d then 41 else min (kL l d 0) 41
theorem kS_le (l : List Co) (d : Nat) : kS l d ≤ 41 := by unfold kS; split <;> omega
theorem kL_big : ∀ (l : List Co) (d n : Nat), 40 < n → kL l d n = n
  | [], _, _, _ => by simp [kL]
  | .mk h m :: l, d, n, hn => by unfold kL; rw [if_pos hn]
theorem kL_step (l : List Co) {k : Nat} (hk : k < l.length) (d n : Nat) (hn : n ≤ 40) : kL (l.drop k) d n = kL (l.drop (k + 1)) d (n + (1 + kS l[k].l (d + 1))) := by
  rw [List.drop_eq_getElem_cons hk]
  cases hc : l[k] with
  | mk h m => rw [kL, if_neg (by omega)]; rfl
theorem kL_size : ∀ (l : List Co) (d n : Nat), kL l d n ≤ 40 → kL l d n = n + sizeL l
  | [], _, _, _ => by simp [kL, sizeL]
  | .mk h m :: l, d, n, hle => by
    unfold kL at hle ⊢
    by_cases hn : 40 < n
    · rw [if_pos hn] at hle; omega
    · rw [if_neg hn] at hle ⊢
      have hr : n + (1 + (if 20 < d + 1 then 41 else min (kL m (d + 1) 0) 41)) ≤ 40 := by
        by_cases hq : 40 < n + (1 + (if 20 < d + 1 then 41 else min (kL m (d + 1) 0) 41))
        · rw [kL_big _ _ _ hq] at hle; omega
        · omega
      by_cases hd : 20 < d + 1
      · rw [if_pos hd] at hr; omega
      · rw [if_neg hd] at hr hle ⊢
        have h1 := kL_size m (d + 1) 0 (by omega)
        rw [kL_size l d _ hle]
        simp only [sizeL]; omega
theorem kS_size {l : List Co} {d : Nat} (h : kS l d ≤ 40) : sizeL l ≤ 40 := by
  unfold kS at h
  split at h
  · omega
  · have := kL_size l d 0 (by omega); omega
theorem CondsIn.inner {w : World} {a : Option Addr} {l : List Co} (h : CondsIn w a l) {k : Nat} (hk : k < l.length) : CondsIn w l[k].h.ca l[k].l := by
  cases h with
  | mk _ _ he ha hv hi hl => exact hi _ (List.getElem_mem hk)
theorem CondsIn.elts {w : World} {a : Option Addr} {l : List Co} (h : CondsIn w a l) : EltsK encC 7 w a l := by
  cases h with
  | mk _ _ he ha hv hi hl => exact he
theorem CondsIn.many {w : World} {a : Option Addr} {l : List Co} (h : CondsIn w a l) : l.length ≤ maxLen := by
  cases h with
  | mk _ _ he ha hv hi hl => exact hl
theorem CondsIn.tests {w : World} {a : Option Addr} {l : List Co} (h : CondsIn w a l) {k : Nat} (hk : k < l.length) : TestsIn w l[k].h.aa l[k].h.attr ∧ TestsIn w l[k].h.va l[k].h.value := by
  cases h with
  | mk _ _ he ha hv hi hl => exact ⟨ha _ (List.getElem_mem hk), hv _ (List.getElem_mem hk)⟩
def KSized (l : List Co) : Prop := ∀ (d : Nat) (a : Option Addr) (cap : Nat) (w : World), d ≤ 21 → CondsIn w a l → Calls Try.prog 36 #[.slice a l.length cap, .int .i64 40, .int .i64 d] w fun e w' => e = .returned (.int .i64 (kS l d)) ∧ w = w'
set_option maxHeartbeats 2000000 in
theorem ksize_step (l : List Co) (ih : ∀ m, sizeL m < sizeL l → KSized m) : KSized l := by
  intro d a cap w hd h
  have Hel := Lib.hid h.elts
  have Hin := Lib.hid (fun k (hk : k < l.length) (h1 : d + 1 ≤ 21) => ih l[k].l (size_inner l hk) (d + 1) l[k].h.ca l[k].h.cc w h1 (h.inner hk))
  have hml := h.many
  unfold maxLen at hml
  clear h ih
  by_cases hd2 : 20 < d
  · have HQ := Lib.hid (show kS l d = 41 by unfold kS; rw [if_pos hd2])
    have d1 : decide ((20 : Int) < (d : Int)) = true := decide_eq_true (by omega)
    go_enter Try.func36, Try.ntmps36
    go_wp2_with fail
    go_ret
    exact ⟨by rw [HQ.out]; rfl, rfl⟩
  have HKS := Lib.hid (show kS l d = min (kL l d 0) 41 by unfold kS; rw [if_neg hd2])
  have d1 : decide ((20 : Int) < (d : Int)) = false := decide_eq_false (by omega)
  go_enter Try.func36, Try.ntmps36
  go_wp2_with fail
  go_loopw [7, 8] (fun s i wr => ∃ k n : Nat, k ≤ l.length ∧ i = .int .i64 k ∧ s = .int .i64 n ∧ n ≤ 82 ∧ wr = w ∧ kL l d 0 = kL (l.drop k) d n) (fun _ i _ => l.length - (intOf i).toNat)
  case atStart => exact ⟨0, 0, Nat.zero_le _, rfl, rfl, by omega, rfl, rfl⟩
  case round =>
    obtain ⟨k, n, hk, rfl, rfl, hn, rfl, hrun⟩ := hrel
    by_cases hlt : k < l.length
    · by_cases hq : 40 < n
      · have HQ := Lib.hid (show kS l d = 41 by rw [HKS.out, hrun, kL_big _ _ _ hq]; omega)
        have d2 : decide ((n : Int) ≤ 40) = false := decide_eq_false (by omega)
        clear hrun HKS
        go_wp2_with fail
        go_ret
        exact ⟨by rw [HQ.out]; show Ending.returned (.int .i64 (min (n : Int) 41)) = _; rw [show min (n : Int) 41 = ((41 : Nat) : Int) by omega], rfl⟩
      · obtain ⟨b, off, rfl, hcell⟩ := Hel.out.at hlt
        have hc := hcell _ (Below.refl _ _)
        have hin := Hin.out k hlt (by omega)
        rw [kL_step l hlt d n (by omega)] at hrun
        have hks := kS_le l[k].l (d + 1)
        obtain ⟨x, hx⟩ : ∃ x, x = l[k] := ⟨_, rfl⟩
        rw [← hx] at hc hin hrun hks
        have c6 := hc 6 _ rfl
        have HI := Lib.hid hin
        have HR := Lib.hid hrun
        have d2 : decide ((n : Int) ≤ 40) = true := decide_eq_true (by omega)
        clear hx hc hcell hin hrun
        generalize kS x.l (d + 1) = m at HI HR hks
        go_wp2_with (go_at_call 36; refine HI.out.mono ?_; rintro e w2 ⟨rfl, rfl⟩)
        go_roundw
        case rel => exact ⟨k + 1, n + (1 + m), by omega, by go_num, by go_num, by omega, by trivial, HR.out⟩
        case measure => simp [intOf]; omega
    · obtain rfl : k = l.length := by omega
      have HQ := Lib.hid (show kS l d = min n 41 by rw [HKS.out, hrun, List.drop_length]; simp [kL])
      clear hrun HKS
      go_wp2_with fail
      go_ret
      exact ⟨by rw [HQ.out]; show Ending.returned (.int .i64 (min (n : Int) 41)) = _; rw [show min (n : Int) 41 = ((min n 41 : Nat) : Int) by omega], rfl⟩
theorem ksize_any (l : List Co) : KSized l := by
  have key : ∀ n, ∀ l : List Co, sizeL l ≤ n → KSized l := by
    intro n
    induction n with
    | zero => exact fun l h => ksize_step l (fun m hm => by omega)
    | succ n ih => exact fun l h => ksize_step l (fun m hm => ih m (by omega))
  exact key _ l (Nat.le_refl _)
open Go.RowKit
def heavyH (h : Ch) : Bool := decide (100 < h.id.size) || decide (10 < h.attr.length) || decide (10 < h.value.length) || h.attr.any heavyX || h.value.any heavyX
def heavyC : List Co → Bool
  | [] => false
  | .mk h m :: l => (heavyH h || heavyC m) || heavyC l
theorem heavyC_drop (l : List Co) {k : Nat} (hk : k < l.length) : heavyC (l.drop k) = ((heavyH l[k].h || heavyC l[k].l) || heavyC (l.drop (k + 1))) := by
  rw [List.drop_eq_getElem_cons hk]
  cases hc : l[k] with
  | mk h m => simp only [heavyC, Co.h, Co.l]
def HConds (l : List Co) : Prop := ∀ (a : Option Addr) (cap : Nat) (w : World), CondsIn w a l → Calls Try.prog 37 #[.slice a l.length cap] w fun e w' => e = .returned (.bool (heavyC l)) ∧ Below w.heap.size w w'
set_option maxRecDepth 100000 in
set_option maxHeartbeats 4000000 in
theorem hconds_step (l : List Co) (ih : ∀ m, sizeL m < sizeL l → HConds m) : HConds l := by
  intro a cap w h
  have Hel := Lib.hid h.elts
  have Hin := Lib.hid (fun k (hk : k < l.length) w' (hb : Below w.heap.size w w') => ih l[k].l (size_inner l hk) l[k].h.ca l[k].h.cc w' ((h.inner hk).mono hb))
  have Hta := Lib.hid (fun k (hk : k < l.length) w' (hb : Below w.heap.size w w') => heavyT_any l[k].h.attr l[k].h.aa l[k].h.ac w' ((h.tests hk).1.mono hb))
  have Htv := Lib.hid (fun k (hk : k < l.length) w' (hb : Below w.heap.size w w') => heavyT_any l[k].h.value l[k].h.va l[k].h.vc w' ((h.tests hk).2.mono hb))
  have hml := h.many
  have Hme := Lib.hid (fun k (hk : k < l.length) => (⟨(h.tests hk).1.2.2, (h.tests hk).2.2.2⟩ : l[k].h.attr.length ≤ maxLen ∧ l[k].h.value.length ≤ maxLen))
  unfold maxLen at hml
  have hi7 : (Try.prog.info? 64).map (·.size) = some 7 := by kernel_rfl
  have H7 := Lib.hid hi7
  clear h ih hi7
  go_enter Try.func37, Try.ntmps37
  go_wp2_with fail
  go_loopw [2, 3, 4] (fun r i _ wr => ∃ k : Nat, k ≤ l.length ∧ i = .int .i64 k ∧ r = .bool false ∧ Below w.heap.size w wr ∧ heavyC l = heavyC (l.drop k)) (fun _ i _ _ => l.length - (intOf i).toNat)
  case atStart => exact ⟨0, Nat.zero_le _, rfl, rfl, Below.refl _ _, rfl⟩
  case round =>
    obtain ⟨k, hk, rfl, rfl, hbw, hrun⟩ := hrel
    by_cases hlt : k < l.length
    · obtain ⟨b, off, rfl, hcell⟩ := Hel.out.at hlt
      have hws := hbw.size
      have hB2 : Below wr.heap.size wr (wr.alloc (.cells #[.int .i64 l[k].h.kind, .bool l[k].h.goal, .string l[k].h.id, .slice l[k].h.aa l[k].h.attr.length l[k].h.ac, .slice l[k].h.va l[k].h.value.length l[k].h.vc, .bool l[k].h.acc, .slice l[k].h.ca l[k].l.length l[k].h.cc] 64)) := by go_grown
      have hbb := hbw.trans (hB2.mono hws)
      have hin := Hin.out k hlt _ hbb
      have hta := Hta.out k hlt _ hbb
      have htv := Htv.out k hlt _ hbb
      obtain ⟨hm1, hm2⟩ := Hme.out k hlt
      unfold maxLen at hm1 hm2
      rw [heavyC_drop l hlt] at hrun
      have hc := hcell _ hbw
      obtain ⟨x, hx⟩ : ∃ x, x = l[k] := ⟨_, rfl⟩
      rw [← hx] at hc hrun hin hta htv hB2 hbb hm1 hm2
      have hcl : ∀ (j : Nat) (v : Value), [.int .i64 x.h.kind, .bool x.h.goal, .string x.h.id, .slice x.h.aa x.h.attr.length x.h.ac, .slice x.h.va x.h.value.length x.h.vc, .bool x.h.acc, .slice x.h.ca x.l.length x.h.cc][j]? = some v → wr.cell? ((⟨b, off + k * 7, none⟩ : Addr).add j) = some v := fun j v hv => by rw [Addr.add_lit]; exact hc j v hv
      have hnew := cells_of (W := wr.alloc (.cells #[.int .i64 x.h.kind, .bool x.h.goal, .string x.h.id, .slice x.h.aa x.h.attr.length x.h.ac, .slice x.h.va x.h.value.length x.h.vc, .bool x.h.acc, .slice x.h.ca x.l.length x.h.cc] 64)) (b := wr.heap.size) (c := #[.int .i64 x.h.kind, .bool x.h.goal, .string x.h.id, .slice x.h.aa x.h.attr.length x.h.ac, .slice x.h.va x.h.value.length x.h.vc, .bool x.h.acc, .slice x.h.ca x.l.length x.h.cc]) (t := 64) (f := (0, 0)) (new_at rfl)
      have k2 : (wr.alloc (.cells #[.int .i64 x.h.kind, .bool x.h.goal, .string x.h.id, .slice x.h.aa x.h.attr.length x.h.ac, .slice x.h.va x.h.value.length x.h.vc, .bool x.h.acc, .slice x.h.ca x.l.length x.h.cc] 64)).cell? ⟨wr.heap.size, 2, none⟩ = some (.string x.h.id) := by rw [hnew]; rfl
      have k3 : (wr.alloc (.cells #[.int .i64 x.h.kind, .bool x.h.goal, .string x.h.id, .slice x.h.aa x.h.attr.length x.h.ac, .slice x.h.va x.h.value.length x.h.vc, .bool x.h.acc, .slice x.h.ca x.l.length x.h.cc] 64)).cell? ⟨wr.heap.size, 3, none⟩ = some (.slice x.h.aa x.h.attr.length x.h.ac) := by rw [hnew]; rfl
      have k4 : (wr.alloc (.cells #[.int .i64 x.h.kind, .bool x.h.goal, .string x.h.id, .slice x.h.aa x.h.attr.length x.h.ac, .slice x.h.va x.h.value.length x.h.vc, .bool x.h.acc, .slice x.h.ca x.l.length x.h.cc] 64)).cell? ⟨wr.heap.size, 4, none⟩ = some (.slice x.h.va x.h.value.length x.h.vc) := by rw [hnew]; rfl
      have k6 : (wr.alloc (.cells #[.int .i64 x.h.kind, .bool x.h.goal, .string x.h.id, .slice x.h.aa x.h.attr.length x.h.ac, .slice x.h.va x.h.value.length x.h.vc, .bool x.h.acc, .slice x.h.ca x.l.length x.h.cc] 64)).cell? ⟨wr.heap.size, 6, none⟩ = some (.slice x.h.ca x.l.length x.h.cc) := by rw [hnew]; rfl
      have HCL := Lib.hid hcl
      have HA := Lib.hid hta
      have HV := Lib.hid htv
      have HI := Lib.hid hin
      have HB2 := Lib.hid hB2
      have ta : Hid (0 = 0) := rfl
      clear hx hc hcell hcl hnew hin hta htv hbb hB2
      by_cases q1 : 100 < x.h.id.size
      · have HQ := Lib.hid (show heavyC l = true by rw [hrun]; simp [heavyH, q1])
        have d1 : decide ((100 : Int) < (x.h.id.size : Int)) = true := decide_eq_true (by omega)
        clear q1 hrun
        go_wp2_with (first | (refine wpList_load rfl (.tmp 13) 64 rfl (A := ⟨b, off + k * 7, none⟩) rfl Try.underlying64 rfl (cs := [.int .i64 x.h.kind, .bool x.h.goal, .string x.h.id, .slice x.h.aa x.h.attr.length x.h.ac, .slice x.h.va x.h.value.length x.h.vc, .bool x.h.acc, .slice x.h.ca x.l.length x.h.cc]) H7.out HCL.out ?_) | (refine wpList_store_new rfl (.tmp 4) (.tmp 14) 64 rfl rfl (c' := #[.int .i64 x.h.kind, .bool x.h.goal, .string x.h.id, .slice x.h.aa x.h.attr.length x.h.ac, .slice x.h.va x.h.value.length x.h.vc, .bool x.h.acc, .slice x.h.ca x.l.length x.h.cc]) rfl H7.out rfl (by simp [Value.oneCell']) ?_))
        go_ret
        exact ⟨by rw [HQ.out]; rfl, (hbw.trans (HB2.out.mono hws))⟩
      have d1 : decide ((100 : Int) < (x.h.id.size : Int)) = false := decide_eq_false (by omega)
      by_cases q2 : 10 < x.h.attr.length
      · have HQ := Lib.hid (show heavyC l = true by rw [hrun]; simp [heavyH, q2])
        have d2 : decide ((10 : Int) < (x.h.attr.length : Int)) = true := decide_eq_true (by omega)
        clear q1 q2 hrun
        go_wp2_with (first | (refine wpList_load rfl (.tmp 13) 64 rfl (A := ⟨b, off + k * 7, none⟩) rfl Try.underlying64 rfl (cs := [.int .i64 x.h.kind, .bool x.h.goal, .string x.h.id, .slice x.h.aa x.h.attr.length x.h.ac, .slice x.h.va x.h.value.length x.h.vc, .bool x.h.acc, .slice x.h.ca x.l.length x.h.cc]) H7.out HCL.out ?_) | (refine wpList_store_new rfl (.tmp 4) (.tmp 14) 64 rfl rfl (c' := #[.int .i64 x.h.kind, .bool x.h.goal, .string x.h.id, .slice x.h.aa x.h.attr.length x.h.ac, .slice x.h.va x.h.value.length x.h.vc, .bool x.h.acc, .slice x.h.ca x.l.length x.h.cc]) rfl H7.out rfl (by simp [Value.oneCell']) ?_))
        go_ret
        exact ⟨by rw [HQ.out]; rfl, (hbw.trans (HB2.out.mono hws))⟩
      have d2 : decide ((10 : Int) < (x.h.attr.length : Int)) = false := decide_eq_false (by omega)
      by_cases q3 : 10 < x.h.value.length
      · have HQ := Lib.hid (show heavyC l = true by rw [hrun]; simp [heavyH, q3])
        have d3 : decide ((10 : Int) < (x.h.value.length : Int)) = true := decide_eq_true (by omega)
        clear q1 q2 q3 hrun
        go_wp2_with (first | (refine wpList_load rfl (.tmp 13) 64 rfl (A := ⟨b, off + k * 7, none⟩) rfl Try.underlying64 rfl (cs := [.int .i64 x.h.kind, .bool x.h.goal, .string x.h.id, .slice x.h.aa x.h.attr.length x.h.ac, .slice x.h.va x.h.value.length x.h.vc, .bool x.h.acc, .slice x.h.ca x.l.length x.h.cc]) H7.out HCL.out ?_) | (refine wpList_store_new rfl (.tmp 4) (.tmp 14) 64 rfl rfl (c' := #[.int .i64 x.h.kind, .bool x.h.goal, .string x.h.id, .slice x.h.aa x.h.attr.length x.h.ac, .slice x.h.va x.h.value.length x.h.vc, .bool x.h.acc, .slice x.h.ca x.l.length x.h.cc]) rfl H7.out rfl (by simp [Value.oneCell']) ?_))
        go_ret
        exact ⟨by rw [HQ.out]; rfl, (hbw.trans (HB2.out.mono hws))⟩
      have d3 : decide ((10 : Int) < (x.h.value.length : Int)) = false := decide_eq_false (by omega)
      by_cases q4 : x.h.attr.any heavyX = true
      · have HQ := Lib.hid (show heavyC l = true by rw [hrun]; simp only [heavyH, q4, Bool.or_true, Bool.true_or])
        clear q1 q2 q3 hrun
        go_wp2_with (first | (refine wpList_load rfl (.tmp 13) 64 rfl (A := ⟨b, off + k * 7, none⟩) rfl Try.underlying64 rfl (cs := [.int .i64 x.h.kind, .bool x.h.goal, .string x.h.id, .slice x.h.aa x.h.attr.length x.h.ac, .slice x.h.va x.h.value.length x.h.vc, .bool x.h.acc, .slice x.h.ca x.l.length x.h.cc]) H7.out HCL.out ?_) | (refine wpList_store_new rfl (.tmp 4) (.tmp 14) 64 rfl rfl (c' := #[.int .i64 x.h.kind, .bool x.h.goal, .string x.h.id, .slice x.h.aa x.h.attr.length x.h.ac, .slice x.h.va x.h.value.length x.h.vc, .bool x.h.acc, .slice x.h.ca x.l.length x.h.cc]) rfl H7.out rfl (by simp [Value.oneCell']) ?_) | (have _t := ta; go_at_call 61; refine (HA.out).mono ?_; rintro e w2 ⟨rfl, rfl⟩; rw [q4]; clear _t ta; have tv : Hid (0 = 0) := rfl))
        go_ret
        exact ⟨by rw [HQ.out]; rfl, (hbw.trans (HB2.out.mono hws))⟩
      replace q4 : x.h.attr.any heavyX = false := by simpa using q4
      by_cases q5 : x.h.value.any heavyX = true
      · have HQ := Lib.hid (show heavyC l = true by rw [hrun]; simp only [heavyH, q5, Bool.or_true, Bool.true_or])
        clear q1 q2 q3 hrun
        go_wp2_with (first | (refine wpList_load rfl (.tmp 13) 64 rfl (A := ⟨b, off + k * 7, none⟩) rfl Try.underlying64 rfl (cs := [.int .i64 x.h.kind, .bool x.h.goal, .string x.h.id, .slice x.h.aa x.h.attr.length x.h.ac, .slice x.h.va x.h.value.length x.h.vc, .bool x.h.acc, .slice x.h.ca x.l.length x.h.cc]) H7.out HCL.out ?_) | (refine wpList_store_new rfl (.tmp 4) (.tmp 14) 64 rfl rfl (c' := #[.int .i64 x.h.kind, .bool x.h.goal, .string x.h.id, .slice x.h.aa x.h.attr.length x.h.ac, .slice x.h.va x.h.value.length x.h.vc, .bool x.h.acc, .slice x.h.ca x.l.length x.h.cc]) rfl H7.out rfl (by simp [Value.oneCell']) ?_) | (have _t := ta; go_at_call 61; refine (HA.out).mono ?_; rintro e w2 ⟨rfl, rfl⟩; rw [q4]; clear _t ta; have tv : Hid (0 = 0) := rfl) | (have _t := tv; go_at_call 61; refine (HV.out).mono ?_; rintro e w2 ⟨rfl, rfl⟩; rw [q5]; clear _t tv))
        go_ret
        exact ⟨by rw [HQ.out]; rfl, (hbw.trans (HB2.out.mono hws))⟩
      replace q5 : x.h.value.any heavyX = false := by simpa using q5
      by_cases q6 : heavyC x.l = true
      · have HQ := Lib.hid (show heavyC l = true by rw [hrun]; simp only [heavyH, q6, Bool.or_true, Bool.true_or])
        clear q1 q2 q3 hrun
        go_wp2_with (first | (refine wpList_load rfl (.tmp 13) 64 rfl (A := ⟨b, off + k * 7, none⟩) rfl Try.underlying64 rfl (cs := [.int .i64 x.h.kind, .bool x.h.goal, .string x.h.id, .slice x.h.aa x.h.attr.length x.h.ac, .slice x.h.va x.h.value.length x.h.vc, .bool x.h.acc, .slice x.h.ca x.l.length x.h.cc]) H7.out HCL.out ?_) | (refine wpList_store_new rfl (.tmp 4) (.tmp 14) 64 rfl rfl (c' := #[.int .i64 x.h.kind, .bool x.h.goal, .string x.h.id, .slice x.h.aa x.h.attr.length x.h.ac, .slice x.h.va x.h.value.length x.h.vc, .bool x.h.acc, .slice x.h.ca x.l.length x.h.cc]) rfl H7.out rfl (by simp [Value.oneCell']) ?_) | (have _t := ta; go_at_call 61; refine (HA.out).mono ?_; rintro e w2 ⟨rfl, rfl⟩; rw [q4]; clear _t ta; have tv : Hid (0 = 0) := rfl) | (have _t := tv; go_at_call 61; refine (HV.out).mono ?_; rintro e w2 ⟨rfl, rfl⟩; rw [q5]; clear _t tv) | (go_at_call 37; refine (HI.out).mono ?_; rintro e w3 ⟨rfl, h3⟩; rw [q6]; have H3 := Lib.hid h3; clear h3))
        go_ret
        exact ⟨by rw [HQ.out]; rfl, (hbw.trans ((HB2.out.trans (H3.out.mono HB2.out.size)).mono hws))⟩
      replace q6 : heavyC x.l = false := by simpa using q6
      have HQ := Lib.hid (show heavyC l = heavyC (l.drop (k + 1)) by rw [hrun]; simp only [heavyH, q4, q5, q6, decide_eq_false q1, decide_eq_false q2, decide_eq_false q3, Bool.or_false, Bool.false_or])
      clear q1 q2 q3 hrun
      go_wp2_with (first | (refine wpList_load rfl (.tmp 13) 64 rfl (A := ⟨b, off + k * 7, none⟩) rfl Try.underlying64 rfl (cs := [.int .i64 x.h.kind, .bool x.h.goal, .string x.h.id, .slice x.h.aa x.h.attr.length x.h.ac, .slice x.h.va x.h.value.length x.h.vc, .bool x.h.acc, .slice x.h.ca x.l.length x.h.cc]) H7.out HCL.out ?_) | (refine wpList_store_new rfl (.tmp 4) (.tmp 14) 64 rfl rfl (c' := #[.int .i64 x.h.kind, .bool x.h.goal, .string x.h.id, .slice x.h.aa x.h.attr.length x.h.ac, .slice x.h.va x.h.value.length x.h.vc, .bool x.h.acc, .slice x.h.ca x.l.length x.h.cc]) rfl H7.out rfl (by simp [Value.oneCell']) ?_) | (have _t := ta; go_at_call 61; refine (HA.out).mono ?_; rintro e w2 ⟨rfl, rfl⟩; rw [q4]; clear _t ta; have tv : Hid (0 = 0) := rfl) | (have _t := tv; go_at_call 61; refine (HV.out).mono ?_; rintro e w2 ⟨rfl, rfl⟩; rw [q5]; clear _t tv) | (go_at_call 37; refine (HI.out).mono ?_; rintro e w3 ⟨rfl, h3⟩; rw [q6]; have H3 := Lib.hid h3; clear h3))
      go_roundw
      case rel => exact ⟨k + 1, by omega, by go_num, rfl, (hbw.trans ((HB2.out.trans (H3.out.mono HB2.out.size)).mono hws)), HQ.out⟩
      case measure => simp [intOf]; omega
    · obtain rfl : k = l.length := by omega
      have HQ := Lib.hid (show heavyC l = false by rw [hrun, List.drop_length]; simp [heavyC])
      clear hrun
      go_wp2_with fail
      go_ret
      exact ⟨by rw [HQ.out]; rfl, hbw⟩
theorem hconds_any (l : List Co) : HConds l := by
  have key : ∀ n, ∀ l : List Co, sizeL l ≤ n → HConds l := by
    intro n
    induction n with
    | zero => exact fun l h => hconds_step l (fun m hm => by omega)
    | succ n ih => exact fun l h => hconds_step l (fun m hm => ih m (by omega))
  exact key _ l (Nat.le_refl _)
def heavyP (p : Pr) : Bool := if 40 < kS p.conds 0 then true else if 40 < p.acts.length then true else if 100 < p.name.size then true else heavyC p.conds
set_option maxRecDepth 100000 in
set_option maxHeartbeats 2000000 in
theorem heavy_any (p : Pr) (w : World) (hp : PrIn w p) : Calls Try.prog 11 #[.agg #[.string p.name, .slice p.ca p.conds.length p.cc, .slice p.aa p.acts.length p.ac]] w fun e w' => e = .returned (.bool (heavyP p)) ∧ Below w.heap.size w w' := by
  obtain ⟨W2, hW2⟩ : ∃ W2, W2 = w.alloc (.cells #[.string p.name, .slice p.ca p.conds.length p.cc, .slice p.aa p.acts.length p.ac] 25) := ⟨_, rfl⟩
  have hB : Below w.heap.size w W2 := by rw [hW2]; go_grown
  have hx := cells_of (W := W2) (b := w.heap.size) (c := #[.string p.name, .slice p.ca p.conds.length p.cc, .slice p.aa p.acts.length p.ac]) (t := 25) (f := (0, 0)) (by rw [hW2]; exact new_at rfl)
  have c0 : W2.cell? ⟨w.heap.size, 0, none⟩ = some (.string p.name) := by rw [hx]; rfl
  have c1 : W2.cell? ⟨w.heap.size, 1, none⟩ = some (.slice p.ca p.conds.length p.cc) := by rw [hx]; rfl
  have c2 : W2.cell? ⟨w.heap.size, 2, none⟩ = some (.slice p.aa p.acts.length p.ac) := by rw [hx]; rfl
  have HW := Lib.hid hW2
  have hm := hp.many
  unfold maxLen at hm
  have H1 := Lib.hid (ksize_any p.conds 0 p.ca p.cc W2 (by omega) (hp.conds.mono hB))
  have H2 := Lib.hid (hconds_any p.conds p.ca p.cc W2 (hp.conds.mono hB))
  have hks := kS_le p.conds 0
  rw [hW2] at c0 c1 c2
  rw [show (W2 = _) from hW2] at H1 H2
  clear hW2 hx hp
  by_cases q1 : 40 < kS p.conds 0
  · have HQ := Lib.hid (show heavyP p = true by unfold heavyP; rw [if_pos q1])
    have d1 : decide ((40 : Int) < ((kS p.conds 0 : Nat) : Int)) = true := decide_eq_true (by omega)
    clear q1
    go_enter Try.func11, Try.ntmps11
    go_wp2_with (go_at_call 36; refine (H1.out).mono ?_; rintro e w1 ⟨rfl, rfl⟩)
    go_ret
    exact ⟨by rw [HQ.out]; rfl, by rw [← HW.out]; exact hB⟩
  have HS1 := Lib.hid (show heavyP p = _ by unfold heavyP; rw [if_neg q1])
  have d1 : decide ((40 : Int) < ((kS p.conds 0 : Nat) : Int)) = false := decide_eq_false (by omega)
  clear q1
  by_cases q2 : 40 < p.acts.length
  · have HQ := Lib.hid (show heavyP p = true by rw [HS1.out, if_pos q2])
    have d2 : decide ((40 : Int) < (p.acts.length : Int)) = true := decide_eq_true (by omega)
    clear q2
    go_enter Try.func11, Try.ntmps11
    go_wp2_with (go_at_call 36; refine (H1.out).mono ?_; rintro e w1 ⟨rfl, rfl⟩)
    go_ret
    exact ⟨by rw [HQ.out]; rfl, by rw [← HW.out]; exact hB⟩
  have HS2 := Lib.hid (show heavyP p = _ by rw [HS1.out, if_neg q2])
  have d2 : decide ((40 : Int) < (p.acts.length : Int)) = false := decide_eq_false (by omega)
  clear q2 HS1
  by_cases q3 : 100 < p.name.size
  · have HQ := Lib.hid (show heavyP p = true by rw [HS2.out, if_pos q3])
    have d3 : decide ((100 : Int) < (p.name.size : Int)) = true := decide_eq_true (by omega)
    clear q3
    go_enter Try.func11, Try.ntmps11
    go_wp2_with (go_at_call 36; refine (H1.out).mono ?_; rintro e w1 ⟨rfl, rfl⟩)
    go_ret
    exact ⟨by rw [HQ.out]; rfl, by rw [← HW.out]; exact hB⟩
  have HQ := Lib.hid (show heavyP p = heavyC p.conds by rw [HS2.out, if_neg q3])
  have d3 : decide ((100 : Int) < (p.name.size : Int)) = false := decide_eq_false (by omega)
  clear q3 HS2
  go_enter Try.func11, Try.ntmps11
  go_wp2_with (first | (go_at_call 36; refine (H1.out).mono ?_; rintro e w1 ⟨rfl, rfl⟩) | (go_at_call 37; refine (H2.out).mono ?_; rintro e w2 ⟨rfl, h2⟩))
  go_ret
  exact ⟨by rw [HQ.out]; rfl, by rw [← HW.out] at h2; exact hB.trans (h2.mono hB.size)⟩
/-- What is not heavy may be played. -/
theorem tests_light {w : World} {a : Option Addr} {l : List Ts} (h : TestsIn w a l) (hl : l.any heavyX = false) : TestsAt w a l := by
  refine ⟨h.1, fun x hx => ⟨(h.2.1 x hx).1, ?_⟩⟩
  have h1 := List.any_eq_false.1 hl x hx
  simp only [heavyX, Bool.or_eq_true, decide_eq_true_eq, not_or] at h1
  omega
theorem CondsIn.light {w : World} {a : Option Addr} {l : List Co} (h : CondsIn w a l) : heavyC l = false → CondsAt w a l := by
  induction h with
  | mk a l he ha hv hi hl ih =>
    intro hn
    have each : ∀ c ∈ l, heavyH c.h = false ∧ heavyC c.l = false := by
      clear he ha hv hi hl ih
      induction l with
      | nil => simp
      | cons c l ih2 =>
        obtain ⟨h, m⟩ := c
        simp only [heavyC, Bool.or_eq_false_iff] at hn
        intro c hc
        rcases List.mem_cons.1 hc with rfl | hc
        · exact hn.1
        · exact ih2 hn.2 c hc
    have eachT : ∀ c ∈ l, c.h.attr.any heavyX = false ∧ c.h.value.any heavyX = false := fun c hc => by
      have := (each c hc).1
      simp only [heavyH, Bool.or_eq_false_iff] at this
      exact ⟨this.1.2, this.2⟩
    exact .mk a l he (fun c hc => tests_light (ha c hc) (eachT c hc).1) (fun c hc => tests_light (hv c hc) (eachT c hc).2) (fun c hc => ih c hc (each c hc).2)
theorem heavyP_no {p : Pr} (h : heavyP p = false) : sizeL p.conds ≤ 40 ∧ p.acts.length ≤ 40 ∧ heavyC p.conds = false := by
  unfold heavyP at h
  split at h
  · cases h
  split at h
  · cases h
  split at h
  · cases h
  exact ⟨kS_size (d := 0) (by omega), by omega, h⟩
theorem PrIn.light {w : World} {p : Pr} (hp : PrIn w p) (h : heavyP p = false) : PrAt w p := ⟨hp.conds.light (heavyP_no h).2.2, hp.acts⟩
end Go.Proofs.Ytccphigpobnjmaa
