/-
  ponderref06.Size over nested conditions. No condition but a bound on how many they are.
-/
import Derived.Test.YtccphigpobnjmaaShCond2
namespace Go.Proofs.Ytccphigpobnjmaa
set_option linter.unusedVariables false
open Go.RowKit
theorem len_size : ∀ l : List Co, l.length ≤ sizeL l
  | [] => by simp [sizeL]
  | .mk h m :: l => by have := len_size l; simp only [sizeL, List.length_cons]; omega
theorem size_inner (l : List Co) {k : Nat} (hk : k < l.length) : sizeL l[k].l < sizeL l := by
  have h1 := size_take_succ l hk
  have h2 : sizeL (l.take (k + 1)) ≤ sizeL l := by
    have := size_append (l.take (k + 1)) (l.drop (k + 1))
    rw [List.take_append_drop] at this; omega
  omega
theorem size_take_le (l : List Co) (k : Nat) : sizeL (l.take k) ≤ sizeL l := by
  have := size_append (l.take k) (l.drop k)
  rw [List.take_append_drop] at this; omega
theorem CondsAt.inner {w : World} {a : Option Addr} {l : List Co} (h : CondsAt w a l) {k : Nat} (hk : k < l.length) : CondsAt w l[k].h.ca l[k].l := by
  cases h with
  | mk _ _ he ha hv hi => exact hi _ (List.getElem_mem hk)
theorem CondsAt.elts {w : World} {a : Option Addr} {l : List Co} (h : CondsAt w a l) : EltsK encC 7 w a l := by
  cases h with
  | mk _ _ he ha hv hi => exact he
def RefSized (l : List Co) : Prop := ∀ (a : Option Addr) (cap : Nat) (w : World), CondsAt w a l → Calls Try.prog 43 #[.slice a l.length cap] w fun e w' => e = .returned (.int .i64 (sizeL l)) ∧ w = w'
theorem refsize_step (l : List Co) (hz : sizeL l ≤ 1000000) (ih : ∀ m, sizeL m < sizeL l → RefSized m) : RefSized l := by
  intro a cap w h
  have Hel := Lib.hid h.elts
  have Hin := Lib.hid (fun k (hk : k < l.length) => ih l[k].l (size_inner l hk) l[k].h.ca l[k].h.cc w (h.inner hk))
  have hln := len_size l
  have hlen : l.length ≤ 1000000 := by omega
  have Hz := Lib.hid hz
  clear h ih hz hln
  go_enter Try.func43, Try.ntmps43
  go_wp2_with fail
  go_loopw [3, 4] (fun s i wr => ∃ k : Nat, k ≤ l.length ∧ i = .int .i64 k ∧ s = .int .i64 (sizeL (l.take k)) ∧ wr = w) (fun _ i _ => l.length - (intOf i).toNat)
  case atStart => exact ⟨0, Nat.zero_le _, rfl, by simp [sizeL], rfl⟩
  case round =>
    obtain ⟨k, hk, rfl, rfl, rfl⟩ := hrel
    by_cases hlt : k < l.length
    · obtain ⟨b, off, rfl, hcell⟩ := Hel.out.at hlt
      have hc := hcell _ (Below.refl _ _)
      have hin := Hin.out k hlt
      have hs := size_take_succ l hlt
      have hs2 := size_take_le l (k + 1)
      have hz := Hz.out
      obtain ⟨x, hx⟩ : ∃ x, x = l[k] := ⟨_, rfl⟩
      rw [← hx] at hc hin hs
      have c6 := hc 6 _ rfl
      have HI := Lib.hid hin
      have HS := Lib.hid hs
      have hb1 : sizeL x.l ≤ 1000000 := by omega
      have hb2 : sizeL (l.take k) ≤ 1000000 := by omega
      clear hx hc hcell hin hs hs2 hz
      generalize sizeL (l.take k) = s at HS hb2
      generalize sizeL x.l = m at HI HS hb1
      go_wp2_with (go_at_call 43; refine HI.out.mono ?_; rintro e w2 ⟨rfl, rfl⟩)
      go_roundw
      case rel => exact ⟨k + 1, by omega, by go_num, by rw [HS.out]; go_num, by simp⟩
      case measure => simp [intOf]; omega
    · obtain rfl : k = l.length := by omega
      rw [List.take_length]
      go_wp2_with fail
      go_ret
      exact ⟨rfl, rfl⟩
theorem refsize_any (l : List Co) (hz : sizeL l ≤ 1000000) : RefSized l := by
  have key : ∀ n, ∀ l : List Co, sizeL l ≤ n → n ≤ 1000000 → RefSized l := by
    intro n
    induction n with
    | zero => exact fun l h h2 => refsize_step l (by omega) (fun m hm => by omega)
    | succ n ih => exact fun l h h2 => refsize_step l (by omega) (fun m hm => ih m (by omega) (by omega))
  exact key _ l (Nat.le_refl _) hz
end Go.Proofs.Ytccphigpobnjmaa
