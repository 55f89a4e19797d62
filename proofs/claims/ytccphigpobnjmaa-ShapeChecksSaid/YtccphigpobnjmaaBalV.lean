/-
  Walks over package order at ponder/shape.variable: balanced, with. No condition but a bound on sizes.
-/
import Derived.Test.YtccphigpobnjmaaProg
import Derived.Test.YtccphigpobnjmaaKit
import Derived.Test.YtccphigpobnjmaaOrdV
import Derived.WalkKit
import Derived.WalkLawsBesides
import Derived.Handy
import Derived.Lib.Hide
import Derived.StillTailTactics
import Derived.BigQuiet
import Derived.Deep.QuietTactic
import Derived.Deep.RegionHeld3
namespace Go.Proofs.Ytccphigpobnjmaa
set_option linter.unusedVariables false
open Go.RowKit

set_option maxHeartbeats 2000000 in
theorem balanced_anyV (W0 w : World) (pl pr : Option Addr) (v : ByteArray) (l r : BT ByteArray) (hl : TreeV W0 pl l) (hr : TreeV W0 pr r) (hb : Below W0.heap.size W0 w) (hls : l.size ≤ 10000000) (hrs : r.size ≤ 10000000) :
    Calls Try.prog 123 #[.pointer pl, .string v, .pointer pr] w (TreeOut encV 153 w (l.toList ++ v :: r.toList)) := by
  replace hl := hl.mono hb
  replace hr := hr.mono hb
  clear hb W0
  have hB : Below w.heap.size w (w) := by go_grown
  have wl := fun w' h => weight_anyV w w' pl l hl h (by omega)
  have wr := fun w' h => weight_anyV w w' pr r hr h (by omega)
  have up : ∀ (xs : List ByteArray) (e : Ending) (w' : World), TreeOut encV 153 (w) xs e w' → TreeOut encV 153 w xs e w' := fun _ _ _ ⟨p, T, h1, h2, h3, h4⟩ => ⟨p, T, h1, hB.trans (h2.mono hB.size), h3, h4⟩
  by_cases h1 : 3 * (l.size + 1) < r.size + 1
  · have ht : Calls Try.prog 126 #[.pointer pl, .string v, .pointer pr] (w) (TreeOut encV 153 (w) (l.toList ++ v :: r.toList)) := by
      cases r with
      | leaf => simp [BT.size] at h1
      | node x rv y =>
        simp only [BT.size] at h1 hrs
        by_cases h2 : x.size + 1 < 2 * (y.size + 1)
        · exact turnedLeftAV _ _ _ _ _ _ _ _ (hl.mono hB) (hr.mono hB) (by omega) (by omega) h2
        · cases x with
          | leaf => simp [BT.size] at h2; omega
          | node m0 mv m1 =>
            simp only [BT.size] at h2 hrs
            exact turnedLeftBV _ _ _ _ _ _ _ _ _ _ (hl.mono hB) (hr.mono hB) (by omega) (by omega) (by omega)
    have Ht := Lib.hid ht
    have Up := Lib.hid up
    clear ht up
    go_enter Try.func123, Try.ntmps123
    go_wp2_with (first | (go_at_call 125; (with_reducible refine (wr _ (by go_grown)).mono ?_); rintro e w' ⟨rfl, rfl⟩) | (go_at_call 125; (with_reducible refine (wl _ (by go_grown)).mono ?_); rintro e w' ⟨rfl, rfl⟩) | (go_at_call 126; (with_reducible refine Ht.out.mono ?_); intro e w1 ho; obtain ⟨q, Tq, rfl, ho2⟩ := ho))
    go_ret
    exact Up.out _ _ _ ⟨q, Tq, rfl, ho2⟩
  · by_cases h3 : 3 * (r.size + 1) < l.size + 1
    · have ht : Calls Try.prog 127 #[.pointer pl, .string v, .pointer pr] (w) (TreeOut encV 153 (w) (l.toList ++ v :: r.toList)) := by
        cases l with
        | leaf => simp [BT.size] at h3
        | node y rv x =>
          simp only [BT.size] at h3 hls
          by_cases h2 : x.size + 1 < 2 * (y.size + 1)
          · exact turnedRightAV _ _ _ _ _ _ _ _ (hr.mono hB) (hl.mono hB) (by omega) (by omega) h2
          · cases x with
            | leaf => simp [BT.size] at h2; omega
            | node m0 mv m1 =>
              simp only [BT.size] at h2 hls
              exact turnedRightBV _ _ _ _ _ _ _ _ _ _ (hr.mono hB) (hl.mono hB) (by omega) (by omega) (by omega)
      have Ht := Lib.hid ht
      have Up := Lib.hid up
      clear ht up
      go_enter Try.func123, Try.ntmps123
      go_wp2_with (first | (go_at_call 125; (with_reducible refine (wr _ (by go_grown)).mono ?_); rintro e w' ⟨rfl, rfl⟩) | (go_at_call 125; (with_reducible refine (wl _ (by go_grown)).mono ?_); rintro e w' ⟨rfl, rfl⟩) | (go_at_call 127; (with_reducible refine Ht.out.mono ?_); intro e w1 ho; obtain ⟨q, Tq, rfl, ho2⟩ := ho))
      go_ret
      exact Up.out _ _ _ ⟨q, Tq, rfl, ho2⟩
    · have ht := join_anyV (w) (w) pl pr v l r (hl.mono hB) (hr.mono hB) (Below.refl _ _) (by omega) (by omega)
      have Ht := Lib.hid ht
      have Up := Lib.hid up
      clear ht up
      go_enter Try.func123, Try.ntmps123
      go_wp2_with (first | (go_at_call 125; (with_reducible refine (wr _ (by go_grown)).mono ?_); rintro e w' ⟨rfl, rfl⟩) | (go_at_call 125; (with_reducible refine (wl _ (by go_grown)).mono ?_); rintro e w' ⟨rfl, rfl⟩) | (go_at_call 122; (with_reducible refine Ht.out.mono ?_); intro e w1 ho; obtain ⟨q, Tq, rfl, ho2⟩ := ho))
      go_ret
      exact Up.out _ _ _ ⟨q, Tq, rfl, ho2⟩
end Go.Proofs.Ytccphigpobnjmaa
