/-
  Walks over package order at ponder/book.pair[ponder/api.Sym, int]: balanced, with. No condition but a bound on sizes.
-/
import Derived.Test.YthgidldcblchmaaProg
import Derived.Test.YthgidldcblchmaaKit
import Derived.Test.YthgidldcblchmaaOrdP
import Derived.WalkKit
import Derived.WalkLawsBesides
import Derived.Handy
import Derived.Lib.Hide
import Derived.StillTailTactics
import Derived.BigQuiet
import Derived.Deep.QuietTactic
import Derived.Deep.RegionHeld3
namespace Go.Proofs.Ythgidldcblchmaa
set_option linter.unusedVariables false
open Go.RowKit

set_option maxHeartbeats 2000000 in
theorem balanced_anyP (W0 w : World) (pl pr : Option Addr) (v : Pr) (l r : BT Pr) (hl : TreeP W0 pl l) (hr : TreeP W0 pr r) (hb : Below W0.heap.size W0 w) (hls : l.size ≤ 10000000) (hrs : r.size ≤ 10000000) :
    Calls Try.prog 105 #[.pointer pl, .agg #[.int .i64 v.k.k, .string v.k.t, .int .i64 v.k.n, .int .i64 v.v], .pointer pr] w (TreeOut encP 162 w (l.toList ++ v :: r.toList)) := by
  replace hl := hl.mono hb
  replace hr := hr.mono hb
  clear hb W0
  have hB : Below w.heap.size w (w.alloc (.cells #[.int .i64 v.k.k, .string v.k.t, .int .i64 v.k.n, .int .i64 v.v] 100)) := by go_grown
  have wl := fun w' h => weight_anyP w w' pl l hl h (by omega)
  have wr := fun w' h => weight_anyP w w' pr r hr h (by omega)
  have up : ∀ (xs : List Pr) (e : Ending) (w' : World), TreeOut encP 162 (w.alloc (.cells #[.int .i64 v.k.k, .string v.k.t, .int .i64 v.k.n, .int .i64 v.v] 100)) xs e w' → TreeOut encP 162 w xs e w' := fun _ _ _ ⟨p, T, h1, h2, h3, h4⟩ => ⟨p, T, h1, hB.trans (h2.mono hB.size), h3, h4⟩
  by_cases h1 : 3 * (l.size + 1) < r.size + 1
  · have ht : Calls Try.prog 119 #[.pointer pl, .agg #[.int .i64 v.k.k, .string v.k.t, .int .i64 v.k.n, .int .i64 v.v], .pointer pr] (w.alloc (.cells #[.int .i64 v.k.k, .string v.k.t, .int .i64 v.k.n, .int .i64 v.v] 100)) (TreeOut encP 162 (w.alloc (.cells #[.int .i64 v.k.k, .string v.k.t, .int .i64 v.k.n, .int .i64 v.v] 100)) (l.toList ++ v :: r.toList)) := by
      cases r with
      | leaf => simp [BT.size] at h1
      | node x rv y =>
        simp only [BT.size] at h1 hrs
        by_cases h2 : x.size + 1 < 2 * (y.size + 1)
        · exact turnedLeftAP _ _ _ _ _ _ _ _ (hl.mono hB) (hr.mono hB) (by omega) (by omega) h2
        · cases x with
          | leaf => simp [BT.size] at h2; omega
          | node m0 mv m1 =>
            simp only [BT.size] at h2 hrs
            exact turnedLeftBP _ _ _ _ _ _ _ _ _ _ (hl.mono hB) (hr.mono hB) (by omega) (by omega) (by omega)
    have Ht := Lib.hid ht
    have Up := Lib.hid up
    clear ht up
    go_enter Try.func105, Try.ntmps105
    go_wp2_with (first | (go_at_call 118; (with_reducible refine (wr _ (by go_grown)).mono ?_); rintro e w' ⟨rfl, rfl⟩) | (go_at_call 118; (with_reducible refine (wl _ (by go_grown)).mono ?_); rintro e w' ⟨rfl, rfl⟩) | (go_at_call 119; (with_reducible refine Ht.out.mono ?_); intro e w1 ho; obtain ⟨q, Tq, rfl, ho2⟩ := ho))
    go_ret
    exact Up.out _ _ _ ⟨q, Tq, rfl, ho2⟩
  · by_cases h3 : 3 * (r.size + 1) < l.size + 1
    · have ht : Calls Try.prog 120 #[.pointer pl, .agg #[.int .i64 v.k.k, .string v.k.t, .int .i64 v.k.n, .int .i64 v.v], .pointer pr] (w.alloc (.cells #[.int .i64 v.k.k, .string v.k.t, .int .i64 v.k.n, .int .i64 v.v] 100)) (TreeOut encP 162 (w.alloc (.cells #[.int .i64 v.k.k, .string v.k.t, .int .i64 v.k.n, .int .i64 v.v] 100)) (l.toList ++ v :: r.toList)) := by
        cases l with
        | leaf => simp [BT.size] at h3
        | node y rv x =>
          simp only [BT.size] at h3 hls
          by_cases h2 : x.size + 1 < 2 * (y.size + 1)
          · exact turnedRightAP _ _ _ _ _ _ _ _ (hr.mono hB) (hl.mono hB) (by omega) (by omega) h2
          · cases x with
            | leaf => simp [BT.size] at h2; omega
            | node m0 mv m1 =>
              simp only [BT.size] at h2 hls
              exact turnedRightBP _ _ _ _ _ _ _ _ _ _ (hr.mono hB) (hl.mono hB) (by omega) (by omega) (by omega)
      have Ht := Lib.hid ht
      have Up := Lib.hid up
      clear ht up
      go_enter Try.func105, Try.ntmps105
      go_wp2_with (first | (go_at_call 118; (with_reducible refine (wr _ (by go_grown)).mono ?_); rintro e w' ⟨rfl, rfl⟩) | (go_at_call 118; (with_reducible refine (wl _ (by go_grown)).mono ?_); rintro e w' ⟨rfl, rfl⟩) | (go_at_call 120; (with_reducible refine Ht.out.mono ?_); intro e w1 ho; obtain ⟨q, Tq, rfl, ho2⟩ := ho))
      go_ret
      exact Up.out _ _ _ ⟨q, Tq, rfl, ho2⟩
    · have ht := join_anyP (w.alloc (.cells #[.int .i64 v.k.k, .string v.k.t, .int .i64 v.k.n, .int .i64 v.v] 100)) (w.alloc (.cells #[.int .i64 v.k.k, .string v.k.t, .int .i64 v.k.n, .int .i64 v.v] 100)) pl pr v l r (hl.mono hB) (hr.mono hB) (Below.refl _ _) (by omega) (by omega)
      have Ht := Lib.hid ht
      have Up := Lib.hid up
      clear ht up
      go_enter Try.func105, Try.ntmps105
      go_wp2_with (first | (go_at_call 118; (with_reducible refine (wr _ (by go_grown)).mono ?_); rintro e w' ⟨rfl, rfl⟩) | (go_at_call 118; (with_reducible refine (wl _ (by go_grown)).mono ?_); rintro e w' ⟨rfl, rfl⟩) | (go_at_call 104; (with_reducible refine Ht.out.mono ?_); intro e w1 ho; obtain ⟨q, Tq, rfl, ho2⟩ := ho))
      go_ret
      exact Up.out _ _ _ ⟨q, Tq, rfl, ho2⟩
end Go.Proofs.Ythgidldcblchmaa
