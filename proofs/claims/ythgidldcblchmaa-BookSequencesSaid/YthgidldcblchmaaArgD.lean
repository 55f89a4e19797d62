/-
  Symbols that came in, for a text with package order at them. No condition.
-/
import Derived.Test.YthgidldcblchmaaOfS
import Derived.Test.YthgidldcblchmaaArgS
namespace Go.Proofs.Ythgidldcblchmaa
set_option linter.unusedVariables false
open Go.RowKit
theorem list_of_arg {w : World} {a : Option Addr} {cap : Nat} {xs : List Sy} (h : ArgAt w (.slice a xs.length cap) xs) : ∀ s, w.heap.size ≤ s → ListAt w s a xs := by
  intro s hs k hk
  rcases h with ⟨a', cap', h1, h2⟩ | h
  · subst h2; exact absurd hk (by simp)
  · rcases h with ⟨h1, h2⟩ | ⟨b, off, cap', h1, hb, -, hc⟩
    · subst h2; exact absurd hk (by simp)
    · obtain ⟨rfl, -⟩ : a = some ⟨b, off, none⟩ ∧ True := by simp at h1; exact ⟨h1.1, trivial⟩
      exact ⟨b, off, rfl, by omega, hc k hk 0 _ rfl, hc k hk 1 _ rfl, hc k hk 2 _ rfl⟩
end Go.Proofs.Ythgidldcblchmaa
