/-
  Walks over package sym: tables: Len, Next, add, Fresh, New. No condition.
-/
import Derived.Test.YtlledodigmkdjaaGreatDoorSymTab0
import Derived.Test.YtlledodigmkdjaaGreatDoorKitTouch
import Derived.Test.YtlledodigmkdjaaGreatDoorNewS
import Derived.Test.YtlledodigmkdjaaGreatDoorZeroS
namespace Go.Proofs.YtlledodigmkdjaaGreatDoor
set_option linter.unusedVariables false
open Go.RowKit
/-- A table's own cells. -/
def TabCells (w : World) (b sb mb : Nat) (room : Int) : Prop := w.heap[b]? = some (.cells #[.pointer (some ⟨sb, 0, none⟩), .pointer (some ⟨mb, 0, none⟩), .int .i64 room] 73 (0, 0))
theorem TabCells.mono {w w' : World} {b sb mb : Nat} {room : Int} (h : TabCells w b sb mb room) (hb : Below w.heap.size w w') : TabCells w' b sb mb room := (hb.block b (heap_lt h)).trans h
theorem set_same3 {w : World} {B : Nat} {x y z : Value} {t : TypeId} {f : Nat × Nat} (h : w.heap[B]? = some (.cells #[x, y, z] t f)) : w.setCell ⟨B, 1, none⟩ y = w := by
  have e : w.heap.modify B (fun o => match o with | .cells c elem frozen => .cells (if (⟨B, 1, none⟩ : Addr).spot.isSome then c else c.setIfInBounds 1 y) elem frozen | o => o) = w.heap := by
    apply Array.ext
    · simp
    · intro i h1 h2
      rw [Array.getElem_modify]
      split
      · rename_i hi
        subst hi
        have h3 := (Array.getElem?_eq_some_iff.1 h).2
        rw [h3]
        simp
      · rfl
  have : w.setCell ⟨B, 1, none⟩ y = { w with heap := w.heap.modify B (fun o => match o with | .cells c elem frozen => .cells (if (⟨B, 1, none⟩ : Addr).spot.isSome then c else c.setIfInBounds 1 y) elem frozen | o => o) } := rfl
  rw [this, e]
theorem next_raw (w : World) (b sb mb ms : Nat) (room : Int) (ys : List Pc) (c : UInt8) (hc : TabCells w b sb mb room) (hm : MapC w mb ms ys) (h0 : 0 ≤ lookv c.toNat ys) (h1 : lookv c.toNat ys ≤ 1048576) :
    Calls Tryz.prog 25 #[.pointer (some ⟨b, 0, none⟩), .int .u8 c.toNat] w fun e w' => e = .returned (.int .i64 (if capB c then lookv c.toNat ys + 1 else 0)) ∧ Below w.heap.size w w' := by
  have hg := get_mapC w mb ms c.toNat ys hm _ _ rfl rfl
  change Calls _ _ _ _ (fun e w' => e = .returned (.tuple #[.int .i64 (lookv c.toNat ys), _]) ∧ _) at hg
  have c1 : w.cell? ⟨b, 1, none⟩ = some (.pointer (some ⟨mb, 0, none⟩)) := by rw [cells_of hc]; rfl
  have Hg := Lib.hid hg
  clear hg hc hm
  generalize lookv (c.toNat : Int) ys = m at Hg h0 h1 ⊢
  cases hcap : capB c with
  | false =>
    go_enter Tryz.func25, Tryz.ntmps25
    go_wp2_with (go_at_call 33; refine (cap_any _ _).mono ?_; rintro e w' ⟨rfl, rfl⟩; rw [hcap])
    go_ret
    exact ⟨rfl, Below.refl _ _⟩
  | true =>
    go_enter Tryz.func25, Tryz.ntmps25
    go_wp2_with (first | (go_at_call 33; refine (cap_any _ _).mono ?_; rintro e w' ⟨rfl, rfl⟩; rw [hcap]) | (go_at_call 51; refine Hg.out.mono ?_; rintro e w' ⟨rfl, hb⟩))
    go_ret
    exact ⟨rfl, hb⟩
theorem clone_any (s : ByteArray) (w : World) (hs : s.size ≤ 1000000) : Calls Tryz.prog 63 #[.string s] w fun e w' => e = .returned (.string s) ∧ Below w.heap.size w w' := by
  have hc := Tryz.stringslite_Clone s w (by omega)
  have Hc := Lib.hid hc
  clear hc
  go_enter Tryz.func63, Tryz.ntmps63
  go_wp2_with (go_at_call 76; refine Hc.out.mono ?_; rintro e w' ⟨rfl, hb⟩)
  go_ret
  exact ⟨rfl, hb⟩
theorem put_mapC (w : World) (b s : Nat) (x : Pc) (xs : List Pc) (h : MapC w b s xs) (hz : xs.length ≤ 1000000) :
    Calls Tryz.prog 64 #[.pointer (some ⟨b, 0, none⟩), .int .u8 x.k, .int .i64 x.v] w fun e w' => (∃ q, e = .returned (.bool q)) ∧ w.grownBy w' (some s) ∧ MapC w' b s (putLC x xs) := by
  cases ho : look cmpC x xs with
  | none =>
    refine (put_newC w b s x xs h hz (by rw [has_look, ho]; rfl)).mono ?_
    rintro e w' ⟨he, h1, h2⟩
    exact ⟨⟨_, he⟩, h1, by unfold putLC; rw [ho]; exact h2⟩
  | some o =>
    refine (put_oldC w b s x o xs h hz ho).mono ?_
    rintro e w' ⟨he, h1, h2⟩
    exact ⟨⟨_, he⟩, h1, by unfold putLC; rw [ho]; exact h2⟩
/-- A table that knows xs. -/
structure TabAt (w : World) (b sb mb ms : Nat) (room : Int) (xs : List Sy) (ys : List Pc) : Prop where
  cells : TabCells w b sb mb room
  known : SetS w sb xs
  map : MapC w mb ms ys
  agree : ∀ c : UInt8, lookv c.toNat ys = great c xs
  small : ys.length ≤ xs.length
  all : ∀ x ∈ xs, validY x = true
  len : xs.length ≤ 4096
  top : room ≤ 4096
theorem TabAt.mono {w w' : World} {b sb mb ms : Nat} {room : Int} {xs : List Sy} {ys : List Pc} (h : TabAt w b sb mb ms room xs ys) (hb : Below w.heap.size w w') : TabAt w' b sb mb ms room xs ys :=
  ⟨h.cells.mono hb, IsSet.mono h.known hb, h.map.mono hb, h.agree, h.small, h.all, h.len, h.top⟩
theorem TabAt.touch {w w' : World} {b sb mb ms : Nat} {room : Int} {xs : List Sy} {ys : List Pc} {A : Nat → Prop} (h : TabAt w b sb mb ms room xs ys) (hg : Touch A w w') (n1 : ¬ A b) (n2 : ¬ A sb) (n3 : ¬ A mb) (n4 : ¬ A ms)
    (hA : ∀ k, A k → ∀ c t f, w.heap[k]? = some (.cells c t f) → t ≠ 113 ∧ t ≠ 134) : TabAt w' b sb mb ms room xs ys :=
  ⟨(hg.block b (heap_lt h.cells) n1).trans h.cells, IsSet.touch h.known hg n2 (fun k hk c t f hc => (hA k hk c t f hc).1), ⟨(hg.block mb (heap_lt h.map.1) n3).trans h.map.1, IsSet.touch h.map.2 hg n4 (fun k hk c t f hc => (hA k hk c t f hc).2)⟩, h.agree, h.small, h.all, h.len, h.top⟩
theorem next_tab (w : World) (b sb mb ms : Nat) (room : Int) (xs : List Sy) (ys : List Pc) (c : UInt8) (h : TabAt w b sb mb ms room xs ys) :
    Calls Tryz.prog 25 #[.pointer (some ⟨b, 0, none⟩), .int .u8 c.toNat] w fun e w' => e = .returned (.int .i64 (if capB c then great c xs + 1 else 0)) ∧ Below w.heap.size w w' := by
  have hb := great_bound c xs h.all
  have := next_raw w b sb mb ms room ys c h.cells h.map (by rw [h.agree]; exact hb.1) (by rw [h.agree]; exact hb.2)
  rw [h.agree] at this
  exact this
theorem len_tab (w : World) (b sb mb ms : Nat) (room : Int) (xs : List Sy) (ys : List Pc) (h : TabAt w b sb mb ms room xs ys) :
    Calls Tryz.prog 27 #[.pointer (some ⟨b, 0, none⟩)] w fun e w' => e = .returned (.int .i64 xs.length) ∧ w = w' := by
  have c0 : w.cell? ⟨b, 0, none⟩ = some (.pointer (some ⟨sb, 0, none⟩)) := by rw [cells_of h.cells]; rfl
  have hl := len_setS w sb xs h.known
  have Hl := Lib.hid hl
  clear hl h
  go_enter Tryz.func27, Tryz.ntmps27
  go_wp2_with (go_at_call 46; (with_reducible refine Hl.out.mono ?_); rintro e w' ⟨rfl, rfl⟩)
  go_ret
  exact ⟨rfl, rfl⟩
end Go.Proofs.YtlledodigmkdjaaGreatDoor
