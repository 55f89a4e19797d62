/-
  No cell of these rows narrows 'for every input' (looked for: loops, veiled, ifaces, maps, wideKeys, modest, calm, conditions, laid).
  DERIVED. THE GIVEN ROWS OF THIS SEAT. 6 by the template 'for every input the law returns true; each argument reads behind the call as it read before'; 0 by the template 'total and deterministic' (their statements: YthieabhemiikhaaTotals.lean).
  GIVEN WITH THE SEED: the statements are not yours to turn. If you find one false, say at which input.
  Laid BY PROGRAM, IN A SANDBOX (cutbox-rows.mjs): the forced cells as the released guide's own fill.sh prints them over the translation e6823fd7fb8eec99… (all of the seat's roots in one cut). By AI agents, Wed Nov 11 2026. No macro, syntax, notation, axiom, sorry.
-/
import Derived.Test.YthieabhemiikhaaChecked
import GoSem.Claim
import GoSem.ClaimJoined
import GoSem.ClaimMapViews
import Derived.JoinedTies
import Derived.KernelRfl
namespace Go.Proofs.Ythieabhemiikhaa
/- THE CELL 'sum', in the pinned program and in every row, IS THE sha256 OF THE DUMP (.gsa) THAT YthieabhemiikhaaProg.lean LOADS. Nothing in Lean hashes anything: it is a label: what it is worth is what the hold of that sum in a sandbox is worth. -/
noncomputable def Try.pinned : Pinned := { name := "ythieabhemiikhaa", sum := "e6823fd7fb8eec998aa2cb7b957f26a1026a22edd7fcffe37b5190baf61ab52b", checked := Try.checked }
namespace Rows
def none {H : Type} : Left H := { results := [], args := [] }

/-- 'ponderlaw03.RowPlays': WHATEVER THE INPUT: true; the input reads as it did. -/
def rowPlaysSpec : ChangeSpec := { name := "rowPlays", fn := fun _ => fun
  | [d1, d2] => { results := [.lit (.bool true)], args := [d1, d2] }
  | _ => none }
def rowPlaysRow : OpenClaim := { program := "ythieabhemiikhaa", sum := "e6823fd7fb8eec998aa2cb7b957f26a1026a22edd7fcffe37b5190baf61ab52b", func := "ponder/ponderlaw03.RowPlays", spec := "rowPlays", unfollowed := true, recurses := true, apart := false }
def RowPlaysSaid : Prop := rowPlaysRow.holds Try.pinned (OpenSpec.ofChange rowPlaysSpec)

/-- ITS FALSE NEIGHBOUR: 'it returns false'. Refute it at one input. -/
def rowPlaysWrong : ChangeSpec := { name := "rowPlays", fn := fun _ => fun
  | [d1, d2] => { results := [.lit (.bool false)], args := [d1, d2] }
  | _ => none }
def RowPlaysWrongFalsely : Prop := rowPlaysRow.holds Try.pinned (OpenSpec.ofChange rowPlaysWrong)

/-- 'ponderlaw03.RowAll': WHATEVER THE INPUT: true; the input reads as it did. -/
def rowAllSpec : ChangeSpec := { name := "rowAll", fn := fun _ => fun
  | [d1, d2] => { results := [.lit (.bool true)], args := [d1, d2] }
  | _ => none }
def rowAllRow : OpenClaim := { program := "ythieabhemiikhaa", sum := "e6823fd7fb8eec998aa2cb7b957f26a1026a22edd7fcffe37b5190baf61ab52b", func := "ponder/ponderlaw03.RowAll", spec := "rowAll", unfollowed := true, recurses := true, apart := false }
def RowAllSaid : Prop := rowAllRow.holds Try.pinned (OpenSpec.ofChange rowAllSpec)

/-- ITS FALSE NEIGHBOUR: 'it returns false'. Refute it at one input. -/
def rowAllWrong : ChangeSpec := { name := "rowAll", fn := fun _ => fun
  | [d1, d2] => { results := [.lit (.bool false)], args := [d1, d2] }
  | _ => none }
def RowAllWrongFalsely : Prop := rowAllRow.holds Try.pinned (OpenSpec.ofChange rowAllWrong)

/-- 'ponderlaw03.RowDrains': WHATEVER THE INPUT: true; the input reads as it did. -/
def rowDrainsSpec : ChangeSpec := { name := "rowDrains", fn := fun _ => fun
  | [d1, d2, d3] => { results := [.lit (.bool true)], args := [d1, d2, d3] }
  | _ => none }
def rowDrainsRow : OpenClaim := { program := "ythieabhemiikhaa", sum := "e6823fd7fb8eec998aa2cb7b957f26a1026a22edd7fcffe37b5190baf61ab52b", func := "ponder/ponderlaw03.RowDrains", spec := "rowDrains", unfollowed := true, recurses := true, apart := false }
def RowDrainsSaid : Prop := rowDrainsRow.holds Try.pinned (OpenSpec.ofChange rowDrainsSpec)

/-- ITS FALSE NEIGHBOUR: 'it returns false'. Refute it at one input. -/
def rowDrainsWrong : ChangeSpec := { name := "rowDrains", fn := fun _ => fun
  | [d1, d2, d3] => { results := [.lit (.bool false)], args := [d1, d2, d3] }
  | _ => none }
def RowDrainsWrongFalsely : Prop := rowDrainsRow.holds Try.pinned (OpenSpec.ofChange rowDrainsWrong)

/-- 'ponderlaw03.RowCollects': WHATEVER THE INPUT: true; the input reads as it did. -/
def rowCollectsSpec : ChangeSpec := { name := "rowCollects", fn := fun _ => fun
  | [d1, d2] => { results := [.lit (.bool true)], args := [d1, d2] }
  | _ => none }
def rowCollectsRow : OpenClaim := { program := "ythieabhemiikhaa", sum := "e6823fd7fb8eec998aa2cb7b957f26a1026a22edd7fcffe37b5190baf61ab52b", func := "ponder/ponderlaw03.RowCollects", spec := "rowCollects", unfollowed := true, recurses := true, apart := false }
def RowCollectsSaid : Prop := rowCollectsRow.holds Try.pinned (OpenSpec.ofChange rowCollectsSpec)

/-- ITS FALSE NEIGHBOUR: 'it returns false'. Refute it at one input. -/
def rowCollectsWrong : ChangeSpec := { name := "rowCollects", fn := fun _ => fun
  | [d1, d2] => { results := [.lit (.bool false)], args := [d1, d2] }
  | _ => none }
def RowCollectsWrongFalsely : Prop := rowCollectsRow.holds Try.pinned (OpenSpec.ofChange rowCollectsWrong)

/-- 'ponderlaw03.RowRooms': WHATEVER THE INPUT: true; the input reads as it did. -/
def rowRoomsSpec : ChangeSpec := { name := "rowRooms", fn := fun _ => fun
  | [d1, d2] => { results := [.lit (.bool true)], args := [d1, d2] }
  | _ => none }
def rowRoomsRow : OpenClaim := { program := "ythieabhemiikhaa", sum := "e6823fd7fb8eec998aa2cb7b957f26a1026a22edd7fcffe37b5190baf61ab52b", func := "ponder/ponderlaw03.RowRooms", spec := "rowRooms", apart := false }
def RowRoomsSaid : Prop := rowRoomsRow.holds Try.pinned (OpenSpec.ofChange rowRoomsSpec)

/-- ITS FALSE NEIGHBOUR: 'it returns false'. Refute it at one input. -/
def rowRoomsWrong : ChangeSpec := { name := "rowRooms", fn := fun _ => fun
  | [d1, d2] => { results := [.lit (.bool false)], args := [d1, d2] }
  | _ => none }
def RowRoomsWrongFalsely : Prop := rowRoomsRow.holds Try.pinned (OpenSpec.ofChange rowRoomsWrong)

/-- 'ponderlaw03.RowClones': WHATEVER THE INPUT: true; the input reads as it did. -/
def rowClonesSpec : ChangeSpec := { name := "rowClones", fn := fun _ => fun
  | [d1, d2] => { results := [.lit (.bool true)], args := [d1, d2] }
  | _ => none }
def rowClonesRow : OpenClaim := { program := "ythieabhemiikhaa", sum := "e6823fd7fb8eec998aa2cb7b957f26a1026a22edd7fcffe37b5190baf61ab52b", func := "ponder/ponderlaw03.RowClones", spec := "rowClones", unfollowed := true, recurses := true, apart := false }
def RowClonesSaid : Prop := rowClonesRow.holds Try.pinned (OpenSpec.ofChange rowClonesSpec)

/-- ITS FALSE NEIGHBOUR: 'it returns false'. Refute it at one input. -/
def rowClonesWrong : ChangeSpec := { name := "rowClones", fn := fun _ => fun
  | [d1, d2] => { results := [.lit (.bool false)], args := [d1, d2] }
  | _ => none }
def RowClonesWrongFalsely : Prop := rowClonesRow.holds Try.pinned (OpenSpec.ofChange rowClonesWrong)

/- THE SECOND FORM. 'bulk': how many values and letters a reading holds, each counted each time it is reached (what is shared counts as often as it is met; a slice's spare places count too). A statement '..UptoSaid' is the law's where the arguments, and the package variables that the reading takes, are together of bulk at most 1048576: NARROWER than '..Said'. Prove '..Said' where nothing that the law and all that it calls make is longer than what came in: it says more and counts as full. Else prove '..UptoSaid'. A law counts once. -/
mutual
def uptoBulk {H : Type} : DataW H → Nat
  | .lit (.string bytes) => bytes.length + 1
  | .lit _ => 1
  | .nil => 1
  | .ptr d => uptoBulk d + 1
  | .slice elems spare => uptoBulkAll elems + uptoBulkAll spare + 1
  | .agg parts => uptoBulkAll parts + 1
  | .iface _ d => uptoBulk d + 1
  | .map entries => uptoBulkEntries entries + 1
  | .held _ => 1
def uptoBulkAll {H : Type} : List (DataW H) → Nat
  | [] => 0
  | d :: r => uptoBulk d + uptoBulkAll r
def uptoBulkEntries {H : Type} : List (Lit × DataW H) → Nat
  | [] => 0
  | x :: r => uptoBulkEntry x + uptoBulkEntries r
def uptoBulkEntry {H : Type} : Lit × DataW H → Nat
  | (.string bytes, d) => bytes.length + uptoBulk d + 1
  | (_, d) => uptoBulk d + 1
 end
def uptoSmall : (H : Type) → List (DataW H) → Bool := fun _ ds => decide (uptoBulkAll ds ≤ 1048576)
def OpenSpec.upto (s : _root_.Go.ChangeSpec) : _root_.Go.OpenSpec := { _root_.Go.OpenSpec.ofChange s with cond := some uptoSmall }

/-- 'ponderlaw03.RowPlays', WHERE WHAT IT READS IS OF BULK AT MOST 1048576: true; the input reads as it did. -/
def rowPlaysUptoRow : OpenClaim := { program := "ythieabhemiikhaa", sum := "e6823fd7fb8eec998aa2cb7b957f26a1026a22edd7fcffe37b5190baf61ab52b", func := "ponder/ponderlaw03.RowPlays", spec := "rowPlays", unfollowed := true, recurses := true, apart := false, narrowed := true }
def RowPlaysUptoSaid : Prop := rowPlaysUptoRow.holds Try.pinned (OpenSpec.upto rowPlaysSpec)

/-- 'ponderlaw03.RowAll', WHERE WHAT IT READS IS OF BULK AT MOST 1048576: true; the input reads as it did. -/
def rowAllUptoRow : OpenClaim := { program := "ythieabhemiikhaa", sum := "e6823fd7fb8eec998aa2cb7b957f26a1026a22edd7fcffe37b5190baf61ab52b", func := "ponder/ponderlaw03.RowAll", spec := "rowAll", unfollowed := true, recurses := true, apart := false, narrowed := true }
def RowAllUptoSaid : Prop := rowAllUptoRow.holds Try.pinned (OpenSpec.upto rowAllSpec)

/-- 'ponderlaw03.RowDrains', WHERE WHAT IT READS IS OF BULK AT MOST 1048576: true; the input reads as it did. -/
def rowDrainsUptoRow : OpenClaim := { program := "ythieabhemiikhaa", sum := "e6823fd7fb8eec998aa2cb7b957f26a1026a22edd7fcffe37b5190baf61ab52b", func := "ponder/ponderlaw03.RowDrains", spec := "rowDrains", unfollowed := true, recurses := true, apart := false, narrowed := true }
def RowDrainsUptoSaid : Prop := rowDrainsUptoRow.holds Try.pinned (OpenSpec.upto rowDrainsSpec)

/-- 'ponderlaw03.RowCollects', WHERE WHAT IT READS IS OF BULK AT MOST 1048576: true; the input reads as it did. -/
def rowCollectsUptoRow : OpenClaim := { program := "ythieabhemiikhaa", sum := "e6823fd7fb8eec998aa2cb7b957f26a1026a22edd7fcffe37b5190baf61ab52b", func := "ponder/ponderlaw03.RowCollects", spec := "rowCollects", unfollowed := true, recurses := true, apart := false, narrowed := true }
def RowCollectsUptoSaid : Prop := rowCollectsUptoRow.holds Try.pinned (OpenSpec.upto rowCollectsSpec)

/-- 'ponderlaw03.RowRooms', WHERE WHAT IT READS IS OF BULK AT MOST 1048576: true; the input reads as it did. -/
def rowRoomsUptoRow : OpenClaim := { program := "ythieabhemiikhaa", sum := "e6823fd7fb8eec998aa2cb7b957f26a1026a22edd7fcffe37b5190baf61ab52b", func := "ponder/ponderlaw03.RowRooms", spec := "rowRooms", apart := false, narrowed := true }
def RowRoomsUptoSaid : Prop := rowRoomsUptoRow.holds Try.pinned (OpenSpec.upto rowRoomsSpec)

/-- 'ponderlaw03.RowClones', WHERE WHAT IT READS IS OF BULK AT MOST 1048576: true; the input reads as it did. -/
def rowClonesUptoRow : OpenClaim := { program := "ythieabhemiikhaa", sum := "e6823fd7fb8eec998aa2cb7b957f26a1026a22edd7fcffe37b5190baf61ab52b", func := "ponder/ponderlaw03.RowClones", spec := "rowClones", unfollowed := true, recurses := true, apart := false, narrowed := true }
def RowClonesUptoSaid : Prop := rowClonesUptoRow.holds Try.pinned (OpenSpec.upto rowClonesSpec)

end Rows
end Go.Proofs.Ythieabhemiikhaa
