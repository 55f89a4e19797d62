/-
  NARROWER THAN 'FOR EVERY INPUT', by the rows' own cells (each row's printed sentence says how): ShapeForms: loops · ShapeChecks: loops · ShapeVars: loops · ShapeEach: loops · ShapeConsts: loops · ShapeNames: loops.
  DERIVED. THE GIVEN ROWS OF THIS SEAT. 8 by the template 'for every input the law returns true; each argument reads behind the call as it read before'; 0 by the template 'total and deterministic' (their statements: YtccphigpobnjmaaTotals.lean).
  GIVEN WITH THE SEED: the statements are not yours to turn. If you find one false, say at which input.
  Laid BY PROGRAM, IN A SANDBOX (cutbox-rows.mjs): the forced cells as the released guide's own fill.sh prints them over the translation 32ddc7c20e6855b2… (all of the seat's roots in one cut). By AI agents, Wed Nov 11 2026. No macro, syntax, notation, axiom, sorry.
-/
import Derived.Test.YtccphigpobnjmaaChecked
import GoSem.Claim
import GoSem.ClaimJoined
import GoSem.ClaimMapViews
import Derived.JoinedTies
import Derived.KernelRfl
namespace Go.Proofs.Ytccphigpobnjmaa
/- THE CELL 'sum', in the pinned program and in every row, IS THE sha256 OF THE DUMP (.gsa) THAT YtccphigpobnjmaaProg.lean LOADS. Nothing in Lean hashes anything: it is a label: what it is worth is what the hold of that sum in a sandbox is worth. -/
noncomputable def Try.pinned : Pinned := { name := "ytccphigpobnjmaa", sum := "32ddc7c20e6855b2d8b21b00a8c895d64751aa63ca36c89610dec140b6d5dd40", checked := Try.checked }
namespace Rows
def none {H : Type} : Left H := { results := [], args := [] }

/-- 'ponderlaw06.ShapeForms': WHATEVER THE INPUT: true; the input reads as it did. -/
def shapeFormsSpec : ChangeSpec := { name := "shapeForms", fn := fun _ => fun
  | [d] => { results := [.lit (.bool true)], args := [d] }
  | _ => none }
def shapeFormsRow : OpenClaim := { program := "ytccphigpobnjmaa", sum := "32ddc7c20e6855b2d8b21b00a8c895d64751aa63ca36c89610dec140b6d5dd40", func := "ponder/ponderlaw06.ShapeForms", spec := "shapeForms", unfollowed := true, recurses := true, loops := true, apart := false }
def ShapeFormsSaid : Prop := shapeFormsRow.holds Try.pinned (OpenSpec.ofChange shapeFormsSpec)

/-- ITS FALSE NEIGHBOUR: 'it returns false'. Refute it at one input. -/
def shapeFormsWrong : ChangeSpec := { name := "shapeForms", fn := fun _ => fun
  | [d] => { results := [.lit (.bool false)], args := [d] }
  | _ => none }
def ShapeFormsWrongFalsely : Prop := shapeFormsRow.holds Try.pinned (OpenSpec.ofChange shapeFormsWrong)

/-- 'ponderlaw06.ShapeChecks': WHATEVER THE INPUT: true; the input reads as it did. -/
def shapeChecksSpec : ChangeSpec := { name := "shapeChecks", fn := fun _ => fun
  | [d] => { results := [.lit (.bool true)], args := [d] }
  | _ => none }
def shapeChecksRow : OpenClaim := { program := "ytccphigpobnjmaa", sum := "32ddc7c20e6855b2d8b21b00a8c895d64751aa63ca36c89610dec140b6d5dd40", func := "ponder/ponderlaw06.ShapeChecks", spec := "shapeChecks", unfollowed := true, recurses := true, loops := true, apart := false }
def ShapeChecksSaid : Prop := shapeChecksRow.holds Try.pinned (OpenSpec.ofChange shapeChecksSpec)

/-- ITS FALSE NEIGHBOUR: 'it returns false'. Refute it at one input. -/
def shapeChecksWrong : ChangeSpec := { name := "shapeChecks", fn := fun _ => fun
  | [d] => { results := [.lit (.bool false)], args := [d] }
  | _ => none }
def ShapeChecksWrongFalsely : Prop := shapeChecksRow.holds Try.pinned (OpenSpec.ofChange shapeChecksWrong)

/-- 'ponderlaw06.ShapeVars': WHATEVER THE INPUT: true; the input reads as it did. -/
def shapeVarsSpec : ChangeSpec := { name := "shapeVars", fn := fun _ => fun
  | [d] => { results := [.lit (.bool true)], args := [d] }
  | _ => none }
def shapeVarsRow : OpenClaim := { program := "ytccphigpobnjmaa", sum := "32ddc7c20e6855b2d8b21b00a8c895d64751aa63ca36c89610dec140b6d5dd40", func := "ponder/ponderlaw06.ShapeVars", spec := "shapeVars", unfollowed := true, recurses := true, loops := true, apart := false }
def ShapeVarsSaid : Prop := shapeVarsRow.holds Try.pinned (OpenSpec.ofChange shapeVarsSpec)

/-- ITS FALSE NEIGHBOUR: 'it returns false'. Refute it at one input. -/
def shapeVarsWrong : ChangeSpec := { name := "shapeVars", fn := fun _ => fun
  | [d] => { results := [.lit (.bool false)], args := [d] }
  | _ => none }
def ShapeVarsWrongFalsely : Prop := shapeVarsRow.holds Try.pinned (OpenSpec.ofChange shapeVarsWrong)

/-- 'ponderlaw06.ShapeEach': WHATEVER THE INPUT: true; the input reads as it did. -/
def shapeEachSpec : ChangeSpec := { name := "shapeEach", fn := fun _ => fun
  | [d1, d2] => { results := [.lit (.bool true)], args := [d1, d2] }
  | _ => none }
def shapeEachRow : OpenClaim := { program := "ytccphigpobnjmaa", sum := "32ddc7c20e6855b2d8b21b00a8c895d64751aa63ca36c89610dec140b6d5dd40", func := "ponder/ponderlaw06.ShapeEach", spec := "shapeEach", unfollowed := true, recurses := true, loops := true, apart := false }
def ShapeEachSaid : Prop := shapeEachRow.holds Try.pinned (OpenSpec.ofChange shapeEachSpec)

/-- ITS FALSE NEIGHBOUR: 'it returns false'. Refute it at one input. -/
def shapeEachWrong : ChangeSpec := { name := "shapeEach", fn := fun _ => fun
  | [d1, d2] => { results := [.lit (.bool false)], args := [d1, d2] }
  | _ => none }
def ShapeEachWrongFalsely : Prop := shapeEachRow.holds Try.pinned (OpenSpec.ofChange shapeEachWrong)

/-- 'ponderlaw06.ShapeConsts': WHATEVER THE INPUT: true; the input reads as it did. -/
def shapeConstsSpec : ChangeSpec := { name := "shapeConsts", fn := fun _ => fun
  | [d] => { results := [.lit (.bool true)], args := [d] }
  | _ => none }
def shapeConstsRow : OpenClaim := { program := "ytccphigpobnjmaa", sum := "32ddc7c20e6855b2d8b21b00a8c895d64751aa63ca36c89610dec140b6d5dd40", func := "ponder/ponderlaw06.ShapeConsts", spec := "shapeConsts", unfollowed := true, recurses := true, loops := true, apart := false }
def ShapeConstsSaid : Prop := shapeConstsRow.holds Try.pinned (OpenSpec.ofChange shapeConstsSpec)

/-- ITS FALSE NEIGHBOUR: 'it returns false'. Refute it at one input. -/
def shapeConstsWrong : ChangeSpec := { name := "shapeConsts", fn := fun _ => fun
  | [d] => { results := [.lit (.bool false)], args := [d] }
  | _ => none }
def ShapeConstsWrongFalsely : Prop := shapeConstsRow.holds Try.pinned (OpenSpec.ofChange shapeConstsWrong)

/-- 'ponderlaw06.ShapeNames': WHATEVER THE INPUT: true; the input reads as it did. -/
def shapeNamesSpec : ChangeSpec := { name := "shapeNames", fn := fun _ => fun
  | [d] => { results := [.lit (.bool true)], args := [d] }
  | _ => none }
def shapeNamesRow : OpenClaim := { program := "ytccphigpobnjmaa", sum := "32ddc7c20e6855b2d8b21b00a8c895d64751aa63ca36c89610dec140b6d5dd40", func := "ponder/ponderlaw06.ShapeNames", spec := "shapeNames", unfollowed := true, recurses := true, loops := true, apart := false }
def ShapeNamesSaid : Prop := shapeNamesRow.holds Try.pinned (OpenSpec.ofChange shapeNamesSpec)

/-- ITS FALSE NEIGHBOUR: 'it returns false'. Refute it at one input. -/
def shapeNamesWrong : ChangeSpec := { name := "shapeNames", fn := fun _ => fun
  | [d] => { results := [.lit (.bool false)], args := [d] }
  | _ => none }
def ShapeNamesWrongFalsely : Prop := shapeNamesRow.holds Try.pinned (OpenSpec.ofChange shapeNamesWrong)

/-- 'ponderlaw06.ShapeEdges': WHATEVER THE INPUT: true; the input reads as it did. -/
def shapeEdgesSpec : ChangeSpec := { name := "shapeEdges", fn := fun _ => fun
  | [d1, d2] => { results := [.lit (.bool true)], args := [d1, d2] }
  | _ => none }
def shapeEdgesRow : OpenClaim := { program := "ytccphigpobnjmaa", sum := "32ddc7c20e6855b2d8b21b00a8c895d64751aa63ca36c89610dec140b6d5dd40", func := "ponder/ponderlaw06.ShapeEdges", spec := "shapeEdges", unfollowed := true, recurses := true, apart := false }
def ShapeEdgesSaid : Prop := shapeEdgesRow.holds Try.pinned (OpenSpec.ofChange shapeEdgesSpec)

/-- ITS FALSE NEIGHBOUR: 'it returns false'. Refute it at one input. -/
def shapeEdgesWrong : ChangeSpec := { name := "shapeEdges", fn := fun _ => fun
  | [d1, d2] => { results := [.lit (.bool false)], args := [d1, d2] }
  | _ => none }
def ShapeEdgesWrongFalsely : Prop := shapeEdgesRow.holds Try.pinned (OpenSpec.ofChange shapeEdgesWrong)

/-- 'ponderlaw06.ShapeInside': WHATEVER THE INPUT: true; the input reads as it did. -/
def shapeInsideSpec : ChangeSpec := { name := "shapeInside", fn := fun _ => fun
  | [d1, d2] => { results := [.lit (.bool true)], args := [d1, d2] }
  | _ => none }
def shapeInsideRow : OpenClaim := { program := "ytccphigpobnjmaa", sum := "32ddc7c20e6855b2d8b21b00a8c895d64751aa63ca36c89610dec140b6d5dd40", func := "ponder/ponderlaw06.ShapeInside", spec := "shapeInside", unfollowed := true, recurses := true, apart := false }
def ShapeInsideSaid : Prop := shapeInsideRow.holds Try.pinned (OpenSpec.ofChange shapeInsideSpec)

/-- ITS FALSE NEIGHBOUR: 'it returns false'. Refute it at one input. -/
def shapeInsideWrong : ChangeSpec := { name := "shapeInside", fn := fun _ => fun
  | [d1, d2] => { results := [.lit (.bool false)], args := [d1, d2] }
  | _ => none }
def ShapeInsideWrongFalsely : Prop := shapeInsideRow.holds Try.pinned (OpenSpec.ofChange shapeInsideWrong)

/- THE SECOND FORM. 'bulk': how many values and letters a reading holds, each counted each time it is reached (what is shared counts as often as it is met; a slice's spare places count too). A statement '..UptoSaid' is the law's where the arguments, and the package variables that the reading takes, are together of bulk at most 1048576: NARROWER than '..Said'. Prove '..Said' where nothing that the law and all that it calls make is longer than what came in: it says more and counts as full. Else prove '..UptoSaid'. A law counts once. -/
mutual
def uptoBulk {H : Type} : DataW H → Nat
  | .lit (.string bytes) => bytes.length + 1
  | .lit _ => 1
  | .nil => 1
  | .ptr d => uptoBulk d + 1
  | .slice elems spare => uptoBulkAll elems + uptoBulkAll spare + 1
  | .agg parts => uptoBulkAll parts + 1
  | .iface _ d => uptoBulk d + 1
  | .map entries => uptoBulkEntries entries + 1
  | .held _ => 1
def uptoBulkAll {H : Type} : List (DataW H) → Nat
  | [] => 0
  | d :: r => uptoBulk d + uptoBulkAll r
def uptoBulkEntries {H : Type} : List (Lit × DataW H) → Nat
  | [] => 0
  | x :: r => uptoBulkEntry x + uptoBulkEntries r
def uptoBulkEntry {H : Type} : Lit × DataW H → Nat
  | (.string bytes, d) => bytes.length + uptoBulk d + 1
  | (_, d) => uptoBulk d + 1
 end
def uptoSmall : (H : Type) → List (DataW H) → Bool := fun _ ds => decide (uptoBulkAll ds ≤ 1048576)
def OpenSpec.upto (s : _root_.Go.ChangeSpec) : _root_.Go.OpenSpec := { _root_.Go.OpenSpec.ofChange s with cond := some uptoSmall }

/-- 'ponderlaw06.ShapeForms', WHERE WHAT IT READS IS OF BULK AT MOST 1048576: true; the input reads as it did. -/
def shapeFormsUptoRow : OpenClaim := { program := "ytccphigpobnjmaa", sum := "32ddc7c20e6855b2d8b21b00a8c895d64751aa63ca36c89610dec140b6d5dd40", func := "ponder/ponderlaw06.ShapeForms", spec := "shapeForms", unfollowed := true, recurses := true, loops := true, apart := false, narrowed := true }
def ShapeFormsUptoSaid : Prop := shapeFormsUptoRow.holds Try.pinned (OpenSpec.upto shapeFormsSpec)

/-- 'ponderlaw06.ShapeChecks', WHERE WHAT IT READS IS OF BULK AT MOST 1048576: true; the input reads as it did. -/
def shapeChecksUptoRow : OpenClaim := { program := "ytccphigpobnjmaa", sum := "32ddc7c20e6855b2d8b21b00a8c895d64751aa63ca36c89610dec140b6d5dd40", func := "ponder/ponderlaw06.ShapeChecks", spec := "shapeChecks", unfollowed := true, recurses := true, loops := true, apart := false, narrowed := true }
def ShapeChecksUptoSaid : Prop := shapeChecksUptoRow.holds Try.pinned (OpenSpec.upto shapeChecksSpec)

/-- 'ponderlaw06.ShapeVars', WHERE WHAT IT READS IS OF BULK AT MOST 1048576: true; the input reads as it did. -/
def shapeVarsUptoRow : OpenClaim := { program := "ytccphigpobnjmaa", sum := "32ddc7c20e6855b2d8b21b00a8c895d64751aa63ca36c89610dec140b6d5dd40", func := "ponder/ponderlaw06.ShapeVars", spec := "shapeVars", unfollowed := true, recurses := true, loops := true, apart := false, narrowed := true }
def ShapeVarsUptoSaid : Prop := shapeVarsUptoRow.holds Try.pinned (OpenSpec.upto shapeVarsSpec)

/-- 'ponderlaw06.ShapeEach', WHERE WHAT IT READS IS OF BULK AT MOST 1048576: true; the input reads as it did. -/
def shapeEachUptoRow : OpenClaim := { program := "ytccphigpobnjmaa", sum := "32ddc7c20e6855b2d8b21b00a8c895d64751aa63ca36c89610dec140b6d5dd40", func := "ponder/ponderlaw06.ShapeEach", spec := "shapeEach", unfollowed := true, recurses := true, loops := true, apart := false, narrowed := true }
def ShapeEachUptoSaid : Prop := shapeEachUptoRow.holds Try.pinned (OpenSpec.upto shapeEachSpec)

/-- 'ponderlaw06.ShapeConsts', WHERE WHAT IT READS IS OF BULK AT MOST 1048576: true; the input reads as it did. -/
def shapeConstsUptoRow : OpenClaim := { program := "ytccphigpobnjmaa", sum := "32ddc7c20e6855b2d8b21b00a8c895d64751aa63ca36c89610dec140b6d5dd40", func := "ponder/ponderlaw06.ShapeConsts", spec := "shapeConsts", unfollowed := true, recurses := true, loops := true, apart := false, narrowed := true }
def ShapeConstsUptoSaid : Prop := shapeConstsUptoRow.holds Try.pinned (OpenSpec.upto shapeConstsSpec)

/-- 'ponderlaw06.ShapeNames', WHERE WHAT IT READS IS OF BULK AT MOST 1048576: true; the input reads as it did. -/
def shapeNamesUptoRow : OpenClaim := { program := "ytccphigpobnjmaa", sum := "32ddc7c20e6855b2d8b21b00a8c895d64751aa63ca36c89610dec140b6d5dd40", func := "ponder/ponderlaw06.ShapeNames", spec := "shapeNames", unfollowed := true, recurses := true, loops := true, apart := false, narrowed := true }
def ShapeNamesUptoSaid : Prop := shapeNamesUptoRow.holds Try.pinned (OpenSpec.upto shapeNamesSpec)

/-- 'ponderlaw06.ShapeEdges', WHERE WHAT IT READS IS OF BULK AT MOST 1048576: true; the input reads as it did. -/
def shapeEdgesUptoRow : OpenClaim := { program := "ytccphigpobnjmaa", sum := "32ddc7c20e6855b2d8b21b00a8c895d64751aa63ca36c89610dec140b6d5dd40", func := "ponder/ponderlaw06.ShapeEdges", spec := "shapeEdges", unfollowed := true, recurses := true, apart := false, narrowed := true }
def ShapeEdgesUptoSaid : Prop := shapeEdgesUptoRow.holds Try.pinned (OpenSpec.upto shapeEdgesSpec)

/-- 'ponderlaw06.ShapeInside', WHERE WHAT IT READS IS OF BULK AT MOST 1048576: true; the input reads as it did. -/
def shapeInsideUptoRow : OpenClaim := { program := "ytccphigpobnjmaa", sum := "32ddc7c20e6855b2d8b21b00a8c895d64751aa63ca36c89610dec140b6d5dd40", func := "ponder/ponderlaw06.ShapeInside", spec := "shapeInside", unfollowed := true, recurses := true, apart := false, narrowed := true }
def ShapeInsideUptoSaid : Prop := shapeInsideUptoRow.holds Try.pinned (OpenSpec.upto shapeInsideSpec)

end Rows
end Go.Proofs.Ytccphigpobnjmaa
