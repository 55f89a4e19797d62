/-
  No cell of these rows narrows 'for every input' (looked for: loops, veiled, ifaces, maps, wideKeys, modest, calm, conditions, laid).
  DERIVED. THE GIVEN ROWS OF THIS SEAT. 7 by the template 'for every input the law returns true; each argument reads behind the call as it read before'; 0 by the template 'total and deterministic' (their statements: YthgidldcblchmaaTotals.lean).
  GIVEN WITH THE SEED: the statements are not yours to turn. If you find one false, say at which input.
  Laid BY PROGRAM, IN A SANDBOX (cutbox-rows.mjs): the forced cells as the released guide's own fill.sh prints them over the translation 9185c8423aade0f4… (all of the seat's roots in one cut). By AI agents, Wed Nov 11 2026. No macro, syntax, notation, axiom, sorry.
-/
import Derived.Test.YthgidldcblchmaaChecked
import GoSem.Claim
import GoSem.ClaimJoined
import GoSem.ClaimMapViews
import Derived.JoinedTies
import Derived.KernelRfl
namespace Go.Proofs.Ythgidldcblchmaa
/- THE CELL 'sum', in the pinned program and in every row, IS THE sha256 OF THE DUMP (.gsa) THAT YthgidldcblchmaaProg.lean LOADS. Nothing in Lean hashes anything: it is a label: what it is worth is what the hold of that sum in a sandbox is worth. -/
noncomputable def Try.pinned : Pinned := { name := "ythgidldcblchmaa", sum := "9185c8423aade0f4578f43125563a6990bbaf706bca5a1d331dcfc644deb7a73", checked := Try.checked }
namespace Rows
def none {H : Type} : Left H := { results := [], args := [] }

/-- 'ponderlaw01.OrderKept': WHATEVER THE INPUT: true; the input reads as it did. -/
def orderKeptSpec : ChangeSpec := { name := "orderKept", fn := fun _ => fun
  | [d1, d2] => { results := [.lit (.bool true)], args := [d1, d2] }
  | _ => none }
def orderKeptRow : OpenClaim := { program := "ythgidldcblchmaa", sum := "9185c8423aade0f4578f43125563a6990bbaf706bca5a1d331dcfc644deb7a73", func := "ponder/ponderlaw01.OrderKept", spec := "orderKept", unfollowed := true, recurses := true, apart := false }
def OrderKeptSaid : Prop := orderKeptRow.holds Try.pinned (OpenSpec.ofChange orderKeptSpec)

/-- ITS FALSE NEIGHBOUR: 'it returns false'. Refute it at one input. -/
def orderKeptWrong : ChangeSpec := { name := "orderKept", fn := fun _ => fun
  | [d1, d2] => { results := [.lit (.bool false)], args := [d1, d2] }
  | _ => none }
def OrderKeptWrongFalsely : Prop := orderKeptRow.holds Try.pinned (OpenSpec.ofChange orderKeptWrong)

/-- 'ponderlaw02.BookPlays': WHATEVER THE INPUT: true; the input reads as it did. -/
def bookPlaysSpec : ChangeSpec := { name := "bookPlays", fn := fun _ => fun
  | [d] => { results := [.lit (.bool true)], args := [d] }
  | _ => none }
def bookPlaysRow : OpenClaim := { program := "ythgidldcblchmaa", sum := "9185c8423aade0f4578f43125563a6990bbaf706bca5a1d331dcfc644deb7a73", func := "ponder/ponderlaw02.BookPlays", spec := "bookPlays", unfollowed := true, recurses := true, apart := false }
def BookPlaysSaid : Prop := bookPlaysRow.holds Try.pinned (OpenSpec.ofChange bookPlaysSpec)

/-- ITS FALSE NEIGHBOUR: 'it returns false'. Refute it at one input. -/
def bookPlaysWrong : ChangeSpec := { name := "bookPlays", fn := fun _ => fun
  | [d] => { results := [.lit (.bool false)], args := [d] }
  | _ => none }
def BookPlaysWrongFalsely : Prop := bookPlaysRow.holds Try.pinned (OpenSpec.ofChange bookPlaysWrong)

/-- 'ponderlaw02.BookSequences': WHATEVER THE INPUT: true; the input reads as it did. -/
def bookSequencesSpec : ChangeSpec := { name := "bookSequences", fn := fun _ => fun
  | [d1, d2, d3] => { results := [.lit (.bool true)], args := [d1, d2, d3] }
  | _ => none }
def bookSequencesRow : OpenClaim := { program := "ythgidldcblchmaa", sum := "9185c8423aade0f4578f43125563a6990bbaf706bca5a1d331dcfc644deb7a73", func := "ponder/ponderlaw02.BookSequences", spec := "bookSequences", unfollowed := true, recurses := true, apart := false }
def BookSequencesSaid : Prop := bookSequencesRow.holds Try.pinned (OpenSpec.ofChange bookSequencesSpec)

/-- ITS FALSE NEIGHBOUR: 'it returns false'. Refute it at one input. -/
def bookSequencesWrong : ChangeSpec := { name := "bookSequences", fn := fun _ => fun
  | [d1, d2, d3] => { results := [.lit (.bool false)], args := [d1, d2, d3] }
  | _ => none }
def BookSequencesWrongFalsely : Prop := bookSequencesRow.holds Try.pinned (OpenSpec.ofChange bookSequencesWrong)

/-- 'ponderlaw02.BookMeanwhile': WHATEVER THE INPUT: true; the input reads as it did. -/
def bookMeanwhileSpec : ChangeSpec := { name := "bookMeanwhile", fn := fun _ => fun
  | [d] => { results := [.lit (.bool true)], args := [d] }
  | _ => none }
def bookMeanwhileRow : OpenClaim := { program := "ythgidldcblchmaa", sum := "9185c8423aade0f4578f43125563a6990bbaf706bca5a1d331dcfc644deb7a73", func := "ponder/ponderlaw02.BookMeanwhile", spec := "bookMeanwhile", unfollowed := true, recurses := true, apart := false }
def BookMeanwhileSaid : Prop := bookMeanwhileRow.holds Try.pinned (OpenSpec.ofChange bookMeanwhileSpec)

/-- ITS FALSE NEIGHBOUR: 'it returns false'. Refute it at one input. -/
def bookMeanwhileWrong : ChangeSpec := { name := "bookMeanwhile", fn := fun _ => fun
  | [d] => { results := [.lit (.bool false)], args := [d] }
  | _ => none }
def BookMeanwhileWrongFalsely : Prop := bookMeanwhileRow.holds Try.pinned (OpenSpec.ofChange bookMeanwhileWrong)

/-- 'ponderlaw02.BookKeeps': WHATEVER THE INPUT: true; the input reads as it did. -/
def bookKeepsSpec : ChangeSpec := { name := "bookKeeps", fn := fun _ => fun
  | [d] => { results := [.lit (.bool true)], args := [d] }
  | _ => none }
def bookKeepsRow : OpenClaim := { program := "ythgidldcblchmaa", sum := "9185c8423aade0f4578f43125563a6990bbaf706bca5a1d331dcfc644deb7a73", func := "ponder/ponderlaw02.BookKeeps", spec := "bookKeeps", unfollowed := true, recurses := true, apart := false }
def BookKeepsSaid : Prop := bookKeepsRow.holds Try.pinned (OpenSpec.ofChange bookKeepsSpec)

/-- ITS FALSE NEIGHBOUR: 'it returns false'. Refute it at one input. -/
def bookKeepsWrong : ChangeSpec := { name := "bookKeeps", fn := fun _ => fun
  | [d] => { results := [.lit (.bool false)], args := [d] }
  | _ => none }
def BookKeepsWrongFalsely : Prop := bookKeepsRow.holds Try.pinned (OpenSpec.ofChange bookKeepsWrong)

/-- 'ponderlaw02.BookClones': WHATEVER THE INPUT: true; the input reads as it did. -/
def bookClonesSpec : ChangeSpec := { name := "bookClones", fn := fun _ => fun
  | [d1, d2] => { results := [.lit (.bool true)], args := [d1, d2] }
  | _ => none }
def bookClonesRow : OpenClaim := { program := "ythgidldcblchmaa", sum := "9185c8423aade0f4578f43125563a6990bbaf706bca5a1d331dcfc644deb7a73", func := "ponder/ponderlaw02.BookClones", spec := "bookClones", unfollowed := true, recurses := true, apart := false }
def BookClonesSaid : Prop := bookClonesRow.holds Try.pinned (OpenSpec.ofChange bookClonesSpec)

/-- ITS FALSE NEIGHBOUR: 'it returns false'. Refute it at one input. -/
def bookClonesWrong : ChangeSpec := { name := "bookClones", fn := fun _ => fun
  | [d1, d2] => { results := [.lit (.bool false)], args := [d1, d2] }
  | _ => none }
def BookClonesWrongFalsely : Prop := bookClonesRow.holds Try.pinned (OpenSpec.ofChange bookClonesWrong)

/-- 'ponderlaw02.BookCounts': WHATEVER THE INPUT: true; the input reads as it did. -/
def bookCountsSpec : ChangeSpec := { name := "bookCounts", fn := fun _ => fun
  | [d] => { results := [.lit (.bool true)], args := [d] }
  | _ => none }
def bookCountsRow : OpenClaim := { program := "ythgidldcblchmaa", sum := "9185c8423aade0f4578f43125563a6990bbaf706bca5a1d331dcfc644deb7a73", func := "ponder/ponderlaw02.BookCounts", spec := "bookCounts", unfollowed := true, recurses := true, apart := false }
def BookCountsSaid : Prop := bookCountsRow.holds Try.pinned (OpenSpec.ofChange bookCountsSpec)

/-- ITS FALSE NEIGHBOUR: 'it returns false'. Refute it at one input. -/
def bookCountsWrong : ChangeSpec := { name := "bookCounts", fn := fun _ => fun
  | [d] => { results := [.lit (.bool false)], args := [d] }
  | _ => none }
def BookCountsWrongFalsely : Prop := bookCountsRow.holds Try.pinned (OpenSpec.ofChange bookCountsWrong)

/- THE SECOND FORM. 'bulk': how many values and letters a reading holds, each counted each time it is reached (what is shared counts as often as it is met; a slice's spare places count too). A statement '..UptoSaid' is the law's where the arguments, and the package variables that the reading takes, are together of bulk at most 1048576: NARROWER than '..Said'. Prove '..Said' where nothing that the law and all that it calls make is longer than what came in: it says more and counts as full. Else prove '..UptoSaid'. A law counts once. -/
mutual
def uptoBulk {H : Type} : DataW H → Nat
  | .lit (.string bytes) => bytes.length + 1
  | .lit _ => 1
  | .nil => 1
  | .ptr d => uptoBulk d + 1
  | .slice elems spare => uptoBulkAll elems + uptoBulkAll spare + 1
  | .agg parts => uptoBulkAll parts + 1
  | .iface _ d => uptoBulk d + 1
  | .map entries => uptoBulkEntries entries + 1
  | .held _ => 1
def uptoBulkAll {H : Type} : List (DataW H) → Nat
  | [] => 0
  | d :: r => uptoBulk d + uptoBulkAll r
def uptoBulkEntries {H : Type} : List (Lit × DataW H) → Nat
  | [] => 0
  | x :: r => uptoBulkEntry x + uptoBulkEntries r
def uptoBulkEntry {H : Type} : Lit × DataW H → Nat
  | (.string bytes, d) => bytes.length + uptoBulk d + 1
  | (_, d) => uptoBulk d + 1
 end
def uptoSmall : (H : Type) → List (DataW H) → Bool := fun _ ds => decide (uptoBulkAll ds ≤ 1048576)
def OpenSpec.upto (s : _root_.Go.ChangeSpec) : _root_.Go.OpenSpec := { _root_.Go.OpenSpec.ofChange s with cond := some uptoSmall }

/-- 'ponderlaw01.OrderKept', WHERE WHAT IT READS IS OF BULK AT MOST 1048576: true; the input reads as it did. -/
def orderKeptUptoRow : OpenClaim := { program := "ythgidldcblchmaa", sum := "9185c8423aade0f4578f43125563a6990bbaf706bca5a1d331dcfc644deb7a73", func := "ponder/ponderlaw01.OrderKept", spec := "orderKept", unfollowed := true, recurses := true, apart := false, narrowed := true }
def OrderKeptUptoSaid : Prop := orderKeptUptoRow.holds Try.pinned (OpenSpec.upto orderKeptSpec)

/-- 'ponderlaw02.BookPlays', WHERE WHAT IT READS IS OF BULK AT MOST 1048576: true; the input reads as it did. -/
def bookPlaysUptoRow : OpenClaim := { program := "ythgidldcblchmaa", sum := "9185c8423aade0f4578f43125563a6990bbaf706bca5a1d331dcfc644deb7a73", func := "ponder/ponderlaw02.BookPlays", spec := "bookPlays", unfollowed := true, recurses := true, apart := false, narrowed := true }
def BookPlaysUptoSaid : Prop := bookPlaysUptoRow.holds Try.pinned (OpenSpec.upto bookPlaysSpec)

/-- 'ponderlaw02.BookSequences', WHERE WHAT IT READS IS OF BULK AT MOST 1048576: true; the input reads as it did. -/
def bookSequencesUptoRow : OpenClaim := { program := "ythgidldcblchmaa", sum := "9185c8423aade0f4578f43125563a6990bbaf706bca5a1d331dcfc644deb7a73", func := "ponder/ponderlaw02.BookSequences", spec := "bookSequences", unfollowed := true, recurses := true, apart := false, narrowed := true }
def BookSequencesUptoSaid : Prop := bookSequencesUptoRow.holds Try.pinned (OpenSpec.upto bookSequencesSpec)

/-- 'ponderlaw02.BookMeanwhile', WHERE WHAT IT READS IS OF BULK AT MOST 1048576: true; the input reads as it did. -/
def bookMeanwhileUptoRow : OpenClaim := { program := "ythgidldcblchmaa", sum := "9185c8423aade0f4578f43125563a6990bbaf706bca5a1d331dcfc644deb7a73", func := "ponder/ponderlaw02.BookMeanwhile", spec := "bookMeanwhile", unfollowed := true, recurses := true, apart := false, narrowed := true }
def BookMeanwhileUptoSaid : Prop := bookMeanwhileUptoRow.holds Try.pinned (OpenSpec.upto bookMeanwhileSpec)

/-- 'ponderlaw02.BookKeeps', WHERE WHAT IT READS IS OF BULK AT MOST 1048576: true; the input reads as it did. -/
def bookKeepsUptoRow : OpenClaim := { program := "ythgidldcblchmaa", sum := "9185c8423aade0f4578f43125563a6990bbaf706bca5a1d331dcfc644deb7a73", func := "ponder/ponderlaw02.BookKeeps", spec := "bookKeeps", unfollowed := true, recurses := true, apart := false, narrowed := true }
def BookKeepsUptoSaid : Prop := bookKeepsUptoRow.holds Try.pinned (OpenSpec.upto bookKeepsSpec)

/-- 'ponderlaw02.BookClones', WHERE WHAT IT READS IS OF BULK AT MOST 1048576: true; the input reads as it did. -/
def bookClonesUptoRow : OpenClaim := { program := "ythgidldcblchmaa", sum := "9185c8423aade0f4578f43125563a6990bbaf706bca5a1d331dcfc644deb7a73", func := "ponder/ponderlaw02.BookClones", spec := "bookClones", unfollowed := true, recurses := true, apart := false, narrowed := true }
def BookClonesUptoSaid : Prop := bookClonesUptoRow.holds Try.pinned (OpenSpec.upto bookClonesSpec)

/-- 'ponderlaw02.BookCounts', WHERE WHAT IT READS IS OF BULK AT MOST 1048576: true; the input reads as it did. -/
def bookCountsUptoRow : OpenClaim := { program := "ythgidldcblchmaa", sum := "9185c8423aade0f4578f43125563a6990bbaf706bca5a1d331dcfc644deb7a73", func := "ponder/ponderlaw02.BookCounts", spec := "bookCounts", unfollowed := true, recurses := true, apart := false, narrowed := true }
def BookCountsUptoSaid : Prop := bookCountsUptoRow.holds Try.pinned (OpenSpec.upto bookCountsSpec)

end Rows
end Go.Proofs.Ythgidldcblchmaa
