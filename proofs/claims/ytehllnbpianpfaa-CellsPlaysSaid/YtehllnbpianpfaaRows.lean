/-
  No cell of these rows narrows 'for every input' (looked for: loops, veiled, ifaces, maps, wideKeys, modest, calm, conditions, laid).
  DERIVED. THE GIVEN ROWS OF THIS SEAT. 3 by the template 'for every input the law returns true; each argument reads behind the call as it read before'; 0 by the template 'total and deterministic' (their statements: YtehllnbpianpfaaTotals.lean).
  GIVEN WITH THE SEED: the statements are not yours to turn. If you find one false, say at which input.
  Laid BY PROGRAM, IN A SANDBOX (cutbox-rows.mjs): the forced cells as the released guide's own fill.sh prints them over the translation b0d69bdf907b8df8… (all of the seat's roots in one cut). By AI agents, Wed Nov 11 2026. No macro, syntax, notation, axiom, sorry.
-/
import Derived.Test.YtehllnbpianpfaaChecked
import GoSem.Claim
import GoSem.ClaimJoined
import GoSem.ClaimMapViews
import Derived.JoinedTies
import Derived.KernelRfl
namespace Go.Proofs.Ytehllnbpianpfaa
/- THE CELL 'sum', in the pinned program and in every row, IS THE sha256 OF THE DUMP (.gsa) THAT YtehllnbpianpfaaProg.lean LOADS. Nothing in Lean hashes anything: it is a label: what it is worth is what the hold of that sum in a sandbox is worth. -/
noncomputable def Try.pinned : Pinned := { name := "ytehllnbpianpfaa", sum := "b0d69bdf907b8df87182ff5fc02ec1d4acf7665c1fd89e6d23b63fdb7da655a5", checked := Try.checked }
namespace Rows
def none {H : Type} : Left H := { results := [], args := [] }

/-- 'barrowlaw08.CellsPlays': WHATEVER THE INPUT: true; the input reads as it did. -/
def cellsPlaysSpec : ChangeSpec := { name := "cellsPlays", fn := fun _ => fun
  | [d] => { results := [.lit (.bool true)], args := [d] }
  | _ => none }
def cellsPlaysRow : OpenClaim := { program := "ytehllnbpianpfaa", sum := "b0d69bdf907b8df87182ff5fc02ec1d4acf7665c1fd89e6d23b63fdb7da655a5", func := "barrow/barrowlaw08.CellsPlays", spec := "cellsPlays", unfollowed := true, recurses := true, plainKeys := false, apart := false }
def CellsPlaysSaid : Prop := cellsPlaysRow.holds Try.pinned (OpenSpec.ofChange cellsPlaysSpec)

/-- ITS FALSE NEIGHBOUR: 'it returns false'. Refute it at one input. -/
def cellsPlaysWrong : ChangeSpec := { name := "cellsPlays", fn := fun _ => fun
  | [d] => { results := [.lit (.bool false)], args := [d] }
  | _ => none }
def CellsPlaysWrongFalsely : Prop := cellsPlaysRow.holds Try.pinned (OpenSpec.ofChange cellsPlaysWrong)

/-- 'barrowlaw08.CellsFinds': WHATEVER THE INPUT: true; the input reads as it did. -/
def cellsFindsSpec : ChangeSpec := { name := "cellsFinds", fn := fun _ => fun
  | [d1, d2, d3] => { results := [.lit (.bool true)], args := [d1, d2, d3] }
  | _ => none }
def cellsFindsRow : OpenClaim := { program := "ytehllnbpianpfaa", sum := "b0d69bdf907b8df87182ff5fc02ec1d4acf7665c1fd89e6d23b63fdb7da655a5", func := "barrow/barrowlaw08.CellsFinds", spec := "cellsFinds", unfollowed := true, recurses := true, plainKeys := false, apart := false }
def CellsFindsSaid : Prop := cellsFindsRow.holds Try.pinned (OpenSpec.ofChange cellsFindsSpec)

/-- ITS FALSE NEIGHBOUR: 'it returns false'. Refute it at one input. -/
def cellsFindsWrong : ChangeSpec := { name := "cellsFinds", fn := fun _ => fun
  | [d1, d2, d3] => { results := [.lit (.bool false)], args := [d1, d2, d3] }
  | _ => none }
def CellsFindsWrongFalsely : Prop := cellsFindsRow.holds Try.pinned (OpenSpec.ofChange cellsFindsWrong)

/-- 'barrowlaw08.CellsMoves': WHATEVER THE INPUT: true; the input reads as it did. -/
def cellsMovesSpec : ChangeSpec := { name := "cellsMoves", fn := fun _ => fun
  | [d1, d2, d3] => { results := [.lit (.bool true)], args := [d1, d2, d3] }
  | _ => none }
def cellsMovesRow : OpenClaim := { program := "ytehllnbpianpfaa", sum := "b0d69bdf907b8df87182ff5fc02ec1d4acf7665c1fd89e6d23b63fdb7da655a5", func := "barrow/barrowlaw08.CellsMoves", spec := "cellsMoves", unfollowed := true, recurses := true, plainKeys := false, apart := false }
def CellsMovesSaid : Prop := cellsMovesRow.holds Try.pinned (OpenSpec.ofChange cellsMovesSpec)

/-- ITS FALSE NEIGHBOUR: 'it returns false'. Refute it at one input. -/
def cellsMovesWrong : ChangeSpec := { name := "cellsMoves", fn := fun _ => fun
  | [d1, d2, d3] => { results := [.lit (.bool false)], args := [d1, d2, d3] }
  | _ => none }
def CellsMovesWrongFalsely : Prop := cellsMovesRow.holds Try.pinned (OpenSpec.ofChange cellsMovesWrong)

/- THE SECOND FORM. 'bulk': how many values and letters a reading holds, each counted each time it is reached (what is shared counts as often as it is met; a slice's spare places count too). A statement '..UptoSaid' is the law's where the arguments, and the package variables that the reading takes, are together of bulk at most 1048576: NARROWER than '..Said'. Prove '..Said' where nothing that the law and all that it calls make is longer than what came in: it says more and counts as full. Else prove '..UptoSaid'. A law counts once. -/
mutual
def uptoBulk {H : Type} : DataW H → Nat
  | .lit (.string bytes) => bytes.length + 1
  | .lit _ => 1
  | .nil => 1
  | .ptr d => uptoBulk d + 1
  | .slice elems spare => uptoBulkAll elems + uptoBulkAll spare + 1
  | .agg parts => uptoBulkAll parts + 1
  | .iface _ d => uptoBulk d + 1
  | .map entries => uptoBulkEntries entries + 1
  | .held _ => 1
def uptoBulkAll {H : Type} : List (DataW H) → Nat
  | [] => 0
  | d :: r => uptoBulk d + uptoBulkAll r
def uptoBulkEntries {H : Type} : List (Lit × DataW H) → Nat
  | [] => 0
  | x :: r => uptoBulkEntry x + uptoBulkEntries r
def uptoBulkEntry {H : Type} : Lit × DataW H → Nat
  | (.string bytes, d) => bytes.length + uptoBulk d + 1
  | (_, d) => uptoBulk d + 1
 end
def uptoSmall : (H : Type) → List (DataW H) → Bool := fun _ ds => decide (uptoBulkAll ds ≤ 1048576)
def OpenSpec.upto (s : _root_.Go.ChangeSpec) : _root_.Go.OpenSpec := { _root_.Go.OpenSpec.ofChange s with cond := some uptoSmall }

/-- 'barrowlaw08.CellsPlays', WHERE WHAT IT READS IS OF BULK AT MOST 1048576: true; the input reads as it did. -/
def cellsPlaysUptoRow : OpenClaim := { program := "ytehllnbpianpfaa", sum := "b0d69bdf907b8df87182ff5fc02ec1d4acf7665c1fd89e6d23b63fdb7da655a5", func := "barrow/barrowlaw08.CellsPlays", spec := "cellsPlays", unfollowed := true, recurses := true, plainKeys := false, apart := false, narrowed := true }
def CellsPlaysUptoSaid : Prop := cellsPlaysUptoRow.holds Try.pinned (OpenSpec.upto cellsPlaysSpec)

/-- 'barrowlaw08.CellsFinds', WHERE WHAT IT READS IS OF BULK AT MOST 1048576: true; the input reads as it did. -/
def cellsFindsUptoRow : OpenClaim := { program := "ytehllnbpianpfaa", sum := "b0d69bdf907b8df87182ff5fc02ec1d4acf7665c1fd89e6d23b63fdb7da655a5", func := "barrow/barrowlaw08.CellsFinds", spec := "cellsFinds", unfollowed := true, recurses := true, plainKeys := false, apart := false, narrowed := true }
def CellsFindsUptoSaid : Prop := cellsFindsUptoRow.holds Try.pinned (OpenSpec.upto cellsFindsSpec)

/-- 'barrowlaw08.CellsMoves', WHERE WHAT IT READS IS OF BULK AT MOST 1048576: true; the input reads as it did. -/
def cellsMovesUptoRow : OpenClaim := { program := "ytehllnbpianpfaa", sum := "b0d69bdf907b8df87182ff5fc02ec1d4acf7665c1fd89e6d23b63fdb7da655a5", func := "barrow/barrowlaw08.CellsMoves", spec := "cellsMoves", unfollowed := true, recurses := true, plainKeys := false, apart := false, narrowed := true }
def CellsMovesUptoSaid : Prop := cellsMovesUptoRow.holds Try.pinned (OpenSpec.upto cellsMovesSpec)

end Rows
end Go.Proofs.Ytehllnbpianpfaa
