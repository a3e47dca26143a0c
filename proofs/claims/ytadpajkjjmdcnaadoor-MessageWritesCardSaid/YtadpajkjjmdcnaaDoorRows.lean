/-
  NARROWER THAN 'FOR EVERY INPUT', by the rows' own cells (each row's printed sentence says how): MessageWrites: laid · MessageReads: laid · MessageBack: laid.
  DERIVED. THE GIVEN ROWS OF THIS SEAT. 3 by the template 'for every input the law returns true; each argument reads behind the call as it read before'; 0 by the template 'total and deterministic' (their statements: YtadpajkjjmdcnaaDoorTotals.lean).
  GIVEN WITH THE SEED: the statements are not yours to turn. If you find one false, say at which input.
  Laid BY PROGRAM, IN A SANDBOX (cutbox-rows.mjs): the forced cells as the released guide's own fill.sh prints them over the translation e2f7424e899fc8b4… (all of the seat's roots in one cut). By AI agents, Wed Nov 11 2026. No macro, syntax, notation, axiom, sorry.
-/
import Derived.Test.YtadpajkjjmdcnaaDoorChecked
import GoSem.Claim
import GoSem.ClaimJoined
import GoSem.ClaimMapViews
import Derived.JoinedTies
import Derived.KernelRfl
namespace Go.Proofs.YtadpajkjjmdcnaaDoor
/- THE CELL 'sum', in the pinned program and in every row, IS THE sha256 OF THE DUMP (.gsa) THAT YtadpajkjjmdcnaaDoorProg.lean LOADS. Nothing in Lean hashes anything: it is a label: what it is worth is what the hold of that sum in a sandbox is worth. -/
noncomputable def Tryd.pinned : Pinned := { name := "ytadpajkjjmdcnaadoor", sum := "e2f7424e899fc8b46499e2e7ec1e82c7afe663ed728add31a373283d75866418", checked := Tryd.checked }
namespace Rows
def none {H : Type} : Left H := { results := [], args := [] }

/- WHAT THE LISTED PACKAGE-LEVEL VARIABLES READ AS WHEN THE CALL BEGINS. Each datum BY PROGRAM (the guide's laid-datum.mjs) off the statement by which the dump's own 'gosem.cut.vars' lays the variable. In a bare row this is a premise. The card (YtadpajkjjmdcnaaDoorCards.lean) ties it to the program's text. -/
def laid_barrow_message_sizes {H : Type} : DataW H := .agg [.lit (.int .i64 0), .lit (.int .i64 2), .lit (.int .i64 1), .lit (.int .i64 0), .lit (.int .i64 10), .lit (.int .i64 1), .lit (.int .i64 3), .lit (.int .i64 5), .lit (.int .i64 3), .lit (.int .i64 2), .lit (.int .i64 0)]

/-- 'barrowlaw12.MessageWrites': WHATEVER THE INPUT: true; the input reads as it did. -/
def messageWritesSpec : ChangeSpec := { name := "messageWrites", fn := fun _ => fun
  | [d1, d2, d3] => { results := [.lit (.bool true)], args := [d1, d2, d3] }
  | _ => none }
def messageWritesRow : OpenClaim := { program := "ytadpajkjjmdcnaadoor", sum := "e2f7424e899fc8b46499e2e7ec1e82c7afe663ed728add31a373283d75866418", func := "barrow/barrowlaw12.MessageWrites", spec := "messageWrites", named := ["barrow/message.sizes"], apart := false, laid := [("barrow/message.sizes", laid_barrow_message_sizes)] }
def MessageWritesSaid : Prop := messageWritesRow.holds Tryd.pinned (OpenSpec.ofChange messageWritesSpec)

/-- ITS FALSE NEIGHBOUR: 'it returns false'. Refute it at one input. -/
def messageWritesWrong : ChangeSpec := { name := "messageWrites", fn := fun _ => fun
  | [d1, d2, d3] => { results := [.lit (.bool false)], args := [d1, d2, d3] }
  | _ => none }
def MessageWritesWrongFalsely : Prop := messageWritesRow.holds Tryd.pinned (OpenSpec.ofChange messageWritesWrong)

/-- 'barrowlaw12.MessageReads': WHATEVER THE INPUT: true; the input reads as it did. -/
def messageReadsSpec : ChangeSpec := { name := "messageReads", fn := fun _ => fun
  | [d] => { results := [.lit (.bool true)], args := [d] }
  | _ => none }
def messageReadsRow : OpenClaim := { program := "ytadpajkjjmdcnaadoor", sum := "e2f7424e899fc8b46499e2e7ec1e82c7afe663ed728add31a373283d75866418", func := "barrow/barrowlaw12.MessageReads", spec := "messageReads", named := ["barrow/message.sizes"], apart := false, laid := [("barrow/message.sizes", laid_barrow_message_sizes)] }
def MessageReadsSaid : Prop := messageReadsRow.holds Tryd.pinned (OpenSpec.ofChange messageReadsSpec)

/-- ITS FALSE NEIGHBOUR: 'it returns false'. Refute it at one input. -/
def messageReadsWrong : ChangeSpec := { name := "messageReads", fn := fun _ => fun
  | [d] => { results := [.lit (.bool false)], args := [d] }
  | _ => none }
def MessageReadsWrongFalsely : Prop := messageReadsRow.holds Tryd.pinned (OpenSpec.ofChange messageReadsWrong)

/-- 'barrowlaw12.MessageBack': WHATEVER THE INPUT: true; the input reads as it did. -/
def messageBackSpec : ChangeSpec := { name := "messageBack", fn := fun _ => fun
  | [d1, d2] => { results := [.lit (.bool true)], args := [d1, d2] }
  | _ => none }
def messageBackRow : OpenClaim := { program := "ytadpajkjjmdcnaadoor", sum := "e2f7424e899fc8b46499e2e7ec1e82c7afe663ed728add31a373283d75866418", func := "barrow/barrowlaw12.MessageBack", spec := "messageBack", named := ["barrow/message.sizes"], apart := false, laid := [("barrow/message.sizes", laid_barrow_message_sizes)] }
def MessageBackSaid : Prop := messageBackRow.holds Tryd.pinned (OpenSpec.ofChange messageBackSpec)

/-- ITS FALSE NEIGHBOUR: 'it returns false'. Refute it at one input. -/
def messageBackWrong : ChangeSpec := { name := "messageBack", fn := fun _ => fun
  | [d1, d2] => { results := [.lit (.bool false)], args := [d1, d2] }
  | _ => none }
def MessageBackWrongFalsely : Prop := messageBackRow.holds Tryd.pinned (OpenSpec.ofChange messageBackWrong)

/- THE SECOND FORM. 'bulk': how many values and letters a reading holds, each counted each time it is reached (what is shared counts as often as it is met; a slice's spare places count too). A statement '..UptoSaid' is the law's where the arguments, and the package variables that the reading takes, are together of bulk at most 1048576: NARROWER than '..Said'. Prove '..Said' where nothing that the law and all that it calls make is longer than what came in: it says more and counts as full. Else prove '..UptoSaid'. A law counts once. -/
mutual
def uptoBulk {H : Type} : DataW H → Nat
  | .lit (.string bytes) => bytes.length + 1
  | .lit _ => 1
  | .nil => 1
  | .ptr d => uptoBulk d + 1
  | .slice elems spare => uptoBulkAll elems + uptoBulkAll spare + 1
  | .agg parts => uptoBulkAll parts + 1
  | .iface _ d => uptoBulk d + 1
  | .map entries => uptoBulkEntries entries + 1
  | .held _ => 1
def uptoBulkAll {H : Type} : List (DataW H) → Nat
  | [] => 0
  | d :: r => uptoBulk d + uptoBulkAll r
def uptoBulkEntries {H : Type} : List (Lit × DataW H) → Nat
  | [] => 0
  | x :: r => uptoBulkEntry x + uptoBulkEntries r
def uptoBulkEntry {H : Type} : Lit × DataW H → Nat
  | (.string bytes, d) => bytes.length + uptoBulk d + 1
  | (_, d) => uptoBulk d + 1
 end
def uptoSmall : (H : Type) → List (DataW H) → Bool := fun _ ds => decide (uptoBulkAll ds ≤ 1048576)
def OpenSpec.upto (s : _root_.Go.ChangeSpec) : _root_.Go.OpenSpec := { _root_.Go.OpenSpec.ofChange s with cond := some uptoSmall }

/-- 'barrowlaw12.MessageWrites', WHERE WHAT IT READS IS OF BULK AT MOST 1048576: true; the input reads as it did. -/
def messageWritesUptoRow : OpenClaim := { program := "ytadpajkjjmdcnaadoor", sum := "e2f7424e899fc8b46499e2e7ec1e82c7afe663ed728add31a373283d75866418", func := "barrow/barrowlaw12.MessageWrites", spec := "messageWrites", named := ["barrow/message.sizes"], apart := false, laid := [("barrow/message.sizes", laid_barrow_message_sizes)], narrowed := true }
def MessageWritesUptoSaid : Prop := messageWritesUptoRow.holds Tryd.pinned (OpenSpec.upto messageWritesSpec)

/-- 'barrowlaw12.MessageReads', WHERE WHAT IT READS IS OF BULK AT MOST 1048576: true; the input reads as it did. -/
def messageReadsUptoRow : OpenClaim := { program := "ytadpajkjjmdcnaadoor", sum := "e2f7424e899fc8b46499e2e7ec1e82c7afe663ed728add31a373283d75866418", func := "barrow/barrowlaw12.MessageReads", spec := "messageReads", named := ["barrow/message.sizes"], apart := false, laid := [("barrow/message.sizes", laid_barrow_message_sizes)], narrowed := true }
def MessageReadsUptoSaid : Prop := messageReadsUptoRow.holds Tryd.pinned (OpenSpec.upto messageReadsSpec)

/-- 'barrowlaw12.MessageBack', WHERE WHAT IT READS IS OF BULK AT MOST 1048576: true; the input reads as it did. -/
def messageBackUptoRow : OpenClaim := { program := "ytadpajkjjmdcnaadoor", sum := "e2f7424e899fc8b46499e2e7ec1e82c7afe663ed728add31a373283d75866418", func := "barrow/barrowlaw12.MessageBack", spec := "messageBack", named := ["barrow/message.sizes"], apart := false, laid := [("barrow/message.sizes", laid_barrow_message_sizes)], narrowed := true }
def MessageBackUptoSaid : Prop := messageBackUptoRow.holds Tryd.pinned (OpenSpec.upto messageBackSpec)

end Rows
end Go.Proofs.YtadpajkjjmdcnaaDoor
