/-
  No cell of these rows narrows 'for every input' (looked for: loops, veiled, ifaces, maps, wideKeys, modest, calm, conditions, laid).
  DERIVED. THE GIVEN ROWS OF THIS SEAT. 3 by the template 'for every input the law returns true; each argument reads behind the call as it read before'; 0 by the template 'total and deterministic' (their statements: YtafglhgpkmnnlaaTotals.lean).
  GIVEN WITH THE SEED: the statements are not yours to turn. If you find one false, say at which input.
  Laid BY PROGRAM, IN A SANDBOX (cutbox-rows.mjs): the forced cells as the released guide's own fill.sh prints them over the translation c758de6876777dcd… (all of the seat's roots in one cut). By AI agents, Wed Nov 11 2026. No macro, syntax, notation, axiom, sorry.
-/
import Derived.Test.YtafglhgpkmnnlaaChecked
import GoSem.Claim
import GoSem.ClaimJoined
import GoSem.ClaimMapViews
import Derived.JoinedTies
import Derived.KernelRfl
namespace Go.Proofs.Ytafglhgpkmnnlaa
/- THE CELL 'sum', in the pinned program and in every row, IS THE sha256 OF THE DUMP (.gsa) THAT YtafglhgpkmnnlaaProg.lean LOADS. Nothing in Lean hashes anything: it is a label: what it is worth is what the hold of that sum in a sandbox is worth. -/
noncomputable def Try.pinned : Pinned := { name := "ytafglhgpkmnnlaa", sum := "c758de6876777dcd1e6d9717344fe6f477055a48006e8ad44ba07e8d57b237f7", checked := Try.checked }
namespace Rows
def none {H : Type} : Left H := { results := [], args := [] }

/-- 'barrowlaw14.ShieldTakes': WHATEVER THE INPUT: true; the input reads as it did. -/
def shieldTakesSpec : ChangeSpec := { name := "shieldTakes", fn := fun _ => fun
  | [d1, d2] => { results := [.lit (.bool true)], args := [d1, d2] }
  | _ => none }
def shieldTakesRow : OpenClaim := { program := "ytafglhgpkmnnlaa", sum := "c758de6876777dcd1e6d9717344fe6f477055a48006e8ad44ba07e8d57b237f7", func := "barrow/barrowlaw14.ShieldTakes", spec := "shieldTakes", apart := false }
def ShieldTakesSaid : Prop := shieldTakesRow.holds Try.pinned (OpenSpec.ofChange shieldTakesSpec)

/-- ITS FALSE NEIGHBOUR: 'it returns false'. Refute it at one input. -/
def shieldTakesWrong : ChangeSpec := { name := "shieldTakes", fn := fun _ => fun
  | [d1, d2] => { results := [.lit (.bool false)], args := [d1, d2] }
  | _ => none }
def ShieldTakesWrongFalsely : Prop := shieldTakesRow.holds Try.pinned (OpenSpec.ofChange shieldTakesWrong)

/-- 'barrowlaw14.ShieldParts': WHATEVER THE INPUT: true; the input reads as it did. -/
def shieldPartsSpec : ChangeSpec := { name := "shieldParts", fn := fun _ => fun
  | [d1, d2] => { results := [.lit (.bool true)], args := [d1, d2] }
  | _ => none }
def shieldPartsRow : OpenClaim := { program := "ytafglhgpkmnnlaa", sum := "c758de6876777dcd1e6d9717344fe6f477055a48006e8ad44ba07e8d57b237f7", func := "barrow/barrowlaw14.ShieldParts", spec := "shieldParts", apart := false }
def ShieldPartsSaid : Prop := shieldPartsRow.holds Try.pinned (OpenSpec.ofChange shieldPartsSpec)

/-- ITS FALSE NEIGHBOUR: 'it returns false'. Refute it at one input. -/
def shieldPartsWrong : ChangeSpec := { name := "shieldParts", fn := fun _ => fun
  | [d1, d2] => { results := [.lit (.bool false)], args := [d1, d2] }
  | _ => none }
def ShieldPartsWrongFalsely : Prop := shieldPartsRow.holds Try.pinned (OpenSpec.ofChange shieldPartsWrong)

/-- 'barrowlaw14.ShieldSums': WHATEVER THE INPUT: true; the input reads as it did. -/
def shieldSumsSpec : ChangeSpec := { name := "shieldSums", fn := fun _ => fun
  | [d1, d2] => { results := [.lit (.bool true)], args := [d1, d2] }
  | _ => none }
def shieldSumsRow : OpenClaim := { program := "ytafglhgpkmnnlaa", sum := "c758de6876777dcd1e6d9717344fe6f477055a48006e8ad44ba07e8d57b237f7", func := "barrow/barrowlaw14.ShieldSums", spec := "shieldSums", apart := false }
def ShieldSumsSaid : Prop := shieldSumsRow.holds Try.pinned (OpenSpec.ofChange shieldSumsSpec)

/-- ITS FALSE NEIGHBOUR: 'it returns false'. Refute it at one input. -/
def shieldSumsWrong : ChangeSpec := { name := "shieldSums", fn := fun _ => fun
  | [d1, d2] => { results := [.lit (.bool false)], args := [d1, d2] }
  | _ => none }
def ShieldSumsWrongFalsely : Prop := shieldSumsRow.holds Try.pinned (OpenSpec.ofChange shieldSumsWrong)

/- THE SECOND FORM. 'bulk': how many values and letters a reading holds, each counted each time it is reached (what is shared counts as often as it is met; a slice's spare places count too). A statement '..UptoSaid' is the law's where the arguments, and the package variables that the reading takes, are together of bulk at most 1048576: NARROWER than '..Said'. Prove '..Said' where nothing that the law and all that it calls make is longer than what came in: it says more and counts as full. Else prove '..UptoSaid'. A law counts once. -/
mutual
def uptoBulk {H : Type} : DataW H → Nat
  | .lit (.string bytes) => bytes.length + 1
  | .lit _ => 1
  | .nil => 1
  | .ptr d => uptoBulk d + 1
  | .slice elems spare => uptoBulkAll elems + uptoBulkAll spare + 1
  | .agg parts => uptoBulkAll parts + 1
  | .iface _ d => uptoBulk d + 1
  | .map entries => uptoBulkEntries entries + 1
  | .held _ => 1
def uptoBulkAll {H : Type} : List (DataW H) → Nat
  | [] => 0
  | d :: r => uptoBulk d + uptoBulkAll r
def uptoBulkEntries {H : Type} : List (Lit × DataW H) → Nat
  | [] => 0
  | x :: r => uptoBulkEntry x + uptoBulkEntries r
def uptoBulkEntry {H : Type} : Lit × DataW H → Nat
  | (.string bytes, d) => bytes.length + uptoBulk d + 1
  | (_, d) => uptoBulk d + 1
 end
def uptoSmall : (H : Type) → List (DataW H) → Bool := fun _ ds => decide (uptoBulkAll ds ≤ 1048576)
def OpenSpec.upto (s : _root_.Go.ChangeSpec) : _root_.Go.OpenSpec := { _root_.Go.OpenSpec.ofChange s with cond := some uptoSmall }

/-- 'barrowlaw14.ShieldTakes', WHERE WHAT IT READS IS OF BULK AT MOST 1048576: true; the input reads as it did. -/
def shieldTakesUptoRow : OpenClaim := { program := "ytafglhgpkmnnlaa", sum := "c758de6876777dcd1e6d9717344fe6f477055a48006e8ad44ba07e8d57b237f7", func := "barrow/barrowlaw14.ShieldTakes", spec := "shieldTakes", apart := false, narrowed := true }
def ShieldTakesUptoSaid : Prop := shieldTakesUptoRow.holds Try.pinned (OpenSpec.upto shieldTakesSpec)

/-- 'barrowlaw14.ShieldParts', WHERE WHAT IT READS IS OF BULK AT MOST 1048576: true; the input reads as it did. -/
def shieldPartsUptoRow : OpenClaim := { program := "ytafglhgpkmnnlaa", sum := "c758de6876777dcd1e6d9717344fe6f477055a48006e8ad44ba07e8d57b237f7", func := "barrow/barrowlaw14.ShieldParts", spec := "shieldParts", apart := false, narrowed := true }
def ShieldPartsUptoSaid : Prop := shieldPartsUptoRow.holds Try.pinned (OpenSpec.upto shieldPartsSpec)

/-- 'barrowlaw14.ShieldSums', WHERE WHAT IT READS IS OF BULK AT MOST 1048576: true; the input reads as it did. -/
def shieldSumsUptoRow : OpenClaim := { program := "ytafglhgpkmnnlaa", sum := "c758de6876777dcd1e6d9717344fe6f477055a48006e8ad44ba07e8d57b237f7", func := "barrow/barrowlaw14.ShieldSums", spec := "shieldSums", apart := false, narrowed := true }
def ShieldSumsUptoSaid : Prop := shieldSumsUptoRow.holds Try.pinned (OpenSpec.upto shieldSumsSpec)

end Rows
end Go.Proofs.Ytafglhgpkmnnlaa
