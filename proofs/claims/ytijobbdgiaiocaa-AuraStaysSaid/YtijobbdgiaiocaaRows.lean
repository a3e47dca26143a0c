/-
  No cell of these rows narrows 'for every input' (looked for: loops, veiled, ifaces, maps, wideKeys, modest, calm, conditions, laid).
  DERIVED. THE GIVEN ROWS OF THIS SEAT. 4 by the template 'for every input the law returns true; each argument reads behind the call as it read before'; 0 by the template 'total and deterministic' (their statements: YtijobbdgiaiocaaTotals.lean).
  GIVEN WITH THE SEED: the statements are not yours to turn. If you find one false, say at which input.
  Laid BY PROGRAM, IN A SANDBOX (cutbox-rows.mjs): the forced cells as the released guide's own fill.sh prints them over the translation fccb9127a7cc96bd… (all of the seat's roots in one cut). By AI agents, Wed Nov 11 2026. No macro, syntax, notation, axiom, sorry.
-/
import Derived.Test.YtijobbdgiaiocaaChecked
import GoSem.Claim
import GoSem.ClaimJoined
import GoSem.ClaimMapViews
import Derived.JoinedTies
import Derived.KernelRfl
namespace Go.Proofs.Ytijobbdgiaiocaa
/- THE CELL 'sum', in the pinned program and in every row, IS THE sha256 OF THE DUMP (.gsa) THAT YtijobbdgiaiocaaProg.lean LOADS. Nothing in Lean hashes anything: it is a label: what it is worth is what the hold of that sum in a sandbox is worth. -/
noncomputable def Try.pinned : Pinned := { name := "ytijobbdgiaiocaa", sum := "fccb9127a7cc96bdfca8b6a474c05c66fc61efe12003a5f3269dac9545b0271a", checked := Try.checked }
namespace Rows
def none {H : Type} : Left H := { results := [], args := [] }

/-- 'barrowlaw15.AuraTurns': WHATEVER THE INPUT: true; the input reads as it did. -/
def auraTurnsSpec : ChangeSpec := { name := "auraTurns", fn := fun _ => fun
  | [d1, d2, d3, d4, d5] => { results := [.lit (.bool true)], args := [d1, d2, d3, d4, d5] }
  | _ => none }
def auraTurnsRow : OpenClaim := { program := "ytijobbdgiaiocaa", sum := "fccb9127a7cc96bdfca8b6a474c05c66fc61efe12003a5f3269dac9545b0271a", func := "barrow/barrowlaw15.AuraTurns", spec := "auraTurns", unfollowed := true, recurses := true, apart := false }
def AuraTurnsSaid : Prop := auraTurnsRow.holds Try.pinned (OpenSpec.ofChange auraTurnsSpec)

/-- ITS FALSE NEIGHBOUR: 'it returns false'. Refute it at one input. -/
def auraTurnsWrong : ChangeSpec := { name := "auraTurns", fn := fun _ => fun
  | [d1, d2, d3, d4, d5] => { results := [.lit (.bool false)], args := [d1, d2, d3, d4, d5] }
  | _ => none }
def AuraTurnsWrongFalsely : Prop := auraTurnsRow.holds Try.pinned (OpenSpec.ofChange auraTurnsWrong)

/-- 'barrowlaw15.AuraSums': WHATEVER THE INPUT: true; the input reads as it did. -/
def auraSumsSpec : ChangeSpec := { name := "auraSums", fn := fun _ => fun
  | [d1, d2, d3, d4] => { results := [.lit (.bool true)], args := [d1, d2, d3, d4] }
  | _ => none }
def auraSumsRow : OpenClaim := { program := "ytijobbdgiaiocaa", sum := "fccb9127a7cc96bdfca8b6a474c05c66fc61efe12003a5f3269dac9545b0271a", func := "barrow/barrowlaw15.AuraSums", spec := "auraSums", unfollowed := true, recurses := true, apart := false }
def AuraSumsSaid : Prop := auraSumsRow.holds Try.pinned (OpenSpec.ofChange auraSumsSpec)

/-- ITS FALSE NEIGHBOUR: 'it returns false'. Refute it at one input. -/
def auraSumsWrong : ChangeSpec := { name := "auraSums", fn := fun _ => fun
  | [d1, d2, d3, d4] => { results := [.lit (.bool false)], args := [d1, d2, d3, d4] }
  | _ => none }
def AuraSumsWrongFalsely : Prop := auraSumsRow.holds Try.pinned (OpenSpec.ofChange auraSumsWrong)

/-- 'barrowlaw15.AuraStays': WHATEVER THE INPUT: true; the input reads as it did. -/
def auraStaysSpec : ChangeSpec := { name := "auraStays", fn := fun _ => fun
  | [d1, d2, d3] => { results := [.lit (.bool true)], args := [d1, d2, d3] }
  | _ => none }
def auraStaysRow : OpenClaim := { program := "ytijobbdgiaiocaa", sum := "fccb9127a7cc96bdfca8b6a474c05c66fc61efe12003a5f3269dac9545b0271a", func := "barrow/barrowlaw15.AuraStays", spec := "auraStays", unfollowed := true, recurses := true, apart := false }
def AuraStaysSaid : Prop := auraStaysRow.holds Try.pinned (OpenSpec.ofChange auraStaysSpec)

/-- ITS FALSE NEIGHBOUR: 'it returns false'. Refute it at one input. -/
def auraStaysWrong : ChangeSpec := { name := "auraStays", fn := fun _ => fun
  | [d1, d2, d3] => { results := [.lit (.bool false)], args := [d1, d2, d3] }
  | _ => none }
def AuraStaysWrongFalsely : Prop := auraStaysRow.holds Try.pinned (OpenSpec.ofChange auraStaysWrong)

/-- 'barrowlaw15.AuraTicks': WHATEVER THE INPUT: true; the input reads as it did. -/
def auraTicksSpec : ChangeSpec := { name := "auraTicks", fn := fun _ => fun
  | [d1, d2, d3, d4] => { results := [.lit (.bool true)], args := [d1, d2, d3, d4] }
  | _ => none }
def auraTicksRow : OpenClaim := { program := "ytijobbdgiaiocaa", sum := "fccb9127a7cc96bdfca8b6a474c05c66fc61efe12003a5f3269dac9545b0271a", func := "barrow/barrowlaw15.AuraTicks", spec := "auraTicks", unfollowed := true, recurses := true, apart := false }
def AuraTicksSaid : Prop := auraTicksRow.holds Try.pinned (OpenSpec.ofChange auraTicksSpec)

/-- ITS FALSE NEIGHBOUR: 'it returns false'. Refute it at one input. -/
def auraTicksWrong : ChangeSpec := { name := "auraTicks", fn := fun _ => fun
  | [d1, d2, d3, d4] => { results := [.lit (.bool false)], args := [d1, d2, d3, d4] }
  | _ => none }
def AuraTicksWrongFalsely : Prop := auraTicksRow.holds Try.pinned (OpenSpec.ofChange auraTicksWrong)

/- THE SECOND FORM. 'bulk': how many values and letters a reading holds, each counted each time it is reached (what is shared counts as often as it is met; a slice's spare places count too). A statement '..UptoSaid' is the law's where the arguments, and the package variables that the reading takes, are together of bulk at most 1048576: NARROWER than '..Said'. Prove '..Said' where nothing that the law and all that it calls make is longer than what came in: it says more and counts as full. Else prove '..UptoSaid'. A law counts once. -/
mutual
def uptoBulk {H : Type} : DataW H → Nat
  | .lit (.string bytes) => bytes.length + 1
  | .lit _ => 1
  | .nil => 1
  | .ptr d => uptoBulk d + 1
  | .slice elems spare => uptoBulkAll elems + uptoBulkAll spare + 1
  | .agg parts => uptoBulkAll parts + 1
  | .iface _ d => uptoBulk d + 1
  | .map entries => uptoBulkEntries entries + 1
  | .held _ => 1
def uptoBulkAll {H : Type} : List (DataW H) → Nat
  | [] => 0
  | d :: r => uptoBulk d + uptoBulkAll r
def uptoBulkEntries {H : Type} : List (Lit × DataW H) → Nat
  | [] => 0
  | x :: r => uptoBulkEntry x + uptoBulkEntries r
def uptoBulkEntry {H : Type} : Lit × DataW H → Nat
  | (.string bytes, d) => bytes.length + uptoBulk d + 1
  | (_, d) => uptoBulk d + 1
 end
def uptoSmall : (H : Type) → List (DataW H) → Bool := fun _ ds => decide (uptoBulkAll ds ≤ 1048576)
def OpenSpec.upto (s : _root_.Go.ChangeSpec) : _root_.Go.OpenSpec := { _root_.Go.OpenSpec.ofChange s with cond := some uptoSmall }

/-- 'barrowlaw15.AuraTurns', WHERE WHAT IT READS IS OF BULK AT MOST 1048576: true; the input reads as it did. -/
def auraTurnsUptoRow : OpenClaim := { program := "ytijobbdgiaiocaa", sum := "fccb9127a7cc96bdfca8b6a474c05c66fc61efe12003a5f3269dac9545b0271a", func := "barrow/barrowlaw15.AuraTurns", spec := "auraTurns", unfollowed := true, recurses := true, apart := false, narrowed := true }
def AuraTurnsUptoSaid : Prop := auraTurnsUptoRow.holds Try.pinned (OpenSpec.upto auraTurnsSpec)

/-- 'barrowlaw15.AuraSums', WHERE WHAT IT READS IS OF BULK AT MOST 1048576: true; the input reads as it did. -/
def auraSumsUptoRow : OpenClaim := { program := "ytijobbdgiaiocaa", sum := "fccb9127a7cc96bdfca8b6a474c05c66fc61efe12003a5f3269dac9545b0271a", func := "barrow/barrowlaw15.AuraSums", spec := "auraSums", unfollowed := true, recurses := true, apart := false, narrowed := true }
def AuraSumsUptoSaid : Prop := auraSumsUptoRow.holds Try.pinned (OpenSpec.upto auraSumsSpec)

/-- 'barrowlaw15.AuraStays', WHERE WHAT IT READS IS OF BULK AT MOST 1048576: true; the input reads as it did. -/
def auraStaysUptoRow : OpenClaim := { program := "ytijobbdgiaiocaa", sum := "fccb9127a7cc96bdfca8b6a474c05c66fc61efe12003a5f3269dac9545b0271a", func := "barrow/barrowlaw15.AuraStays", spec := "auraStays", unfollowed := true, recurses := true, apart := false, narrowed := true }
def AuraStaysUptoSaid : Prop := auraStaysUptoRow.holds Try.pinned (OpenSpec.upto auraStaysSpec)

/-- 'barrowlaw15.AuraTicks', WHERE WHAT IT READS IS OF BULK AT MOST 1048576: true; the input reads as it did. -/
def auraTicksUptoRow : OpenClaim := { program := "ytijobbdgiaiocaa", sum := "fccb9127a7cc96bdfca8b6a474c05c66fc61efe12003a5f3269dac9545b0271a", func := "barrow/barrowlaw15.AuraTicks", spec := "auraTicks", unfollowed := true, recurses := true, apart := false, narrowed := true }
def AuraTicksUptoSaid : Prop := auraTicksUptoRow.holds Try.pinned (OpenSpec.upto auraTicksSpec)

end Rows
end Go.Proofs.Ytijobbdgiaiocaa
