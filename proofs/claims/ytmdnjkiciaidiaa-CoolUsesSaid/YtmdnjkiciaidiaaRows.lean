/-
  No cell of these rows narrows 'for every input' (looked for: loops, veiled, ifaces, maps, wideKeys, modest, calm, conditions, laid).
  DERIVED. THE GIVEN ROWS OF THIS SEAT. 4 by the template 'for every input the law returns true; each argument reads behind the call as it read before'; 0 by the template 'total and deterministic' (their statements: YtmdnjkiciaidiaaTotals.lean).
  GIVEN WITH THE SEED: the statements are not yours to turn. If you find one false, say at which input.
  Laid BY PROGRAM, IN A SANDBOX (cutbox-rows.mjs): the forced cells as the released guide's own fill.sh prints them over the translation de3d04b51ec31969… (all of the seat's roots in one cut). By AI agents, Wed Nov 11 2026. No macro, syntax, notation, axiom, sorry.
-/
import Derived.Test.YtmdnjkiciaidiaaChecked
import GoSem.Claim
import GoSem.ClaimJoined
import GoSem.ClaimMapViews
import Derived.JoinedTies
import Derived.KernelRfl
namespace Go.Proofs.Ytmdnjkiciaidiaa
/- THE CELL 'sum', in the pinned program and in every row, IS THE sha256 OF THE DUMP (.gsa) THAT YtmdnjkiciaidiaaProg.lean LOADS. Nothing in Lean hashes anything: it is a label: what it is worth is what the hold of that sum in a sandbox is worth. -/
noncomputable def Try.pinned : Pinned := { name := "ytmdnjkiciaidiaa", sum := "de3d04b51ec31969113a5bad25a8d23ef9089a4e0775d302011fe746544f5674", checked := Try.checked }
namespace Rows
def none {H : Type} : Left H := { results := [], args := [] }

/-- 'barrowlaw16.CoolTells': WHATEVER THE INPUT: true; the input reads as it did. -/
def coolTellsSpec : ChangeSpec := { name := "coolTells", fn := fun _ => fun
  | [d1, d2, d3] => { results := [.lit (.bool true)], args := [d1, d2, d3] }
  | _ => none }
def coolTellsRow : OpenClaim := { program := "ytmdnjkiciaidiaa", sum := "de3d04b51ec31969113a5bad25a8d23ef9089a4e0775d302011fe746544f5674", func := "barrow/barrowlaw16.CoolTells", spec := "coolTells", inPlace := ["slices.overlaps[barrow/api.Cool]"], unfollowed := true, recurses := true, apart := false }
def CoolTellsSaid : Prop := coolTellsRow.holds Try.pinned (OpenSpec.ofChange coolTellsSpec)

/-- ITS FALSE NEIGHBOUR: 'it returns false'. Refute it at one input. -/
def coolTellsWrong : ChangeSpec := { name := "coolTells", fn := fun _ => fun
  | [d1, d2, d3] => { results := [.lit (.bool false)], args := [d1, d2, d3] }
  | _ => none }
def CoolTellsWrongFalsely : Prop := coolTellsRow.holds Try.pinned (OpenSpec.ofChange coolTellsWrong)

/-- 'barrowlaw16.CoolUses': WHATEVER THE INPUT: true; the input reads as it did. -/
def coolUsesSpec : ChangeSpec := { name := "coolUses", fn := fun _ => fun
  | [d1, d2, d3] => { results := [.lit (.bool true)], args := [d1, d2, d3] }
  | _ => none }
def coolUsesRow : OpenClaim := { program := "ytmdnjkiciaidiaa", sum := "de3d04b51ec31969113a5bad25a8d23ef9089a4e0775d302011fe746544f5674", func := "barrow/barrowlaw16.CoolUses", spec := "coolUses", inPlace := ["slices.overlaps[barrow/api.Cool]"], unfollowed := true, recurses := true, apart := false }
def CoolUsesSaid : Prop := coolUsesRow.holds Try.pinned (OpenSpec.ofChange coolUsesSpec)

/-- ITS FALSE NEIGHBOUR: 'it returns false'. Refute it at one input. -/
def coolUsesWrong : ChangeSpec := { name := "coolUses", fn := fun _ => fun
  | [d1, d2, d3] => { results := [.lit (.bool false)], args := [d1, d2, d3] }
  | _ => none }
def CoolUsesWrongFalsely : Prop := coolUsesRow.holds Try.pinned (OpenSpec.ofChange coolUsesWrong)

/-- 'barrowlaw16.CoolAll': WHATEVER THE INPUT: true; the input reads as it did. -/
def coolAllSpec : ChangeSpec := { name := "coolAll", fn := fun _ => fun
  | [d1, d2, d3] => { results := [.lit (.bool true)], args := [d1, d2, d3] }
  | _ => none }
def coolAllRow : OpenClaim := { program := "ytmdnjkiciaidiaa", sum := "de3d04b51ec31969113a5bad25a8d23ef9089a4e0775d302011fe746544f5674", func := "barrow/barrowlaw16.CoolAll", spec := "coolAll", inPlace := ["slices.overlaps[barrow/api.Cool]"], unfollowed := true, recurses := true, apart := false }
def CoolAllSaid : Prop := coolAllRow.holds Try.pinned (OpenSpec.ofChange coolAllSpec)

/-- ITS FALSE NEIGHBOUR: 'it returns false'. Refute it at one input. -/
def coolAllWrong : ChangeSpec := { name := "coolAll", fn := fun _ => fun
  | [d1, d2, d3] => { results := [.lit (.bool false)], args := [d1, d2, d3] }
  | _ => none }
def CoolAllWrongFalsely : Prop := coolAllRow.holds Try.pinned (OpenSpec.ofChange coolAllWrong)

/-- 'barrowlaw16.CoolCleans': WHATEVER THE INPUT: true; the input reads as it did. -/
def coolCleansSpec : ChangeSpec := { name := "coolCleans", fn := fun _ => fun
  | [d1, d2, d3, d4] => { results := [.lit (.bool true)], args := [d1, d2, d3, d4] }
  | _ => none }
def coolCleansRow : OpenClaim := { program := "ytmdnjkiciaidiaa", sum := "de3d04b51ec31969113a5bad25a8d23ef9089a4e0775d302011fe746544f5674", func := "barrow/barrowlaw16.CoolCleans", spec := "coolCleans", inPlace := ["slices.overlaps[barrow/api.Cool]"], unfollowed := true, recurses := true, apart := false }
def CoolCleansSaid : Prop := coolCleansRow.holds Try.pinned (OpenSpec.ofChange coolCleansSpec)

/-- ITS FALSE NEIGHBOUR: 'it returns false'. Refute it at one input. -/
def coolCleansWrong : ChangeSpec := { name := "coolCleans", fn := fun _ => fun
  | [d1, d2, d3, d4] => { results := [.lit (.bool false)], args := [d1, d2, d3, d4] }
  | _ => none }
def CoolCleansWrongFalsely : Prop := coolCleansRow.holds Try.pinned (OpenSpec.ofChange coolCleansWrong)

/- THE SECOND FORM. 'bulk': how many values and letters a reading holds, each counted each time it is reached (what is shared counts as often as it is met; a slice's spare places count too). A statement '..UptoSaid' is the law's where the arguments, and the package variables that the reading takes, are together of bulk at most 1048576: NARROWER than '..Said'. Prove '..Said' where nothing that the law and all that it calls make is longer than what came in: it says more and counts as full. Else prove '..UptoSaid'. A law counts once. -/
mutual
def uptoBulk {H : Type} : DataW H → Nat
  | .lit (.string bytes) => bytes.length + 1
  | .lit _ => 1
  | .nil => 1
  | .ptr d => uptoBulk d + 1
  | .slice elems spare => uptoBulkAll elems + uptoBulkAll spare + 1
  | .agg parts => uptoBulkAll parts + 1
  | .iface _ d => uptoBulk d + 1
  | .map entries => uptoBulkEntries entries + 1
  | .held _ => 1
def uptoBulkAll {H : Type} : List (DataW H) → Nat
  | [] => 0
  | d :: r => uptoBulk d + uptoBulkAll r
def uptoBulkEntries {H : Type} : List (Lit × DataW H) → Nat
  | [] => 0
  | x :: r => uptoBulkEntry x + uptoBulkEntries r
def uptoBulkEntry {H : Type} : Lit × DataW H → Nat
  | (.string bytes, d) => bytes.length + uptoBulk d + 1
  | (_, d) => uptoBulk d + 1
 end
def uptoSmall : (H : Type) → List (DataW H) → Bool := fun _ ds => decide (uptoBulkAll ds ≤ 1048576)
def OpenSpec.upto (s : _root_.Go.ChangeSpec) : _root_.Go.OpenSpec := { _root_.Go.OpenSpec.ofChange s with cond := some uptoSmall }

/-- 'barrowlaw16.CoolTells', WHERE WHAT IT READS IS OF BULK AT MOST 1048576: true; the input reads as it did. -/
def coolTellsUptoRow : OpenClaim := { program := "ytmdnjkiciaidiaa", sum := "de3d04b51ec31969113a5bad25a8d23ef9089a4e0775d302011fe746544f5674", func := "barrow/barrowlaw16.CoolTells", spec := "coolTells", inPlace := ["slices.overlaps[barrow/api.Cool]"], unfollowed := true, recurses := true, apart := false, narrowed := true }
def CoolTellsUptoSaid : Prop := coolTellsUptoRow.holds Try.pinned (OpenSpec.upto coolTellsSpec)

/-- 'barrowlaw16.CoolUses', WHERE WHAT IT READS IS OF BULK AT MOST 1048576: true; the input reads as it did. -/
def coolUsesUptoRow : OpenClaim := { program := "ytmdnjkiciaidiaa", sum := "de3d04b51ec31969113a5bad25a8d23ef9089a4e0775d302011fe746544f5674", func := "barrow/barrowlaw16.CoolUses", spec := "coolUses", inPlace := ["slices.overlaps[barrow/api.Cool]"], unfollowed := true, recurses := true, apart := false, narrowed := true }
def CoolUsesUptoSaid : Prop := coolUsesUptoRow.holds Try.pinned (OpenSpec.upto coolUsesSpec)

/-- 'barrowlaw16.CoolAll', WHERE WHAT IT READS IS OF BULK AT MOST 1048576: true; the input reads as it did. -/
def coolAllUptoRow : OpenClaim := { program := "ytmdnjkiciaidiaa", sum := "de3d04b51ec31969113a5bad25a8d23ef9089a4e0775d302011fe746544f5674", func := "barrow/barrowlaw16.CoolAll", spec := "coolAll", inPlace := ["slices.overlaps[barrow/api.Cool]"], unfollowed := true, recurses := true, apart := false, narrowed := true }
def CoolAllUptoSaid : Prop := coolAllUptoRow.holds Try.pinned (OpenSpec.upto coolAllSpec)

/-- 'barrowlaw16.CoolCleans', WHERE WHAT IT READS IS OF BULK AT MOST 1048576: true; the input reads as it did. -/
def coolCleansUptoRow : OpenClaim := { program := "ytmdnjkiciaidiaa", sum := "de3d04b51ec31969113a5bad25a8d23ef9089a4e0775d302011fe746544f5674", func := "barrow/barrowlaw16.CoolCleans", spec := "coolCleans", inPlace := ["slices.overlaps[barrow/api.Cool]"], unfollowed := true, recurses := true, apart := false, narrowed := true }
def CoolCleansUptoSaid : Prop := coolCleansUptoRow.holds Try.pinned (OpenSpec.upto coolCleansSpec)

end Rows
end Go.Proofs.Ytmdnjkiciaidiaa
