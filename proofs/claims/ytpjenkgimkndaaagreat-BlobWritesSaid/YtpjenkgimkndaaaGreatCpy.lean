/-
  Contract of Copy: alike, in new memory.
-/
import Derived.Test.YtpjenkgimkndaaaGreatCro
namespace Go.Proofs.YtpjenkgimkndaaaGreat.Con
open Go.RowKit Go.Maps

abbrev zcCn : Obj := .cells #[.slice none 0 0, .slice none 0 0, .slice none 0 0, .int .i64 0, .int .i64 0, .slice none 0 0, .int .i64 0, .int .i64 0, .int .i64 0, .int .i64 0] 31
/-- Content that was copied. -/
def CpC (w : World) (c : Cn) (e : Ending) (w' : World) : Prop := ∃ k : Cn, e = .returned (cnv k) ∧ Hid (k.pl = c.pl) ∧ Hid (PC w' w.heap.size k) ∧ Below w.heap.size w w'

end Go.Proofs.YtpjenkgimkndaaaGreat.Con
