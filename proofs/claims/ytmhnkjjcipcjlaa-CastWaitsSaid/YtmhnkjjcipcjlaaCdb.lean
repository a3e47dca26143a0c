/-
  Contract of the document's Same, of two rows that read alike.
-/
import Derived.Test.YtmhnkjjcipcjlaaCgb
namespace Go.Proofs.Ytmhnkjjcipcjlaa.Con
open Go.RowKit Go.Maps
set_option linter.unusedVariables false

set_option maxRecDepth 20000 in
set_option maxHeartbeats 2000000 in
theorem same_ca (B B' : Nat) (A A' : Option Addr) (n c c' : Nat) (p : List Ca) (w : World) (hn : p.length = n) (hr : RW ca w B A p) (hr' : RW ca w B' A' p) (hl : (n : Int) ≤ 1000000) :
    Calls Try.prog 12 #[.slice A n c, .slice A' n c'] w fun e w' => e = .returned (.bool true) ∧ Below w.heap.size w w' := by
  refine Calls.mono (P := Try.prog) (R := fun e w' => e = .returned (.bool true) ∧ ∃ q, w' = w.drewN q) ?_ (fun _ _ h => ⟨h.1, by obtain ⟨q, rfl⟩ := h.2; exact below_drewN (Below.refl _ _) q⟩)
  subst hn
  have HR := Lib.hid hr; have HR' := Lib.hid hr'
  clear hr hr'
  go_enter Try.func12, Try.ntmps12
  go_wp2
  go_loopg [5] p.length (fun gh s5 wr => ∃ k q : Nat, k ≤ p.length ∧ gh = p.length - k ∧ s5 = .int .i64 k ∧ wr = w.drewN q)
  case atStart => exact ⟨0, 0, by omega, rfl, rfl, rfl⟩
  case round =>
    obtain ⟨k, q, hk, rfl, rfl, rfl⟩ := hrel
    by_cases hlt : k < p.length
    · obtain ⟨x, hx⟩ : ∃ x, p[k]? = some x := ⟨_, List.getElem?_eq_getElem hlt⟩
      obtain ⟨b, off, rfl, _, hc⟩ := HR.out.at' hx
      obtain ⟨b', off', rfl, _, hc'⟩ := HR'.out.at' hx
      obtain ⟨c0, c1, c2, c3⟩ := cellsCa (o := off + k * 4) hc
      obtain ⟨d0, d1, d2, d3⟩ := cellsCa (o := off' + k * 4) hc'
      clear hx hc hc'
      have hlt' : (k : Int) < p.length := by omega
      have e0 : (0 : Int) ≤ k := by omega
      go_wp2
      go_quiet (fail)
      go_wp2
      go_roundg (p.length - (k + 1))
      case measure => omega
      case rel => exact ⟨k + 1, _, by omega, rfl, by go_num, rfl⟩
    · go_wp2
      go_ret
      exact ⟨rfl, q, rfl⟩
end Go.Proofs.Ytmhnkjjcipcjlaa.Con
