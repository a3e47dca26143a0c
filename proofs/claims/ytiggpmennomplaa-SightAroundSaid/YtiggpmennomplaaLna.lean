/-
  The contract of Line: for every grid and every two tiles: the tiles of the line, in new memory; none, if one of the two is no tile.
-/
import Derived.Test.YtiggpmennomplaaGab
import Derived.Test.YtiggpmennomplaaCol
namespace Go.Proofs.Ytiggpmennomplaa.Con
open Go.RowKit Go.Shelf Lin Arn
attribute [local go_sem] Oper.semAt_some

set_option maxRecDepth 100000 in
theorem Line_any (W H : Int) (A : Option Addr) (n c : Nat) (ax ay bx by' : Int) (w : World) :
    Calls Try.prog 12 #[gv W H A n c, pv ax ay, pv bx by'] w fun e w' =>
      (∃ v, e = .returned v ∧ w'.ownsRow w.heap.size 26 2 v (lineG W H n ax ay bx by').length (flat (lineG W H n ax ay bx by')) ∧ (v = .slice none 0 0 ↔ lineG W H n ax ay bx by' = [])) ∧ Below w.heap.size w w' := by
  have hb := gab_below W H A n c ax ay bx by' w
  have hg := gab_g3 W H A n c ax ay bx by' w
  have HG := Lib.hid hg; clear hg
  have hbo : ∀ w : World, Calls Try.prog 23 #[gv W H A n c, pv ax ay, pv bx by'] w fun e w' => e = .returned (.bool (bothB W H n ax ay bx by')) ∧ Below w.heap.size w w' := fun w => bothIn_any W H A n c ax ay bx by' w
  unfold lineG
  cases ht : bothB W H n ax ay bx by' with
  | false =>
    rw [ht] at hbo
    have HB := Lib.hid hbo; clear hbo ht
    rw [if_neg (by simp)]
    go_enter Try.func12, Try.ntmps12
    go_wp2_with (first | ((with_reducible refine (HB.out _).mono ?_); rintro e w1 ⟨rfl, hB⟩))
    go_ret
    exact ⟨⟨_, rfl, World.ownsRow_nil _ _ _ _, by simp⟩, hb.trans (hB.mono hb.size)⟩
  | true =>
    rw [ht] at hbo
    have HB := Lib.hid hbo; clear hbo
    rw [if_pos rfl]
    have hin := both_in ht
    obtain ⟨px, py, qx, qy, g, hl, hline⟩ := line_any hin.1.1 hin.1.2 hin.2.1 hin.2.2
    rw [← hl]
    clear hl hin ht
    have HL := Lib.hid hline; clear hline
    go_enter Try.func12, Try.ntmps12
    go_wp2_with (first
      | ((with_reducible refine (HB.out _).mono ?_); rintro e w1 ⟨rfl, hB⟩; obtain ⟨c0, c1, c2, c3, c4, c5, c6⟩ := (HG.out.of hB).cells; have HB1 := Lib.hid hB; clear hB)
      | ((with_reducible refine (HL.out _).mono ?_); rintro e w2 ⟨q, rfl, hq, hM, hB2⟩; have hcl := collect_line g q w1.heap.size w2.heap.size hq w2 (Nat.le_refl _) hM; have HCL := Lib.hid hcl; clear hcl)
      | ((with_reducible refine HCL.out.mono ?_); rintro e w3 ⟨⟨v, rfl, hr, hn⟩, hB3⟩))
    go_ret
    have s1 := HB1.out.size
    have s2 := hB2.size
    exact ⟨⟨v, rfl, row_base hr (Nat.le_trans hb.size (Nat.le_trans s1 s2)), hn⟩, hb.trans ((HB1.out.trans ((hB2.mono s1).trans (hB3.mono (Nat.le_trans s1 s2)))).mono hb.size)⟩
end Go.Proofs.Ytiggpmennomplaa.Con
