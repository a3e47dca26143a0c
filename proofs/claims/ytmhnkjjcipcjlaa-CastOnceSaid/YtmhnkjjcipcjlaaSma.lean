/-
  The small case comes out right.
-/
import Derived.Test.YtmhnkjjcipcjlaaPgd
namespace Go.Proofs.Ytmhnkjjcipcjlaa.Con
open Go.RowKit Go.Maps
set_option linter.unusedVariables false

theorem f5 : Fits 5 := ⟨by omega, by omega⟩
theorem fz : FCg ⟨zCa, zCa, 0⟩ := ⟨fits_zc, fits_zc, fits_0⟩
theorem fS : FCg ⟨⟨4, 9, 10, 15⟩, zCa, 13⟩ := ⟨⟨⟨by decide, by decide⟩, ⟨by decide, by decide⟩, ⟨by decide, by decide⟩, ⟨by decide, by decide⟩, trivial⟩, fits_zc, ⟨by decide, by decide⟩⟩
theorem fT : FCg ⟨⟨4, 9, 10, 15⟩, ⟨4, 8, 15, 20⟩, 13⟩ := ⟨⟨⟨by decide, by decide⟩, ⟨by decide, by decide⟩, ⟨by decide, by decide⟩, ⟨by decide, by decide⟩, trivial⟩, ⟨⟨by decide, by decide⟩, ⟨by decide, by decide⟩, ⟨by decide, by decide⟩, ⟨by decide, by decide⟩, trivial⟩, ⟨by decide, by decide⟩⟩
theorem rt_lit {s : Cg} (h : rgB s = true) : RtG s := (rg_iff s).1 h
theorem s_b1 (W : World) : Calls Try.prog 6 #[cgv ⟨zCa, zCa, 0⟩, abv 4 5, .int .i64 9, .int .i64 10] W fun e w' => e = .returned (.tuple #[cgv ⟨⟨4, 9, 10, 15⟩, zCa, 13⟩, .int .i64 0]) ∧ Below W.heap.size W w' := by
  have h := pbegin_any ⟨zCa, zCa, 0⟩ (rt_lit (by decide)) fz 4 5 9 10 (by omega) (by omega) f5 ⟨by omega, by omega⟩ W
  have e : beG ⟨zCa, zCa, 0⟩ 4 5 9 10 = some ⟨⟨4, 9, 10, 15⟩, zCa, 13⟩ := by decide
  rw [e] at h; exact h
theorem s_b2 (W : World) : Calls Try.prog 6 #[cgv ⟨⟨4, 9, 10, 15⟩, zCa, 13⟩, abv 4 5, .int .i64 9, .int .i64 12] W fun e w' => e = .returned (.tuple #[cgv ⟨zCa, zCa, 0⟩, .int .i64 7]) ∧ Below W.heap.size W w' := by
  have h := pbegin_any ⟨⟨4, 9, 10, 15⟩, zCa, 13⟩ (rt_lit (by decide)) fS 4 5 9 12 (by omega) (by omega) f5 ⟨by omega, by omega⟩ W
  have e : beG ⟨⟨4, 9, 10, 15⟩, zCa, 13⟩ 4 5 9 12 = none := by decide
  rw [e] at h; exact h
theorem s_b3 (W : World) : Calls Try.prog 6 #[cgv ⟨⟨4, 9, 10, 15⟩, zCa, 13⟩, abv 4 5, .int .i64 8, .int .i64 13] W fun e w' => e = .returned (.tuple #[cgv ⟨⟨4, 9, 10, 15⟩, ⟨4, 8, 15, 20⟩, 13⟩, .int .i64 0]) ∧ Below W.heap.size W w' := by
  have h := pbegin_any ⟨⟨4, 9, 10, 15⟩, zCa, 13⟩ (rt_lit (by decide)) fS 4 5 8 13 (by omega) (by omega) f5 ⟨by omega, by omega⟩ W
  have e : beG ⟨⟨4, 9, 10, 15⟩, zCa, 13⟩ 4 5 8 13 = some ⟨⟨4, 9, 10, 15⟩, ⟨4, 8, 15, 20⟩, 13⟩ := by decide
  rw [e] at h; exact h
theorem s_st (W : World) : Calls Try.prog 8 #[cgv ⟨⟨4, 9, 10, 15⟩, ⟨4, 8, 15, 20⟩, 13⟩, .int .i64 20] W fun e w' => ∃ A c, e = .returned (.tuple #[cgv ⟨zCa, zCa, 18⟩, .slice A 2 c]) ∧ Below W.heap.size W w' :=
  (pstep_any ⟨⟨4, 9, 10, 15⟩, ⟨4, 8, 15, 20⟩, 13⟩ fT 20 W).mono fun e w' ⟨u, A, c, L, h1, h2, h3, h4⟩ => by
    have e9 : stG ⟨⟨4, 9, 10, 15⟩, ⟨4, 8, 15, 20⟩, 13⟩ 20 = ([⟨4, 9, 10, 15⟩, ⟨4, 8, 15, 20⟩], ⟨zCa, zCa, 18⟩) := by decide
    have h5 := h1.out
    rw [e9] at h5
    injection h5 with h6 h7
    subst h6; subst h7
    exact ⟨A, c, h2, h4⟩
theorem s_sp (W : World) : Calls Try.prog 9 #[cgv ⟨⟨4, 9, 10, 15⟩, ⟨4, 8, 15, 20⟩, 13⟩] W fun e w' => e = .returned (.tuple #[cgv ⟨zCa, zCa, 13⟩, .int .i64 2]) ∧ Below W.heap.size W w' := pstop_any ⟨⟨4, 9, 10, 15⟩, ⟨4, 8, 15, 20⟩, 13⟩ W
theorem s_dn (W : World) : Calls Try.prog 11 #[cgv ⟨⟨4, 9, 10, 15⟩, ⟨4, 8, 15, 20⟩, 13⟩] W fun e w' => e = .returned (.int .i64 20) ∧ Below W.heap.size W w' := pdone_any ⟨⟨4, 9, 10, 15⟩, ⟨4, 8, 15, 20⟩, 13⟩ W
theorem s_fr (W : World) : Calls Try.prog 7 #[cgv ⟨zCa, zCa, 18⟩, .int .i64 18] W fun e w' => e = .returned (.bool true) ∧ Below W.heap.size W w' := pfree_any ⟨zCa, zCa, 18⟩ 18 W
theorem s_rt (W : World) : Calls Try.prog 10 #[cgv ⟨⟨4, 9, 10, 15⟩, ⟨4, 8, 15, 20⟩, 13⟩] W fun e w' => e = .returned (.bool true) ∧ Below W.heap.size W w' := pright_any ⟨⟨4, 9, 10, 15⟩, ⟨4, 8, 15, 20⟩, 13⟩ W
set_option maxRecDepth 20000 in
set_option maxHeartbeats 4000000 in
theorem small_any (w : World) : Calls Try.prog 5 #[] w fun e w' => e = .returned (.bool true) ∧ Below w.heap.size w w' := by
  have HB0 := Lib.hid (below_box w (oAb 4 5))
  have HA0 : Hid ((w.alloc (oAb 4 5)).heap[w.heap.size]? = some (oAb 4 5)) := Lib.hid (heap_alloc_new w _)
  have hA := cellOf' HA0.out
  go_enter Try.func5, Try.ntmps5
  go_wp2_with (fail)
  generalize w.alloc (oAb 4 5) = w0 at *
  (with_reducible refine (s_b1 _).mono ?_); rintro e v1 ⟨rfl, hB⟩
  have HBv1 := Lib.hid (below_step HB0.out hB)
  have HAv1 := Lib.hid ((hB.block _ (lt_of_block HA0.out)).trans HA0.out)
  clear hB hA
  have HB1 := Lib.hid (HBv1.out.alloc HBv1.out.size (oCg ⟨⟨4, 9, 10, 15⟩, zCa, 13⟩))
  have HA1 := Lib.hid ((Below.heap_alloc v1 (oCg ⟨⟨4, 9, 10, 15⟩, zCa, 13⟩) _ (lt_of_block HAv1.out)).trans HAv1.out)
  have HX1 := Lib.hid (Gx.new v1 ⟨⟨4, 9, 10, 15⟩, zCa, 13⟩)
  have hA := cellOf' HA1.out
  have yX1 := cellOf' HX1.out
  clear HBv1 HAv1
  go_wp2_with (fail)
  generalize v1.alloc (oCg ⟨⟨4, 9, 10, 15⟩, zCa, 13⟩) = w1 at *
  generalize v1.heap.size = P1 at *
  (with_reducible refine (s_b2 _).mono ?_); rintro e v2 ⟨rfl, hB⟩
  have HBv2 := Lib.hid (below_step HB1.out hB)
  have HAv2 := Lib.hid ((hB.block _ (lt_of_block HA1.out)).trans HA1.out)
  have HX1v := Lib.hid (HX1.out.of hB HX1.out.lt)
  clear hB hA HX1 yX1
  have HB2 := Lib.hid (HBv2.out.alloc HBv2.out.size (oCg ⟨zCa, zCa, 0⟩))
  have HA2 := Lib.hid ((Below.heap_alloc v2 (oCg ⟨zCa, zCa, 0⟩) _ (lt_of_block HAv2.out)).trans HAv2.out)
  have HX1 := Lib.hid (HX1v.out.alloc (oCg ⟨zCa, zCa, 0⟩))
  have HX2 := Lib.hid (Gx.new v2 ⟨zCa, zCa, 0⟩)
  have hA := cellOf' HA2.out
  have yX1 := cellOf' HX1.out
  have yX2 := cellOf' HX2.out
  clear HBv2 HAv2 HX1v
  go_wp2_with (fail)
  generalize v2.alloc (oCg ⟨zCa, zCa, 0⟩) = w2 at *
  generalize v2.heap.size = P2 at *
  (with_reducible refine (s_b3 _).mono ?_); rintro e v3 ⟨rfl, hB⟩
  have HBv3 := Lib.hid (below_step HB2.out hB)
  have HAv3 := Lib.hid ((hB.block _ (lt_of_block HA2.out)).trans HA2.out)
  have HX1v := Lib.hid (HX1.out.of hB HX1.out.lt)
  have HX2v := Lib.hid (HX2.out.of hB HX2.out.lt)
  clear hB hA HX1 yX1 HX2 yX2
  have HB3 := Lib.hid (HBv3.out.alloc HBv3.out.size (oCg ⟨⟨4, 9, 10, 15⟩, ⟨4, 8, 15, 20⟩, 13⟩))
  have HA3 := Lib.hid ((Below.heap_alloc v3 (oCg ⟨⟨4, 9, 10, 15⟩, ⟨4, 8, 15, 20⟩, 13⟩) _ (lt_of_block HAv3.out)).trans HAv3.out)
  have HX1 := Lib.hid (HX1v.out.alloc (oCg ⟨⟨4, 9, 10, 15⟩, ⟨4, 8, 15, 20⟩, 13⟩))
  have HX2 := Lib.hid (HX2v.out.alloc (oCg ⟨⟨4, 9, 10, 15⟩, ⟨4, 8, 15, 20⟩, 13⟩))
  have HX3 := Lib.hid (Gx.new v3 ⟨⟨4, 9, 10, 15⟩, ⟨4, 8, 15, 20⟩, 13⟩)
  have hA := cellOf' HA3.out
  have yX1 := cellOf' HX1.out
  have yX2 := cellOf' HX2.out
  have yX3 := cellOf' HX3.out
  clear HBv3 HAv3 HX1v HX2v
  go_wp2_with (fail)
  generalize v3.alloc (oCg ⟨⟨4, 9, 10, 15⟩, ⟨4, 8, 15, 20⟩, 13⟩) = w3 at *
  generalize v3.heap.size = P3 at *
  (with_reducible refine (s_st _).mono ?_); rintro e v4 ⟨A, c, rfl, hB⟩
  have HBv4 := Lib.hid (below_step HB3.out hB)
  have HAv4 := Lib.hid ((hB.block _ (lt_of_block HA3.out)).trans HA3.out)
  have HX1v := Lib.hid (HX1.out.of hB HX1.out.lt)
  have HX2v := Lib.hid (HX2.out.of hB HX2.out.lt)
  have HX3v := Lib.hid (HX3.out.of hB HX3.out.lt)
  clear hB hA HX1 yX1 HX2 yX2 HX3 yX3
  have HB4 := Lib.hid (HBv4.out.alloc HBv4.out.size (oCg ⟨zCa, zCa, 18⟩))
  have HA4 := Lib.hid ((Below.heap_alloc v4 (oCg ⟨zCa, zCa, 18⟩) _ (lt_of_block HAv4.out)).trans HAv4.out)
  have HX1 := Lib.hid (HX1v.out.alloc (oCg ⟨zCa, zCa, 18⟩))
  have HX2 := Lib.hid (HX2v.out.alloc (oCg ⟨zCa, zCa, 18⟩))
  have HX3 := Lib.hid (HX3v.out.alloc (oCg ⟨zCa, zCa, 18⟩))
  have HX4 := Lib.hid (Gx.new v4 ⟨zCa, zCa, 18⟩)
  have hA := cellOf' HA4.out
  have yX1 := cellOf' HX1.out
  have yX2 := cellOf' HX2.out
  have yX3 := cellOf' HX3.out
  have yX4 := cellOf' HX4.out
  clear HBv4 HAv4 HX1v HX2v HX3v
  go_wp2_with (fail)
  generalize v4.alloc (oCg ⟨zCa, zCa, 18⟩) = w4 at *
  generalize v4.heap.size = P4 at *
  (with_reducible refine (s_sp _).mono ?_); rintro e v5 ⟨rfl, hB⟩
  have HBv5 := Lib.hid (below_step HB4.out hB)
  have HAv5 := Lib.hid ((hB.block _ (lt_of_block HA4.out)).trans HA4.out)
  have HX1v := Lib.hid (HX1.out.of hB HX1.out.lt)
  have HX2v := Lib.hid (HX2.out.of hB HX2.out.lt)
  have HX3v := Lib.hid (HX3.out.of hB HX3.out.lt)
  have HX4v := Lib.hid (HX4.out.of hB HX4.out.lt)
  clear hB hA HX1 yX1 HX2 yX2 HX3 yX3 HX4 yX4
  have HB5 := Lib.hid (HBv5.out.alloc HBv5.out.size (oCg ⟨zCa, zCa, 13⟩))
  have HA5 := Lib.hid ((Below.heap_alloc v5 (oCg ⟨zCa, zCa, 13⟩) _ (lt_of_block HAv5.out)).trans HAv5.out)
  have HX1 := Lib.hid (HX1v.out.alloc (oCg ⟨zCa, zCa, 13⟩))
  have HX2 := Lib.hid (HX2v.out.alloc (oCg ⟨zCa, zCa, 13⟩))
  have HX3 := Lib.hid (HX3v.out.alloc (oCg ⟨zCa, zCa, 13⟩))
  have HX4 := Lib.hid (HX4v.out.alloc (oCg ⟨zCa, zCa, 13⟩))
  have HX5 := Lib.hid (Gx.new v5 ⟨zCa, zCa, 13⟩)
  have hA := cellOf' HA5.out
  have yX1 := cellOf' HX1.out
  have yX2 := cellOf' HX2.out
  have yX3 := cellOf' HX3.out
  have yX4 := cellOf' HX4.out
  have yX5 := cellOf' HX5.out
  clear HBv5 HAv5 HX1v HX2v HX3v HX4v
  have e1 : ∀ W, (binOp .eql 25 (cav ⟨4, 9, 10, 15⟩) (cav ⟨4, 9, 10, 15⟩)).run Try.prog W = .ok (.bool true) W := fun W => eql_ca _ _ W
  have e2 : ∀ W, (binOp .eql 25 (cav ⟨4, 8, 15, 20⟩) (cav ⟨4, 8, 15, 20⟩)).run Try.prog W = .ok (.bool true) W := fun W => eql_ca _ _ W
  have e3 : ∀ W, (binOp .eql 27 (cgv ⟨zCa, zCa, 18⟩) (cgv ⟨zCa, zCa, 18⟩)).run Try.prog W = .ok (.bool true) W := fun W => eql_cg _ _ W
  have e4 : ∀ W, (binOp .eql 27 (cgv ⟨zCa, zCa, 13⟩) (cgv ⟨zCa, zCa, 13⟩)).run Try.prog W = .ok (.bool true) W := fun W => eql_cg _ _ W
  clear hA
  go_wp2_with (fail)
  generalize v5.alloc (oCg ⟨zCa, zCa, 13⟩) = w5 at *
  (with_reducible refine (s_dn _).mono ?_); rintro e v6 ⟨rfl, hB⟩
  have HB6 := Lib.hid (below_more HB5.out hB HB5.out.size)
  have HX3v := Lib.hid (HX3.out.of hB HX3.out.lt)
  have HX4v := Lib.hid (HX4.out.of hB HX4.out.lt)
  clear hB yX1 yX2 yX3 yX4 yX5
  have yX3 := cellOf' HX3v.out
  have yX4 := cellOf' HX4v.out
  go_wp2_with (fail)
  (with_reducible refine (s_fr _).mono ?_); rintro e v7 ⟨rfl, hB⟩
  have HB7 := Lib.hid (below_more HB6.out hB HB6.out.size)
  have HX3w := Lib.hid (HX3v.out.of hB HX3v.out.lt)
  clear hB yX3 yX4
  have yX3 := cellOf' HX3w.out
  go_wp2_with (fail)
  (with_reducible refine (s_rt _).mono ?_); rintro e v8 ⟨rfl, hB⟩
  have HB8 := Lib.hid (below_more HB7.out hB HB7.out.size)
  clear hB yX3
  go_wp2
  go_ret
  exact ⟨by first | rfl | simp, HB8.out⟩
end Go.Proofs.Ytmhnkjjcipcjlaa.Con
