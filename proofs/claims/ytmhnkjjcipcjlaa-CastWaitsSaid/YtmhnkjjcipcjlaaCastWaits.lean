/-
  CastWaits: for every Casting and any two times, Step at a time is Step at one ahead of it and then at it, and behind Done nothing is cast any more; the law answers true and leaves what comes in as it was.
-/
import Derived.Test.YtmhnkjjcipcjlaaSma
import Derived.Test.YtmhnkjjcipcjlaaApg
import Derived.Test.YtmhnkjjcipcjlaaCdb
import Derived.WalkKit
import Derived.ProofKit
import Derived.OpenShut
namespace Go.Proofs.Ytmhnkjjcipcjlaa.castWaits
open Go.ChangeShapes Go.WideShapes Go.ChangeAt Go.RowKit Con
set_option linter.unusedVariables false

theorem own : ownKnob Try.prog.godebug = none := by kernel_rfl

theorem fits_of_st {s u : Cg} {t : Int} {l : List Ca} (h : stG s t = (l, u)) (fs : FCg s) : FCg u := by
  have := fits_st fs t
  rw [h] at this; exact this
theorem right_of_st {s u : Cg} {t : Int} {l : List Ca} (h : stG s t = (l, u)) (hs : RtG s) : rgB u = true := by
  have := st_rt hs t
  rw [h] at this; exact (rg_iff u).2 this
theorem join_of {s a b c : Cg} {t u : Int} {l m k : List Ca} (h1 : stG s t = (l, a)) (h2 : stG a u = (m, b)) (h3 : stG s u = (k, c)) (h : t ≤ u) : c = b ∧ k = l ++ m := by
  obtain ⟨e, f⟩ := st_join s h
  rw [h1] at e f
  simp only at e f
  rw [h2] at e f
  rw [h3] at e f
  exact ⟨e.symm, f.symm⟩
set_option maxRecDepth 100000 in
set_option maxHeartbeats 3000000 in
theorem walk (w : World) (s : Cg) (fs : FCg s) (t : Int) (ft : Fits t) (u : Int) (fu : Fits u) :
    Calls Try.prog 4 #[cgv s, .int .i64 t, .int .i64 u] w fun e w' => e = .returned (.bool true) ∧ Below w.heap.size w w' := by
  have HSmall := Lib.hid (fun V => small_any V)
  have HRt := Lib.hid (fun V => pright_any s V)
  have HB0 := Lib.hid (below_box w (oCg s))
  have HX0 := Lib.hid (Gx.new w s)
  have zX := cellOf' HX0.out
  have HF := Lib.hid fs
  clear fs ft fu
  go_enter Try.func4, Try.ntmps4
  go_wp2_with (fail)
  generalize w.alloc (oCg s) = w0 at *
  (with_reducible refine (HSmall.out _).mono ?_); rintro e w1 ⟨rfl, hB1⟩
  have HX1 := Lib.hid (HX0.out.of hB1 HX0.out.lt)
  have HB1 := Lib.hid (below_more HB0.out hB1 HB0.out.size)
  clear hB1 zX
  have zX := cellOf' HX1.out
  go_wp2_with (fail)
  (with_reducible refine (HRt.out _).mono ?_); rintro e w2 ⟨rfl, hB2⟩
  have HX2 := Lib.hid (HX1.out.of hB2 HX1.out.lt)
  have HB2 := Lib.hid (below_more HB1.out hB2 HB1.out.size)
  clear hB2 zX
  have zX := cellOf' HX2.out
  cases hr : rgB s with
  | false =>
    clear hr
    go_wp2
    go_ret
    exact ⟨rfl, HB2.out⟩
  | true =>
    have HR := Lib.hid ((rg_iff s).1 hr)
    clear hr
    by_cases htu : u < t
    · have htu' : decide (u < t) = true := decide_eq_true htu
      go_wp2
      go_ret
      exact ⟨rfl, HB2.out⟩
    · have htu' : decide (u < t) = false := decide_eq_false htu
      have HTU := Lib.hid (show t ≤ u by omega)
      clear htu
      have HS1 := Lib.hid (fun V => pstep_any s HF.out t V)
      go_wp2_with (fail)
      (with_reducible refine (HS1.out _).mono ?_); rintro e w3 ⟨a, A1, c1, l, H1, rfl, HO1, hB3⟩
      have HRl0 := Lib.hid HO1.out.pw.rw'
      have HX3 := Lib.hid (HX2.out.of hB3 HX2.out.lt)
      have HB3 := Lib.hid (below_more HB2.out hB3 HB2.out.size)
      clear hB3 zX HO1
      have HFa := Lib.hid (fits_of_st H1.out HF.out)
      have HB4 := Lib.hid (HB3.out.alloc HB3.out.size (oCg a))
      have HA4 := Lib.hid (Gx.new w3 a)
      have HX4 := Lib.hid (HX3.out.alloc (oCg a))
      have HRl1 := Lib.hid (HRl0.out.below (below_box w3 (oCg a)) (Nat.le_refl _))
      have zX := cellOf' HX4.out
      have zA := cellOf' HA4.out
      have HS2 := Lib.hid (fun V => pstep_any a HFa.out u V)
      go_wp2_with (fail)
      generalize w3.alloc (oCg a) = w4 at *
      skip
      (with_reducible refine (HS2.out _).mono ?_); rintro e w5 ⟨b, A2, c2, m, H2, rfl, HO2, hB5⟩
      have HRm0 := Lib.hid HO2.out.pw.rw'
      have HRl2 := Lib.hid (HRl1.out.below hB5 (by have := HA4.out.lt; omega))
      have HX5 := Lib.hid (HX4.out.of hB5 HX4.out.lt)
      have HA5 := Lib.hid (HA4.out.of hB5 HA4.out.lt)
      have HB5 := Lib.hid (below_more HB4.out hB5 HB4.out.size)
      clear hB5 zX zA HO2 HRl0 HRl1
      have HB6 := Lib.hid (HB5.out.alloc HB5.out.size (oCg b))
      have HBB6 := Lib.hid (Gx.new w5 b)
      have HX6 := Lib.hid (HX5.out.alloc (oCg b))
      have HA6 := Lib.hid (HA5.out.alloc (oCg b))
      have HRl3 := Lib.hid (HRl2.out.below (below_box w5 (oCg b)) (by have := HA5.out.lt; omega))
      have HRm1 := Lib.hid (HRm0.out.below (below_box w5 (oCg b)) (Nat.le_refl _))
      have zX := cellOf' HX6.out
      have zA := cellOf' HA6.out
      have zB := cellOf' HBB6.out
      have HS3 := Lib.hid (fun V => pstep_any s HF.out u V)
      go_wp2_with (fail)
      generalize w5.alloc (oCg b) = w6 at *
      skip
      (with_reducible refine (HS3.out _).mono ?_); rintro e w7 ⟨c, A3, c3, k, H3, rfl, HO3, hB7⟩
      have HRk0 := Lib.hid HO3.out.pw.rw'
      have HRl4 := Lib.hid (HRl3.out.below hB7 (by have := HA6.out.lt; omega))
      have HRm2 := Lib.hid (HRm1.out.below hB7 (by have := HBB6.out.lt; omega))
      have hj := join_of H1.out H2.out H3.out HTU.out
      obtain ⟨hj1, hj2⟩ := hj
      subst hj1
      have HK := Lib.hid hj2
      clear hj2
      have HX7 := Lib.hid (HX6.out.of hB7 HX6.out.lt)
      have HA7 := Lib.hid (HA6.out.of hB7 HA6.out.lt)
      have HBB7 := Lib.hid (HBB6.out.of hB7 HBB6.out.lt)
      have HB7 := Lib.hid (below_more HB6.out hB7 HB6.out.size)
      clear hB7 zX zA zB HO3 HRl2 HRl3 HRm0 HRm1
      have HB8 := Lib.hid (HB7.out.alloc HB7.out.size (oCg c))
      have HCC8 := Lib.hid (Gx.new w7 c)
      have HX8 := Lib.hid (HX7.out.alloc (oCg c))
      have HA8 := Lib.hid (HA7.out.alloc (oCg c))
      have HBB8 := Lib.hid (HBB7.out.alloc (oCg c))
      have HRl5 := Lib.hid (HRl4.out.below (below_box w7 (oCg c)) (by have := HA7.out.lt; omega))
      have HRm3 := Lib.hid (HRm2.out.below (below_box w7 (oCg c)) (by have := HBB7.out.lt; omega))
      have HRk1 := Lib.hid (HRk0.out.below (below_box w7 (oCg c)) (Nat.le_refl _))
      have zX := cellOf' HX8.out
      have zA := cellOf' HA8.out
      have zB := cellOf' HBB8.out
      have zC := cellOf' HCC8.out
      have HLl : Hid (([] : List Ca).length + l.length ≤ 1000000) := Lib.hid (by have h9 := st_len s t; rw [H1.out] at h9; have h8 : l.length ≤ 2 := h9; simp; omega)
      have HLm : Hid (l.length + m.length ≤ 1000000) := Lib.hid (by have h9 := st_len s t; rw [H1.out] at h9; have h8 : l.length ≤ 2 := h9; have h7 := st_len a u; rw [H2.out] at h7; have h6 : m.length ≤ 2 := h7; omega)
      have HSa := Lib.hid (fun V => by have := pright_any a V; rw [right_of_st H1.out HR.out] at this; exact this)
      have HSc := Lib.hid (fun V => by have := pright_any c V; rw [right_of_st H3.out HR.out] at this; exact this)
      obtain ⟨dn0, HDN⟩ : ∃ z, Hid (dnG s = z) := ⟨_, Lib.hid rfl⟩
      have HDn := Lib.hid (fun V => by have := pdone_any s V; rw [HDN.out] at this; exact this)
      obtain ⟨dm, HDm⟩ : ∃ z, Hid (mx dn0 s.now.untl = z) := ⟨_, Lib.hid rfl⟩
      have HSd := Lib.hid (fun V => pstep_any s HF.out dm V)
      have HDd : Hid ((stG s dm).2.now = zCa) := Lib.hid (st_done HR.out (by rw [HDN.out, ← HDm.out]; unfold mx; split <;> omega) (by rw [← HDm.out]; unfold mx; split <;> omega))
      go_wp2_with (fail)
      clear zX zA zB zC
      generalize w7.alloc (oCg c) = w8 at *
      skip
      have HRl := Lib.hid (HRl5.out.more (B' := w8.heap.size) (by have := HA8.out.lt; have := HBB8.out.lt; have := HCC8.out.lt; omega))
      have HRm := Lib.hid (HRm3.out.more (B' := w8.heap.size) (by have := HA8.out.lt; have := HBB8.out.lt; have := HCC8.out.lt; omega))
      have HRk := Lib.hid (HRk1.out.more (B' := w8.heap.size) (by have := HA8.out.lt; have := HBB8.out.lt; have := HCC8.out.lt; omega))
      clear HRl4 HRl5 HRm2 HRm3 HRk0 HRk1 HS1 HS2 HS3
      have hS0 : Below w8.heap.size w8 w8.drew := (Below.refl _ _).drew
      refine wp_region_noPanic ?_
      refine wp_region_held_drew (S := fun w' => Below w8.heap.size w8 w') (by kernel_rfl) hS0 (fun _ => ?_)
      generalize w8.drew = v0 at hS0 ⊢
      refine wpAnyH_take (i := 0) (oi := ⟨some 45, Op.load 27 (Operand.tmp 3), 27, _, _, none⟩) (v := ?va0) rfl (by kernel_rfl) (by kernel_rfl) (by kernel_rfl) (fun _ _ _ h => h) (Or.inl ⟨by rfl, ?ha0⟩) hS0 ?ra0
      case ha0 => (intro wz hSw; have hzz := cellOf' (HX8.out.of hSw HX8.out.lt); go_simp <;> with_reducible rfl)
      (try simp only [Act.put, List.setIfInBounds_toArray, List.set_cons_zero, List.set_cons_succ])
      refine wpAnyH_take (i := 1) (oi := ⟨some 46, Op.load 27 (Operand.tmp 3), 27, _, _, none⟩) (v := ?va1) rfl (by kernel_rfl) (by kernel_rfl) (by kernel_rfl) (fun _ _ _ h => h) (Or.inl ⟨by rfl, ?ha1⟩) hS0 ?ra1
      case ha1 => (intro wz hSw; have hzz := cellOf' (HX8.out.of hSw HX8.out.lt); go_simp <;> with_reducible rfl)
      (try simp only [Act.put, List.setIfInBounds_toArray, List.set_cons_zero, List.set_cons_succ])
      refine wpAnyH_take (i := 3) (oi := ⟨some 48, Op.fieldAddr 27 (Operand.tmp 3) 0, 0, _, _, none⟩) (v := ?va3) rfl (by kernel_rfl) (by kernel_rfl) (by kernel_rfl) (fun _ _ _ h => h) (Or.inl ⟨by rfl, ?ha3⟩) hS0 ?ra3
      case ha3 => (intro wz hSw; go_simp <;> with_reducible rfl)
      (try simp only [Act.put, List.setIfInBounds_toArray, List.set_cons_zero, List.set_cons_succ])
      refine wpAnyH_take (i := 4) (oi := ⟨some 49, Op.fieldAddr 25 (Operand.tmp 48) 3, 0, _, _, none⟩) (v := ?va4) rfl (by kernel_rfl) (by kernel_rfl) (by kernel_rfl) (fun _ _ _ h => h) (Or.inl ⟨by rfl, ?ha4⟩) hS0 ?ra4
      case ha4 => (intro wz hSw; go_simp <;> with_reducible rfl)
      (try simp only [Act.put, List.setIfInBounds_toArray, List.set_cons_zero, List.set_cons_succ])
      refine wpAnyH_take (i := 5) (oi := ⟨some 50, Op.load 3 (Operand.tmp 49), 3, _, _, none⟩) (v := ?va5) rfl (by kernel_rfl) (by kernel_rfl) (by kernel_rfl) (fun _ _ _ h => h) (Or.inl ⟨by rfl, ?ha5⟩) hS0 ?ra5
      case ha5 => (intro wz hSw; have hzz := cellOf' (HX8.out.of hSw HX8.out.lt); go_simp <;> with_reducible rfl)
      (try simp only [Act.put, List.setIfInBounds_toArray, List.set_cons_zero, List.set_cons_succ])
      refine wpAnyH_ready (rs := [2, 11]) (by kernel_rfl) (by simp) ?_
      refine AllReadyH.cons (o := ⟨some 47, Op.call { callee := Callee.value (Operand.func 11), args := #[Operand.tmp 46], argTypes := #[27] }, 3, _, _, none⟩) rfl (fun K hK => ?_) (AllReadyH.cons (o := ⟨some 14, Op.alloc 27, 0, _, _, none⟩) rfl (fun K hK => ?_) AllReadyH.nil)
      · go_simp
        (with_reducible refine (HDn.out _).mono ?_); rintro e v1 ⟨rfl, hb1⟩; have HC_1 := Lib.hid (below_more hS0 hb1 (Below.size hS0)); clear hb1
        refine hK.out _ _ HC_1.out (fun _ => ?_)
        clear hK K
        (try simp only [Act.put, List.setIfInBounds_toArray, List.set_cons_zero, List.set_cons_succ])
        refine wpAnyH_take (i := 6) (oi := ⟨some 51, Op.call { callee := Callee.builtin Builtin.max, args := #[Operand.tmp 47, Operand.tmp 50], argTypes := #[3, 3] }, 3, _, _, none⟩) (v := .int .i64 dm) rfl (by kernel_rfl) (by kernel_rfl) (by kernel_rfl) (fun _ _ _ h => h) (Or.inl ⟨by rfl, ?hab26⟩) HC_1.out ?rab26
        case hab26 => (intro wz hSw; apply exec_max (l := .tmp 47) (r := .tmp 50) (hm := HDm.out) <;> first | rfl | exact rfl)
        (try simp only [Act.put, List.setIfInBounds_toArray, List.set_cons_zero, List.set_cons_succ])
        refine wpAnyH_ready (rs := [7, 11]) (by kernel_rfl) (by simp) ?_
        refine AllReadyH.cons (o := ⟨some 52, Op.call { callee := Callee.value (Operand.func 8), args := #[Operand.tmp 45, Operand.tmp 51], argTypes := #[27, 3] }, 37, _, _, none⟩) rfl (fun K hK => ?_) (AllReadyH.cons (o := ⟨some 14, Op.alloc 27, 0, _, _, none⟩) rfl (fun K hK => ?_) AllReadyH.nil)
        · go_simp
          (with_reducible refine (HSd.out _).mono ?_); rintro e v2 ⟨d, AN2, cN2, N, hN, rfl, hOn, hb2⟩; have HC_2 := Lib.hid (below_more HC_1.out hb2 (Below.size HC_1.out)); clear hb2 hOn
          refine hK.out _ _ HC_2.out (fun _ => ?_)
          clear hK K
          (try simp only [Act.put, List.setIfInBounds_toArray, List.set_cons_zero, List.set_cons_succ])
          refine wpAnyH_take (i := 8) (oi := ⟨some 44, Op.move (Operand.tmp 52), 37, _, _, none⟩) (v := ?vab2b78) rfl (by kernel_rfl) (by kernel_rfl) (by kernel_rfl) (fun _ _ _ h => h) (Or.inl ⟨by rfl, ?hab2b78⟩) HC_2.out ?rab2b78
          case hab2b78 => (intro wz hSw; go_simp <;> with_reducible rfl)
          (try simp only [Act.put, List.setIfInBounds_toArray, List.set_cons_zero, List.set_cons_succ])
          refine wpAnyH_take (i := 9) (oi := ⟨some 53, Op.extract (Operand.tmp 44) 0, 27, _, _, none⟩) (v := ?vab2b79) rfl (by kernel_rfl) (by kernel_rfl) (by kernel_rfl) (fun _ _ _ h => h) (Or.inl ⟨by rfl, ?hab2b79⟩) HC_2.out ?rab2b79
          case hab2b79 => (intro wz hSw; go_simp <;> with_reducible rfl)
          (try simp only [Act.put, List.setIfInBounds_toArray, List.set_cons_zero, List.set_cons_succ])
          refine wpAnyH_take (i := 10) (oi := ⟨some 54, Op.extract (Operand.tmp 44) 1, 28, _, _, none⟩) (v := ?vab2b710) rfl (by kernel_rfl) (by kernel_rfl) (by kernel_rfl) (fun _ _ _ h => h) (Or.inl ⟨by rfl, ?hab2b710⟩) HC_2.out ?rab2b710
          case hab2b710 => (intro wz hSw; go_simp <;> with_reducible rfl)
          (try simp only [Act.put, List.setIfInBounds_toArray, List.set_cons_zero, List.set_cons_succ])
          refine wpAnyH_ready (rs := [11]) (by kernel_rfl) (by simp) ?_
          refine AllReadyH.cons (o := ⟨some 14, Op.alloc 27, 0, _, _, none⟩) rfl (fun K hK => ?_) AllReadyH.nil
          go_simp
          have HD_3 : Hid (Gx (v2.alloc (oCg ⟨zCa, zCa, 0⟩)) v2.heap.size ⟨zCa, zCa, 0⟩) := Lib.hid (Gx.new v2 _); have HC_3 := Lib.hid (Below.alloc HC_2.out (Below.size HC_2.out) (oCg ⟨zCa, zCa, 0⟩)); have HP_3 := Lib.hid (Below.size HC_2.out); generalize hP3 : v2.heap.size = P3 at HD_3 HP_3 ⊢; generalize v2.alloc (oCg ⟨zCa, zCa, 0⟩) = v3 at HD_3 HC_3 ⊢; clear hP3
          refine hK.out _ _ HC_3.out (fun _ => ?_)
          clear hK K
          (try simp only [Act.put, List.setIfInBounds_toArray, List.set_cons_zero, List.set_cons_succ])
          refine wpAnyH_ready (rs := [12]) (by kernel_rfl) (by simp) ?_
          refine AllReadyH.cons (o := ⟨none, Op.store 27 (Operand.tmp 14) (Operand.tmp 53), 0, _, _, none⟩) rfl (fun K hK => ?_) AllReadyH.nil
          have hyz := cellOf' HD_3.out; have hyl := HD_3.out.lt; have hG := frozOf' HD_3.out
          go_simp
          have HD_4 := Lib.hid (HD_3.out.putG d); have HC_4 := Lib.hid (below_putG HC_3.out HP_3.out d); clear hyz hyl hG
          refine hK.out _ _ HC_4.out (fun _ => ?_)
          clear hK K
          (try simp only [Act.put, List.setIfInBounds_toArray, List.set_cons_zero, List.set_cons_succ])
          refine wpAnyH_take (i := 13) (oi := ⟨some 15, Op.assign (Operand.tmp 54), 28, _, _, none⟩) (v := ?vab2b713) rfl (by kernel_rfl) (by kernel_rfl) (by kernel_rfl) (fun _ _ _ h => h) (Or.inl ⟨by rfl, ?hab2b713⟩) HC_4.out ?rab2b713
          case hab2b713 => (intro wz hSw; go_simp <;> with_reducible rfl)
          (try simp only [Act.put, List.setIfInBounds_toArray, List.set_cons_zero, List.set_cons_succ])
          refine wpAnyH_done (by kernel_rfl) ?_ _
          refine NoPanic.normal ?_
          have HZf : Hid (Gx (((((((((v3.setCell ⟨P3, 0, none⟩ (.int .i64 d.now.ability)).setCell ⟨P3, 1, none⟩ (.int .i64 d.now.target)).setCell ⟨P3, 2, none⟩ (.int .i64 d.now.since)).setCell ⟨P3, 3, none⟩ (.int .i64 d.now.untl)).setCell ⟨P3, 4, none⟩ (.int .i64 d.next.ability)).setCell ⟨P3, 5, none⟩ (.int .i64 d.next.target)).setCell ⟨P3, 6, none⟩ (.int .i64 d.next.since)).setCell ⟨P3, 7, none⟩ (.int .i64 d.next.untl)).setCell ⟨P3, 8, none⟩ (.int .i64 d.wait)) P3 d) := Lib.hid HD_4.out
          have HSf : Below w8.heap.size w8 (((((((((v3.setCell ⟨P3, 0, none⟩ (.int .i64 d.now.ability)).setCell ⟨P3, 1, none⟩ (.int .i64 d.now.target)).setCell ⟨P3, 2, none⟩ (.int .i64 d.now.since)).setCell ⟨P3, 3, none⟩ (.int .i64 d.now.untl)).setCell ⟨P3, 4, none⟩ (.int .i64 d.next.ability)).setCell ⟨P3, 5, none⟩ (.int .i64 d.next.target)).setCell ⟨P3, 6, none⟩ (.int .i64 d.next.since)).setCell ⟨P3, 7, none⟩ (.int .i64 d.next.untl)).setCell ⟨P3, 8, none⟩ (.int .i64 d.wait)) := HC_4.out
          have HBf := Lib.hid (below_more HB8.out HSf (Below.size HB8.out))
          have HAf := Lib.hid (HA8.out.of HSf HA8.out.lt)
          have HBBf := Lib.hid (HBB8.out.of HSf HBB8.out.lt)
          have HCf := Lib.hid (HCC8.out.of HSf HCC8.out.lt)
          have HRlf := Lib.hid (HRl.out.below HSf (Nat.le_refl _))
          have HRmf := Lib.hid (HRm.out.below HSf (Nat.le_refl _))
          have HRkf := Lib.hid (HRk.out.below HSf (Nat.le_refl _))
          have hDn : d.now = zCa := by have h9 := HDd.out; rw [hN.out] at h9; exact h9
          have hNl : (N.length : Int) ≤ 2 := by have h9 := st_len s dm; rw [hN.out] at h9; have h8 : N.length ≤ 2 := h9; omega
          have hNd : decide ((N.length : Int) ≤ 2) = true := decide_eq_true hNl
          have HNl := Lib.hid hNl
          have HSB := Lib.hid HSf.size
          clear HSf hN hNl
          generalize (((((((((v3.setCell ⟨P3, 0, none⟩ (.int .i64 d.now.ability)).setCell ⟨P3, 1, none⟩ (.int .i64 d.now.target)).setCell ⟨P3, 2, none⟩ (.int .i64 d.now.since)).setCell ⟨P3, 3, none⟩ (.int .i64 d.now.untl)).setCell ⟨P3, 4, none⟩ (.int .i64 d.next.ability)).setCell ⟨P3, 5, none⟩ (.int .i64 d.next.target)).setCell ⟨P3, 6, none⟩ (.int .i64 d.next.since)).setCell ⟨P3, 7, none⟩ (.int .i64 d.next.untl)).setCell ⟨P3, 8, none⟩ (.int .i64 d.wait)) = vf at HZf HBf HAf HBBf HCf HRlf HRmf HRkf HSB ⊢
          obtain ⟨dn, dx, dw⟩ := d
          simp only at hDn
          subst hDn
          generalize w8.heap.size = B8 at HRlf HRmf HRkf HSB
          have zA := cellOf' HAf.out
          have zB := cellOf' HBBf.out
          have zC := cellOf' HCf.out
          have zD := cellOf' HZf.out
          have HO1 : Hid (OW ca (vf.alloc (.cells #[] 25)) vf.heap.size (.slice (some ⟨vf.heap.size, 0, none⟩) 0 0) []) := Lib.hid (OW.room ca vf)
          have HB1 := Lib.hid (below_box vf (.cells #[] 25))
          have HRl1 := Lib.hid (HRlf.out.below HB1.out HSB.out)
          have HSZ : Hid (vf.heap.size ≤ (vf.alloc (.cells #[] 25)).heap.size) := Lib.hid (by simp)
          have e1 : ∀ V, (binOp .eql 27 (cgv c) (cgv c)).run Try.prog V = .ok (.bool true) V := fun V => by rw [eql_cg]; simp
          go_wp2_with (first
            | (at_builtin; refine wpList_appG ca rfl 28 rfl (.tmp 64) (.tmp 65) rfl vf.heap.size B8 (.slice A8 l8.length c8) l8 m A2 c2 m.length rfl rfl rfl HO8.out HRm8.out HL8.out HSZ8.out ?_; intro A9 c9 w9 l9 HLM9 HO9 HS9; have hlk : l9 = k := (by rw [HLM9.out, HLM8.out, HK.out]; rfl); subst hlk; have HB9 := Lib.hid (HBr.out.trans HS9.out); have HRk9 := Lib.hid (HRkf.out.below HB9.out HSB.out); have HR9 := Lib.hid HO9.out.pw.rw'; have HL9 : Hid ((l9.length : Int) ≤ 1000000) := Lib.hid (by have h1 := HL8.out; have h2 := congrArg List.length HLM9.out; rw [List.length_append] at h2; omega); clear zA zB zC zD; have zA := cellOf' (HAf.out.of HB9.out HAf.out.lt); have zC := cellOf' (HCf.out.of HB9.out HCf.out.lt); have zD := cellOf' (HZf.out.of HB9.out HZf.out.lt))
            | (at_builtin; refine wpList_appG ca rfl 28 rfl (.tmp 62) (.tmp 63) rfl vf.heap.size B8 (.slice (some ⟨vf.heap.size, 0, none⟩) 0 0) [] l A1 c1 l.length rfl rfl rfl HO1.out HRl1.out HLl.out HSZ.out ?_; intro A8 c8 wr l8 HLM8 HO8 HS8; have HBr := Lib.hid (HB1.out.trans HS8.out); have HRm8 := Lib.hid (HRmf.out.below HBr.out HSB.out); have HSZ8 := Lib.hid (HBr.out.size); have HL8 : Hid (l8.length + m.length ≤ 1000000) := Lib.hid (by have h1 := HLm.out; have h2 := congrArg List.length HLM8.out; simp only [List.nil_append] at h2; omega))
            | ((with_reducible refine (same_ca w9.heap.size B8 A9 A3 l9.length c9 c3 l9 w9 rfl HR9.out HRk9.out HL9.out).mono ?_); rintro e wa ⟨rfl, hBa⟩; have HBA := Lib.hid (HB9.out.trans (hBa.mono HB9.out.size)); clear hBa zA zC zD; have zA := cellOf' (HAf.out.of HBA.out HAf.out.lt); have zC := cellOf' (HCf.out.of HBA.out HCf.out.lt); have zD := cellOf' (HZf.out.of HBA.out HZf.out.lt))
            | ((with_reducible refine (HSa.out _).mono ?_); rintro e wb ⟨rfl, hBb⟩; have HBC := Lib.hid (HBA.out.trans (hBb.mono HBA.out.size)); clear hBb zA zC zD; have zC := cellOf' (HCf.out.of HBC.out HCf.out.lt))
            | ((with_reducible refine (HSc.out _).mono ?_); rintro e wc ⟨rfl, hBc⟩; have HBD := Lib.hid (HBC.out.trans (hBc.mono HBC.out.size)); clear hBc zC)
            | fail)
          go_ret
          exact ⟨rfl, HBf.out.trans (HBD.out.mono HBf.out.size)⟩
        · go_simp
          have HD_5 : Hid (Gx (v1.alloc (oCg ⟨zCa, zCa, 0⟩)) v1.heap.size ⟨zCa, zCa, 0⟩) := Lib.hid (Gx.new v1 _); have HC_5 := Lib.hid (Below.alloc HC_1.out (Below.size HC_1.out) (oCg ⟨zCa, zCa, 0⟩)); have HP_5 := Lib.hid (Below.size HC_1.out); generalize hP5 : v1.heap.size = P5 at HD_5 HP_5 ⊢; generalize v1.alloc (oCg ⟨zCa, zCa, 0⟩) = v5 at HD_5 HC_5 ⊢; clear hP5
          refine hK.out _ _ HC_5.out (fun _ => ?_)
          clear hK K
          (try simp only [Act.put, List.setIfInBounds_toArray, List.set_cons_zero, List.set_cons_succ])
          refine wpAnyH_ready (rs := [7]) (by kernel_rfl) (by simp) ?_
          refine AllReadyH.cons (o := ⟨some 52, Op.call { callee := Callee.value (Operand.func 8), args := #[Operand.tmp 45, Operand.tmp 51], argTypes := #[27, 3] }, 37, _, _, none⟩) rfl (fun K hK => ?_) AllReadyH.nil
          go_simp
          (with_reducible refine (HSd.out _).mono ?_); rintro e v6 ⟨d, AN6, cN6, N, hN, rfl, hOn, hb6⟩; have HC_6 := Lib.hid (below_more HC_5.out hb6 (Below.size HC_5.out)); have HD_6 := Lib.hid (HD_5.out.of hb6 HD_5.out.lt); clear hb6 hOn
          refine hK.out _ _ HC_6.out (fun _ => ?_)
          clear hK K
          (try simp only [Act.put, List.setIfInBounds_toArray, List.set_cons_zero, List.set_cons_succ])
          refine wpAnyH_take (i := 8) (oi := ⟨some 44, Op.move (Operand.tmp 52), 37, _, _, none⟩) (v := ?vab2b118) rfl (by kernel_rfl) (by kernel_rfl) (by kernel_rfl) (fun _ _ _ h => h) (Or.inl ⟨by rfl, ?hab2b118⟩) HC_6.out ?rab2b118
          case hab2b118 => (intro wz hSw; go_simp <;> with_reducible rfl)
          (try simp only [Act.put, List.setIfInBounds_toArray, List.set_cons_zero, List.set_cons_succ])
          refine wpAnyH_take (i := 9) (oi := ⟨some 53, Op.extract (Operand.tmp 44) 0, 27, _, _, none⟩) (v := ?vab2b119) rfl (by kernel_rfl) (by kernel_rfl) (by kernel_rfl) (fun _ _ _ h => h) (Or.inl ⟨by rfl, ?hab2b119⟩) HC_6.out ?rab2b119
          case hab2b119 => (intro wz hSw; go_simp <;> with_reducible rfl)
          (try simp only [Act.put, List.setIfInBounds_toArray, List.set_cons_zero, List.set_cons_succ])
          refine wpAnyH_take (i := 10) (oi := ⟨some 54, Op.extract (Operand.tmp 44) 1, 28, _, _, none⟩) (v := ?vab2b1110) rfl (by kernel_rfl) (by kernel_rfl) (by kernel_rfl) (fun _ _ _ h => h) (Or.inl ⟨by rfl, ?hab2b1110⟩) HC_6.out ?rab2b1110
          case hab2b1110 => (intro wz hSw; go_simp <;> with_reducible rfl)
          (try simp only [Act.put, List.setIfInBounds_toArray, List.set_cons_zero, List.set_cons_succ])
          refine wpAnyH_ready (rs := [12]) (by kernel_rfl) (by simp) ?_
          refine AllReadyH.cons (o := ⟨none, Op.store 27 (Operand.tmp 14) (Operand.tmp 53), 0, _, _, none⟩) rfl (fun K hK => ?_) AllReadyH.nil
          have hyz := cellOf' HD_6.out; have hyl := HD_6.out.lt; have hG := frozOf' HD_6.out
          go_simp
          have HD_7 := Lib.hid (HD_6.out.putG d); have HC_7 := Lib.hid (below_putG HC_6.out HP_5.out d); clear hyz hyl hG
          refine hK.out _ _ HC_7.out (fun _ => ?_)
          clear hK K
          (try simp only [Act.put, List.setIfInBounds_toArray, List.set_cons_zero, List.set_cons_succ])
          refine wpAnyH_take (i := 13) (oi := ⟨some 15, Op.assign (Operand.tmp 54), 28, _, _, none⟩) (v := ?vab2b1113) rfl (by kernel_rfl) (by kernel_rfl) (by kernel_rfl) (fun _ _ _ h => h) (Or.inl ⟨by rfl, ?hab2b1113⟩) HC_7.out ?rab2b1113
          case hab2b1113 => (intro wz hSw; go_simp <;> with_reducible rfl)
          (try simp only [Act.put, List.setIfInBounds_toArray, List.set_cons_zero, List.set_cons_succ])
          refine wpAnyH_done (by kernel_rfl) ?_ _
          refine NoPanic.normal ?_
          have HZf : Hid (Gx (((((((((v6.setCell ⟨P5, 0, none⟩ (.int .i64 d.now.ability)).setCell ⟨P5, 1, none⟩ (.int .i64 d.now.target)).setCell ⟨P5, 2, none⟩ (.int .i64 d.now.since)).setCell ⟨P5, 3, none⟩ (.int .i64 d.now.untl)).setCell ⟨P5, 4, none⟩ (.int .i64 d.next.ability)).setCell ⟨P5, 5, none⟩ (.int .i64 d.next.target)).setCell ⟨P5, 6, none⟩ (.int .i64 d.next.since)).setCell ⟨P5, 7, none⟩ (.int .i64 d.next.untl)).setCell ⟨P5, 8, none⟩ (.int .i64 d.wait)) P5 d) := Lib.hid HD_7.out
          have HSf : Below w8.heap.size w8 (((((((((v6.setCell ⟨P5, 0, none⟩ (.int .i64 d.now.ability)).setCell ⟨P5, 1, none⟩ (.int .i64 d.now.target)).setCell ⟨P5, 2, none⟩ (.int .i64 d.now.since)).setCell ⟨P5, 3, none⟩ (.int .i64 d.now.untl)).setCell ⟨P5, 4, none⟩ (.int .i64 d.next.ability)).setCell ⟨P5, 5, none⟩ (.int .i64 d.next.target)).setCell ⟨P5, 6, none⟩ (.int .i64 d.next.since)).setCell ⟨P5, 7, none⟩ (.int .i64 d.next.untl)).setCell ⟨P5, 8, none⟩ (.int .i64 d.wait)) := HC_7.out
          have HBf := Lib.hid (below_more HB8.out HSf (Below.size HB8.out))
          have HAf := Lib.hid (HA8.out.of HSf HA8.out.lt)
          have HBBf := Lib.hid (HBB8.out.of HSf HBB8.out.lt)
          have HCf := Lib.hid (HCC8.out.of HSf HCC8.out.lt)
          have HRlf := Lib.hid (HRl.out.below HSf (Nat.le_refl _))
          have HRmf := Lib.hid (HRm.out.below HSf (Nat.le_refl _))
          have HRkf := Lib.hid (HRk.out.below HSf (Nat.le_refl _))
          have hDn : d.now = zCa := by have h9 := HDd.out; rw [hN.out] at h9; exact h9
          have hNl : (N.length : Int) ≤ 2 := by have h9 := st_len s dm; rw [hN.out] at h9; have h8 : N.length ≤ 2 := h9; omega
          have hNd : decide ((N.length : Int) ≤ 2) = true := decide_eq_true hNl
          have HNl := Lib.hid hNl
          have HSB := Lib.hid HSf.size
          clear HSf hN hNl
          generalize (((((((((v6.setCell ⟨P5, 0, none⟩ (.int .i64 d.now.ability)).setCell ⟨P5, 1, none⟩ (.int .i64 d.now.target)).setCell ⟨P5, 2, none⟩ (.int .i64 d.now.since)).setCell ⟨P5, 3, none⟩ (.int .i64 d.now.untl)).setCell ⟨P5, 4, none⟩ (.int .i64 d.next.ability)).setCell ⟨P5, 5, none⟩ (.int .i64 d.next.target)).setCell ⟨P5, 6, none⟩ (.int .i64 d.next.since)).setCell ⟨P5, 7, none⟩ (.int .i64 d.next.untl)).setCell ⟨P5, 8, none⟩ (.int .i64 d.wait)) = vf at HZf HBf HAf HBBf HCf HRlf HRmf HRkf HSB ⊢
          obtain ⟨dn, dx, dw⟩ := d
          simp only at hDn
          subst hDn
          generalize w8.heap.size = B8 at HRlf HRmf HRkf HSB
          have zA := cellOf' HAf.out
          have zB := cellOf' HBBf.out
          have zC := cellOf' HCf.out
          have zD := cellOf' HZf.out
          have HO1 : Hid (OW ca (vf.alloc (.cells #[] 25)) vf.heap.size (.slice (some ⟨vf.heap.size, 0, none⟩) 0 0) []) := Lib.hid (OW.room ca vf)
          have HB1 := Lib.hid (below_box vf (.cells #[] 25))
          have HRl1 := Lib.hid (HRlf.out.below HB1.out HSB.out)
          have HSZ : Hid (vf.heap.size ≤ (vf.alloc (.cells #[] 25)).heap.size) := Lib.hid (by simp)
          have e1 : ∀ V, (binOp .eql 27 (cgv c) (cgv c)).run Try.prog V = .ok (.bool true) V := fun V => by rw [eql_cg]; simp
          go_wp2_with (first
            | (at_builtin; refine wpList_appG ca rfl 28 rfl (.tmp 64) (.tmp 65) rfl vf.heap.size B8 (.slice A8 l8.length c8) l8 m A2 c2 m.length rfl rfl rfl HO8.out HRm8.out HL8.out HSZ8.out ?_; intro A9 c9 w9 l9 HLM9 HO9 HS9; have hlk : l9 = k := (by rw [HLM9.out, HLM8.out, HK.out]; rfl); subst hlk; have HB9 := Lib.hid (HBr.out.trans HS9.out); have HRk9 := Lib.hid (HRkf.out.below HB9.out HSB.out); have HR9 := Lib.hid HO9.out.pw.rw'; have HL9 : Hid ((l9.length : Int) ≤ 1000000) := Lib.hid (by have h1 := HL8.out; have h2 := congrArg List.length HLM9.out; rw [List.length_append] at h2; omega); clear zA zB zC zD; have zA := cellOf' (HAf.out.of HB9.out HAf.out.lt); have zC := cellOf' (HCf.out.of HB9.out HCf.out.lt); have zD := cellOf' (HZf.out.of HB9.out HZf.out.lt))
            | (at_builtin; refine wpList_appG ca rfl 28 rfl (.tmp 62) (.tmp 63) rfl vf.heap.size B8 (.slice (some ⟨vf.heap.size, 0, none⟩) 0 0) [] l A1 c1 l.length rfl rfl rfl HO1.out HRl1.out HLl.out HSZ.out ?_; intro A8 c8 wr l8 HLM8 HO8 HS8; have HBr := Lib.hid (HB1.out.trans HS8.out); have HRm8 := Lib.hid (HRmf.out.below HBr.out HSB.out); have HSZ8 := Lib.hid (HBr.out.size); have HL8 : Hid (l8.length + m.length ≤ 1000000) := Lib.hid (by have h1 := HLm.out; have h2 := congrArg List.length HLM8.out; simp only [List.nil_append] at h2; omega))
            | ((with_reducible refine (same_ca w9.heap.size B8 A9 A3 l9.length c9 c3 l9 w9 rfl HR9.out HRk9.out HL9.out).mono ?_); rintro e wa ⟨rfl, hBa⟩; have HBA := Lib.hid (HB9.out.trans (hBa.mono HB9.out.size)); clear hBa zA zC zD; have zA := cellOf' (HAf.out.of HBA.out HAf.out.lt); have zC := cellOf' (HCf.out.of HBA.out HCf.out.lt); have zD := cellOf' (HZf.out.of HBA.out HZf.out.lt))
            | ((with_reducible refine (HSa.out _).mono ?_); rintro e wb ⟨rfl, hBb⟩; have HBC := Lib.hid (HBA.out.trans (hBb.mono HBA.out.size)); clear hBb zA zC zD; have zC := cellOf' (HCf.out.of HBC.out HCf.out.lt))
            | ((with_reducible refine (HSc.out _).mono ?_); rintro e wc ⟨rfl, hBc⟩; have HBD := Lib.hid (HBC.out.trans (hBc.mono HBC.out.size)); clear hBc zC)
            | fail)
          go_ret
          exact ⟨rfl, HBf.out.trans (HBD.out.mono HBf.out.size)⟩
      · go_simp
        have HD_8 : Hid (Gx (v0.alloc (oCg ⟨zCa, zCa, 0⟩)) v0.heap.size ⟨zCa, zCa, 0⟩) := Lib.hid (Gx.new v0 _); have HC_8 := Lib.hid (Below.alloc hS0 (Below.size hS0) (oCg ⟨zCa, zCa, 0⟩)); have HP_8 := Lib.hid (Below.size hS0); generalize hP8 : v0.heap.size = P8 at HD_8 HP_8 ⊢; generalize v0.alloc (oCg ⟨zCa, zCa, 0⟩) = v8 at HD_8 HC_8 ⊢; clear hP8
        refine hK.out _ _ HC_8.out (fun _ => ?_)
        clear hK K
        (try simp only [Act.put, List.setIfInBounds_toArray, List.set_cons_zero, List.set_cons_succ])
        refine wpAnyH_ready (rs := [2]) (by kernel_rfl) (by simp) ?_
        refine AllReadyH.cons (o := ⟨some 47, Op.call { callee := Callee.value (Operand.func 11), args := #[Operand.tmp 46], argTypes := #[27] }, 3, _, _, none⟩) rfl (fun K hK => ?_) AllReadyH.nil
        go_simp
        (with_reducible refine (HDn.out _).mono ?_); rintro e v9 ⟨rfl, hb9⟩; have HC_9 := Lib.hid (below_more HC_8.out hb9 (Below.size HC_8.out)); have HD_9 := Lib.hid (HD_8.out.of hb9 HD_8.out.lt); clear hb9
        refine hK.out _ _ HC_9.out (fun _ => ?_)
        clear hK K
        (try simp only [Act.put, List.setIfInBounds_toArray, List.set_cons_zero, List.set_cons_succ])
        refine wpAnyH_take (i := 6) (oi := ⟨some 51, Op.call { callee := Callee.builtin Builtin.max, args := #[Operand.tmp 47, Operand.tmp 50], argTypes := #[3, 3] }, 3, _, _, none⟩) (v := .int .i64 dm) rfl (by kernel_rfl) (by kernel_rfl) (by kernel_rfl) (fun _ _ _ h => h) (Or.inl ⟨by rfl, ?hab116⟩) HC_9.out ?rab116
        case hab116 => (intro wz hSw; apply exec_max (l := .tmp 47) (r := .tmp 50) (hm := HDm.out) <;> first | rfl | exact rfl)
        (try simp only [Act.put, List.setIfInBounds_toArray, List.set_cons_zero, List.set_cons_succ])
        refine wpAnyH_ready (rs := [7]) (by kernel_rfl) (by simp) ?_
        refine AllReadyH.cons (o := ⟨some 52, Op.call { callee := Callee.value (Operand.func 8), args := #[Operand.tmp 45, Operand.tmp 51], argTypes := #[27, 3] }, 37, _, _, none⟩) rfl (fun K hK => ?_) AllReadyH.nil
        go_simp
        (with_reducible refine (HSd.out _).mono ?_); rintro e v10 ⟨d, AN10, cN10, N, hN, rfl, hOn, hb10⟩; have HC_10 := Lib.hid (below_more HC_9.out hb10 (Below.size HC_9.out)); have HD_10 := Lib.hid (HD_9.out.of hb10 HD_9.out.lt); clear hb10 hOn
        refine hK.out _ _ HC_10.out (fun _ => ?_)
        clear hK K
        (try simp only [Act.put, List.setIfInBounds_toArray, List.set_cons_zero, List.set_cons_succ])
        refine wpAnyH_take (i := 8) (oi := ⟨some 44, Op.move (Operand.tmp 52), 37, _, _, none⟩) (v := ?vab118) rfl (by kernel_rfl) (by kernel_rfl) (by kernel_rfl) (fun _ _ _ h => h) (Or.inl ⟨by rfl, ?hab118⟩) HC_10.out ?rab118
        case hab118 => (intro wz hSw; go_simp <;> with_reducible rfl)
        (try simp only [Act.put, List.setIfInBounds_toArray, List.set_cons_zero, List.set_cons_succ])
        refine wpAnyH_take (i := 9) (oi := ⟨some 53, Op.extract (Operand.tmp 44) 0, 27, _, _, none⟩) (v := ?vab119) rfl (by kernel_rfl) (by kernel_rfl) (by kernel_rfl) (fun _ _ _ h => h) (Or.inl ⟨by rfl, ?hab119⟩) HC_10.out ?rab119
        case hab119 => (intro wz hSw; go_simp <;> with_reducible rfl)
        (try simp only [Act.put, List.setIfInBounds_toArray, List.set_cons_zero, List.set_cons_succ])
        refine wpAnyH_take (i := 10) (oi := ⟨some 54, Op.extract (Operand.tmp 44) 1, 28, _, _, none⟩) (v := ?vab1110) rfl (by kernel_rfl) (by kernel_rfl) (by kernel_rfl) (fun _ _ _ h => h) (Or.inl ⟨by rfl, ?hab1110⟩) HC_10.out ?rab1110
        case hab1110 => (intro wz hSw; go_simp <;> with_reducible rfl)
        (try simp only [Act.put, List.setIfInBounds_toArray, List.set_cons_zero, List.set_cons_succ])
        refine wpAnyH_ready (rs := [12]) (by kernel_rfl) (by simp) ?_
        refine AllReadyH.cons (o := ⟨none, Op.store 27 (Operand.tmp 14) (Operand.tmp 53), 0, _, _, none⟩) rfl (fun K hK => ?_) AllReadyH.nil
        have hyz := cellOf' HD_10.out; have hyl := HD_10.out.lt; have hG := frozOf' HD_10.out
        go_simp
        have HD_11 := Lib.hid (HD_10.out.putG d); have HC_11 := Lib.hid (below_putG HC_10.out HP_8.out d); clear hyz hyl hG
        refine hK.out _ _ HC_11.out (fun _ => ?_)
        clear hK K
        (try simp only [Act.put, List.setIfInBounds_toArray, List.set_cons_zero, List.set_cons_succ])
        refine wpAnyH_take (i := 13) (oi := ⟨some 15, Op.assign (Operand.tmp 54), 28, _, _, none⟩) (v := ?vab1113) rfl (by kernel_rfl) (by kernel_rfl) (by kernel_rfl) (fun _ _ _ h => h) (Or.inl ⟨by rfl, ?hab1113⟩) HC_11.out ?rab1113
        case hab1113 => (intro wz hSw; go_simp <;> with_reducible rfl)
        (try simp only [Act.put, List.setIfInBounds_toArray, List.set_cons_zero, List.set_cons_succ])
        refine wpAnyH_done (by kernel_rfl) ?_ _
        refine NoPanic.normal ?_
        have HZf : Hid (Gx (((((((((v10.setCell ⟨P8, 0, none⟩ (.int .i64 d.now.ability)).setCell ⟨P8, 1, none⟩ (.int .i64 d.now.target)).setCell ⟨P8, 2, none⟩ (.int .i64 d.now.since)).setCell ⟨P8, 3, none⟩ (.int .i64 d.now.untl)).setCell ⟨P8, 4, none⟩ (.int .i64 d.next.ability)).setCell ⟨P8, 5, none⟩ (.int .i64 d.next.target)).setCell ⟨P8, 6, none⟩ (.int .i64 d.next.since)).setCell ⟨P8, 7, none⟩ (.int .i64 d.next.untl)).setCell ⟨P8, 8, none⟩ (.int .i64 d.wait)) P8 d) := Lib.hid HD_11.out
        have HSf : Below w8.heap.size w8 (((((((((v10.setCell ⟨P8, 0, none⟩ (.int .i64 d.now.ability)).setCell ⟨P8, 1, none⟩ (.int .i64 d.now.target)).setCell ⟨P8, 2, none⟩ (.int .i64 d.now.since)).setCell ⟨P8, 3, none⟩ (.int .i64 d.now.untl)).setCell ⟨P8, 4, none⟩ (.int .i64 d.next.ability)).setCell ⟨P8, 5, none⟩ (.int .i64 d.next.target)).setCell ⟨P8, 6, none⟩ (.int .i64 d.next.since)).setCell ⟨P8, 7, none⟩ (.int .i64 d.next.untl)).setCell ⟨P8, 8, none⟩ (.int .i64 d.wait)) := HC_11.out
        have HBf := Lib.hid (below_more HB8.out HSf (Below.size HB8.out))
        have HAf := Lib.hid (HA8.out.of HSf HA8.out.lt)
        have HBBf := Lib.hid (HBB8.out.of HSf HBB8.out.lt)
        have HCf := Lib.hid (HCC8.out.of HSf HCC8.out.lt)
        have HRlf := Lib.hid (HRl.out.below HSf (Nat.le_refl _))
        have HRmf := Lib.hid (HRm.out.below HSf (Nat.le_refl _))
        have HRkf := Lib.hid (HRk.out.below HSf (Nat.le_refl _))
        have hDn : d.now = zCa := by have h9 := HDd.out; rw [hN.out] at h9; exact h9
        have hNl : (N.length : Int) ≤ 2 := by have h9 := st_len s dm; rw [hN.out] at h9; have h8 : N.length ≤ 2 := h9; omega
        have hNd : decide ((N.length : Int) ≤ 2) = true := decide_eq_true hNl
        have HNl := Lib.hid hNl
        have HSB := Lib.hid HSf.size
        clear HSf hN hNl
        generalize (((((((((v10.setCell ⟨P8, 0, none⟩ (.int .i64 d.now.ability)).setCell ⟨P8, 1, none⟩ (.int .i64 d.now.target)).setCell ⟨P8, 2, none⟩ (.int .i64 d.now.since)).setCell ⟨P8, 3, none⟩ (.int .i64 d.now.untl)).setCell ⟨P8, 4, none⟩ (.int .i64 d.next.ability)).setCell ⟨P8, 5, none⟩ (.int .i64 d.next.target)).setCell ⟨P8, 6, none⟩ (.int .i64 d.next.since)).setCell ⟨P8, 7, none⟩ (.int .i64 d.next.untl)).setCell ⟨P8, 8, none⟩ (.int .i64 d.wait)) = vf at HZf HBf HAf HBBf HCf HRlf HRmf HRkf HSB ⊢
        obtain ⟨dn, dx, dw⟩ := d
        simp only at hDn
        subst hDn
        generalize w8.heap.size = B8 at HRlf HRmf HRkf HSB
        have zA := cellOf' HAf.out
        have zB := cellOf' HBBf.out
        have zC := cellOf' HCf.out
        have zD := cellOf' HZf.out
        have HO1 : Hid (OW ca (vf.alloc (.cells #[] 25)) vf.heap.size (.slice (some ⟨vf.heap.size, 0, none⟩) 0 0) []) := Lib.hid (OW.room ca vf)
        have HB1 := Lib.hid (below_box vf (.cells #[] 25))
        have HRl1 := Lib.hid (HRlf.out.below HB1.out HSB.out)
        have HSZ : Hid (vf.heap.size ≤ (vf.alloc (.cells #[] 25)).heap.size) := Lib.hid (by simp)
        have e1 : ∀ V, (binOp .eql 27 (cgv c) (cgv c)).run Try.prog V = .ok (.bool true) V := fun V => by rw [eql_cg]; simp
        go_wp2_with (first
          | (at_builtin; refine wpList_appG ca rfl 28 rfl (.tmp 64) (.tmp 65) rfl vf.heap.size B8 (.slice A8 l8.length c8) l8 m A2 c2 m.length rfl rfl rfl HO8.out HRm8.out HL8.out HSZ8.out ?_; intro A9 c9 w9 l9 HLM9 HO9 HS9; have hlk : l9 = k := (by rw [HLM9.out, HLM8.out, HK.out]; rfl); subst hlk; have HB9 := Lib.hid (HBr.out.trans HS9.out); have HRk9 := Lib.hid (HRkf.out.below HB9.out HSB.out); have HR9 := Lib.hid HO9.out.pw.rw'; have HL9 : Hid ((l9.length : Int) ≤ 1000000) := Lib.hid (by have h1 := HL8.out; have h2 := congrArg List.length HLM9.out; rw [List.length_append] at h2; omega); clear zA zB zC zD; have zA := cellOf' (HAf.out.of HB9.out HAf.out.lt); have zC := cellOf' (HCf.out.of HB9.out HCf.out.lt); have zD := cellOf' (HZf.out.of HB9.out HZf.out.lt))
          | (at_builtin; refine wpList_appG ca rfl 28 rfl (.tmp 62) (.tmp 63) rfl vf.heap.size B8 (.slice (some ⟨vf.heap.size, 0, none⟩) 0 0) [] l A1 c1 l.length rfl rfl rfl HO1.out HRl1.out HLl.out HSZ.out ?_; intro A8 c8 wr l8 HLM8 HO8 HS8; have HBr := Lib.hid (HB1.out.trans HS8.out); have HRm8 := Lib.hid (HRmf.out.below HBr.out HSB.out); have HSZ8 := Lib.hid (HBr.out.size); have HL8 : Hid (l8.length + m.length ≤ 1000000) := Lib.hid (by have h1 := HLm.out; have h2 := congrArg List.length HLM8.out; simp only [List.nil_append] at h2; omega))
          | ((with_reducible refine (same_ca w9.heap.size B8 A9 A3 l9.length c9 c3 l9 w9 rfl HR9.out HRk9.out HL9.out).mono ?_); rintro e wa ⟨rfl, hBa⟩; have HBA := Lib.hid (HB9.out.trans (hBa.mono HB9.out.size)); clear hBa zA zC zD; have zA := cellOf' (HAf.out.of HBA.out HAf.out.lt); have zC := cellOf' (HCf.out.of HBA.out HCf.out.lt); have zD := cellOf' (HZf.out.of HBA.out HZf.out.lt))
          | ((with_reducible refine (HSa.out _).mono ?_); rintro e wb ⟨rfl, hBb⟩; have HBC := Lib.hid (HBA.out.trans (hBb.mono HBA.out.size)); clear hBb zA zC zD; have zC := cellOf' (HCf.out.of HBC.out HCf.out.lt))
          | ((with_reducible refine (HSc.out _).mono ?_); rintro e wc ⟨rfl, hBc⟩; have HBD := Lib.hid (HBC.out.trans (hBc.mono HBC.out.size)); clear hBc zC)
          | fail)
        go_ret
        exact ⟨rfl, HBf.out.trans (HBD.out.mono HBf.out.size)⟩


set_option maxRecDepth 100000 in
theorem lifted (os : Os) (started : os.Started) (H : Type) (enc : TypeId × Value → H) :
    ReturnsInHanded {} Try.checked os 4 .any (Rows.castWaitsSpec.pre6 enc Try.prog Try.f4 Rows.castWaitsRow.domain false) (Rows.castWaitsSpec.post enc Try.prog Try.f4 false true false false) := by
  refine returnsInHanded_of_change (C := Try.checked) own started (by kernel_rfl) Try.func4
    (ChangeSpec.witness6 (enc := enc) (C := Try.checked) false ⟨#[], #[.agg #[.int .i64 0, .int .i64 0, .int .i64 0, .int .i64 0, .int .i64 0, .int .i64 0, .int .i64 0, .int .i64 0, .int .i64 0], .int .i64 0, .int .i64 0], []⟩ 8 (by kernel_rfl) (by kernel_rfl) (by kernel_rfl) (by kernel_rfl)) ?_
  intro W base args ds gs before hval0 hW hcnd _
  have hval : ∀ (j : Nat) t v, Try.f4.params[j]? = some t → args[j]? = some v → Value.okWide Try.prog W .any base t v := hval0
  have hW' := hW
  obtain ⟨p, q, hA0, hV, rfl, hfz, hnd⟩ := hW
  have hA : DataW.TrodAll enc Try.prog W 0 (fun _ => true) true Try.f4.params.toList args.toList ds p := hA0
  rw [Try.params4] at hA hval
  obtain ⟨v0, vs0, d0, ds0, p0, q0, hargs, rfl, rfl, h0, r0⟩ := trodAll_cons hA
  obtain ⟨v1, vs1, d1, ds1, p1, q1, rfl, rfl, rfl, h1, r1⟩ := trodAll_cons r0
  obtain ⟨v2, vs2, d2, ds2, p2, q2, rfl, rfl, rfl, h2, r2⟩ := trodAll_cons r1
  obtain ⟨rfl, rfl, rfl⟩ := trodAll_nil r2
  obtain rfl : args = #[v0, v1, v2] := by cases args; simp_all
  obtain ⟨rfl, rfl⟩ := trodVars_none hV
  clear hA0 hval0
  have hlt0 : ∀ x ∈ p0, x.block < W.heap.size := fun x hx => hW'.lt x (by simp [hx])
  have hk0 := h0
  obtain ⟨a0, rfl, hf0⟩ := Opn.viewG (hval 0 27 v0 rfl rfl) h0
  obtain ⟨a1, rfl, rfl, rfl, w1⟩ := open_int Try.underlying3 (hval 1 3 v1 rfl rfl) h1
  obtain ⟨a2, rfl, rfl, rfl, w2⟩ := open_int Try.underlying3 (hval 2 3 v2 rfl rfl) h2
  simp only [List.append_nil] at hW'
  refine (walk W a0 hf0 a1 (Kop.fits_of w1) a2 (Kop.fits_of w2)).mono fun e W' ⟨he, hg⟩ => ?_
  subst he
  exact ⟨_, rfl, _, _, _, [], _, [], hW', (trodAll_cons_mk (shut_bool Try.underlying4 _) trodAll_mk0), (trodAll_cons_mk (Below.trod Kop.laidOut (by kernel_rfl) (of_decide_eq_true (by kernel_rfl)) hk0 hg hlt0) (trodAll_cons_mk (shut_int Try.underlying3 w1) (trodAll_cons_mk (shut_int Try.underlying3 w2) trodAll_mk0))), rfl, hg.frame _, fun h => by cases h⟩

theorem over : Rows.castWaitsRow.holds Try.pinned (OpenSpec.ofChange Rows.castWaitsSpec) :=
  OpenClaim.holds_of_wide 4 Try.f4 rfl rfl rfl rfl rfl rfl rfl ⟨rfl, rfl, rfl, rfl, rfl⟩ rfl rfl rfl rfl rfl (by kernel_rfl) Try.func4 (by kernel_rfl)
    (of_decide_eq_true (by kernel_rfl)) (by unfold Func.isWrapper; first | (rw [if_pos (by decide +kernel)]; kernel_rfl) | (rw [if_neg (by decide +kernel)]; exact ⟨rfl, rfl⟩))
    (fun os started H enc _ => lifted os started H enc)

/-- The given statement. -/
theorem proved : Rows.CastWaitsSaid :=
  over
#print axioms proved
end Go.Proofs.Ytmhnkjjcipcjlaa.castWaits
