/-
  CastOnce: through any steps at rising times of Begin, Step and Stop a right Casting stays right, each cast that begins is done once, at the first Step from its end on, in the order in which it began, and between the beginnings of two casts are three ticks at least; the law answers true for every row of steps and leaves it as it was.
-/
import Derived.Test.YtmhnkjjcipcjlaaOnc
import Derived.Test.YtmhnkjjcipcjlaaFrl
import Derived.WalkKit
import Derived.ProofKit
import Derived.OpenShut
namespace Go.Proofs.Ytmhnkjjcipcjlaa.castOnce
open Go.ChangeShapes Go.WideShapes Go.ChangeAt Go.RowKit Con
set_option linter.unusedVariables false

theorem own : ownKnob Try.prog.godebug = none := by kernel_rfl

set_option maxRecDepth 100000 in
set_option maxHeartbeats 8000000 in
theorem walk (w : World) (A0 : Option Addr) (c0 : Nat) (l : List Q3) (hr0 : RW q3 w w.heap.size A0 l) (hf0 : ∀ s ∈ l, FQ3 s) :
    Calls Try.prog 3 #[.slice A0 l.length c0] w fun e w' => e = .returned (.bool true) ∧ Below w.heap.size w w' := by
  have HSmall := Lib.hid (fun V => small_any V)
  have HR := Lib.hid hr0
  clear hr0 hf0
  obtain ⟨K, hK⟩ : ∃ n, l.length = n := ⟨_, rfl⟩
  have HK := Lib.hid hK
  rw [hK]
  clear hK
  by_cases g1 : 200 < (K : Int)
  · go_enter Try.func3, Try.ntmps3
    go_wp2_with ((with_reducible refine (HSmall.out _).mono ?_); rintro e w1 ⟨rfl, hB1⟩)
    go_ret
    exact ⟨rfl, hB1⟩
  have d1 : decide (200 < (K : Int)) = false := decide_eq_false g1
  have HK200 : Hid (K ≤ 200) := Lib.hid (by omega)
  have hK200 : (K : Int) ≤ 200 := by omega
  clear g1
  go_enter Try.func3, Try.ntmps3
  go_wp2_with ((with_reducible refine (HSmall.out _).mono ?_); rintro e w1 ⟨rfl, hB1⟩; have HW1 := Lib.hid hB1; clear hB1)
  have HOk0 := Lib.hid (Ok.start w1)
  generalize w1.alloc (oCg ⟨zCa, zCa, 0⟩) = wb at *
  refine wp_loop_ghost_k (fun gh a' wr => ∃ (k : Nat) (A : Option Addr) (c : Nat) (M D : List Ca) (S : Cg) (τ : Int) (s2 s5 s6 s7 s8 : Value) (l : List Value), a' = ⟨(.slice A0 K c0 :: undef :: s2 :: .bool true :: .pointer (some ⟨w1.heap.size, 0, none⟩) :: s5 :: s6 :: s7 :: s8 :: l).toArray, []⟩ ∧ l.length = 236 ∧ k ≤ K ∧ gh = K - k ∧ s8 = .int .i64 k ∧ s7 = .int .i64 τ ∧ s6 = .int .i64 (D.length : Nat) ∧ s5 = .slice A M.length c ∧ Hid (Ok w1 wr k A c M D S τ)) K ?atStart ?round
  case atStart => exact ⟨0, none, 0, [], [], ⟨zCa, zCa, 0⟩, 0, _, _, _, _, _, _, rfl, by kernel_rfl, by omega, rfl, rfl, rfl, rfl, rfl, HOk0⟩
  case round =>
    rintro gk _ wr ⟨k, A, c, M, D, S, τ, u2, u5, u6, u7, u8, lt, rfl, hlt, hk, rfl, rfl, rfl, rfl, rfl, HOk⟩ J KK hJ hKK
    revert lt
    refine Tail.elim (n := 236) ?_
    intro u9 u10 u11 u12 u13 u14 u15 u16 u17 u18 u19 u20 u21 u22 u23 u24 u25 u26 u27 u28 u29 u30 u31 u32 u33 u34 u35 u36 u37 u38 u39 u40 u41 u42 u43 u44 u45 u46 u47 u48 u49 u50 u51 u52 u53 u54 u55 u56 u57 u58 u59 u60 u61 u62 u63 u64 u65 u66 u67 u68 u69 u70 u71 u72 u73 u74 u75 u76 u77 u78 u79 u80 u81 u82 u83 u84 u85 u86 u87 u88 u89 u90 u91 u92 u93 u94 u95 u96 u97 u98 u99 u100 u101 u102 u103 u104 u105 u106 u107 u108 u109 u110 u111 u112 u113 u114 u115 u116 u117 u118 u119 u120 u121 u122 u123 u124 u125 u126 u127 u128 u129 u130 u131 u132 u133 u134 u135 u136 u137 u138 u139 u140 u141 u142 u143 u144 u145 u146 u147 u148 u149 u150 u151 u152 u153 u154 u155 u156 u157 u158 u159 u160 u161 u162 u163 u164 u165 u166 u167 u168 u169 u170 u171 u172 u173 u174 u175 u176 u177 u178 u179 u180 u181 u182 u183 u184 u185 u186 u187 u188 u189 u190 u191 u192 u193 u194 u195 u196 u197 u198 u199 u200 u201 u202 u203 u204 u205 u206 u207 u208 u209 u210 u211 u212 u213 u214 u215 u216 u217 u218 u219 u220 u221 u222 u223 u224 u225 u226 u227 u228 u229 u230 u231 u232 u233 u234 u235 u236 u237 u238 u239 u240 u241 u242 u243 u244
    change Code.wp _ _ _ _ _
    by_cases hlt : k < K
    · have hlt' : (k : Int) < K := by omega
      obtain ⟨x, hx⟩ : ∃ x, l[k]? = some x := ⟨_, List.getElem?_eq_getElem (by rw [HK.out]; exact hlt)⟩
      have HWr := Lib.hid (HW1.out.trans (HOk.out.low.mono HW1.out.size))
      obtain ⟨b, off, hA2, hpl, hcq⟩ := (HR.out.below HWr.out (Nat.le_refl _)).at' hx
      obtain ⟨e0, e1, e2⟩ := cellsQ3 (o := off + k * 3) hcq
      subst hA2
      clear hx hcq hpl
      obtain ⟨x0, x1, x2⟩ := x
      simp only at e0 e1 e2
      obtain ⟨j, hj, hj3⟩ := and_le x0 3 (by omega)
      obtain ⟨d, hd, hd3⟩ := and_le x1 3 (by omega)
      have hd' : bits BinOp.and IntKind.i64 x1 3 = (d : Int) := hd
      have hτ0 : 0 ≤ τ := HOk.out.once.t0
      have hτ1 : τ ≤ 3 * (k : Int) := HOk.out.tk
      obtain ⟨t2, ht2⟩ : ∃ t2, τ + (d : Int) = t2 := ⟨_, rfl⟩
      have htw : IntKind.i64.wrap (τ + (d : Int)) = t2 := by rw [IntWalk.i64_in _ (by omega)]; exact ht2
      have htw2 : wrap64 (τ + (d : Int)) = t2 := by rw [IntWalk.wrap64_in _ (by omega)]; exact ht2
      have HOk2 := Lib.hid (HOk.out.later (u := t2) (by omega) (by omega))
      have HT0 : Hid (0 ≤ t2) := Lib.hid (by omega)
      have HT6 : Hid (t2 ≤ 1000000) := Lib.hid (by omega)
      have HFt : Hid (Fits t2) := Lib.hid ⟨by omega, by omega⟩
      have HK1 : Hid (k + 1 ≤ 200) := Lib.hid (by have := HK200.out; omega)
      have HML : Hid (M.length ≤ k) := Lib.hid HOk.out.ml
      clear hd HOk hτ0 hτ1 ht2
      have hj' : bits BinOp.and IntKind.i64 x0 3 = (j : Int) := hj
      clear hj
      go_upto_if 46 with fail
      refine wp_cut (fun a' wc => ∃ (s2 : Value) (l : List Value), a' = ⟨(.slice (some ⟨b, off, none⟩) K c0 :: undef :: s2 :: .bool true :: .pointer (some ⟨w1.heap.size, 0, none⟩) :: .slice A M.length c :: .int .i64 (D.length : Nat) :: .int .i64 t2 :: .int .i64 k :: l).toArray, []⟩ ∧ l.length = 236 ∧ l[36]? = some (.int .i64 j) ∧ l[37]? = some (.bool (decide (j ≤ 1))) ∧ wc = wr) ?rest ?first
      case first =>
        intro J4 K4 hJ4 hK4
        rcases (by omega : j = 0 ∨ j = 1 ∨ j = 2 ∨ j = 3) with rfl | rfl | rfl | rfl
        all_goals go_wp2
        all_goals (refine Met.intro ?_; go_step; exact ⟨_, _, rfl, by kernel_rfl, rfl, rfl, rfl⟩)
      case rest =>
        rintro _ wc ⟨v2, lt, rfl, hlt, h45, h46, hwc⟩
        have hwc2 := hwc.symm
        clear hwc
        subst hwc2
        revert lt
        refine Tail.elim (n := 236) ?_
        intro v9 v10 v11 v12 v13 v14 v15 v16 v17 v18 v19 v20 v21 v22 v23 v24 v25 v26 v27 v28 v29 v30 v31 v32 v33 v34 v35 v36 v37 v38 v39 v40 v41 v42 v43 v44 v45 v46 v47 v48 v49 v50 v51 v52 v53 v54 v55 v56 v57 v58 v59 v60 v61 v62 v63 v64 v65 v66 v67 v68 v69 v70 v71 v72 v73 v74 v75 v76 v77 v78 v79 v80 v81 v82 v83 v84 v85 v86 v87 v88 v89 v90 v91 v92 v93 v94 v95 v96 v97 v98 v99 v100 v101 v102 v103 v104 v105 v106 v107 v108 v109 v110 v111 v112 v113 v114 v115 v116 v117 v118 v119 v120 v121 v122 v123 v124 v125 v126 v127 v128 v129 v130 v131 v132 v133 v134 v135 v136 v137 v138 v139 v140 v141 v142 v143 v144 v145 v146 v147 v148 v149 v150 v151 v152 v153 v154 v155 v156 v157 v158 v159 v160 v161 v162 v163 v164 v165 v166 v167 v168 v169 v170 v171 v172 v173 v174 v175 v176 v177 v178 v179 v180 v181 v182 v183 v184 v185 v186 v187 v188 v189 v190 v191 v192 v193 v194 v195 v196 v197 v198 v199 v200 v201 v202 v203 v204 v205 v206 v207 v208 v209 v210 v211 v212 v213 v214 v215 v216 v217 v218 v219 v220 v221 v222 v223 v224 v225 v226 v227 v228 v229 v230 v231 v232 v233 v234 v235 v236 v237 v238 v239 v240 v241 v242 v243 v244
        change _ = _ → _ = _ → _
        intro h45 h46
        have h45' := tail_at h45 (u := v45) rfl
        have h46' := tail_at h46 (u := v46) rfl
        clear h45 h46
        subst h45'; subst h46'
        rcases (by omega : j ≤ 1 ∨ j = 2 ∨ j = 3) with hj1 | rfl | rfl
        · have hjd : decide (j ≤ 1) = true := decide_eq_true hj1
          rw [hjd]
          clear hj1 hjd hj'
          obtain ⟨y, hy, hy15⟩ := and_le x2 15 (by omega)
          have hy' : bits BinOp.and IntKind.i64 x2 15 = (y : Int) := hy
          have hkw : IntKind.i64.wrap ((k : Int) + 1) = (k : Int) + 1 := IntWalk.i64_in _ (by omega)
          have hyi : (y : Int) ≤ 15 := by omega
          have HFk : Hid (Fits ((k : Int) + 1)) := Lib.hid ⟨by omega, by omega⟩
          have HFy : Hid (Fits (y : Int)) := Lib.hid ⟨by omega, by omega⟩
          have HFi : Hid (Fits (k : Int)) := Lib.hid ⟨by omega, by omega⟩
          have HOkA := Lib.hid (HOk2.out.of (below_box wr (oAb ((k : Int) + 1) y)))
          have HQ : Hid ((wr.alloc (oAb ((k : Int) + 1) y)).heap[wr.heap.size]? = some (oAb ((k : Int) + 1) y)) := Lib.hid (heap_alloc_new wr _)
          have HQP : Hid (w1.heap.size < wr.heap.size) := Lib.hid HOk2.out.box.lt
          obtain ⟨z0, z1, z2, z3, z4, z5, z6, z7, z8⟩ := HOkA.out.box.at
          have a0 := cellOf' HQ.out
          have HBe := Lib.hid (fun V => pbegin_any S HOk2.out.once.rt HOk2.out.fs ((k : Int) + 1) y k t2 (by omega) (by omega) HFy.out HFt.out V)
          clear hy
          cases hbe : beG S ((k : Int) + 1) y k t2 with
          | none =>
            have HNf := Lib.hid (be_busy HT0.out HT6.out hbe)
            have HBe : Hid (∀ V, Calls Try.prog 6 #[cgv S, abv ((k : Int) + 1) y, .int .i64 k, .int .i64 t2] V fun e w' => e = .returned (.tuple #[cgv ⟨zCa, zCa, 0⟩, .int .i64 7]) ∧ Below V.heap.size V w') := Lib.hid (fun V => by have := HBe.out V; rewrite [hbe] at this; exact this)
            have HFr : Hid (∀ V, Calls Try.prog 7 #[cgv S, .int .i64 t2] V fun e w' => e = .returned (.bool false) ∧ Below V.heap.size V w') := Lib.hid (fun V => by
              have h := pfree_any S t2 V
              have e : (decide (S.now.ability = 0) && decide (S.wait ≤ t2)) = false := by
                rw [Bool.eq_false_iff]
                intro g
                rw [Bool.and_eq_true, decide_eq_true_eq, decide_eq_true_eq] at g
                exact HNf.out g
              rewrite [e] at h; exact h)
            clear hbe
            go_wp2_with (fail)
            generalize wr.alloc (oAb ((k : Int) + 1) y) = wA at *
            (with_reducible refine (HBe.out _).mono ?_); rintro e w2 ⟨rfl, hB2⟩
            have HOkB := Lib.hid (HOkA.out.of hB2)
            have HOkC := Lib.hid (HOkB.out.of (below_box w2 (oCg ⟨zCa, zCa, 0⟩)))
            clear hB2 z0 z1 z2 z3 z4 z5 z6 z7 z8 a0
            obtain ⟨z0, z1, z2, z3, z4, z5, z6, z7, z8⟩ := HOkC.out.box.at
            go_wp2_with (fail)
            generalize w2.alloc (oCg ⟨zCa, zCa, 0⟩) = wC at *
            (with_reducible refine (HFr.out _).mono ?_); rintro e w3 ⟨rfl, hB3⟩
            have HOkD := Lib.hid (HOkC.out.of hB3)
            clear hB3 z0 z1 z2 z3 z4 z5 z6 z7 z8
            go_wp2
            refine Handed.intro (K - (k + 1)) (by omega) ?_
            go_step
            exact ⟨k + 1, A, c, M, D, S, t2, _, _, _, _, _, _, rfl, by kernel_rfl, by omega, rfl, by go_num, rfl, rfl, rfl, HOkD⟩
          | some u =>
            obtain ⟨f, g, q1, q2, q3, q4, q5, q6, q7, q8, q9, q10⟩ := HOk2.out.beg HK1.out (by omega) (by omega) (by omega) HFk.out HFi.out hbe
            have HQ6 := Lib.hid q6; have HQ7 := Lib.hid q7; have HQ8 := Lib.hid q8; have HQ9 := Lib.hid q9; have HQ10 := Lib.hid q10
            have HBe : Hid (∀ V, Calls Try.prog 6 #[cgv S, abv ((k : Int) + 1) y, .int .i64 k, .int .i64 t2] V fun e w' => e = .returned (.tuple #[cgv u, .int .i64 0]) ∧ Below V.heap.size V w') := Lib.hid (fun V => by have := HBe.out V; rewrite [hbe] at this; exact this)
            clear hbe q6 q7 q8 q9 q10
            have hgf : IntKind.i64.wrap (g - f) = (y : Int) := by rw [q2]; exact IntWalk.i64_in _ (by omega)
            have hgf2 : wrap64 (g - f) = (y : Int) := by rw [q2]; exact IntWalk.wrap64_in _ (by omega)
            have hw2 : IntKind.i64.wrap (t2 + 2) = t2 + 2 := IntWalk.i64_in _ (by have := HT0.out; have := HT6.out; omega)
            have hd2 : decide (t2 + 2 < f) = false := by simp; omega
            have HQ4 := Lib.hid q4; have HQ5 := Lib.hid q5; have HQ2 := Lib.hid q2
            clear q2 q4 q5
            go_wp2_with (fail)
            generalize wr.alloc (oAb ((k : Int) + 1) y) = wA at *
            (with_reducible refine (HBe.out _).mono ?_); rintro e w2 ⟨rfl, hB2⟩
            have HOkB := Lib.hid (HOkA.out.of hB2)
            have HQ2' := Lib.hid ((hB2.block _ (lt_of_block HQ.out)).trans HQ.out)
            clear hB2 z0 z1 z2 z3 z4 z5 z6 z7 z8 a0
            have HQL := Lib.hid (lt_of_block HQ2'.out)
            have HOkC := Lib.hid (HOkB.out.of (below_box w2 (oCg u)))
            have HQ3' := Lib.hid (((below_box w2 (oCg u)).block _ HQL.out).trans HQ2'.out)
            have HU : Hid (Gx (w2.alloc (oCg u)) w2.heap.size u) := Lib.hid (Gx.new w2 u)
            have HOkD := Lib.hid (HOkC.out.of (below_box (w2.alloc (oCg u)) (oCa u.now)))
            have HUD := Lib.hid (HU.out.alloc (oCa u.now))
            have HQD := Lib.hid (((below_box (w2.alloc (oCg u)) (oCa u.now)).block _ (lt_of_block HQ3'.out)).trans HQ3'.out)
            have HC12 : Hid (Cx ((w2.alloc (oCg u)).alloc (oCa u.now)) (w2.heap.size + 1) u.now) := Lib.hid (by have := Cx.new (w2.alloc (oCg u)) u.now; simpa using this)
            clear HQ3' HOkC HU
            have u0 := cellOf' HUD.out
            obtain ⟨z0, z1, z2, z3, z4, z5, z6, z7, z8⟩ := HOkD.out.box.at
            cases hn : decide (S.now.ability = 0) with
            | true =>
              have q1 : u.now = ⟨(k : Int) + 1, k, f, g⟩ := by rw [← q1, if_pos (by simpa using hn)]
              have hq3 : decide (f < t2) = false := by have := q3 (by simpa using hn); simp; omega
              have hne : (S.now.ability != 0) = false := by simpa using hn
              have heq : (S.now.ability == 0) = true := by simpa using hn
              obtain ⟨un, ux, uw⟩ := u
              simp only at q1
              subst q1
              clear q3
              have c0 := cellOf' HC12.out
              have a0 := cellOf' HQD.out
              have HBw : Hid (Below w2.heap.size w2 ((w2.alloc (oCg ⟨⟨(k : Int) + 1, k, f, g⟩, ux, uw⟩)).alloc (oCa ⟨(k : Int) + 1, k, f, g⟩))) := Lib.hid ((below_box w2 (oCg ⟨⟨(k : Int) + 1, k, f, g⟩, ux, uw⟩)).alloc (by simp) (oCa ⟨(k : Int) + 1, k, f, g⟩))
              have HOkE := Lib.hid (HOkB.out.of HBw.out)
              have HUE : Hid (Gx ((w2.alloc (oCg ⟨⟨(k : Int) + 1, k, f, g⟩, ux, uw⟩)).alloc (oCa ⟨(k : Int) + 1, k, f, g⟩)) w2.heap.size ⟨⟨(k : Int) + 1, k, f, g⟩, ux, uw⟩) := Lib.hid ((Gx.new w2 ⟨⟨(k : Int) + 1, k, f, g⟩, ux, uw⟩).alloc (oCa ⟨(k : Int) + 1, k, f, g⟩))
              have HQE := Lib.hid ((HBw.out.block _ HQL.out).trans HQ2'.out)
              have HCE : Hid (Cx ((w2.alloc (oCg ⟨⟨(k : Int) + 1, k, f, g⟩, ux, uw⟩)).alloc (oCa ⟨(k : Int) + 1, k, f, g⟩)) (w2.heap.size + 1) ⟨(k : Int) + 1, k, f, g⟩) := Lib.hid (by have := Cx.new (w2.alloc (oCg ⟨⟨(k : Int) + 1, k, f, g⟩, ux, uw⟩)) ⟨(k : Int) + 1, k, f, g⟩; simpa using this)
              go_wp2_with (fail)
              generalize ((w2.alloc (oCg ⟨⟨(k : Int) + 1, k, f, g⟩, ux, uw⟩)).alloc (oCa ⟨(k : Int) + 1, k, f, g⟩)) = w5 at HOkE HUE HQE HCE HBw ⊢
              clear z0 z1 z2 z3 z4 z5 z6 z7 z8 u0 c0 a0
              have c0 := cellOf' HCE.out
              have a1 : w5.cell? ⟨wr.heap.size, 1, none⟩ = some (.int .i64 y) := (cellOf' HQE.out 1).trans rfl
              have u0 := cellOf' HUE.out
              obtain ⟨z0, z1, z2, z3, z4, z5, z6, z7, z8⟩ := HOkE.out.box.at
              obtain ⟨NM, hNM⟩ : ∃ n, M.length = n := ⟨_, rfl⟩
              have HNM := Lib.hid hNM
              cases NM with
              | zero =>
                have hz1 : decide ((0 : Int) < (M.length : Int)) = false := decide_eq_false (by omega)
                have hz2 : decide (0 < M.length) = false := decide_eq_false (by omega)
                clear hNM
                go_quiet (fail)
                have HOkF := Lib.hid (HOkE.out.of (below_drewN (Below.refl _ _) nq))
                have HUF : Hid (Gx (w5.drewN nq) w2.heap.size ⟨⟨(k : Int) + 1, k, f, g⟩, ux, uw⟩) := Lib.hid HUE.out
                have HCF : Hid (Cx (w5.drewN nq) (w2.heap.size + 1) (⟨(k : Int) + 1, k, f, g⟩ : Ca)) := Lib.hid HCE.out
                clear c0 a1 u0 z0 z1 z2 z3 z4 z5 z6 z7 z8 hz1 hz2
                generalize w5.drewN nq = w6 at HOkF HUF HCF ⊢
                obtain ⟨c0, c1, c2, c3⟩ := HCF.out.at
                have HOkG := Lib.hid (HOkF.out.of (below_box w6 (.cells #[.int .i64 ((k : Int) + 1), .int .i64 k, .int .i64 f, .int .i64 g] 25)))
                have HUG : Hid (Gx (w6.alloc (.cells #[.int .i64 ((k : Int) + 1), .int .i64 k, .int .i64 f, .int .i64 g] 25)) w2.heap.size ⟨⟨(k : Int) + 1, k, f, g⟩, ux, uw⟩) := Lib.hid (HUF.out.alloc _)
                have HOw : Hid (OW ca (w6.alloc (.cells #[.int .i64 ((k : Int) + 1), .int .i64 k, .int .i64 f, .int .i64 g] 25)) (w1.heap.size + 1) (.slice A M.length c) M) := Lib.hid (HOkG.out.own)
                have HRW : Hid (RW ca (w6.alloc (.cells #[.int .i64 ((k : Int) + 1), .int .i64 k, .int .i64 f, .int .i64 g] 25)) (w6.heap.size + 1) (some ⟨w6.heap.size, 0, none⟩) [(⟨(k : Int) + 1, k, f, g⟩ : Ca)]) := Lib.hid (rw_at ca _ _ _ _ _ rfl (by simp [flat, ca, encCa]) rfl)
                have HLb : Hid ((M : List Ca).length + [(⟨(k : Int) + 1, k, f, g⟩ : Ca)].length ≤ 1000000) := Lib.hid (by have h8 := HOkG.out.ml; have h9 := HK1.out; show M.length + 1 ≤ 1000000; omega)
                have HRg := Lib.hid (fun V => by have := pright_any (⟨⟨(k : Int) + 1, k, f, g⟩, ux, uw⟩ : Cg) V; rewrite [(rg_iff (⟨⟨(k : Int) + 1, k, f, g⟩, ux, uw⟩ : Cg)).2 HQ8.out.rt] at this; exact this)
                have HSz := Lib.hid HOkG.out.size
                go_wp2_with (first
                  | (at_builtin; refine wpList_app ca rfl 28 rfl (.tmp 141) (.tmp 143) rfl (w1.heap.size + 1) (w6.heap.size + 1) (.slice A M.length c) M [(⟨(k : Int) + 1, k, f, g⟩ : Ca)] (some ⟨w6.heap.size, 0, none⟩) 1 1 rfl (by simp [Act.eval]) (by simp [Act.eval]) HOw.out HRW.out HLb.out HSz.out ?_; intro A7 c7 w7 lm HLM HO7 HS7 HE7; have HBx := Lib.hid ((Below.refl (w1.heap.size + 1) _).grown HS7.out HSz.out (fun q hq => (HOw.out.lt hq).1)); have HX7 := Lib.hid (HOkG.out.box.of HBx.out (Nat.lt_succ_self _)); have HB7 := Lib.hid (HOkG.out.low.trans (HBx.out.mono (Nat.le_succ _))); have HU7 : Hid (Gx w7 w2.heap.size ⟨⟨(k : Int) + 1, k, f, g⟩, ux, uw⟩) := Lib.hid ((HS7.out.block _ HUG.out.lt (fun e9 => absurd (HOkB.out.own.lt (k := w2.heap.size) e9.symm).2 (Nat.lt_irrefl _))).trans HUG.out); have u7 := cellOf' HU7.out; have hG := frozOf' HX7.out; have hyz := cellOf' HX7.out; have hyl := HX7.out.lt; have HX8 : Hid (Gx (((((((((w7.setCell ⟨w1.heap.size, 0, none⟩ (.int .i64 (⟨⟨(k : Int) + 1, k, f, g⟩, ux, uw⟩ : Cg).now.ability)).setCell ⟨w1.heap.size, 1, none⟩ (.int .i64 (⟨⟨(k : Int) + 1, k, f, g⟩, ux, uw⟩ : Cg).now.target)).setCell ⟨w1.heap.size, 2, none⟩ (.int .i64 (⟨⟨(k : Int) + 1, k, f, g⟩, ux, uw⟩ : Cg).now.since)).setCell ⟨w1.heap.size, 3, none⟩ (.int .i64 (⟨⟨(k : Int) + 1, k, f, g⟩, ux, uw⟩ : Cg).now.untl)).setCell ⟨w1.heap.size, 4, none⟩ (.int .i64 (⟨⟨(k : Int) + 1, k, f, g⟩, ux, uw⟩ : Cg).next.ability)).setCell ⟨w1.heap.size, 5, none⟩ (.int .i64 (⟨⟨(k : Int) + 1, k, f, g⟩, ux, uw⟩ : Cg).next.target)).setCell ⟨w1.heap.size, 6, none⟩ (.int .i64 (⟨⟨(k : Int) + 1, k, f, g⟩, ux, uw⟩ : Cg).next.since)).setCell ⟨w1.heap.size, 7, none⟩ (.int .i64 (⟨⟨(k : Int) + 1, k, f, g⟩, ux, uw⟩ : Cg).next.untl)).setCell ⟨w1.heap.size, 8, none⟩ (.int .i64 (⟨⟨(k : Int) + 1, k, f, g⟩, ux, uw⟩ : Cg).wait)) w1.heap.size ⟨⟨(k : Int) + 1, k, f, g⟩, ux, uw⟩) := Lib.hid (HX7.out.putG (⟨⟨(k : Int) + 1, k, f, g⟩, ux, uw⟩ : Cg)); have HB8 : Hid (Below w1.heap.size w1 (((((((((w7.setCell ⟨w1.heap.size, 0, none⟩ (.int .i64 (⟨⟨(k : Int) + 1, k, f, g⟩, ux, uw⟩ : Cg).now.ability)).setCell ⟨w1.heap.size, 1, none⟩ (.int .i64 (⟨⟨(k : Int) + 1, k, f, g⟩, ux, uw⟩ : Cg).now.target)).setCell ⟨w1.heap.size, 2, none⟩ (.int .i64 (⟨⟨(k : Int) + 1, k, f, g⟩, ux, uw⟩ : Cg).now.since)).setCell ⟨w1.heap.size, 3, none⟩ (.int .i64 (⟨⟨(k : Int) + 1, k, f, g⟩, ux, uw⟩ : Cg).now.untl)).setCell ⟨w1.heap.size, 4, none⟩ (.int .i64 (⟨⟨(k : Int) + 1, k, f, g⟩, ux, uw⟩ : Cg).next.ability)).setCell ⟨w1.heap.size, 5, none⟩ (.int .i64 (⟨⟨(k : Int) + 1, k, f, g⟩, ux, uw⟩ : Cg).next.target)).setCell ⟨w1.heap.size, 6, none⟩ (.int .i64 (⟨⟨(k : Int) + 1, k, f, g⟩, ux, uw⟩ : Cg).next.since)).setCell ⟨w1.heap.size, 7, none⟩ (.int .i64 (⟨⟨(k : Int) + 1, k, f, g⟩, ux, uw⟩ : Cg).next.untl)).setCell ⟨w1.heap.size, 8, none⟩ (.int .i64 (⟨⟨(k : Int) + 1, k, f, g⟩, ux, uw⟩ : Cg).wait))) := Lib.hid (below_putG HB7.out (Nat.le_refl _) (⟨⟨(k : Int) + 1, k, f, g⟩, ux, uw⟩ : Cg)); have HO8 : Hid (OW ca (((((((((w7.setCell ⟨w1.heap.size, 0, none⟩ (.int .i64 (⟨⟨(k : Int) + 1, k, f, g⟩, ux, uw⟩ : Cg).now.ability)).setCell ⟨w1.heap.size, 1, none⟩ (.int .i64 (⟨⟨(k : Int) + 1, k, f, g⟩, ux, uw⟩ : Cg).now.target)).setCell ⟨w1.heap.size, 2, none⟩ (.int .i64 (⟨⟨(k : Int) + 1, k, f, g⟩, ux, uw⟩ : Cg).now.since)).setCell ⟨w1.heap.size, 3, none⟩ (.int .i64 (⟨⟨(k : Int) + 1, k, f, g⟩, ux, uw⟩ : Cg).now.untl)).setCell ⟨w1.heap.size, 4, none⟩ (.int .i64 (⟨⟨(k : Int) + 1, k, f, g⟩, ux, uw⟩ : Cg).next.ability)).setCell ⟨w1.heap.size, 5, none⟩ (.int .i64 (⟨⟨(k : Int) + 1, k, f, g⟩, ux, uw⟩ : Cg).next.target)).setCell ⟨w1.heap.size, 6, none⟩ (.int .i64 (⟨⟨(k : Int) + 1, k, f, g⟩, ux, uw⟩ : Cg).next.since)).setCell ⟨w1.heap.size, 7, none⟩ (.int .i64 (⟨⟨(k : Int) + 1, k, f, g⟩, ux, uw⟩ : Cg).next.untl)).setCell ⟨w1.heap.size, 8, none⟩ (.int .i64 (⟨⟨(k : Int) + 1, k, f, g⟩, ux, uw⟩ : Cg).wait)) (w1.heap.size + 1) (.slice A7 lm.length c7) lm) := Lib.hid (HO7.out.putG (Nat.lt_succ_self _) (⟨⟨(k : Int) + 1, k, f, g⟩, ux, uw⟩ : Cg)); clear c0 c1 c2 c3; obtain ⟨z0, z1, z2, z3, z4, z5, z6, z7, z8⟩ := HX8.out.at)
                  | ((with_reducible refine (HRg.out _).mono ?_); rintro e w8 ⟨rfl, hB8⟩; have HOkZ := Lib.hid ((HOk2.out.more (by have := HML.out; omega) HLM.out HQ9.out HQ10.out HQ7.out HQ8.out HO8.out HX8.out HB8.out).of hB8); clear hB8)
                  | fail)
                refine Handed.intro (K - (k + 1)) (by omega) ?_
                go_step
                exact ⟨k + 1, A7, c7, lm, D, ⟨⟨(k : Int) + 1, k, f, g⟩, ux, uw⟩, t2, _, _, _, _, _, _, rfl, by kernel_rfl, by omega, rfl, by go_num, rfl, rfl, rfl, HOkZ⟩
              | succ m =>
                obtain ⟨xl, hxl⟩ : ∃ x, M[m]? = some x := ⟨_, List.getElem?_eq_getElem (by omega)⟩
                have hq8 := HQ6.out xl (by rw [List.getLast?_eq_getElem?, hNM]; exact hxl)
                obtain ⟨bm, om, hAm, _, hcm⟩ := HOkE.out.own.pw.rw'.at' hxl
                obtain ⟨r0, r1, r2, r3⟩ := cellsCa (o := om + m * 4) hcm
                subst hAm
                have hwl : IntKind.i64.wrap (((m + 1 : Nat) : Int) - 1) = (m : Int) := by rw [IntWalk.i64_in _ (by have := HOkE.out.ml; have := HK1.out; omega)]; omega
                have hwx : IntKind.i64.wrap (xl.since + 3) = xl.since + 3 := IntWalk.i64_in _ (by have := hq8.1; have := hq8.2.1; have := HQ5.out; have := HT6.out; have := HQ4.out; omega)
                have hwm : IntKind.i64.wrap ((m : Int) + 1 - 1) = (m : Int) := by rw [IntWalk.i64_in _ (by have := HOkE.out.ml; have := HK1.out; omega)]; omega
                have hwm2 : IntKind.i64.wrap (m : Int) = (m : Int) := IntWalk.i64_in _ (by have := HOkE.out.ml; have := HK1.out; omega)
                have hmi : ((m : Int)).toNat = m := by omega
                have hm1 : (m : Int) < (m : Int) + 1 := by omega
                have hm2 : (m : Int) < ((m + 1 : Nat) : Int) := by omega
                have hm0 : (0 : Int) ≤ m := by omega
                have hdx : decide (f < xl.since + 3) = false := by have := hq8.1; simp; omega
                clear hxl hcm hq8
                rw [hNM]
                clear hNM
                go_quiet (fail)
                have HOkF := Lib.hid (HOkE.out.of (below_drewN (Below.refl _ _) nq))
                have HUF : Hid (Gx (w5.drewN nq) w2.heap.size ⟨⟨(k : Int) + 1, k, f, g⟩, ux, uw⟩) := Lib.hid HUE.out
                have HCF : Hid (Cx (w5.drewN nq) (w2.heap.size + 1) (⟨(k : Int) + 1, k, f, g⟩ : Ca)) := Lib.hid HCE.out
                clear c0 a1 u0 z0 z1 z2 z3 z4 z5 z6 z7 z8 r0 r1 r2 r3 hwl hwx hwm hwm2 hmi hm1 hm2 hm0 hdx
                generalize w5.drewN nq = w6 at HOkF HUF HCF ⊢
                obtain ⟨c0, c1, c2, c3⟩ := HCF.out.at
                have HOkG := Lib.hid (HOkF.out.of (below_box w6 (.cells #[.int .i64 ((k : Int) + 1), .int .i64 k, .int .i64 f, .int .i64 g] 25)))
                have HUG : Hid (Gx (w6.alloc (.cells #[.int .i64 ((k : Int) + 1), .int .i64 k, .int .i64 f, .int .i64 g] 25)) w2.heap.size ⟨⟨(k : Int) + 1, k, f, g⟩, ux, uw⟩) := Lib.hid (HUF.out.alloc _)
                have HOw : Hid (OW ca (w6.alloc (.cells #[.int .i64 ((k : Int) + 1), .int .i64 k, .int .i64 f, .int .i64 g] 25)) (w1.heap.size + 1) (.slice (some ⟨bm, om, none⟩) (m + 1) c) M) := Lib.hid ((by have h9 := HOkG.out.own; rewrite [HNM.out] at h9; exact h9))
                have HRW : Hid (RW ca (w6.alloc (.cells #[.int .i64 ((k : Int) + 1), .int .i64 k, .int .i64 f, .int .i64 g] 25)) (w6.heap.size + 1) (some ⟨w6.heap.size, 0, none⟩) [(⟨(k : Int) + 1, k, f, g⟩ : Ca)]) := Lib.hid (rw_at ca _ _ _ _ _ rfl (by simp [flat, ca, encCa]) rfl)
                have HLb : Hid ((M : List Ca).length + [(⟨(k : Int) + 1, k, f, g⟩ : Ca)].length ≤ 1000000) := Lib.hid (by have h8 := HOkG.out.ml; have h9 := HK1.out; show M.length + 1 ≤ 1000000; omega)
                have HRg := Lib.hid (fun V => by have := pright_any (⟨⟨(k : Int) + 1, k, f, g⟩, ux, uw⟩ : Cg) V; rewrite [(rg_iff (⟨⟨(k : Int) + 1, k, f, g⟩, ux, uw⟩ : Cg)).2 HQ8.out.rt] at this; exact this)
                have HSz := Lib.hid HOkG.out.size
                go_wp2_with (first
                  | (at_builtin; refine wpList_app ca rfl 28 rfl (.tmp 141) (.tmp 143) rfl (w1.heap.size + 1) (w6.heap.size + 1) (.slice (some ⟨bm, om, none⟩) (m + 1) c) M [(⟨(k : Int) + 1, k, f, g⟩ : Ca)] (some ⟨w6.heap.size, 0, none⟩) 1 1 rfl (by simp [Act.eval]) (by simp [Act.eval]) HOw.out HRW.out HLb.out HSz.out ?_; intro A7 c7 w7 lm HLM HO7 HS7 HE7; have HBx := Lib.hid ((Below.refl (w1.heap.size + 1) _).grown HS7.out HSz.out (fun q hq => (HOw.out.lt hq).1)); have HX7 := Lib.hid (HOkG.out.box.of HBx.out (Nat.lt_succ_self _)); have HB7 := Lib.hid (HOkG.out.low.trans (HBx.out.mono (Nat.le_succ _))); have HU7 : Hid (Gx w7 w2.heap.size ⟨⟨(k : Int) + 1, k, f, g⟩, ux, uw⟩) := Lib.hid ((HS7.out.block _ HUG.out.lt (fun e9 => absurd (HOkB.out.own.lt (k := w2.heap.size) e9.symm).2 (Nat.lt_irrefl _))).trans HUG.out); have u7 := cellOf' HU7.out; have hG := frozOf' HX7.out; have hyz := cellOf' HX7.out; have hyl := HX7.out.lt; have HX8 : Hid (Gx (((((((((w7.setCell ⟨w1.heap.size, 0, none⟩ (.int .i64 (⟨⟨(k : Int) + 1, k, f, g⟩, ux, uw⟩ : Cg).now.ability)).setCell ⟨w1.heap.size, 1, none⟩ (.int .i64 (⟨⟨(k : Int) + 1, k, f, g⟩, ux, uw⟩ : Cg).now.target)).setCell ⟨w1.heap.size, 2, none⟩ (.int .i64 (⟨⟨(k : Int) + 1, k, f, g⟩, ux, uw⟩ : Cg).now.since)).setCell ⟨w1.heap.size, 3, none⟩ (.int .i64 (⟨⟨(k : Int) + 1, k, f, g⟩, ux, uw⟩ : Cg).now.untl)).setCell ⟨w1.heap.size, 4, none⟩ (.int .i64 (⟨⟨(k : Int) + 1, k, f, g⟩, ux, uw⟩ : Cg).next.ability)).setCell ⟨w1.heap.size, 5, none⟩ (.int .i64 (⟨⟨(k : Int) + 1, k, f, g⟩, ux, uw⟩ : Cg).next.target)).setCell ⟨w1.heap.size, 6, none⟩ (.int .i64 (⟨⟨(k : Int) + 1, k, f, g⟩, ux, uw⟩ : Cg).next.since)).setCell ⟨w1.heap.size, 7, none⟩ (.int .i64 (⟨⟨(k : Int) + 1, k, f, g⟩, ux, uw⟩ : Cg).next.untl)).setCell ⟨w1.heap.size, 8, none⟩ (.int .i64 (⟨⟨(k : Int) + 1, k, f, g⟩, ux, uw⟩ : Cg).wait)) w1.heap.size ⟨⟨(k : Int) + 1, k, f, g⟩, ux, uw⟩) := Lib.hid (HX7.out.putG (⟨⟨(k : Int) + 1, k, f, g⟩, ux, uw⟩ : Cg)); have HB8 : Hid (Below w1.heap.size w1 (((((((((w7.setCell ⟨w1.heap.size, 0, none⟩ (.int .i64 (⟨⟨(k : Int) + 1, k, f, g⟩, ux, uw⟩ : Cg).now.ability)).setCell ⟨w1.heap.size, 1, none⟩ (.int .i64 (⟨⟨(k : Int) + 1, k, f, g⟩, ux, uw⟩ : Cg).now.target)).setCell ⟨w1.heap.size, 2, none⟩ (.int .i64 (⟨⟨(k : Int) + 1, k, f, g⟩, ux, uw⟩ : Cg).now.since)).setCell ⟨w1.heap.size, 3, none⟩ (.int .i64 (⟨⟨(k : Int) + 1, k, f, g⟩, ux, uw⟩ : Cg).now.untl)).setCell ⟨w1.heap.size, 4, none⟩ (.int .i64 (⟨⟨(k : Int) + 1, k, f, g⟩, ux, uw⟩ : Cg).next.ability)).setCell ⟨w1.heap.size, 5, none⟩ (.int .i64 (⟨⟨(k : Int) + 1, k, f, g⟩, ux, uw⟩ : Cg).next.target)).setCell ⟨w1.heap.size, 6, none⟩ (.int .i64 (⟨⟨(k : Int) + 1, k, f, g⟩, ux, uw⟩ : Cg).next.since)).setCell ⟨w1.heap.size, 7, none⟩ (.int .i64 (⟨⟨(k : Int) + 1, k, f, g⟩, ux, uw⟩ : Cg).next.untl)).setCell ⟨w1.heap.size, 8, none⟩ (.int .i64 (⟨⟨(k : Int) + 1, k, f, g⟩, ux, uw⟩ : Cg).wait))) := Lib.hid (below_putG HB7.out (Nat.le_refl _) (⟨⟨(k : Int) + 1, k, f, g⟩, ux, uw⟩ : Cg)); have HO8 : Hid (OW ca (((((((((w7.setCell ⟨w1.heap.size, 0, none⟩ (.int .i64 (⟨⟨(k : Int) + 1, k, f, g⟩, ux, uw⟩ : Cg).now.ability)).setCell ⟨w1.heap.size, 1, none⟩ (.int .i64 (⟨⟨(k : Int) + 1, k, f, g⟩, ux, uw⟩ : Cg).now.target)).setCell ⟨w1.heap.size, 2, none⟩ (.int .i64 (⟨⟨(k : Int) + 1, k, f, g⟩, ux, uw⟩ : Cg).now.since)).setCell ⟨w1.heap.size, 3, none⟩ (.int .i64 (⟨⟨(k : Int) + 1, k, f, g⟩, ux, uw⟩ : Cg).now.untl)).setCell ⟨w1.heap.size, 4, none⟩ (.int .i64 (⟨⟨(k : Int) + 1, k, f, g⟩, ux, uw⟩ : Cg).next.ability)).setCell ⟨w1.heap.size, 5, none⟩ (.int .i64 (⟨⟨(k : Int) + 1, k, f, g⟩, ux, uw⟩ : Cg).next.target)).setCell ⟨w1.heap.size, 6, none⟩ (.int .i64 (⟨⟨(k : Int) + 1, k, f, g⟩, ux, uw⟩ : Cg).next.since)).setCell ⟨w1.heap.size, 7, none⟩ (.int .i64 (⟨⟨(k : Int) + 1, k, f, g⟩, ux, uw⟩ : Cg).next.untl)).setCell ⟨w1.heap.size, 8, none⟩ (.int .i64 (⟨⟨(k : Int) + 1, k, f, g⟩, ux, uw⟩ : Cg).wait)) (w1.heap.size + 1) (.slice A7 lm.length c7) lm) := Lib.hid (HO7.out.putG (Nat.lt_succ_self _) (⟨⟨(k : Int) + 1, k, f, g⟩, ux, uw⟩ : Cg)); clear c0 c1 c2 c3; obtain ⟨z0, z1, z2, z3, z4, z5, z6, z7, z8⟩ := HX8.out.at)
                  | ((with_reducible refine (HRg.out _).mono ?_); rintro e w8 ⟨rfl, hB8⟩; have HOkZ := Lib.hid ((HOk2.out.more (by have := HML.out; omega) HLM.out HQ9.out HQ10.out HQ7.out HQ8.out HO8.out HX8.out HB8.out).of hB8); clear hB8)
                  | fail)
                refine Handed.intro (K - (k + 1)) (by omega) ?_
                go_step
                exact ⟨k + 1, A7, c7, lm, D, ⟨⟨(k : Int) + 1, k, f, g⟩, ux, uw⟩, t2, _, _, _, _, _, _, rfl, by kernel_rfl, by omega, rfl, by go_num, rfl, rfl, rfl, HOkZ⟩
            | false =>
              have q1 : u.next = ⟨(k : Int) + 1, k, f, g⟩ := by rw [← q1, if_neg (by simpa using hn)]
              have hne : (S.now.ability != 0) = true := by simpa using hn
              have heq : (S.now.ability == 0) = false := by simpa using hn
              obtain ⟨un, ux, uw⟩ := u
              simp only at q1
              subst q1
              clear q3
              have c0 := cellOf' HC12.out
              have hG := frozOf' HC12.out
              have hyl := HC12.out.lt
              have HBw : Hid (Below w2.heap.size w2 ((w2.alloc (oCg ⟨un, ⟨(k : Int) + 1, k, f, g⟩, uw⟩)).alloc (oCa ⟨(k : Int) + 1, k, f, g⟩))) := Lib.hid ((below_box w2 (oCg ⟨un, ⟨(k : Int) + 1, k, f, g⟩, uw⟩)).alloc (by simp) (oCa ⟨(k : Int) + 1, k, f, g⟩))
              have HOkE := Lib.hid (HOkB.out.of HBw.out)
              have HUE : Hid (Gx ((w2.alloc (oCg ⟨un, ⟨(k : Int) + 1, k, f, g⟩, uw⟩)).alloc (oCa ⟨(k : Int) + 1, k, f, g⟩)) w2.heap.size ⟨un, ⟨(k : Int) + 1, k, f, g⟩, uw⟩) := Lib.hid ((Gx.new w2 ⟨un, ⟨(k : Int) + 1, k, f, g⟩, uw⟩).alloc (oCa ⟨(k : Int) + 1, k, f, g⟩))
              have HQE := Lib.hid ((HBw.out.block _ HQL.out).trans HQ2'.out)
              have HCE : Hid (Cx ((w2.alloc (oCg ⟨un, ⟨(k : Int) + 1, k, f, g⟩, uw⟩)).alloc (oCa ⟨(k : Int) + 1, k, f, g⟩)) (w2.heap.size + 1) ⟨(k : Int) + 1, k, f, g⟩) := Lib.hid (by have := Cx.new (w2.alloc (oCg ⟨un, ⟨(k : Int) + 1, k, f, g⟩, uw⟩)) ⟨(k : Int) + 1, k, f, g⟩; simpa using this)
              go_wp2_with (fail)
              generalize ((w2.alloc (oCg ⟨un, ⟨(k : Int) + 1, k, f, g⟩, uw⟩)).alloc (oCa ⟨(k : Int) + 1, k, f, g⟩)) = w5 at HOkE HUE HQE HCE HBw ⊢
              clear z0 z1 z2 z3 z4 z5 z6 z7 z8 u0 c0 hG hyl
              have c0 := cellOf' HCE.out
              have a1 : w5.cell? ⟨wr.heap.size, 1, none⟩ = some (.int .i64 y) := (cellOf' HQE.out 1).trans rfl
              have u0 := cellOf' HUE.out
              obtain ⟨z0, z1, z2, z3, z4, z5, z6, z7, z8⟩ := HOkE.out.box.at
              obtain ⟨NM, hNM⟩ : ∃ n, M.length = n := ⟨_, rfl⟩
              have HNM := Lib.hid hNM
              cases NM with
              | zero =>
                have hz1 : decide ((0 : Int) < (M.length : Int)) = false := decide_eq_false (by omega)
                have hz2 : decide (0 < M.length) = false := decide_eq_false (by omega)
                clear hNM
                go_quiet (fail)
                have HOkF := Lib.hid (HOkE.out.of (below_drewN (Below.refl _ _) nq))
                have HUF : Hid (Gx (w5.drewN nq) w2.heap.size ⟨un, ⟨(k : Int) + 1, k, f, g⟩, uw⟩) := Lib.hid HUE.out
                have HCF : Hid (Cx (w5.drewN nq) (w2.heap.size + 1) (⟨(k : Int) + 1, k, f, g⟩ : Ca)) := Lib.hid HCE.out
                clear c0 a1 u0 z0 z1 z2 z3 z4 z5 z6 z7 z8 hz1 hz2
                generalize w5.drewN nq = w6 at HOkF HUF HCF ⊢
                obtain ⟨c0, c1, c2, c3⟩ := HCF.out.at
                have HOkG := Lib.hid (HOkF.out.of (below_box w6 (.cells #[.int .i64 ((k : Int) + 1), .int .i64 k, .int .i64 f, .int .i64 g] 25)))
                have HUG : Hid (Gx (w6.alloc (.cells #[.int .i64 ((k : Int) + 1), .int .i64 k, .int .i64 f, .int .i64 g] 25)) w2.heap.size ⟨un, ⟨(k : Int) + 1, k, f, g⟩, uw⟩) := Lib.hid (HUF.out.alloc _)
                have HOw : Hid (OW ca (w6.alloc (.cells #[.int .i64 ((k : Int) + 1), .int .i64 k, .int .i64 f, .int .i64 g] 25)) (w1.heap.size + 1) (.slice A M.length c) M) := Lib.hid (HOkG.out.own)
                have HRW : Hid (RW ca (w6.alloc (.cells #[.int .i64 ((k : Int) + 1), .int .i64 k, .int .i64 f, .int .i64 g] 25)) (w6.heap.size + 1) (some ⟨w6.heap.size, 0, none⟩) [(⟨(k : Int) + 1, k, f, g⟩ : Ca)]) := Lib.hid (rw_at ca _ _ _ _ _ rfl (by simp [flat, ca, encCa]) rfl)
                have HLb : Hid ((M : List Ca).length + [(⟨(k : Int) + 1, k, f, g⟩ : Ca)].length ≤ 1000000) := Lib.hid (by have h8 := HOkG.out.ml; have h9 := HK1.out; show M.length + 1 ≤ 1000000; omega)
                have HRg := Lib.hid (fun V => by have := pright_any (⟨un, ⟨(k : Int) + 1, k, f, g⟩, uw⟩ : Cg) V; rewrite [(rg_iff (⟨un, ⟨(k : Int) + 1, k, f, g⟩, uw⟩ : Cg)).2 HQ8.out.rt] at this; exact this)
                have HSz := Lib.hid HOkG.out.size
                go_wp2_with (first
                  | (at_builtin; refine wpList_app ca rfl 28 rfl (.tmp 141) (.tmp 143) rfl (w1.heap.size + 1) (w6.heap.size + 1) (.slice A M.length c) M [(⟨(k : Int) + 1, k, f, g⟩ : Ca)] (some ⟨w6.heap.size, 0, none⟩) 1 1 rfl (by simp [Act.eval]) (by simp [Act.eval]) HOw.out HRW.out HLb.out HSz.out ?_; intro A7 c7 w7 lm HLM HO7 HS7 HE7; have HBx := Lib.hid ((Below.refl (w1.heap.size + 1) _).grown HS7.out HSz.out (fun q hq => (HOw.out.lt hq).1)); have HX7 := Lib.hid (HOkG.out.box.of HBx.out (Nat.lt_succ_self _)); have HB7 := Lib.hid (HOkG.out.low.trans (HBx.out.mono (Nat.le_succ _))); have HU7 : Hid (Gx w7 w2.heap.size ⟨un, ⟨(k : Int) + 1, k, f, g⟩, uw⟩) := Lib.hid ((HS7.out.block _ HUG.out.lt (fun e9 => absurd (HOkB.out.own.lt (k := w2.heap.size) e9.symm).2 (Nat.lt_irrefl _))).trans HUG.out); have u7 := cellOf' HU7.out; have hG := frozOf' HX7.out; have hyz := cellOf' HX7.out; have hyl := HX7.out.lt; have HX8 : Hid (Gx (((((((((w7.setCell ⟨w1.heap.size, 0, none⟩ (.int .i64 (⟨un, ⟨(k : Int) + 1, k, f, g⟩, uw⟩ : Cg).now.ability)).setCell ⟨w1.heap.size, 1, none⟩ (.int .i64 (⟨un, ⟨(k : Int) + 1, k, f, g⟩, uw⟩ : Cg).now.target)).setCell ⟨w1.heap.size, 2, none⟩ (.int .i64 (⟨un, ⟨(k : Int) + 1, k, f, g⟩, uw⟩ : Cg).now.since)).setCell ⟨w1.heap.size, 3, none⟩ (.int .i64 (⟨un, ⟨(k : Int) + 1, k, f, g⟩, uw⟩ : Cg).now.untl)).setCell ⟨w1.heap.size, 4, none⟩ (.int .i64 (⟨un, ⟨(k : Int) + 1, k, f, g⟩, uw⟩ : Cg).next.ability)).setCell ⟨w1.heap.size, 5, none⟩ (.int .i64 (⟨un, ⟨(k : Int) + 1, k, f, g⟩, uw⟩ : Cg).next.target)).setCell ⟨w1.heap.size, 6, none⟩ (.int .i64 (⟨un, ⟨(k : Int) + 1, k, f, g⟩, uw⟩ : Cg).next.since)).setCell ⟨w1.heap.size, 7, none⟩ (.int .i64 (⟨un, ⟨(k : Int) + 1, k, f, g⟩, uw⟩ : Cg).next.untl)).setCell ⟨w1.heap.size, 8, none⟩ (.int .i64 (⟨un, ⟨(k : Int) + 1, k, f, g⟩, uw⟩ : Cg).wait)) w1.heap.size ⟨un, ⟨(k : Int) + 1, k, f, g⟩, uw⟩) := Lib.hid (HX7.out.putG (⟨un, ⟨(k : Int) + 1, k, f, g⟩, uw⟩ : Cg)); have HB8 : Hid (Below w1.heap.size w1 (((((((((w7.setCell ⟨w1.heap.size, 0, none⟩ (.int .i64 (⟨un, ⟨(k : Int) + 1, k, f, g⟩, uw⟩ : Cg).now.ability)).setCell ⟨w1.heap.size, 1, none⟩ (.int .i64 (⟨un, ⟨(k : Int) + 1, k, f, g⟩, uw⟩ : Cg).now.target)).setCell ⟨w1.heap.size, 2, none⟩ (.int .i64 (⟨un, ⟨(k : Int) + 1, k, f, g⟩, uw⟩ : Cg).now.since)).setCell ⟨w1.heap.size, 3, none⟩ (.int .i64 (⟨un, ⟨(k : Int) + 1, k, f, g⟩, uw⟩ : Cg).now.untl)).setCell ⟨w1.heap.size, 4, none⟩ (.int .i64 (⟨un, ⟨(k : Int) + 1, k, f, g⟩, uw⟩ : Cg).next.ability)).setCell ⟨w1.heap.size, 5, none⟩ (.int .i64 (⟨un, ⟨(k : Int) + 1, k, f, g⟩, uw⟩ : Cg).next.target)).setCell ⟨w1.heap.size, 6, none⟩ (.int .i64 (⟨un, ⟨(k : Int) + 1, k, f, g⟩, uw⟩ : Cg).next.since)).setCell ⟨w1.heap.size, 7, none⟩ (.int .i64 (⟨un, ⟨(k : Int) + 1, k, f, g⟩, uw⟩ : Cg).next.untl)).setCell ⟨w1.heap.size, 8, none⟩ (.int .i64 (⟨un, ⟨(k : Int) + 1, k, f, g⟩, uw⟩ : Cg).wait))) := Lib.hid (below_putG HB7.out (Nat.le_refl _) (⟨un, ⟨(k : Int) + 1, k, f, g⟩, uw⟩ : Cg)); have HO8 : Hid (OW ca (((((((((w7.setCell ⟨w1.heap.size, 0, none⟩ (.int .i64 (⟨un, ⟨(k : Int) + 1, k, f, g⟩, uw⟩ : Cg).now.ability)).setCell ⟨w1.heap.size, 1, none⟩ (.int .i64 (⟨un, ⟨(k : Int) + 1, k, f, g⟩, uw⟩ : Cg).now.target)).setCell ⟨w1.heap.size, 2, none⟩ (.int .i64 (⟨un, ⟨(k : Int) + 1, k, f, g⟩, uw⟩ : Cg).now.since)).setCell ⟨w1.heap.size, 3, none⟩ (.int .i64 (⟨un, ⟨(k : Int) + 1, k, f, g⟩, uw⟩ : Cg).now.untl)).setCell ⟨w1.heap.size, 4, none⟩ (.int .i64 (⟨un, ⟨(k : Int) + 1, k, f, g⟩, uw⟩ : Cg).next.ability)).setCell ⟨w1.heap.size, 5, none⟩ (.int .i64 (⟨un, ⟨(k : Int) + 1, k, f, g⟩, uw⟩ : Cg).next.target)).setCell ⟨w1.heap.size, 6, none⟩ (.int .i64 (⟨un, ⟨(k : Int) + 1, k, f, g⟩, uw⟩ : Cg).next.since)).setCell ⟨w1.heap.size, 7, none⟩ (.int .i64 (⟨un, ⟨(k : Int) + 1, k, f, g⟩, uw⟩ : Cg).next.untl)).setCell ⟨w1.heap.size, 8, none⟩ (.int .i64 (⟨un, ⟨(k : Int) + 1, k, f, g⟩, uw⟩ : Cg).wait)) (w1.heap.size + 1) (.slice A7 lm.length c7) lm) := Lib.hid (HO7.out.putG (Nat.lt_succ_self _) (⟨un, ⟨(k : Int) + 1, k, f, g⟩, uw⟩ : Cg)); clear c0 c1 c2 c3; obtain ⟨z0, z1, z2, z3, z4, z5, z6, z7, z8⟩ := HX8.out.at)
                  | ((with_reducible refine (HRg.out _).mono ?_); rintro e w8 ⟨rfl, hB8⟩; have HOkZ := Lib.hid ((HOk2.out.more (by have := HML.out; omega) HLM.out HQ9.out HQ10.out HQ7.out HQ8.out HO8.out HX8.out HB8.out).of hB8); clear hB8)
                  | fail)
                refine Handed.intro (K - (k + 1)) (by omega) ?_
                go_step
                exact ⟨k + 1, A7, c7, lm, D, ⟨un, ⟨(k : Int) + 1, k, f, g⟩, uw⟩, t2, _, _, _, _, _, _, rfl, by kernel_rfl, by omega, rfl, by go_num, rfl, rfl, rfl, HOkZ⟩
              | succ m =>
                obtain ⟨xl, hxl⟩ : ∃ x, M[m]? = some x := ⟨_, List.getElem?_eq_getElem (by omega)⟩
                have hq8 := HQ6.out xl (by rw [List.getLast?_eq_getElem?, hNM]; exact hxl)
                obtain ⟨bm, om, hAm, _, hcm⟩ := HOkE.out.own.pw.rw'.at' hxl
                obtain ⟨r0, r1, r2, r3⟩ := cellsCa (o := om + m * 4) hcm
                subst hAm
                have hwl : IntKind.i64.wrap (((m + 1 : Nat) : Int) - 1) = (m : Int) := by rw [IntWalk.i64_in _ (by have := HOkE.out.ml; have := HK1.out; omega)]; omega
                have hwx : IntKind.i64.wrap (xl.since + 3) = xl.since + 3 := IntWalk.i64_in _ (by have := hq8.1; have := hq8.2.1; have := HQ5.out; have := HT6.out; have := HQ4.out; omega)
                have hwm : IntKind.i64.wrap ((m : Int) + 1 - 1) = (m : Int) := by rw [IntWalk.i64_in _ (by have := HOkE.out.ml; have := HK1.out; omega)]; omega
                have hwm2 : IntKind.i64.wrap (m : Int) = (m : Int) := IntWalk.i64_in _ (by have := HOkE.out.ml; have := HK1.out; omega)
                have hmi : ((m : Int)).toNat = m := by omega
                have hm1 : (m : Int) < (m : Int) + 1 := by omega
                have hm2 : (m : Int) < ((m + 1 : Nat) : Int) := by omega
                have hm0 : (0 : Int) ≤ m := by omega
                have hdx : decide (f < xl.since + 3) = false := by have := hq8.1; simp; omega
                clear hxl hcm hq8
                rw [hNM]
                clear hNM
                go_quiet (fail)
                have HOkF := Lib.hid (HOkE.out.of (below_drewN (Below.refl _ _) nq))
                have HUF : Hid (Gx (w5.drewN nq) w2.heap.size ⟨un, ⟨(k : Int) + 1, k, f, g⟩, uw⟩) := Lib.hid HUE.out
                have HCF : Hid (Cx (w5.drewN nq) (w2.heap.size + 1) (⟨(k : Int) + 1, k, f, g⟩ : Ca)) := Lib.hid HCE.out
                clear c0 a1 u0 z0 z1 z2 z3 z4 z5 z6 z7 z8 r0 r1 r2 r3 hwl hwx hwm hwm2 hmi hm1 hm2 hm0 hdx
                generalize w5.drewN nq = w6 at HOkF HUF HCF ⊢
                obtain ⟨c0, c1, c2, c3⟩ := HCF.out.at
                have HOkG := Lib.hid (HOkF.out.of (below_box w6 (.cells #[.int .i64 ((k : Int) + 1), .int .i64 k, .int .i64 f, .int .i64 g] 25)))
                have HUG : Hid (Gx (w6.alloc (.cells #[.int .i64 ((k : Int) + 1), .int .i64 k, .int .i64 f, .int .i64 g] 25)) w2.heap.size ⟨un, ⟨(k : Int) + 1, k, f, g⟩, uw⟩) := Lib.hid (HUF.out.alloc _)
                have HOw : Hid (OW ca (w6.alloc (.cells #[.int .i64 ((k : Int) + 1), .int .i64 k, .int .i64 f, .int .i64 g] 25)) (w1.heap.size + 1) (.slice (some ⟨bm, om, none⟩) (m + 1) c) M) := Lib.hid ((by have h9 := HOkG.out.own; rewrite [HNM.out] at h9; exact h9))
                have HRW : Hid (RW ca (w6.alloc (.cells #[.int .i64 ((k : Int) + 1), .int .i64 k, .int .i64 f, .int .i64 g] 25)) (w6.heap.size + 1) (some ⟨w6.heap.size, 0, none⟩) [(⟨(k : Int) + 1, k, f, g⟩ : Ca)]) := Lib.hid (rw_at ca _ _ _ _ _ rfl (by simp [flat, ca, encCa]) rfl)
                have HLb : Hid ((M : List Ca).length + [(⟨(k : Int) + 1, k, f, g⟩ : Ca)].length ≤ 1000000) := Lib.hid (by have h8 := HOkG.out.ml; have h9 := HK1.out; show M.length + 1 ≤ 1000000; omega)
                have HRg := Lib.hid (fun V => by have := pright_any (⟨un, ⟨(k : Int) + 1, k, f, g⟩, uw⟩ : Cg) V; rewrite [(rg_iff (⟨un, ⟨(k : Int) + 1, k, f, g⟩, uw⟩ : Cg)).2 HQ8.out.rt] at this; exact this)
                have HSz := Lib.hid HOkG.out.size
                go_wp2_with (first
                  | (at_builtin; refine wpList_app ca rfl 28 rfl (.tmp 141) (.tmp 143) rfl (w1.heap.size + 1) (w6.heap.size + 1) (.slice (some ⟨bm, om, none⟩) (m + 1) c) M [(⟨(k : Int) + 1, k, f, g⟩ : Ca)] (some ⟨w6.heap.size, 0, none⟩) 1 1 rfl (by simp [Act.eval]) (by simp [Act.eval]) HOw.out HRW.out HLb.out HSz.out ?_; intro A7 c7 w7 lm HLM HO7 HS7 HE7; have HBx := Lib.hid ((Below.refl (w1.heap.size + 1) _).grown HS7.out HSz.out (fun q hq => (HOw.out.lt hq).1)); have HX7 := Lib.hid (HOkG.out.box.of HBx.out (Nat.lt_succ_self _)); have HB7 := Lib.hid (HOkG.out.low.trans (HBx.out.mono (Nat.le_succ _))); have HU7 : Hid (Gx w7 w2.heap.size ⟨un, ⟨(k : Int) + 1, k, f, g⟩, uw⟩) := Lib.hid ((HS7.out.block _ HUG.out.lt (fun e9 => absurd (HOkB.out.own.lt (k := w2.heap.size) e9.symm).2 (Nat.lt_irrefl _))).trans HUG.out); have u7 := cellOf' HU7.out; have hG := frozOf' HX7.out; have hyz := cellOf' HX7.out; have hyl := HX7.out.lt; have HX8 : Hid (Gx (((((((((w7.setCell ⟨w1.heap.size, 0, none⟩ (.int .i64 (⟨un, ⟨(k : Int) + 1, k, f, g⟩, uw⟩ : Cg).now.ability)).setCell ⟨w1.heap.size, 1, none⟩ (.int .i64 (⟨un, ⟨(k : Int) + 1, k, f, g⟩, uw⟩ : Cg).now.target)).setCell ⟨w1.heap.size, 2, none⟩ (.int .i64 (⟨un, ⟨(k : Int) + 1, k, f, g⟩, uw⟩ : Cg).now.since)).setCell ⟨w1.heap.size, 3, none⟩ (.int .i64 (⟨un, ⟨(k : Int) + 1, k, f, g⟩, uw⟩ : Cg).now.untl)).setCell ⟨w1.heap.size, 4, none⟩ (.int .i64 (⟨un, ⟨(k : Int) + 1, k, f, g⟩, uw⟩ : Cg).next.ability)).setCell ⟨w1.heap.size, 5, none⟩ (.int .i64 (⟨un, ⟨(k : Int) + 1, k, f, g⟩, uw⟩ : Cg).next.target)).setCell ⟨w1.heap.size, 6, none⟩ (.int .i64 (⟨un, ⟨(k : Int) + 1, k, f, g⟩, uw⟩ : Cg).next.since)).setCell ⟨w1.heap.size, 7, none⟩ (.int .i64 (⟨un, ⟨(k : Int) + 1, k, f, g⟩, uw⟩ : Cg).next.untl)).setCell ⟨w1.heap.size, 8, none⟩ (.int .i64 (⟨un, ⟨(k : Int) + 1, k, f, g⟩, uw⟩ : Cg).wait)) w1.heap.size ⟨un, ⟨(k : Int) + 1, k, f, g⟩, uw⟩) := Lib.hid (HX7.out.putG (⟨un, ⟨(k : Int) + 1, k, f, g⟩, uw⟩ : Cg)); have HB8 : Hid (Below w1.heap.size w1 (((((((((w7.setCell ⟨w1.heap.size, 0, none⟩ (.int .i64 (⟨un, ⟨(k : Int) + 1, k, f, g⟩, uw⟩ : Cg).now.ability)).setCell ⟨w1.heap.size, 1, none⟩ (.int .i64 (⟨un, ⟨(k : Int) + 1, k, f, g⟩, uw⟩ : Cg).now.target)).setCell ⟨w1.heap.size, 2, none⟩ (.int .i64 (⟨un, ⟨(k : Int) + 1, k, f, g⟩, uw⟩ : Cg).now.since)).setCell ⟨w1.heap.size, 3, none⟩ (.int .i64 (⟨un, ⟨(k : Int) + 1, k, f, g⟩, uw⟩ : Cg).now.untl)).setCell ⟨w1.heap.size, 4, none⟩ (.int .i64 (⟨un, ⟨(k : Int) + 1, k, f, g⟩, uw⟩ : Cg).next.ability)).setCell ⟨w1.heap.size, 5, none⟩ (.int .i64 (⟨un, ⟨(k : Int) + 1, k, f, g⟩, uw⟩ : Cg).next.target)).setCell ⟨w1.heap.size, 6, none⟩ (.int .i64 (⟨un, ⟨(k : Int) + 1, k, f, g⟩, uw⟩ : Cg).next.since)).setCell ⟨w1.heap.size, 7, none⟩ (.int .i64 (⟨un, ⟨(k : Int) + 1, k, f, g⟩, uw⟩ : Cg).next.untl)).setCell ⟨w1.heap.size, 8, none⟩ (.int .i64 (⟨un, ⟨(k : Int) + 1, k, f, g⟩, uw⟩ : Cg).wait))) := Lib.hid (below_putG HB7.out (Nat.le_refl _) (⟨un, ⟨(k : Int) + 1, k, f, g⟩, uw⟩ : Cg)); have HO8 : Hid (OW ca (((((((((w7.setCell ⟨w1.heap.size, 0, none⟩ (.int .i64 (⟨un, ⟨(k : Int) + 1, k, f, g⟩, uw⟩ : Cg).now.ability)).setCell ⟨w1.heap.size, 1, none⟩ (.int .i64 (⟨un, ⟨(k : Int) + 1, k, f, g⟩, uw⟩ : Cg).now.target)).setCell ⟨w1.heap.size, 2, none⟩ (.int .i64 (⟨un, ⟨(k : Int) + 1, k, f, g⟩, uw⟩ : Cg).now.since)).setCell ⟨w1.heap.size, 3, none⟩ (.int .i64 (⟨un, ⟨(k : Int) + 1, k, f, g⟩, uw⟩ : Cg).now.untl)).setCell ⟨w1.heap.size, 4, none⟩ (.int .i64 (⟨un, ⟨(k : Int) + 1, k, f, g⟩, uw⟩ : Cg).next.ability)).setCell ⟨w1.heap.size, 5, none⟩ (.int .i64 (⟨un, ⟨(k : Int) + 1, k, f, g⟩, uw⟩ : Cg).next.target)).setCell ⟨w1.heap.size, 6, none⟩ (.int .i64 (⟨un, ⟨(k : Int) + 1, k, f, g⟩, uw⟩ : Cg).next.since)).setCell ⟨w1.heap.size, 7, none⟩ (.int .i64 (⟨un, ⟨(k : Int) + 1, k, f, g⟩, uw⟩ : Cg).next.untl)).setCell ⟨w1.heap.size, 8, none⟩ (.int .i64 (⟨un, ⟨(k : Int) + 1, k, f, g⟩, uw⟩ : Cg).wait)) (w1.heap.size + 1) (.slice A7 lm.length c7) lm) := Lib.hid (HO7.out.putG (Nat.lt_succ_self _) (⟨un, ⟨(k : Int) + 1, k, f, g⟩, uw⟩ : Cg)); clear c0 c1 c2 c3; obtain ⟨z0, z1, z2, z3, z4, z5, z6, z7, z8⟩ := HX8.out.at)
                  | ((with_reducible refine (HRg.out _).mono ?_); rintro e w8 ⟨rfl, hB8⟩; have HOkZ := Lib.hid ((HOk2.out.more (by have := HML.out; omega) HLM.out HQ9.out HQ10.out HQ7.out HQ8.out HO8.out HX8.out HB8.out).of hB8); clear hB8)
                  | fail)
                refine Handed.intro (K - (k + 1)) (by omega) ?_
                go_step
                exact ⟨k + 1, A7, c7, lm, D, ⟨un, ⟨(k : Int) + 1, k, f, g⟩, uw⟩, t2, _, _, _, _, _, _, rfl, by kernel_rfl, by omega, rfl, by go_num, rfl, rfl, rfl, HOkZ⟩
        · clear hj'
          have HSt := Lib.hid (fun V => pstep_any S HOk2.out.fs t2 V)
          obtain ⟨z0, z1, z2, z3, z4, z5, z6, z7, z8⟩ := HOk2.out.box.at
          go_wp2_with (fail)
          (with_reducible refine (HSt.out _).mono ?_); rintro e w3 ⟨u, A1, c1, L, HL, rfl, HO1, hB3⟩
          have HOk3 := Lib.hid (HOk2.out.of hB3)
          obtain ⟨p1, p2, p3, p4, p5⟩ := HOk3.out.step HK1.out HL.out
          have HP1 := Lib.hid p1; have HP2 := Lib.hid p2; have HP3 := Lib.hid p3; have HP4 := Lib.hid p4; have HP5 := Lib.hid p5
          have HRL0 := Lib.hid HO1.out.pw.rw'
          have HOk4 := Lib.hid (HOk3.out.of (below_box w3 (oCg u)))
          have HU4 := Lib.hid (Gx.new w3 u)
          have HRL4 := Lib.hid (HRL0.out.below (below_box w3 (oCg u)) (Nat.le_refl _))
          have HRM4 := Lib.hid HOk4.out.own.pw.rw'
          have HML4 : Hid (M.length = D.length + L.length + (pend u).length) := Lib.hid (by rw [p3, List.length_append, List.length_append])
          have HM2 : Hid (M.length ≤ 200) := Lib.hid (by have := HML.out; have := HK1.out; omega)
          clear hB3 p1 p2 p3 p4 p5 z0 z1 z2 z3 z4 z5 z6 z7 z8 HO1 HRL0
          go_wp2
          generalize w3.alloc (oCg u) = w4 at *
          go_loopg [6, 15] L.length (fun gh s6 s15 wr => ∃ i q : Nat, i ≤ L.length ∧ gh = L.length - i ∧ s15 = .int .i64 i ∧ s6 = .int .i64 ((D.length + i : Nat) : Int) ∧ wr = w4.drewN q)
          case atStart => exact ⟨0, 0, by omega, rfl, rfl, by simp, rfl⟩
          case round =>
            obtain ⟨i, q, hi, rfl, rfl, rfl, rfl⟩ := hrel
            by_cases hit : i < L.length
            · obtain ⟨x, hx⟩ : ∃ x, L[i]? = some x := ⟨_, List.getElem?_eq_getElem hit⟩
              have hp5 := HP5.out i x hx
              obtain ⟨bl, ol, hA1, _, hcl⟩ := HRL4.out.at' hx
              obtain ⟨bM, oM, hAM, _, hcM⟩ := HRM4.out.at' hp5.1
              obtain ⟨l0, l1, l2, l3⟩ := cellsCa (o := ol + i * 4) hcl
              obtain ⟨m0, m1, m2, m3⟩ := cellsCa (o := oM + (D.length + i) * 4) hcM
              subst hA1; subst hAM
              have hu1 := hp5.2
              clear hx hp5 hcl hcM
              have hML4 := HML4.out
              have hM2 := HM2.out
              obtain ⟨n, hn⟩ : ∃ n, D.length + i = n := ⟨_, rfl⟩
              rw [hn] at m0 m1 m2 m3 ⊢
              have hit' : (i : Int) < L.length := by omega
              have hnN : (n : Int) < (M.length : Int) := by omega
              have hnN1 : n < M.length := by omega
              have hnN2 : decide ((M.length : Int) ≤ (n : Int)) = false := by simp; omega
              have hnN3 : decide (M.length ≤ n) = false := by simp; omega
              have hL2 : (L.length : Int) ≤ 200 := by omega
              have hn2 : (n : Int) ≤ 200 := by omega
              have hux : decide (t2 < x.untl) = false := by simp; omega
              have hi0 : (0 : Int) ≤ i := by omega
              have hn0 : (0 : Int) ≤ n := by omega
              have HNn := Lib.hid hn
              clear hML4 hM2 hn hu1
              go_wp2
              go_quiet (fail)
              go_wp2
              go_roundg (L.length - (i + 1))
              case measure => omega
              case rel => exact ⟨i + 1, _, by omega, rfl, by go_num, by (have := HNn.out; first | go_num | (congr 1; omega)), rfl⟩
            · have hit' : decide ((i : Int) < L.length) = false := by simp; omega
              have hiL : i = L.length := by omega
              subst hiL
              have HOk5 := Lib.hid (HOk4.out.of (below_drewN (Below.refl _ _) q))
              have HU5 : Hid (Gx (w4.drewN q) w3.heap.size u) := Lib.hid HU4.out
              generalize w4.drewN q = w5 at HOk5 HU5 ⊢
              have u0 := cellOf' HU5.out
              have hG := frozOf' HOk5.out.box
              have hyz := cellOf' HOk5.out.box
              have hyl := HOk5.out.box.lt
              have HOk6 : Hid (Ok w1 (((((((((w5.setCell ⟨w1.heap.size, 0, none⟩ (.int .i64 u.now.ability)).setCell ⟨w1.heap.size, 1, none⟩ (.int .i64 u.now.target)).setCell ⟨w1.heap.size, 2, none⟩ (.int .i64 u.now.since)).setCell ⟨w1.heap.size, 3, none⟩ (.int .i64 u.now.untl)).setCell ⟨w1.heap.size, 4, none⟩ (.int .i64 u.next.ability)).setCell ⟨w1.heap.size, 5, none⟩ (.int .i64 u.next.target)).setCell ⟨w1.heap.size, 6, none⟩ (.int .i64 u.next.since)).setCell ⟨w1.heap.size, 7, none⟩ (.int .i64 u.next.untl)).setCell ⟨w1.heap.size, 8, none⟩ (.int .i64 u.wait)) (k + 1) A c M (D ++ L) u t2) := Lib.hid (HOk5.out.stepped HP1.out HP2.out HP3.out (HOk5.out.own.putG (Nat.lt_succ_self _) u) (HOk5.out.box.putG u) (below_putG HOk5.out.low (Nat.le_refl _) u))
              obtain ⟨z0, z1, z2, z3, z4, z5, z6, z7, z8⟩ := HOk6.out.box.at
              have HRg := Lib.hid (fun V => by have := pright_any u V; rewrite [HOk6.out.right] at this; exact this)
              cases hua : decide (u.now.ability = 0) with
              | true =>
                have hne : (u.now.ability != 0) = false := by simpa using hua
                go_wp2_with ((with_reducible refine (HRg.out _).mono ?_); rintro e w8 ⟨rfl, hB8⟩; have HOkZ := Lib.hid (HOk6.out.of hB8); clear hB8)
                refine Handed.intro (K - (k + 1)) (by omega) ?_
                go_step
                exact ⟨k + 1, A, c, M, D ++ L, u, t2, _, _, _, _, _, _, rfl, by kernel_rfl, by omega, rfl, by go_num, rfl, by rw [List.length_append, Int.natCast_add], rfl, HOkZ⟩
              | false =>
                have hne : (u.now.ability != 0) = true := by simpa using hua
                have hud : decide (u.now.untl ≤ t2) = false := by
                  have h9 := HP4.out
                  have h8 : u.now.ability ≠ 0 := by simpa using hua
                  exact decide_eq_false (fun g => h9 ⟨h8, g⟩)
                go_wp2_with ((with_reducible refine (HRg.out _).mono ?_); rintro e w8 ⟨rfl, hB8⟩; have HOkZ := Lib.hid (HOk6.out.of hB8); clear hB8)
                refine Handed.intro (K - (k + 1)) (by omega) ?_
                go_step
                exact ⟨k + 1, A, c, M, D ++ L, u, t2, _, _, _, _, _, _, rfl, by kernel_rfl, by omega, rfl, by go_num, rfl, by rw [List.length_append, Int.natCast_add], rfl, HOkZ⟩
        · clear hj'
          obtain ⟨y, hy, hy7⟩ := and_le x2 7 (by omega)
          by_cases hz : y = 0
          · subst hz
            have hy' : bits BinOp.and IntKind.i64 x2 7 = 0 := by simpa using hy
            have HSp := Lib.hid (fun V => pstop_any S V)
            obtain ⟨n, hn⟩ : ∃ n, spN S = n := ⟨_, rfl⟩
            have hnM : (D.length : Int) + n = (M.length : Int) := by rw [← hn, ← pend_len, HOk2.out.dl]; omega
            rw [hn] at HSp
            have HM2 : Hid (M.length ≤ 200) := Lib.hid (by have := HML.out; have := HK1.out; omega)
            have hwn : IntKind.i64.wrap ((D.length : Int) + n) = (M.length : Int) := by rw [hnM]; exact IntWalk.i64_in _ (by have := HM2.out; omega)
            have hwn2 : wrap64 ((D.length : Int) + n) = (M.length : Int) := by rw [hnM]; exact IntWalk.wrap64_in _ (by have := HM2.out; omega)
            have hw3 : IntKind.i64.wrap (t2 + 3) = t2 + 3 := IntWalk.i64_in _ (by have := HT0.out; have := HT6.out; omega)
            have hw4 : wrap64 (t2 + 3) = t2 + 3 := IntWalk.wrap64_in _ (by have := HT0.out; have := HT6.out; omega)
            have hDM : (D.length : Int) ≤ (M.length : Int) := by have := HOk2.out.dl; omega
            have HNn := Lib.hid hnM
            clear hn hnM hy
            obtain ⟨z0, z1, z2, z3, z4, z5, z6, z7, z8⟩ := HOk2.out.box.at
            go_wp2_with (fail)
            (with_reducible refine (HSp.out _).mono ?_); rintro e w3 ⟨rfl, hB3⟩
            have HOk3 := Lib.hid (HOk2.out.of hB3)
            have HOk4 := Lib.hid (HOk3.out.of (below_box w3 (oCg ⟨zCa, zCa, S.wait⟩)))
            have HU4 := Lib.hid (Gx.new w3 ⟨zCa, zCa, S.wait⟩)
            clear hB3 z0 z1 z2 z3 z4 z5 z6 z7 z8
            obtain ⟨A', c', hA', _, hsh⟩ := HOk4.out.own.shape
            injection hA' with e1 e2 e3
            subst e1; subst e3
            have hMc : M.length ≤ c := by
              rcases hsh with ⟨_, hM, hc⟩ | ⟨_, _, _, _, _, hlc, _⟩
              · rw [hM, hc]; exact Nat.le_refl _
              · exact hlc
            have hAn : A = none → M.length = 0 := by
              rintro rfl
              rcases hsh with ⟨_, hM, hc⟩ | ⟨_, _, hA, _⟩
              · rw [hM]; rfl
              · cases hA
            clear hsh
            have hMc2 : (M.length : Int) ≤ (c : Int) := by omega
            have hDc2 : (D.length : Int) ≤ (c : Int) := by omega
            have HDM := Lib.hid hDM
            have u0 := cellOf' HU4.out
            have hG := frozOf' HOk4.out.box
            have hyz := cellOf' HOk4.out.box
            have hyl := HOk4.out.box.lt
            cases A with
            | none =>
              have hD : D.length = 0 := by have := hAn rfl; omega
              have hAn2 := Lib.hid (hAn rfl)
              clear hAn hMc
              have HOn : Hid (OW ca (w3.alloc (oCg ⟨zCa, zCa, S.wait⟩)) (w1.heap.size + 1) (.slice none D.length 0) D) := Lib.hid (by rw [List.eq_nil_of_length_eq_zero hD]; exact OW.nil ca _ _)
              have HD := Lib.hid hD
              have hDa : decide ((D.length : Int) = 0) = true := decide_eq_true (by omega)
              have hDb : ((D.length : Int) == 0) = true := by rw [beq_iff_eq]; omega
              clear hD
              have HOk5 : Hid (Ok w1 (((((((((((w3.alloc (oCg ⟨zCa, zCa, S.wait⟩)).setCell ⟨w1.heap.size, 0, none⟩ (.int .i64 0)).setCell ⟨w1.heap.size, 1, none⟩ (.int .i64 0)).setCell ⟨w1.heap.size, 2, none⟩ (.int .i64 0)).setCell ⟨w1.heap.size, 3, none⟩ (.int .i64 0)).setCell ⟨w1.heap.size, 4, none⟩ (.int .i64 0)).setCell ⟨w1.heap.size, 5, none⟩ (.int .i64 0)).setCell ⟨w1.heap.size, 6, none⟩ (.int .i64 0)).setCell ⟨w1.heap.size, 7, none⟩ (.int .i64 0)).setCell ⟨w1.heap.size, 8, none⟩ (.int .i64 S.wait)).setCell ⟨w1.heap.size, 8, none⟩ (.int .i64 (t2 + 3))) (k + 1) none 0 D D ⟨zCa, zCa, t2 + 3⟩ t2) := Lib.hid (HOk4.out.stopped HK1.out (((HOn.out).putG (Nat.lt_succ_self _) ⟨zCa, zCa, S.wait⟩).setO (Nat.lt_succ_self _) 8 _) ((HOk4.out.box.putG ⟨zCa, zCa, S.wait⟩).set8 (t2 + 3)) ((below_putG HOk4.out.low (Nat.le_refl _) ⟨zCa, zCa, S.wait⟩).setCell (p := ⟨w1.heap.size, 8, none⟩) (Nat.le_refl _) _))
              obtain ⟨z0, z1, z2, z3, z4, z5, z6, z7, z8⟩ := HOk5.out.box.at
              have HRg := Lib.hid (fun V => by have := pright_any ⟨zCa, zCa, t2 + 3⟩ V; rewrite [HOk5.out.right] at this; exact this)
              go_wp2_with ((with_reducible refine (HRg.out _).mono ?_); rintro e w8 ⟨rfl, hB8⟩; have HOkZ := Lib.hid (HOk5.out.of hB8); clear hB8)
              refine Handed.intro (K - (k + 1)) (by omega) ?_
              go_step
              exact ⟨k + 1, none, 0, D, D, ⟨zCa, zCa, t2 + 3⟩, t2, _, _, _, _, _, _, rfl, by kernel_rfl, by omega, rfl, by go_num, rfl, rfl, by rw [HD.out], HOkZ⟩
            | some ad =>
              clear hAn hMc
              by_cases hD : D.length = 0
              · have HOn : Hid (OW ca (w3.alloc (oCg ⟨zCa, zCa, S.wait⟩)) (w1.heap.size + 1) (.slice none D.length 0) D) := Lib.hid (by rw [List.eq_nil_of_length_eq_zero hD]; exact OW.nil ca _ _)
                have HD := Lib.hid hD
                have hDa : decide ((D.length : Int) = 0) = true := decide_eq_true (by omega)
                have hDb : ((D.length : Int) == 0) = true := by rw [beq_iff_eq]; omega
                clear hD
                have HOk5 : Hid (Ok w1 (((((((((((w3.alloc (oCg ⟨zCa, zCa, S.wait⟩)).setCell ⟨w1.heap.size, 0, none⟩ (.int .i64 0)).setCell ⟨w1.heap.size, 1, none⟩ (.int .i64 0)).setCell ⟨w1.heap.size, 2, none⟩ (.int .i64 0)).setCell ⟨w1.heap.size, 3, none⟩ (.int .i64 0)).setCell ⟨w1.heap.size, 4, none⟩ (.int .i64 0)).setCell ⟨w1.heap.size, 5, none⟩ (.int .i64 0)).setCell ⟨w1.heap.size, 6, none⟩ (.int .i64 0)).setCell ⟨w1.heap.size, 7, none⟩ (.int .i64 0)).setCell ⟨w1.heap.size, 8, none⟩ (.int .i64 S.wait)).setCell ⟨w1.heap.size, 8, none⟩ (.int .i64 (t2 + 3))) (k + 1) none 0 D D ⟨zCa, zCa, t2 + 3⟩ t2) := Lib.hid (HOk4.out.stopped HK1.out (((HOn.out).putG (Nat.lt_succ_self _) ⟨zCa, zCa, S.wait⟩).setO (Nat.lt_succ_self _) 8 _) ((HOk4.out.box.putG ⟨zCa, zCa, S.wait⟩).set8 (t2 + 3)) ((below_putG HOk4.out.low (Nat.le_refl _) ⟨zCa, zCa, S.wait⟩).setCell (p := ⟨w1.heap.size, 8, none⟩) (Nat.le_refl _) _))
                obtain ⟨z0, z1, z2, z3, z4, z5, z6, z7, z8⟩ := HOk5.out.box.at
                have HRg := Lib.hid (fun V => by have := pright_any ⟨zCa, zCa, t2 + 3⟩ V; rewrite [HOk5.out.right] at this; exact this)
                go_wp2_with ((with_reducible refine (HRg.out _).mono ?_); rintro e w8 ⟨rfl, hB8⟩; have HOkZ := Lib.hid (HOk5.out.of hB8); clear hB8)
                refine Handed.intro (K - (k + 1)) (by omega) ?_
                go_step
                exact ⟨k + 1, none, 0, D, D, ⟨zCa, zCa, t2 + 3⟩, t2, _, _, _, _, _, _, rfl, by kernel_rfl, by omega, rfl, by go_num, rfl, rfl, by rw [HD.out], HOkZ⟩
              · have HOn : Hid (OW ca (w3.alloc (oCg ⟨zCa, zCa, S.wait⟩)) (w1.heap.size + 1) (.slice (some ad) D.length c) D) := Lib.hid (by have h9 := HOk4.out.own.cut (m := D.length) (by have := HDM.out; omega) (by simp); rewrite [HOk4.out.take] at h9; exact h9)
                have hDa : decide ((D.length : Int) = 0) = false := decide_eq_false (by omega)
                have hDb : ((D.length : Int) == 0) = false := by rw [beq_eq_false_iff_ne]; omega
                clear hD
                have HOk5 : Hid (Ok w1 (((((((((((w3.alloc (oCg ⟨zCa, zCa, S.wait⟩)).setCell ⟨w1.heap.size, 0, none⟩ (.int .i64 0)).setCell ⟨w1.heap.size, 1, none⟩ (.int .i64 0)).setCell ⟨w1.heap.size, 2, none⟩ (.int .i64 0)).setCell ⟨w1.heap.size, 3, none⟩ (.int .i64 0)).setCell ⟨w1.heap.size, 4, none⟩ (.int .i64 0)).setCell ⟨w1.heap.size, 5, none⟩ (.int .i64 0)).setCell ⟨w1.heap.size, 6, none⟩ (.int .i64 0)).setCell ⟨w1.heap.size, 7, none⟩ (.int .i64 0)).setCell ⟨w1.heap.size, 8, none⟩ (.int .i64 S.wait)).setCell ⟨w1.heap.size, 8, none⟩ (.int .i64 (t2 + 3))) (k + 1) (some ad) c D D ⟨zCa, zCa, t2 + 3⟩ t2) := Lib.hid (HOk4.out.stopped HK1.out (((HOn.out).putG (Nat.lt_succ_self _) ⟨zCa, zCa, S.wait⟩).setO (Nat.lt_succ_self _) 8 _) ((HOk4.out.box.putG ⟨zCa, zCa, S.wait⟩).set8 (t2 + 3)) ((below_putG HOk4.out.low (Nat.le_refl _) ⟨zCa, zCa, S.wait⟩).setCell (p := ⟨w1.heap.size, 8, none⟩) (Nat.le_refl _) _))
                obtain ⟨z0, z1, z2, z3, z4, z5, z6, z7, z8⟩ := HOk5.out.box.at
                have HRg := Lib.hid (fun V => by have := pright_any ⟨zCa, zCa, t2 + 3⟩ V; rewrite [HOk5.out.right] at this; exact this)
                go_wp2_with ((with_reducible refine (HRg.out _).mono ?_); rintro e w8 ⟨rfl, hB8⟩; have HOkZ := Lib.hid (HOk5.out.of hB8); clear hB8)
                refine Handed.intro (K - (k + 1)) (by omega) ?_
                go_step
                exact ⟨k + 1, (some ad), c, D, D, ⟨zCa, zCa, t2 + 3⟩, t2, _, _, _, _, _, _, rfl, by kernel_rfl, by omega, rfl, by go_num, rfl, rfl, rfl, HOkZ⟩
          · have hy' : bits BinOp.and IntKind.i64 x2 7 = (y : Int) := hy
            have hz1 : decide ((y : Int) = 0) = false := by simp; omega
            have hz2 : ((y : Int) == 0) = false := by simp; omega
            clear hy
            obtain ⟨z0, z1, z2, z3, z4, z5, z6, z7, z8⟩ := HOk2.out.box.at
            have HRg := Lib.hid (fun V => by have := pright_any S V; rewrite [HOk2.out.right] at this; exact this)
            go_wp2_with ((with_reducible refine (HRg.out _).mono ?_); rintro e w8 ⟨rfl, hB8⟩; have HOkZ := Lib.hid (HOk2.out.of hB8); clear hB8)
            refine Handed.intro (K - (k + 1)) (by omega) ?_
            go_step
            exact ⟨k + 1, A, c, M, D, S, t2, _, _, _, _, _, _, rfl, by kernel_rfl, by omega, rfl, by go_num, rfl, rfl, rfl, HOkZ⟩
    · have hlt' : decide ((k : Int) < K) = false := by simp; omega
      have hkK : k = K := by omega
      subst hkK
      have HSe := Lib.hid (fun V => pstep_any S HOk.out.fs 9223372036854775807 V)
      obtain ⟨z0, z1, z2, z3, z4, z5, z6, z7, z8⟩ := HOk.out.box.at
      go_wp2_with (fail)
      (with_reducible refine (HSe.out _).mono ?_); rintro e w3 ⟨u, A1, c1, L, HL, rfl, HO1, hB3⟩
      have HOk3 := Lib.hid (HOk.out.of hB3)
      have HOk4 := Lib.hid (HOk3.out.of (below_box w3 (oCg u)))
      have hE := HOk.out.all HL.out
      have hM2 : (M.length : Int) ≤ 200 := by have := HOk.out.ml; omega
      have hE2 : (D.length : Int) + (L.length : Int) = (M.length : Int) := by omega
      have hwE : IntKind.i64.wrap ((D.length : Int) + (L.length : Int)) = (M.length : Int) := by rw [hE2]; exact IntWalk.i64_in _ (by omega)
      have hwE2 : wrap64 ((D.length : Int) + (L.length : Int)) = (M.length : Int) := by rw [hE2]; exact IntWalk.wrap64_in _ (by omega)
      clear hB3 z0 z1 z2 z3 z4 z5 z6 z7 z8 hE hE2 hM2
      go_wp2
      go_ret
      exact ⟨by first | rfl | simp, HW1.out.trans (HOk4.out.low.mono HW1.out.size)⟩


set_option maxRecDepth 100000 in
theorem lifted (os : Os) (started : os.Started) (H : Type) (enc : TypeId × Value → H) :
    ReturnsInHanded {} Try.checked os 3 .any (Rows.castOnceSpec.pre6 enc Try.prog Try.f3 Rows.castOnceRow.domain false) (Rows.castOnceSpec.post enc Try.prog Try.f3 false true false false) := by
  refine returnsInHanded_of_change (C := Try.checked) own started (by kernel_rfl) Try.func3
    (ChangeSpec.witness6 (enc := enc) (C := Try.checked) false ⟨#[], #[.slice none 0 0], []⟩ 8 (by kernel_rfl) (by kernel_rfl) (by kernel_rfl) (by kernel_rfl)) ?_
  intro W base args ds gs before hval0 hW hcnd _
  have hval : ∀ (j : Nat) t v, Try.f3.params[j]? = some t → args[j]? = some v → Value.okWide Try.prog W .any base t v := hval0
  have hW' := hW
  obtain ⟨p, q, hA0, hV, rfl, hfz, hnd⟩ := hW
  have hA : DataW.TrodAll enc Try.prog W 0 (fun _ => true) true Try.f3.params.toList args.toList ds p := hA0
  rw [Try.params3] at hA hval
  obtain ⟨v0, vs0, d0, ds0, p0, q0, hargs, rfl, rfl, h0, r0⟩ := trodAll_cons hA
  obtain ⟨rfl, rfl, rfl⟩ := trodAll_nil r0
  obtain rfl : args = #[v0] := by cases args; simp_all
  obtain ⟨rfl, rfl⟩ := trodVars_none hV
  clear hA0 hval0
  have hlt0 : ∀ x ∈ p0, x.block < W.heap.size := fun x hx => hW'.lt x (by simp [hx])
  have hk0 := h0
  obtain ⟨A0, c0, l0, rfl, hr0, hf0⟩ := Opn.viewQ3 (hval 0 22 v0 rfl rfl) h0
  simp only [List.append_nil] at hW'
  refine (walk W A0 c0 l0 hr0 hf0).mono fun e W' ⟨he, hg⟩ => ?_
  subst he
  exact ⟨_, rfl, _, _, _, [], _, [], hW', (trodAll_cons_mk (shut_bool Try.underlying4 _) trodAll_mk0), (trodAll_cons_mk (Below.trod Kop.laidOut (by kernel_rfl) (of_decide_eq_true (by kernel_rfl)) hk0 hg hlt0) trodAll_mk0), rfl, hg.frame _, fun h => by cases h⟩

theorem over : Rows.castOnceRow.holds Try.pinned (OpenSpec.ofChange Rows.castOnceSpec) :=
  OpenClaim.holds_of_wide 3 Try.f3 rfl rfl rfl rfl rfl rfl rfl ⟨rfl, rfl, rfl, rfl, rfl⟩ rfl rfl rfl rfl rfl (by kernel_rfl) Try.func3 (by kernel_rfl)
    (of_decide_eq_true (by kernel_rfl)) (by unfold Func.isWrapper; first | (rw [if_pos (by decide +kernel)]; kernel_rfl) | (rw [if_neg (by decide +kernel)]; exact ⟨rfl, rfl⟩))
    (fun os started H enc _ => lifted os started H enc)

/-- The given statement. -/
theorem proved : Rows.CastOnceSaid :=
  over
#print axioms proved
end Go.Proofs.Ytmhnkjjcipcjlaa.castOnce
