/-
  The law of all charges: of n charges n are used at once, and then none; they come back one by one, each a wait behind the other, and who asks for the next is told the first of these times.
-/
import Derived.Test.YtmdnjkiciaidiaaSma
import Derived.Test.YtmdnjkiciaidiaaOpn
import Derived.WalkKit
import Derived.ProofKit
import Derived.OpenShut
namespace Go.Proofs.Ytmdnjkiciaidiaa.coolAll
open Go.ChangeShapes Go.WideShapes Go.ChangeAt Go.RowKit Con
set_option linter.unusedVariables false

theorem own : ownKnob Try.prog.godebug = none := by kernel_rfl

abbrev aw (wt : Int) (N : Nat) : Abl := ⟨1, 0, wt, N, 0, 0, false, none, 0, 0⟩
theorem one_len (id : Int) (b : List Int) : (oneI id b).length ≤ 1 := by unfold oneI; split <;> simp
theorem one_each {id : Int} {b : List Int} {Q : Int → List Int → Prop} (h : Q id b) : ∀ x ∈ oneI id b, Q x.1 x.2 := by
  intro x hx
  unfold oneI at hx
  split at hx
  · cases hx
  · rcases List.mem_singleton.1 hx with rfl; exact h
theorem steps_fits {now wt : Int} {k : Nat} (h1 : 0 ≤ now) (h2 : now ≤ 1099511627776) (h3 : 1 ≤ wt) (h4 : wt ≤ 1000000) (hk : k ≤ 100) : ∀ y ∈ stepsI now wt k, Fits y := by
  intro y hy
  obtain ⟨j, hj, rfl⟩ := List.mem_map.1 hy
  have hj2 : j < k := List.mem_range.1 hj
  have h5 : ((j : Int) + 1) * wt ≤ 100 * 1000000 := Int.mul_le_mul (by omega) h4 (by omega) (by omega)
  have h6 : 0 ≤ ((j : Int) + 1) * wt := Int.mul_nonneg (by omega) (by omega)
  exact ⟨by omega, by omega⟩
theorem way_len {now wt : Int} (h : 1 ≤ wt) (k : Nat) : (wyI (oneI 1 (stepsI now wt k)) 1 now).length = k := by
  rw [one_way, aw_all (steps_above h k), steps_len]
section
variable {V V' : World} {A : Option Addr} {M : List Co} {now wt : Int} {N k c : Nat}
theorem ca_bk (hk : k ≤ 100) : ∀ x ∈ oneI 1 (stepsI now wt k), x.2.length ≤ 1000 := one_each (Q := fun _ b => b.length ≤ 1000) (by rw [steps_len]; omega)
theorem ca_yes (h1 : 0 ≤ now) (h2 : now ≤ 1099511627776) (h3 : 1 ≤ wt) (h4 : wt ≤ 1000000) (hN : N ≤ 100) (hk : k < N) (hS : SmR V A M (oneI 1 (stepsI now wt k))) :
    Calls Try.prog 10 #[.slice A M.length c, .agg #[.int .i64 1, .int .i64 0, .int .i64 wt, .int .i64 N, .int .i64 0, .int .i64 0, .bool false, .slice none 0 0], .int .i64 now] V (UpO V true (oneI 1 (stepsI now wt (k + 1)))) := by
  have hl := one_len 1 (stepsI now wt k)
  have h := use_yes (w := V) (B := V.heap.size) (A := A) (l := M) (n := M.length) (cp := c) (aw wt N) now ⟨by show _ ≤ (N : Int); omega, by show (N : Int) ≤ _; omega⟩ rfl (by rw [hS.len]; omega) (hS.each (Q := fun _ b => b.length ≤ 1000) (ca_bk (by omega))) hS.bc hS.kr (Nat.le_refl _) (by
    rw [hS.pl]
    refine ⟨all_right h3 (by omega), (by show (1 : Int) ≤ 1; decide), ?_, ?_⟩
    · show ((wyI _ 1 now).length : Int) < (N : Int); rw [way_len h3]; omega
    · show (wyI _ 1 now).length < 100; rw [way_len h3]; omega) ⟨by show _ ≤ wt; omega, by show wt ≤ _; omega⟩ ⟨by omega, by omega⟩ (hS.each (Q := fun _ b => ∀ y ∈ b, Fits y) (one_each (Q := fun _ b => ∀ y ∈ b, Fits y) (steps_fits h1 h2 h3 h4 (by omega))))
  have e : usL (M.map Co.pl) (aw wt N).id (aw wt N).cool now = oneI 1 (stepsI now wt (k + 1)) := by rw [hS.pl]; exact all_use h3 h4 h1 h2 (by omega)
  rw [e] at h; exact h
theorem ca_no (h3 : 1 ≤ wt) (hN : N ≤ 100) (hS : SmR V A M (oneI 1 (stepsI now wt N))) :
    Calls Try.prog 10 #[.slice A M.length c, .agg #[.int .i64 1, .int .i64 0, .int .i64 wt, .int .i64 N, .int .i64 0, .int .i64 0, .bool false, .slice none 0 0], .int .i64 now] V (UpO V false (oneI 1 (stepsI now wt N))) := by
  have hl := one_len 1 (stepsI now wt N)
  have h := use_no (w := V) (B := V.heap.size) (A := A) (l := M) (n := M.length) (cp := c) (aw wt N) now ⟨by show _ ≤ (N : Int); omega, by show (N : Int) ≤ _; omega⟩ rfl (by rw [hS.len]; omega) (hS.each (Q := fun _ b => b.length ≤ 1000) (ca_bk hN)) hS.bc hS.kr (Nat.le_refl _) (by
    rw [hS.pl]
    intro hu
    have h9 : ((wyI (oneI 1 (stepsI now wt N)) 1 now).length : Int) < (N : Int) := hu.2.2.1
    rw [way_len h3] at h9; omega)
  rw [hS.pl] at h; exact h
theorem ca_rd (h3 : 1 ≤ wt) (hN : N ≤ 100) (hS : SmR V A M (oneI 1 (stepsI now wt N))) (hb : Below V.heap.size V V') {t d : Int} (hk : k ≤ N) (hd : 0 ≤ d) (hd2 : d < wt) (ht : t = now + (k : Int) * wt + d) :
    Calls Try.prog 19 #[.slice A M.length c, .agg #[.int .i64 1, .int .i64 0, .int .i64 wt, .int .i64 N, .int .i64 0, .int .i64 0, .bool false, .slice none 0 0], .int .i64 t] V' fun e w' => e = .returned (.int .i64 k) ∧ Below V'.heap.size V' w' := by
  have hl := one_len 1 (stepsI now wt N)
  have h := ready_any (w := V') (n := M.length) (cp := c) (aw wt N) t ⟨by show _ ≤ (N : Int); omega, by show (N : Int) ≤ _; omega⟩ rfl (by rw [hS.len]; omega) (hS.each (Q := fun _ b => b.length ≤ 1000) (ca_bk hN)) hS.bc (hS.of hb) hb.size
  rw [hS.pl] at h
  have e : rdI (aw wt N).charges (wyI (oneI 1 (stepsI now wt N)) (aw wt N).id t).length = k := by rw [ht]; exact all_ready h3 hk hd hd2
  rw [e] at h; exact h
theorem ca_nx (h3 : 1 ≤ wt) (hN1 : 1 ≤ N) (hN : N ≤ 100) (hS : SmR V A M (oneI 1 (stepsI now wt N))) (hb : Below V.heap.size V V') :
    Calls Try.prog 21 #[.slice A M.length c, .agg #[.int .i64 1, .int .i64 0, .int .i64 wt, .int .i64 N, .int .i64 0, .int .i64 0, .bool false, .slice none 0 0], .int .i64 now] V' fun e w' => e = .returned (.int .i64 (now + wt)) ∧ Below V'.heap.size V' w' := by
  have hl := one_len 1 (stepsI now wt N)
  have h := next_any (w := V') (n := M.length) (cp := c) (aw wt N) now ⟨by show _ ≤ (N : Int); omega, by show (N : Int) ≤ _; omega⟩ rfl (by rw [hS.len]; omega) (hS.each (Q := fun _ b => b.length ≤ 1000) (ca_bk hN)) hS.bc (hS.of hb) hb.size
  rw [hS.pl] at h
  have e : nxI (oneI 1 (stepsI now wt N)) (aw wt N).id (aw wt N).charges now = now + wt := all_next h3 hN1
  rw [e] at h; exact h
end

set_option maxRecDepth 100000 in
set_option maxHeartbeats 8000000 in
theorem walk (w : World) (ch : Int) (hf0 : Fits ch) (wt : Int) (hf1 : Fits wt) (now : Int) (hf2 : Fits now) :
    Calls Try.prog 5 #[.int .i64 ch, .int .i64 wt, .int .i64 now] w fun e w' => e = .returned (.bool true) ∧ Below w.heap.size w w' := by
  have HSmall := Lib.hid (small_any w)
  by_cases g1 : ch < 1
  · have d1 : decide (ch < 1) = true := by simpa using g1
    go_enter Try.func5, Try.ntmps5
    go_wp2_with ((with_reducible refine HSmall.out.mono ?_); rintro e w1 ⟨rfl, hB1⟩)
    go_ret
    exact ⟨rfl, hB1⟩
  have d1 : decide (ch < 1) = false := by simp; omega
  by_cases g2 : 100 < ch
  · have d2 : decide (100 < ch) = true := by simpa using g2
    go_enter Try.func5, Try.ntmps5
    go_wp2_with ((with_reducible refine HSmall.out.mono ?_); rintro e w1 ⟨rfl, hB1⟩)
    go_ret
    exact ⟨rfl, hB1⟩
  have d2 : decide (100 < ch) = false := by simp; omega
  by_cases g3 : wt < 1
  · have d3 : decide (wt < 1) = true := by simpa using g3
    go_enter Try.func5, Try.ntmps5
    go_wp2_with ((with_reducible refine HSmall.out.mono ?_); rintro e w1 ⟨rfl, hB1⟩)
    go_ret
    exact ⟨rfl, hB1⟩
  have d3 : decide (wt < 1) = false := by simp; omega
  by_cases g4 : 1000000 < wt
  · have d4 : decide (1000000 < wt) = true := by simpa using g4
    go_enter Try.func5, Try.ntmps5
    go_wp2_with ((with_reducible refine HSmall.out.mono ?_); rintro e w1 ⟨rfl, hB1⟩)
    go_ret
    exact ⟨rfl, hB1⟩
  have d4 : decide (1000000 < wt) = false := by simp; omega
  by_cases g5 : now < 0
  · have d5 : decide (now < 0) = true := by simpa using g5
    go_enter Try.func5, Try.ntmps5
    go_wp2_with ((with_reducible refine HSmall.out.mono ?_); rintro e w1 ⟨rfl, hB1⟩)
    go_ret
    exact ⟨rfl, hB1⟩
  have d5 : decide (now < 0) = false := by simp; omega
  by_cases g6 : 1099511627776 < now
  · have d6 : decide (1099511627776 < now) = true := by simpa using g6
    go_enter Try.func5, Try.ntmps5
    go_wp2_with ((with_reducible refine HSmall.out.mono ?_); rintro e w1 ⟨rfl, hB1⟩)
    go_ret
    exact ⟨rfl, hB1⟩
  have d6 : decide (1099511627776 < now) = false := by simp; omega
  obtain ⟨N, rfl⟩ : ∃ N : Nat, ch = (N : Int) := ⟨ch.toNat, by omega⟩
  have HN1 : Hid (1 ≤ N) := Lib.hid (by omega)
  have HN2 : Hid (N ≤ 100) := Lib.hid (by omega)
  have HW1 : Hid (1 ≤ wt) := Lib.hid (by omega)
  have HW2 : Hid (wt ≤ 1000000) := Lib.hid (by omega)
  have HT1 : Hid (0 ≤ now) := Lib.hid (by omega)
  have HT2 : Hid (now ≤ 1099511627776) := Lib.hid (by omega)
  clear hf0 hf1 hf2 g1 g2 g3 g4 g5 g6
  go_enter Try.func5, Try.ntmps5
  go_wp2_with ((with_reducible refine HSmall.out.mono ?_); rintro e w1 ⟨rfl, hB1⟩; have HB1 := Lib.hid hB1; clear hB1; have HBX := Lib.hid (below_box w1 (.cells #[.int .i64 1, .int .i64 0, .int .i64 wt, .int .i64 N, .int .i64 0, .int .i64 0, .bool false, .slice none 0 0] 25)); have HNX := Lib.hid (heap_alloc_new w1 (.cells #[.int .i64 1, .int .i64 0, .int .i64 wt, .int .i64 N, .int .i64 0, .int .i64 0, .bool false, .slice none 0 0] 25)))
  have HV0 := Lib.hid (HB1.out.trans (HBX.out.mono HB1.out.size))
  have HQ : Hid (w1.heap.size < (w1.alloc (.cells #[.int .i64 1, .int .i64 0, .int .i64 wt, .int .i64 N, .int .i64 0, .int .i64 0, .bool false, .slice none 0 0] 25)).heap.size) := Lib.hid (by simp)
  clear d1 d2 d3 d4 d5 d6
  generalize w1.alloc (.cells #[.int .i64 1, .int .i64 0, .int .i64 wt, .int .i64 N, .int .i64 0, .int .i64 0, .bool false, .slice none 0 0] 25) = V at *
  generalize w1.heap.size = q at *
  have HZ : Hid (∀ U, Below V.heap.size V U → q < U.heap.size ∧ ∀ o, U.cell? ⟨q, o, none⟩ = (#[.int .i64 1, .int .i64 0, .int .i64 wt, .int .i64 N, .int .i64 0, .int .i64 0, .bool false, .slice none 0 0] : Array Value)[o]?) := Lib.hid (fun U h => ⟨Nat.lt_of_lt_of_le HQ.out h.size, blk_cell HNX.out h HQ.out⟩)
  go_loopg [9, 10] N (fun gh s9 s10 wr => ∃ (k : Nat) (A1 : Option Addr) (c1 : Nat) (M : List Co), k ≤ N ∧ gh = N - k ∧ s10 = .int .i64 k ∧ s9 = .slice A1 M.length c1 ∧ Hid (SmR wr A1 M (oneI 1 (stepsI now wt k))) ∧ Hid (Below V.heap.size V wr))
  case atStart => exact ⟨0, none, 0, [], by omega, rfl, rfl, rfl, Lib.hid ⟨KR.nil _ _ _, rfl, by simp⟩, Lib.hid (Below.refl _ _)⟩
  case round =>
    obtain ⟨k, A1, c1, M, hk, rfl, rfl, rfl, HS, HW⟩ := hrel
    have zb := (HZ.out wr HW.out).2
    have lb := (HZ.out wr HW.out).1
    by_cases hkn : k < N
    · have hkn' : (k : Int) < N := by omega
      have HKN := Lib.hid hkn
      have hk100 : (k : Int) ≤ 100 := by have := HN2.out; omega
      have HU := Lib.hid (ca_yes (c := c1) HT1.out HT2.out HW1.out HW2.out HN2.out hkn HS.out)
      go_wp2_with ((with_reducible refine HU.out.mono ?_); rintro e w2 ⟨A2, c2, M2, rfl, hM2, hK2, hC2, hB2⟩; clear zb lb; have HW2' := Lib.hid (HW.out.trans (hB2.out.mono HW.out.size)))
      go_roundg (N - (k + 1))
      case measure => have := HKN.out; omega
      case rel => exact ⟨k + 1, A2, c2, M2, by have := HKN.out; omega, rfl, by go_num, rfl, Lib.hid ⟨hK2.out.kr, hM2.out, hC2.out⟩, HW2'⟩
    · have hkn' : decide ((k : Int) < N) = false := by simp; omega
      obtain rfl : k = N := by omega
      have HU := Lib.hid (ca_no (c := c1) HW1.out HN2.out HS.out)
      go_wp2_with ((with_reducible refine HU.out.mono ?_); rintro e w2 ⟨A2, c2, M2, rfl, hM2, hK2, hC2, hB2⟩; clear zb lb; have HW2' := Lib.hid (HW.out.trans (hB2.out.mono HW.out.size)))
      have HR2 := Lib.hid hB2.out
      clear hM2 hK2 hC2 hB2 hkn hkn' hk
      generalize wr = W0 at *
      go_loopg [15] (k + 2) (fun gh s15 wz => ∃ j : Nat, j ≤ k + 1 ∧ gh = k + 2 - j ∧ s15 = .int .i64 j ∧ Hid (Below W0.heap.size W0 wz))
      case atStart => exact ⟨0, by omega, by omega, rfl, HR2⟩
      case round =>
        obtain ⟨j, hj, rfl, rfl, HY⟩ := hrel
        have HYV := Lib.hid (HW.out.trans (HY.out.mono HW.out.size))
        have zb := (HZ.out wr HYV.out).2
        have lb := (HZ.out wr HYV.out).1
        by_cases hjk : j ≤ k
        · have hjk' : decide ((j : Int) ≤ (k : Int)) = true := decide_eq_true (by omega)
          obtain ⟨p, hp⟩ : ∃ p, (j : Int) * wt = p := ⟨_, rfl⟩
          have HP := Lib.hid hp
          have hp0 : 0 ≤ p := by rw [← hp]; exact Int.mul_nonneg (by omega) (by have := HW1.out; omega)
          have hp1 : p ≤ 100 * 1000000 := by rw [← hp]; exact Int.mul_le_mul (by have := HN2.out; omega) HW2.out (by have := HW1.out; omega) (by omega)
          have hpw : IntKind.i64.wrap ((j : Int) * wt) = p := by rw [hp]; exact IntWalk.i64_in _ (by omega)
          have hpw2 : wrap64 ((j : Int) * wt) = p := by rw [hp]; exact IntWalk.wrap64_in _ (by omega)
          clear hp
          have hj100 : (j : Int) ≤ 100 := by have := HN2.out; omega
          have hw1 := HW1.out
          have hw2 := HW2.out
          have ht1 := HT1.out
          have ht2 := HT2.out
          have HJ := Lib.hid hj
          have HR1 := Lib.hid (ca_rd (c := c1) (k := j) (d := 0) HW1.out HN2.out HS.out HY.out hjk (by omega) (by omega) (t := now + p) (by rw [HP.out]; omega))
          by_cases hlt : j < k
          · have hlt' : decide ((j : Int) < (k : Int)) = true := decide_eq_true (by omega)
            have HR9 : Hid (∀ U, Below W0.heap.size W0 U → Calls Try.prog 19 #[.slice A1 M.length c1, .agg #[.int .i64 1, .int .i64 0, .int .i64 wt, .int .i64 k, .int .i64 0, .int .i64 0, .bool false, .slice none 0 0], .int .i64 (now + p + wt - 1)] U fun e w' => e = .returned (.int .i64 j) ∧ Below U.heap.size U w') := Lib.hid (fun U hU => ca_rd (c := c1) (k := j) (d := wt - 1) HW1.out HN2.out HS.out hU hjk (by have := HW1.out; omega) (by omega) (by rw [HP.out]; omega))
            go_wp2_with (first
              | ((with_reducible refine HR1.out.mono ?_); rintro e w3 ⟨rfl, hB3⟩; clear zb lb; have HY3 := Lib.hid (HY.out.trans (hB3.mono HY.out.size)); have zb := (HZ.out w3 (HYV.out.trans (hB3.mono HYV.out.size))).2; have lb := (HZ.out w3 (HYV.out.trans (hB3.mono HYV.out.size))).1; have HR9N := Lib.hid (HR9.out w3 HY3.out); clear hB3)
              | ((with_reducible refine HR9N.out.mono ?_); rintro e w4 ⟨rfl, hB4⟩; clear zb lb; have HY4 := Lib.hid (HY3.out.trans (hB4.mono HY3.out.size)); clear hB4))
            go_roundg (k + 2 - (j + 1))
            case measure => have := HJ.out; omega
            case rel => exact ⟨j + 1, by omega, rfl, by go_num, HY4⟩
          · have hlt' : decide ((j : Int) < (k : Int)) = false := decide_eq_false (by omega)
            go_wp2_with (first
              | ((with_reducible refine HR1.out.mono ?_); rintro e w3 ⟨rfl, hB3⟩; clear zb lb; have HY3 := Lib.hid (HY.out.trans (hB3.mono HY.out.size)); clear hB3))
            go_roundg (k + 2 - (j + 1))
            case measure => have := HJ.out; omega
            case rel => exact ⟨j + 1, by omega, rfl, by go_num, HY3⟩
        · have hjk' : decide ((j : Int) ≤ (k : Int)) = false := decide_eq_false (by omega)
          have hw1 := HW1.out
          have hw2 := HW2.out
          have ht1 := HT1.out
          have ht2 := HT2.out
          have HNXT := Lib.hid (ca_nx (c := c1) HW1.out HN1.out HN2.out HS.out HY.out)
          go_wp2_with ((with_reducible refine HNXT.out.mono ?_); rintro e w3 ⟨rfl, hB3⟩; clear zb lb)
          go_ret
          exact ⟨rfl, HV0.out.trans ((HYV.out.trans (hB3.mono HYV.out.size)).mono HV0.out.size)⟩


set_option maxRecDepth 100000 in
theorem lifted (os : Os) (started : os.Started) (H : Type) (enc : TypeId × Value → H) :
    ReturnsInHanded {} Try.checked os 5 .any (Rows.coolAllSpec.pre6 enc Try.prog Try.f5 Rows.coolAllRow.domain false) (Rows.coolAllSpec.post enc Try.prog Try.f5 false true false false) := by
  refine returnsInHanded_of_change (C := Try.checked) own started (by kernel_rfl) Try.func5
    (ChangeSpec.witness6 (enc := enc) (C := Try.checked) false ⟨#[], #[.int .i64 0, .int .i64 0, .int .i64 0], []⟩ 8 (by kernel_rfl) (by kernel_rfl) (by kernel_rfl) (by kernel_rfl)) ?_
  intro W base args ds gs before hval0 hW hcnd _
  have hval : ∀ (j : Nat) t v, Try.f5.params[j]? = some t → args[j]? = some v → Value.okWide Try.prog W .any base t v := hval0
  have hW' := hW
  obtain ⟨p, q, hA0, hV, rfl, hfz, hnd⟩ := hW
  have hA : DataW.TrodAll enc Try.prog W 0 (fun _ => true) true Try.f5.params.toList args.toList ds p := hA0
  rw [Try.params5] at hA hval
  obtain ⟨v0, vs0, d0, ds0, p0, q0, hargs, rfl, rfl, h0, r0⟩ := trodAll_cons hA
  obtain ⟨v1, vs1, d1, ds1, p1, q1, rfl, rfl, rfl, h1, r1⟩ := trodAll_cons r0
  obtain ⟨v2, vs2, d2, ds2, p2, q2, rfl, rfl, rfl, h2, r2⟩ := trodAll_cons r1
  obtain ⟨rfl, rfl, rfl⟩ := trodAll_nil r2
  obtain rfl : args = #[v0, v1, v2] := by cases args; simp_all
  obtain ⟨rfl, rfl⟩ := trodVars_none hV
  clear hA0 hval0
  obtain ⟨a0, rfl, rfl, rfl, w0⟩ := open_int Try.underlying3 (hval 0 3 v0 rfl rfl) h0
  obtain ⟨a1, rfl, rfl, rfl, w1⟩ := open_int Try.underlying3 (hval 1 3 v1 rfl rfl) h1
  obtain ⟨a2, rfl, rfl, rfl, w2⟩ := open_int Try.underlying3 (hval 2 3 v2 rfl rfl) h2
  simp only [List.append_nil] at hW'
  refine (walk W a0 (Kop.fits_of w0) a1 (Kop.fits_of w1) a2 (Kop.fits_of w2)).mono fun e W' ⟨he, hg⟩ => ?_
  subst he
  exact ⟨_, rfl, _, _, _, [], _, [], hW', (trodAll_cons_mk (shut_bool Try.underlying4 _) trodAll_mk0), (trodAll_cons_mk (shut_int Try.underlying3 w0) (trodAll_cons_mk (shut_int Try.underlying3 w1) (trodAll_cons_mk (shut_int Try.underlying3 w2) trodAll_mk0))), rfl, hg.frame _, fun h => by cases h⟩

theorem over : Rows.coolAllRow.holds Try.pinned (OpenSpec.ofChange Rows.coolAllSpec) :=
  OpenClaim.holds_of_wide 5 Try.f5 rfl rfl rfl rfl rfl rfl rfl ⟨rfl, rfl, rfl, rfl, rfl⟩ rfl rfl rfl rfl rfl (by kernel_rfl) Try.func5 (by kernel_rfl)
    (of_decide_eq_true (by kernel_rfl)) (by unfold Func.isWrapper; first | (rw [if_pos (by decide +kernel)]; kernel_rfl) | (rw [if_neg (by decide +kernel)]; exact ⟨rfl, rfl⟩))
    (fun os started H enc _ => lifted os started H enc)

/-- The given statement. -/
theorem proved : Rows.CoolAllSaid :=
  over
#print axioms proved
end Go.Proofs.Ytmdnjkiciaidiaa.coolAll
