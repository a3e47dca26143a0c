/-
  The stage's theorem: of any uses of right abilities at rising times the row stays right, one may use just where a charge is ready, who waits up to Next may use it, and who waits less may not.
-/
import Derived.Test.YtmdnjkiciaidiaaUss
import Derived.Test.YtmdnjkiciaidiaaKq2
import Derived.WalkKit
import Derived.ProofKit
import Derived.OpenShut
namespace Go.Proofs.Ytmdnjkiciaidiaa.coolUses
open Go.ChangeShapes Go.WideShapes Go.ChangeAt Go.RowKit Con
set_option linter.unusedVariables false

theorem own : ownKnob Try.prog.godebug = none := by kernel_rfl

theorem sub1_in {τ t : Int} (h : Fits τ) (h1 : t ≤ τ) (h0 : 0 ≤ t) : IntKind.i64.wrap (τ - 1) = τ - 1 := by
  obtain ⟨h2, h3⟩ := h
  exact IntWalk.i64_in _ (by omega)
theorem rd1_in {y r : Int} {n : Nat} (h : rdI y n = r) (hy : Fits y) : IntKind.i64.wrap (r - 1) = r - 1 := by
  obtain ⟨h2, h3⟩ := hy
  unfold rdI at h
  exact IntWalk.i64_in _ (by split at h <;> omega)
theorem td_eq {t d : Nat} {t2 : Int} (h : (t : Int) + (d : Int) = t2) : Value.int .i64 t2 = Value.int .i64 ((t + d : Nat) : Int) := by
  rw [← h, Int.natCast_add]
set_option maxRecDepth 100000 in
set_option maxHeartbeats 8000000 in
theorem walk (w : World) (A0 : Option Addr) (c0 : Nat) (ch : List Int) (hr0 : RW nu w w.heap.size A0 ch) (hf0 : ∀ s ∈ ch, Fits s) (A1 : Option Addr) (c1 : Nat) (co : List Int) (hr1 : RW nu w w.heap.size A1 co) (hf1 : ∀ s ∈ co, Fits s) (A2 : Option Addr) (c2 : Nat) (st : List Q2) (hr2 : RW q2 w w.heap.size A2 st) (hf2 : ∀ s ∈ st, FQ2 s) :
    Calls Try.prog 4 #[.slice A0 ch.length c0, .slice A1 co.length c1, .slice A2 st.length c2] w fun e w' => e = .returned (.bool true) ∧ Below w.heap.size w w' := by
  have HSmall := Lib.hid (small_any w)
  have HR0 := Lib.hid hr0; have HR1 := Lib.hid hr1; have HR2 := Lib.hid hr2; have HF1 := Lib.hid hf1; have HF0 := Lib.hid hf0
  clear hr0 hr1 hr2 hf0 hf1 hf2
  obtain ⟨N0, hN0⟩ : ∃ n, ch.length = n := ⟨_, rfl⟩
  obtain ⟨N1, hN1⟩ : ∃ n, co.length = n := ⟨_, rfl⟩
  obtain ⟨K, hK⟩ : ∃ n, st.length = n := ⟨_, rfl⟩
  have HN0 := Lib.hid hN0; have HN1 := Lib.hid hN1; have HK := Lib.hid hK
  rw [hN0, hN1, hK]
  clear hN0 hN1 hK
  by_cases g1 : 20 < (N0 : Int)
  · go_enter Try.func4, Try.ntmps4
    go_wp2_with ((with_reducible refine HSmall.out.mono ?_); rintro e w1 ⟨rfl, hB1⟩)
    go_ret
    exact ⟨rfl, hB1⟩
  have d1 : decide (20 < (N0 : Int)) = false := by simp; omega
  by_cases g2 : 200 < (K : Int)
  · go_enter Try.func4, Try.ntmps4
    go_wp2_with ((with_reducible refine HSmall.out.mono ?_); rintro e w1 ⟨rfl, hB1⟩)
    go_ret
    exact ⟨rfl, hB1⟩
  have d2 : decide (200 < (K : Int)) = false := by simp; omega
  have HK200 : Hid (K ≤ 200) := Lib.hid (by omega)
  have hK200 : (K : Int) ≤ 200 := by omega
  clear g1 g2
  go_enter Try.func4, Try.ntmps4
  go_wp2_with ((with_reducible refine HSmall.out.mono ?_); rintro e w1 ⟨rfl, hB1⟩; have HW1 := Lib.hid hB1; clear hB1)
  go_loopg [8, 9, 10] K (fun gh s8 s9 s10 wr => ∃ (k : Nat) (Al : Option Addr) (cl : Nat) (M : List Co) (t : Nat) (P : List Cp), k ≤ K ∧ gh = K - k ∧ s10 = .int .i64 k ∧ s9 = .int .i64 t ∧ s8 = .slice Al M.length cl ∧ t ≤ 7 * k ∧ Hid (RR wr Al M P) ∧ Hid (Inv ch k P) ∧ Hid (Below w.heap.size w wr))
  case atStart => exact ⟨0, none, 0, [], 0, [], by omega, rfl, rfl, rfl, rfl, by omega, Lib.hid ⟨KR.nil _ _ _, rfl, by simp, by simp, by simp⟩, Lib.hid (inv_nil ch), HW1⟩
  case round =>
    obtain ⟨k, Al, cl, M, t, P, hk, rfl, rfl, rfl, rfl, ht, HRR, HIV, HV0⟩ := hrel
    by_cases hlt : k < K
    · have hlt' : (k : Int) < K := by omega
      obtain ⟨x, hx⟩ : ∃ x, st[k]? = some x := ⟨_, List.getElem?_eq_getElem (by rw [HK.out]; exact hlt)⟩
      obtain ⟨b, off, hA2, hpl, hcq⟩ := (HR2.out.below HV0.out (Nat.le_refl _)).at' hx
      obtain ⟨e0, e1⟩ := cellsQ2 (o := off + k * 2) hcq
      have hpl2 : b < wr.heap.size := Nat.lt_of_lt_of_le hpl HV0.out.size
      subst hA2
      clear hx hcq hpl
      obtain ⟨xa, xb⟩ := x
      simp only at e0 e1
      obtain ⟨j, hj, hj15⟩ := and_le xa 15 (by omega)
      obtain ⟨d, hd, hd7⟩ := and_le xb 7 (by omega)
      have hj' : bits BinOp.and IntKind.i64 xa 15 = (j : Int) := hj
      have hd' : bits BinOp.and IntKind.i64 xb 7 = (d : Int) := hd
      clear hj hd
      have HIVm := Lib.hid HIV.out.more
      by_cases q0 : N0 ≤ j
      · have q0' : decide ((N0 : Int) ≤ (j : Int)) = true := decide_eq_true (by omega)
        go_wp2
        go_roundg (K - (k + 1))
        case measure => omega
        case rel => exact ⟨k + 1, Al, cl, M, t, P, by omega, rfl, by go_num, rfl, rfl, by omega, HRR, HIVm, HV0⟩
      have q0' : decide ((N0 : Int) ≤ (j : Int)) = false := decide_eq_false (by omega)
      by_cases q1 : N1 ≤ j
      · have q1' : decide ((N1 : Int) ≤ (j : Int)) = true := decide_eq_true (by omega)
        go_wp2
        go_roundg (K - (k + 1))
        case measure => omega
        case rel => exact ⟨k + 1, Al, cl, M, t, P, by omega, rfl, by go_num, rfl, rfl, by omega, HRR, HIVm, HV0⟩
      have q1' : decide ((N1 : Int) ≤ (j : Int)) = false := decide_eq_false (by omega)
      have hj0 : (j : Int) < N0 := by omega
      have hj1 : (j : Int) < N1 := by omega
      obtain ⟨y0, hy0⟩ : ∃ y, ch[j]? = some y := ⟨_, List.getElem?_eq_getElem (by rw [HN0.out]; omega)⟩
      obtain ⟨y1, hy1⟩ : ∃ y, co[j]? = some y := ⟨_, List.getElem?_eq_getElem (by rw [HN1.out]; omega)⟩
      obtain ⟨b0, off0, hA0, hp0, f0⟩ := rowNu HR0.out hy0 HV0.out (Nat.le_refl _)
      obtain ⟨b1, off1, hA1, hp1, f1⟩ := rowNu HR1.out hy1 HV0.out (Nat.le_refl _)
      subst hA0; subst hA1
      have HY0 := Lib.hid hy0; have HY1 := Lib.hid hy1
      clear hy0 hy1
      by_cases q2 : y0 < 1
      · have q2' : decide (y0 < 1) = true := by simpa using q2
        go_wp2
        go_roundg (K - (k + 1))
        case measure => omega
        case rel => exact ⟨k + 1, Al, cl, M, t, P, by omega, rfl, by go_num, rfl, rfl, by omega, HRR, HIVm, HV0⟩
      have q2' : decide (y0 < 1) = false := by simp; omega
      by_cases q3 : 100 < y0
      · have q3' : decide (100 < y0) = true := by simpa using q3
        go_wp2
        go_roundg (K - (k + 1))
        case measure => omega
        case rel => exact ⟨k + 1, Al, cl, M, t, P, by omega, rfl, by go_num, rfl, rfl, by omega, HRR, HIVm, HV0⟩
      have q3' : decide (100 < y0) = false := by simp; omega
      by_cases q4 : y1 < 0
      · have q4' : decide (y1 < 0) = true := by simpa using q4
        go_wp2
        go_roundg (K - (k + 1))
        case measure => omega
        case rel => exact ⟨k + 1, Al, cl, M, t, P, by omega, rfl, by go_num, rfl, rfl, by omega, HRR, HIVm, HV0⟩
      have q4' : decide (y1 < 0) = false := by simp; omega
      by_cases q5 : 1000000 < y1
      · have q5' : decide (1000000 < y1) = true := by simpa using q5
        go_wp2
        go_roundg (K - (k + 1))
        case measure => omega
        case rel => exact ⟨k + 1, Al, cl, M, t, P, by omega, rfl, by go_num, rfl, rfl, by omega, HRR, HIVm, HV0⟩
      have q5' : decide (1000000 < y1) = false := by simp; omega
      have HLD : Hid (∀ wz, Below wr.heap.size wr wz → wz.cell? ⟨b0, off0 + j, none⟩ = some (.int .i64 y0) ∧ wz.cell? ⟨b1, off1 + j, none⟩ = some (.int .i64 y1)) := Lib.hid (fun wz h => ⟨(h.cell (p := ⟨b0, off0 + j, none⟩) hp0).trans f0, (h.cell (p := ⟨b1, off1 + j, none⟩) hp1).trans f1⟩)
      have hjw : IntKind.i64.wrap ((j : Int) + 1) = (j : Int) + 1 := IntWalk.i64_in _ (by omega)
      go_wp2
      have hS0 : Below wr.heap.size wr wr.drew := (Below.refl _ _).drew
      refine wp_region_noPanic ?_
      refine wp_region_held_drew (S := fun w' => Below wr.heap.size wr w') (by kernel_rfl) hS0 (fun _ => ?_)
      generalize wr.drew = v0 at hS0 ⊢
      refine wpAnyH_take (i := 0) (oi := ⟨some 79, Op.move (Operand.tmp 11), 3, _, _, none⟩) (v := ?va0) rfl (by kernel_rfl) (by kernel_rfl) (by kernel_rfl) (fun _ _ _ h => h) (Or.inl ⟨by rfl, ?ha0⟩) hS0 ?ra0
      case ha0 => (intro wz hSw; go_simp <;> with_reducible rfl)
      (try simp only [Act.put, List.setIfInBounds_toArray, List.set_cons_zero, List.set_cons_succ])
      refine wpAnyH_take (i := 1) (oi := ⟨some 80, Op.binOp BinOp.add 3 (Operand.tmp 79) (Operand.const (Value.int IntKind.i64 1)) 3, 3, _, _, none⟩) (v := ?va1) rfl (by kernel_rfl) (by kernel_rfl) (by kernel_rfl) (fun _ _ _ h => h) (Or.inl ⟨by rfl, ?ha1⟩) hS0 ?ra1
      case ha1 => (intro wz hSw; go_simp <;> with_reducible rfl)
      (try simp only [Act.put, List.setIfInBounds_toArray, List.set_cons_zero, List.set_cons_succ])
      refine wpAnyH_take (i := 2) (oi := ⟨some 81, Op.move (Operand.tmp 0), 33, _, _, none⟩) (v := ?va2) rfl (by kernel_rfl) (by kernel_rfl) (by kernel_rfl) (fun _ _ _ h => h) (Or.inl ⟨by rfl, ?ha2⟩) hS0 ?ra2
      case ha2 => (intro wz hSw; go_simp <;> with_reducible rfl)
      (try simp only [Act.put, List.setIfInBounds_toArray, List.set_cons_zero, List.set_cons_succ])
      refine wpAnyH_take (i := 3) (oi := ⟨some 82, Op.move (Operand.tmp 11), 3, _, _, none⟩) (v := ?va3) rfl (by kernel_rfl) (by kernel_rfl) (by kernel_rfl) (fun _ _ _ h => h) (Or.inl ⟨by rfl, ?ha3⟩) hS0 ?ra3
      case ha3 => (intro wz hSw; go_simp <;> with_reducible rfl)
      (try simp only [Act.put, List.setIfInBounds_toArray, List.set_cons_zero, List.set_cons_succ])
      refine wpAnyH_take (i := 4) (oi := ⟨some 83, Op.indexAddr 33 (Operand.tmp 81) (Operand.tmp 82), 0, _, _, none⟩) (v := ?va4) rfl (by kernel_rfl) (by kernel_rfl) (by kernel_rfl) (fun _ _ _ h => h) (Or.inl ⟨by rfl, ?ha4⟩) hS0 ?ra4
      case ha4 => (intro wz hSw; go_simp <;> with_reducible rfl)
      (try simp only [Act.put, List.setIfInBounds_toArray, List.set_cons_zero, List.set_cons_succ])
      refine wpAnyH_take (i := 5) (oi := ⟨some 84, Op.load 3 (Operand.tmp 83), 3, _, _, none⟩) (v := ?va5) rfl (by kernel_rfl) (by kernel_rfl) (by kernel_rfl) (fun _ _ _ h => h) (Or.inl ⟨by rfl, ?ha5⟩) hS0 ?ra5
      case ha5 => (intro wz hSw; have l0 := (HLD.out wz hSw).1; have l1 := (HLD.out wz hSw).2; go_simp <;> with_reducible rfl)
      (try simp only [Act.put, List.setIfInBounds_toArray, List.set_cons_zero, List.set_cons_succ])
      refine wpAnyH_take (i := 6) (oi := ⟨some 85, Op.move (Operand.tmp 1), 33, _, _, none⟩) (v := ?va6) rfl (by kernel_rfl) (by kernel_rfl) (by kernel_rfl) (fun _ _ _ h => h) (Or.inl ⟨by rfl, ?ha6⟩) hS0 ?ra6
      case ha6 => (intro wz hSw; go_simp <;> with_reducible rfl)
      (try simp only [Act.put, List.setIfInBounds_toArray, List.set_cons_zero, List.set_cons_succ])
      refine wpAnyH_take (i := 7) (oi := ⟨some 86, Op.move (Operand.tmp 11), 3, _, _, none⟩) (v := ?va7) rfl (by kernel_rfl) (by kernel_rfl) (by kernel_rfl) (fun _ _ _ h => h) (Or.inl ⟨by rfl, ?ha7⟩) hS0 ?ra7
      case ha7 => (intro wz hSw; go_simp <;> with_reducible rfl)
      (try simp only [Act.put, List.setIfInBounds_toArray, List.set_cons_zero, List.set_cons_succ])
      refine wpAnyH_take (i := 8) (oi := ⟨some 87, Op.indexAddr 33 (Operand.tmp 85) (Operand.tmp 86), 0, _, _, none⟩) (v := ?va8) rfl (by kernel_rfl) (by kernel_rfl) (by kernel_rfl) (fun _ _ _ h => h) (Or.inl ⟨by rfl, ?ha8⟩) hS0 ?ra8
      case ha8 => (intro wz hSw; go_simp <;> with_reducible rfl)
      (try simp only [Act.put, List.setIfInBounds_toArray, List.set_cons_zero, List.set_cons_succ])
      refine wpAnyH_take (i := 9) (oi := ⟨some 88, Op.load 3 (Operand.tmp 87), 3, _, _, none⟩) (v := ?va9) rfl (by kernel_rfl) (by kernel_rfl) (by kernel_rfl) (fun _ _ _ h => h) (Or.inl ⟨by rfl, ?ha9⟩) hS0 ?ra9
      case ha9 => (intro wz hSw; have l0 := (HLD.out wz hSw).1; have l1 := (HLD.out wz hSw).2; go_simp <;> with_reducible rfl)
      (try simp only [Act.put, List.setIfInBounds_toArray, List.set_cons_zero, List.set_cons_succ])
      refine wpAnyH_take (i := 10) (oi := ⟨some 89, Op.build 25 #[(0, Operand.tmp 80), (3, Operand.tmp 84), (2, Operand.tmp 88)], 25, _, _, none⟩) (v := ?va10) rfl (by kernel_rfl) (by kernel_rfl) (by kernel_rfl) (fun _ _ _ h => h) (Or.inl ⟨by rfl, ?ha10⟩) hS0 ?ra10
      case ha10 => (intro wz hSw; go_simp <;> with_reducible rfl)
      (try simp only [Act.put, List.setIfInBounds_toArray, List.set_cons_zero, List.set_cons_succ])
      refine wpAnyH_ready (rs := [11]) (by kernel_rfl) (by simp) ?_
      refine AllReadyH.cons (o := ⟨some 12, Op.alloc 25, 0, _, _, none⟩) rfl (fun K hK => ?_) AllReadyH.nil
      go_simp
      have hZ1 := heap_alloc_new v0 (.cells #[.int .i64 0, .int .i64 0, .int .i64 0, .int .i64 0, .int .i64 0, .int .i64 0, .bool false, .slice none 0 0] 25); have hge : wr.heap.size ≤ v0.heap.size := hS0.size; have hS1 : Below wr.heap.size wr (v0.alloc (.cells #[.int .i64 0, .int .i64 0, .int .i64 0, .int .i64 0, .int .i64 0, .int .i64 0, .bool false, .slice none 0 0] 25)) := hS0.alloc hS0.size (.cells #[.int .i64 0, .int .i64 0, .int .i64 0, .int .i64 0, .int .i64 0, .int .i64 0, .bool false, .slice none 0 0] 25); have hq : v0.heap.size < (v0.alloc (.cells #[.int .i64 0, .int .i64 0, .int .i64 0, .int .i64 0, .int .i64 0, .int .i64 0, .bool false, .slice none 0 0] 25)).heap.size := (by simp); generalize v0.heap.size = q at hZ1 hge hq ⊢; generalize v0.alloc (.cells #[.int .i64 0, .int .i64 0, .int .i64 0, .int .i64 0, .int .i64 0, .int .i64 0, .bool false, .slice none 0 0] 25) = v1 at hZ1 hS1 hq ⊢
      refine hK.out _ _ hS1 (fun _ => ?_)
      clear hK K
      (try simp only [Act.put, List.setIfInBounds_toArray, List.set_cons_zero, List.set_cons_succ])
      refine wpAnyH_ready (rs := [12]) (by kernel_rfl) (by simp) ?_
      refine AllReadyH.cons (o := ⟨none, Op.store 25 (Operand.tmp 12) (Operand.tmp 89), 0, _, _, none⟩) rfl (fun K hK => ?_) AllReadyH.nil
      have z := cell_of hZ1; have y := froz_of hZ1
      go_simp
      rw [eight0]; have hPZ := put8 hZ1 (.int .i64 ((j : Int) + 1)) (.int .i64 0) (.int .i64 y1) (.int .i64 y0) (.int .i64 0) (.int .i64 0) (.bool false) (.slice none 0 0); have hS2 := below_setCells q hge [.int .i64 ((j : Int) + 1), .int .i64 0, .int .i64 y1, .int .i64 y0, .int .i64 0, .int .i64 0, .bool false, .slice none 0 0] 0 v1 hS1; have hq2 : q < (v1.setCells q 0 [.int .i64 ((j : Int) + 1), .int .i64 0, .int .i64 y1, .int .i64 y0, .int .i64 0, .int .i64 0, .bool false, .slice none 0 0]).heap.size := (by rw [size_setCells]; exact hq); clear z y; generalize hN : World.setCells v1 q 0 _ = v2 at hPZ hS2 hq2 ⊢; clear hN
      refine hK.out _ _ hS2 (fun _ => ?_)
      clear hK K
      (try simp only [Act.put, List.setIfInBounds_toArray, List.set_cons_zero, List.set_cons_succ])
      refine wpAnyH_done (by kernel_rfl) ?_ _
      refine NoPanic.normal ?_
      have HB2 := Lib.hid hS2
      have HQZ := Lib.hid hPZ
      have HQL := Lib.hid hq2
      clear hS2 hPZ hq2 hS1 hZ1 hge hq hS0
      -- the ability lies in a box at q of v2
      have HV2 := Lib.hid (HV0.out.trans (HB2.out.mono HV0.out.size))
      have HE : Hid (v2.cell? ⟨b, off + k * 2 + 1, none⟩ = some (.int .i64 xb) ∧ b < v2.heap.size) := Lib.hid ⟨(HB2.out.cell (p := ⟨b, off + k * 2 + 1, none⟩) hpl2).trans e1, Nat.lt_of_lt_of_le hpl2 HB2.out.size⟩
      have HZ : Hid (∀ U, Below v2.heap.size v2 U → q < U.heap.size ∧ ∀ o, U.cell? ⟨q, o, none⟩ = (#[.int .i64 ((j : Int) + 1), .int .i64 0, .int .i64 y1, .int .i64 y0, .int .i64 0, .int .i64 0, .bool false, .slice none 0 0] : Array Value)[o]?) := Lib.hid (fun U h => ⟨Nat.lt_of_lt_of_le HQL.out h.size, blk_cell HQZ.out h HQL.out⟩)
      obtain ⟨g0, g1⟩ := HE.out
      clear e0 e1 f0 f1 hp0 hp1 hpl2
      have HT2 : Hid ((t : Int) + d ≤ 1000000) := Lib.hid (by omega)
      have HT0 : Hid (0 ≤ (t : Int) + d) := Lib.hid (by omega)
      obtain ⟨t2, ht2⟩ : ∃ t2, (t : Int) + d = t2 := ⟨_, rfl⟩
      have HTT := Lib.hid ht2
      have hy01 : 1 ≤ y0 := by omega
      have hy02 : y0 ≤ 100 := by omega
      obtain ⟨τ, hn1, hn2, hn3, hn4, hyes, hno⟩ := Inv.facts HIV.out (co := y1) HY0.out hy01 hy02 (now := t2) (by rw [← ht2]; exact HT0.out) (by rw [← ht2]; exact HT2.out)
      have HFy0 : Hid (Fits y0) := Lib.hid ⟨by omega, by omega⟩
      have HFy1 : Hid (Fits y1) := Lib.hid ⟨by omega, by omega⟩
      have HFt2 : Hid (Fits t2) := Lib.hid (by rw [← ht2]; have := HT0.out; have := HT2.out; exact ⟨by omega, by omega⟩)
      have HRR2 := Lib.hid (HRR.out.of HB2.out)
      obtain ⟨n0, hn0⟩ : ∃ n, (wyI P ((j : Int) + 1) t2).length = n := ⟨_, rfl⟩
      rw [hn0] at hyes hno
      obtain ⟨r, hr⟩ : ∃ r, rdI y0 n0 = r := ⟨_, rfl⟩
      have HRr := Lib.hid hr
      have HRd : Hid (∀ U, Below v2.heap.size v2 U → Calls Try.prog 19 #[.slice Al M.length cl, .agg #[.int .i64 ((j : Int) + 1), .int .i64 0, .int .i64 y1, .int .i64 y0, .int .i64 0, .int .i64 0, .bool false, .slice none 0 0], .int .i64 t2] U fun e w' => e = .returned (.int .i64 r) ∧ Below U.heap.size U w') := Lib.hid (fun U hU => (HRR2.out.of hU).ready (⟨(j : Int) + 1, 0, y1, y0, 0, 0, false, none, 0, 0⟩ : Abl) t2 r HFy0.out (by show rdI y0 (wyI P ((j : Int) + 1) t2).length = r; rw [hn0]; exact hr))
      have HNx : Hid (∀ U, Below v2.heap.size v2 U → Calls Try.prog 21 #[.slice Al M.length cl, .agg #[.int .i64 ((j : Int) + 1), .int .i64 0, .int .i64 y1, .int .i64 y0, .int .i64 0, .int .i64 0, .bool false, .slice none 0 0], .int .i64 t2] U fun e w' => e = .returned (.int .i64 τ) ∧ Below U.heap.size U w') := Lib.hid (fun U hU => (HRR2.out.of hU).next (⟨(j : Int) + 1, 0, y1, y0, 0, 0, false, none, 0, 0⟩ : Abl) t2 τ HFy0.out hn1)
      have HUt : Hid (∀ U, Below v2.heap.size v2 U → Calls Try.prog 10 #[.slice Al M.length cl, .agg #[.int .i64 ((j : Int) + 1), .int .i64 0, .int .i64 y1, .int .i64 y0, .int .i64 0, .int .i64 0, .bool false, .slice none 0 0], .int .i64 τ] U (UpO U true (usA true P (⟨(j : Int) + 1, 0, y1, y0, 0, 0, false, none, 0, 0⟩ : Abl) τ))) := Lib.hid (fun U hU => (HRR2.out.of hU).use HIV.out.ff (⟨(j : Int) + 1, 0, y1, y0, 0, 0, false, none, 0, 0⟩ : Abl) τ HFy0.out HFy1.out hn3 true ⟨fun _ => hn4, fun _ => rfl⟩)
      have HRdN := Lib.hid (HRd.out v2 (Below.refl _ _))
      have HB2 := Lib.hid (Below.refl v2.heap.size v2)
      have zb := (HZ.out v2 HB2.out).2
      have lb := (HZ.out v2 HB2.out).1
      have hττ : decide (τ < t2) = false := by simp; omega
      have HKK : Hid (k + 1 ≤ K) := Lib.hid (by omega)
      have HTle : Hid (t + d ≤ 7 * (k + 1)) := Lib.hid (by omega)
      have htw : IntKind.i64.wrap ((t : Int) + (d : Int)) = t2 := by rw [IntWalk.i64_in _ (by have := HT2.out; have := HT0.out; omega)]; exact ht2
      have htw2 : wrap64 ((t : Int) + (d : Int)) = t2 := by rw [IntWalk.wrap64_in _ (by have := HT2.out; have := HT0.out; omega)]; exact ht2
      have HIVk := HIV
      clear hn1 hn4 hlt ht HRR HIV
      by_cases hw : (n0 : Int) < y0
      · obtain ⟨ha1, ha2, ha3, ha4⟩ := hyes hw
        have ha1' := ha1.symm
        subst ha1'
        clear hno hn2 hyes
        have hr0 : decide (0 < r) = true := by rw [← hr]; simpa using rd_pos.2 hw
        obtain ⟨Pm, hPm⟩ : ∃ Pm, usL P ((j : Int) + 1) y1 t2 = Pm := ⟨_, rfl⟩
        have HUs : Hid (∀ U, Below v2.heap.size v2 U → Calls Try.prog 10 #[.slice Al M.length cl, .agg #[.int .i64 ((j : Int) + 1), .int .i64 0, .int .i64 y1, .int .i64 y0, .int .i64 0, .int .i64 0, .bool false, .slice none 0 0], .int .i64 t2] U (UpO U true Pm)) := Lib.hid (fun U hU => by
          have h := (HRR2.out.of hU).use (c := cl) HIVk.out.ff (⟨(j : Int) + 1, 0, y1, y0, 0, 0, false, none, 0, 0⟩ : Abl) t2 HFy0.out HFy1.out HFt2.out true ⟨fun _ => ha2, fun _ => rfl⟩
          have e : usA true P (⟨(j : Int) + 1, 0, y1, y0, 0, 0, false, none, 0, 0⟩ : Abl) t2 = Pm := hPm
          rw [e] at h; exact h)
        have HIm : Hid (Inv ch (k + 1) Pm) := Lib.hid (by rw [← hPm]; exact HIVk.out.use HY0.out hy02 (by rw [← HTT.out]; exact HT0.out) (by rw [← HTT.out]; exact HT2.out) (by rw [hn0]; exact hw))
        have HPS : Hid (∀ x ∈ Pm, x.2.length ≤ 1000) := Lib.hid HIm.out.short
        have HPL : Hid ((Pm.length : Int) ≤ 1000) := Lib.hid (by have := HIm.out.len; have := HK200.out; omega)
        have HRTm : Hid (RtC Pm) := Lib.hid (by rw [← hPm]; exact ha3)
        rw [hPm] at ha4
        obtain ⟨rm, hrm⟩ : ∃ rm, rdI y0 (wyI Pm ((j : Int) + 1) t2).length = rm := ⟨_, rfl⟩
        have HRm := Lib.hid hrm
        rw [ha4] at hrm
        have hτe : (t2 == t2) = true := by simp
        by_cases hc : 0 < y1
        · have hc' : decide (0 < y1) = true := by simpa using hc
          have hc0 : (y1 == 0) = false := beq_eq_false_iff_ne.2 (by omega)
          rw [if_pos hc] at hrm
          have hrr : rm = r - 1 := by rw [← hrm, ← hr]; unfold rdI; (repeat' split) <;> omega
          rw [hrr] at HRm
          have hrw : IntKind.i64.wrap (r - 1) = r - 1 := rd1_in hr HFy0.out
          clear hrm hrr hr hPm ha2 ha3 ha4 hc hn0 hw ht2
          go_wp2_with (first
            | ((with_reducible refine HRdN.out.mono ?_); rintro e w3 ⟨rfl, hB⟩; have HB3 := Lib.hid (HB2.out.trans (hB.mono HB2.out.size)); clear zb lb; have zb := (HZ.out w3 HB3.out).2; have lb := (HZ.out w3 HB3.out).1; clear hB; have HNxN := Lib.hid (HNx.out w3 HB3.out))
            | ((with_reducible refine HNxN.out.mono ?_); rintro e w4 ⟨rfl, hB⟩; have HB4 := Lib.hid (HB3.out.trans (hB.mono HB3.out.size)); clear zb lb; have zb := (HZ.out w4 HB4.out).2; have lb := (HZ.out w4 HB4.out).1; clear hB; have HUsN := Lib.hid (HUs.out w4 HB4.out))
            | ((with_reducible refine HUsN.out.mono ?_); rintro e w5 ⟨A5, c5, M5, rfl, hM5, hK5, hC5, hBo5⟩; have HB5 := Lib.hid (HB4.out.trans (hBo5.out.mono HB4.out.size)); clear zb lb; have zb := (HZ.out w5 HB5.out).2; have lb := (HZ.out w5 HB5.out).1; have HR5 : Hid (RR w5 A5 M5 Pm) := Lib.hid (RR.mk' hK5.out.kr hM5.out hC5.out HPS.out HPL.out); have HUtN := Lib.hid (HUt.out w5 HB5.out))
            | ((with_reducible refine HUtN.out.mono ?_); rintro e w6 ⟨A6, c6, M6, rfl, hM6, hK6, hC6, hBo6⟩; have HB6 := Lib.hid (HB5.out.trans (hBo6.out.mono HB5.out.size)); clear zb lb; have zb := (HZ.out w6 HB6.out).2; have lb := (HZ.out w6 HB6.out).1; have HY6 := Lib.hid hBo6.out; have HRtN := Lib.hid ((HR5.out.of HY6.out).right (c := c5) true ⟨fun _ => HRTm.out, fun _ => rfl⟩))
            | ((with_reducible refine HRtN.out.mono ?_); rintro e w7 ⟨rfl, hB⟩; have HB7 := Lib.hid (HB6.out.trans (hB.mono HB6.out.size)); clear zb lb; have zb := (HZ.out w7 HB7.out).2; have lb := (HZ.out w7 HB7.out).1; have HY7 := Lib.hid (HY6.out.trans (hB.mono HY6.out.size)); clear hB; have HRmN : Hid (Calls Try.prog 19 #[.slice A5 M5.length c5, .agg #[.int .i64 ((j : Int) + 1), .int .i64 0, .int .i64 y1, .int .i64 y0, .int .i64 0, .int .i64 0, .bool false, .slice none 0 0], .int .i64 t2] w7 fun e w' => e = .returned (.int .i64 (r - 1)) ∧ Below w7.heap.size w7 w') := Lib.hid ((HR5.out.of HY7.out).ready (c := c5) (⟨(j : Int) + 1, 0, y1, y0, 0, 0, false, none, 0, 0⟩ : Abl) t2 ((r - 1)) HFy0.out HRm.out))
            | ((with_reducible refine HRmN.out.mono ?_); rintro e w8 ⟨rfl, hB⟩; have HB8 := Lib.hid (HB7.out.trans (hB.mono HB7.out.size)); clear zb lb; have zb := (HZ.out w8 HB8.out).2; have lb := (HZ.out w8 HB8.out).1; have HY8 := Lib.hid (HY7.out.trans (hB.mono HY7.out.size)); clear hB))
          go_roundg (K - (k + 1))
          case measure => have := HKK.out; omega
          case rel => exact ⟨k + 1, A5, c5, M5, t + d, Pm, HKK.out, rfl, by go_num, (by first | exact td_eq HTT.out | exact td_eq rfl), rfl, HTle.out, Lib.hid (HR5.out.of HY8.out), HIm, Lib.hid (HV2.out.trans (HB8.out.mono HV2.out.size))⟩
        · rw [if_neg hc, Nat.add_zero] at hrm
          obtain rfl : y1 = 0 := by omega
          have hrr : rm = r := by rw [← hrm, ← hr]
          rw [hrr] at HRm
          have hrn : (r == r - 1) = false := beq_eq_false_iff_ne.2 (by omega)
          have hrw : IntKind.i64.wrap (r - 1) = r - 1 := rd1_in hr HFy0.out
          clear hrm hrr hr hPm ha2 ha3 ha4 hc hn0 hw ht2
          go_wp2_with (first
            | ((with_reducible refine HRdN.out.mono ?_); rintro e w3 ⟨rfl, hB⟩; have HB3 := Lib.hid (HB2.out.trans (hB.mono HB2.out.size)); clear zb lb; have zb := (HZ.out w3 HB3.out).2; have lb := (HZ.out w3 HB3.out).1; clear hB; have HNxN := Lib.hid (HNx.out w3 HB3.out))
            | ((with_reducible refine HNxN.out.mono ?_); rintro e w4 ⟨rfl, hB⟩; have HB4 := Lib.hid (HB3.out.trans (hB.mono HB3.out.size)); clear zb lb; have zb := (HZ.out w4 HB4.out).2; have lb := (HZ.out w4 HB4.out).1; clear hB; have HUsN := Lib.hid (HUs.out w4 HB4.out))
            | ((with_reducible refine HUsN.out.mono ?_); rintro e w5 ⟨A5, c5, M5, rfl, hM5, hK5, hC5, hBo5⟩; have HB5 := Lib.hid (HB4.out.trans (hBo5.out.mono HB4.out.size)); clear zb lb; have zb := (HZ.out w5 HB5.out).2; have lb := (HZ.out w5 HB5.out).1; have HR5 : Hid (RR w5 A5 M5 Pm) := Lib.hid (RR.mk' hK5.out.kr hM5.out hC5.out HPS.out HPL.out); have HUtN := Lib.hid (HUt.out w5 HB5.out))
            | ((with_reducible refine HUtN.out.mono ?_); rintro e w6 ⟨A6, c6, M6, rfl, hM6, hK6, hC6, hBo6⟩; have HB6 := Lib.hid (HB5.out.trans (hBo6.out.mono HB5.out.size)); clear zb lb; have zb := (HZ.out w6 HB6.out).2; have lb := (HZ.out w6 HB6.out).1; have HY6 := Lib.hid hBo6.out; have HRtN := Lib.hid ((HR5.out.of HY6.out).right (c := c5) true ⟨fun _ => HRTm.out, fun _ => rfl⟩))
            | ((with_reducible refine HRtN.out.mono ?_); rintro e w7 ⟨rfl, hB⟩; have HB7 := Lib.hid (HB6.out.trans (hB.mono HB6.out.size)); clear zb lb; have zb := (HZ.out w7 HB7.out).2; have lb := (HZ.out w7 HB7.out).1; have HY7 := Lib.hid (HY6.out.trans (hB.mono HY6.out.size)); clear hB; have HRmN : Hid (Calls Try.prog 19 #[.slice A5 M5.length c5, .agg #[.int .i64 ((j : Int) + 1), .int .i64 0, .int .i64 0, .int .i64 y0, .int .i64 0, .int .i64 0, .bool false, .slice none 0 0], .int .i64 t2] w7 fun e w' => e = .returned (.int .i64 r) ∧ Below w7.heap.size w7 w') := Lib.hid ((HR5.out.of HY7.out).ready (c := c5) (⟨(j : Int) + 1, 0, 0, y0, 0, 0, false, none, 0, 0⟩ : Abl) t2 (r) HFy0.out HRm.out))
            | ((with_reducible refine HRmN.out.mono ?_); rintro e w8 ⟨rfl, hB⟩; have HB8 := Lib.hid (HB7.out.trans (hB.mono HB7.out.size)); clear zb lb; have zb := (HZ.out w8 HB8.out).2; have lb := (HZ.out w8 HB8.out).1; have HY8 := Lib.hid (HY7.out.trans (hB.mono HY7.out.size)); clear hB; have HRoN : Hid (Calls Try.prog 19 #[.slice A5 M5.length c5, .agg #[.int .i64 ((j : Int) + 1), .int .i64 0, .int .i64 0, .int .i64 y0, .int .i64 0, .int .i64 0, .bool false, .slice none 0 0], .int .i64 t2] w8 fun e w' => e = .returned (.int .i64 r) ∧ Below w8.heap.size w8 w') := Lib.hid ((HR5.out.of HY8.out).ready (c := c5) (⟨(j : Int) + 1, 0, 0, y0, 0, 0, false, none, 0, 0⟩ : Abl) t2 (r) HFy0.out HRm.out))
            | ((with_reducible refine HRoN.out.mono ?_); rintro e w9 ⟨rfl, hB⟩; have HB9 := Lib.hid (HB8.out.trans (hB.mono HB8.out.size)); clear zb lb; have zb := (HZ.out w9 HB9.out).2; have lb := (HZ.out w9 HB9.out).1; have HY9 := Lib.hid (HY8.out.trans (hB.mono HY8.out.size)); clear hB))
          any_goals (refine absurd (?_ : r = r - 1) (by omega); assumption)
          go_roundg (K - (k + 1))
          case measure => have := HKK.out; omega
          case rel => exact ⟨k + 1, A5, c5, M5, t + d, Pm, HKK.out, rfl, by go_num, (by first | exact td_eq HTT.out | exact td_eq rfl), rfl, HTle.out, Lib.hid (HR5.out.of HY9.out), HIm, Lib.hid (HV2.out.trans (HB9.out.mono HV2.out.size))⟩
      · obtain ⟨ha2, ha3⟩ := hno hw
        clear hno hyes
        have hr0 : decide (0 < r) = false := by rw [← hr]; have := rd_zero.2 (by omega : y0 ≤ (n0 : Int)); simp [this]
        obtain ⟨Pm, hPm⟩ : ∃ Pm, P = Pm := ⟨_, rfl⟩
        have HUs : Hid (∀ U, Below v2.heap.size v2 U → Calls Try.prog 10 #[.slice Al M.length cl, .agg #[.int .i64 ((j : Int) + 1), .int .i64 0, .int .i64 y1, .int .i64 y0, .int .i64 0, .int .i64 0, .bool false, .slice none 0 0], .int .i64 t2] U (UpO U false Pm)) := Lib.hid (fun U hU => by
          have h := (HRR2.out.of hU).use (c := cl) HIVk.out.ff (⟨(j : Int) + 1, 0, y1, y0, 0, 0, false, none, 0, 0⟩ : Abl) t2 HFy0.out HFy1.out HFt2.out false ⟨fun h => (by cases h), fun h => absurd h ha2⟩
          have e : usA false P (⟨(j : Int) + 1, 0, y1, y0, 0, 0, false, none, 0, 0⟩ : Abl) t2 = Pm := hPm
          rw [e] at h; exact h)
        have HIm : Hid (Inv ch (k + 1) Pm) := Lib.hid (by rw [← hPm]; exact HIVm.out)
        have HPS : Hid (∀ x ∈ Pm, x.2.length ≤ 1000) := Lib.hid HIm.out.short
        have HPL : Hid ((Pm.length : Int) ≤ 1000) := Lib.hid (by have := HIm.out.len; have := HK200.out; omega)
        have HRTm : Hid (RtC Pm) := Lib.hid HIm.out.ui.1
        have HRb : Hid (∀ U, Below v2.heap.size v2 U → Calls Try.prog 19 #[.slice Al M.length cl, .agg #[.int .i64 ((j : Int) + 1), .int .i64 0, .int .i64 y1, .int .i64 y0, .int .i64 0, .int .i64 0, .bool false, .slice none 0 0], .int .i64 (τ - 1)] U fun e w' => e = .returned (.int .i64 0) ∧ Below U.heap.size U w') := Lib.hid (fun U hU => (HRR2.out.of hU).ready (⟨(j : Int) + 1, 0, y1, y0, 0, 0, false, none, 0, 0⟩ : Abl) (τ - 1) 0 HFy0.out ha3)
        have hτw : IntKind.i64.wrap (τ - 1) = τ - 1 := sub1_in hn3 hn2 (by rw [← HTT.out]; exact HT0.out)
        clear hr hPm ha2 ha3 hn0 hw ht2
        go_wp2_with (first
          | ((with_reducible refine HRdN.out.mono ?_); rintro e w3 ⟨rfl, hB⟩; have HB3 := Lib.hid (HB2.out.trans (hB.mono HB2.out.size)); clear zb lb; have zb := (HZ.out w3 HB3.out).2; have lb := (HZ.out w3 HB3.out).1; clear hB; have HNxN := Lib.hid (HNx.out w3 HB3.out))
          | ((with_reducible refine HNxN.out.mono ?_); rintro e w4 ⟨rfl, hB⟩; have HB4 := Lib.hid (HB3.out.trans (hB.mono HB3.out.size)); clear zb lb; have zb := (HZ.out w4 HB4.out).2; have lb := (HZ.out w4 HB4.out).1; clear hB; have HUsN := Lib.hid (HUs.out w4 HB4.out))
          | ((with_reducible refine HUsN.out.mono ?_); rintro e w5 ⟨A5, c5, M5, rfl, hM5, hK5, hC5, hBo5⟩; have HB5 := Lib.hid (HB4.out.trans (hBo5.out.mono HB4.out.size)); clear zb lb; have zb := (HZ.out w5 HB5.out).2; have lb := (HZ.out w5 HB5.out).1; have HR5 : Hid (RR w5 A5 M5 Pm) := Lib.hid (RR.mk' hK5.out.kr hM5.out hC5.out HPS.out HPL.out); have HUtN := Lib.hid (HUt.out w5 HB5.out))
          | ((with_reducible refine HUtN.out.mono ?_); rintro e w6 ⟨A6, c6, M6, rfl, hM6, hK6, hC6, hBo6⟩; have HB6 := Lib.hid (HB5.out.trans (hBo6.out.mono HB5.out.size)); clear zb lb; have zb := (HZ.out w6 HB6.out).2; have lb := (HZ.out w6 HB6.out).1; have HY6 := Lib.hid hBo6.out; have HRbN := Lib.hid (HRb.out w6 HB6.out))
          | ((with_reducible refine HRbN.out.mono ?_); rintro e w7 ⟨rfl, hB⟩; have HB7 := Lib.hid (HB6.out.trans (hB.mono HB6.out.size)); clear zb lb; have zb := (HZ.out w7 HB7.out).2; have lb := (HZ.out w7 HB7.out).1; have HY7 := Lib.hid (HY6.out.trans (hB.mono HY6.out.size)); clear hB; have HRtN := Lib.hid ((HR5.out.of HY7.out).right (c := c5) true ⟨fun _ => HRTm.out, fun _ => rfl⟩))
          | ((with_reducible refine HRtN.out.mono ?_); rintro e w8 ⟨rfl, hB⟩; have HB8 := Lib.hid (HB7.out.trans (hB.mono HB7.out.size)); clear zb lb; have zb := (HZ.out w8 HB8.out).2; have lb := (HZ.out w8 HB8.out).1; have HY8 := Lib.hid (HY7.out.trans (hB.mono HY7.out.size)); clear hB))
        go_roundg (K - (k + 1))
        case measure => have := HKK.out; omega
        case rel => exact ⟨k + 1, A5, c5, M5, t + d, Pm, HKK.out, rfl, by go_num, (by first | exact td_eq HTT.out | exact td_eq rfl), rfl, HTle.out, Lib.hid (HR5.out.of HY8.out), HIm, Lib.hid (HV2.out.trans (HB8.out.mono HV2.out.size))⟩
    · have hlt' : decide ((k : Int) < K) = false := by simp; omega
      go_wp2
      go_ret
      exact ⟨rfl, HV0.out⟩


set_option maxRecDepth 100000 in
theorem lifted (os : Os) (started : os.Started) (H : Type) (enc : TypeId × Value → H) :
    ReturnsInHanded {} Try.checked os 4 .any (Rows.coolUsesSpec.pre6 enc Try.prog Try.f4 Rows.coolUsesRow.domain false) (Rows.coolUsesSpec.post enc Try.prog Try.f4 false true false false) := by
  refine returnsInHanded_of_change (C := Try.checked) own started (by kernel_rfl) Try.func4
    (ChangeSpec.witness6 (enc := enc) (C := Try.checked) false ⟨#[], #[.slice none 0 0, .slice none 0 0, .slice none 0 0], []⟩ 8 (by kernel_rfl) (by kernel_rfl) (by kernel_rfl) (by kernel_rfl)) ?_
  intro W base args ds gs before hval0 hW hcnd _
  have hval : ∀ (j : Nat) t v, Try.f4.params[j]? = some t → args[j]? = some v → Value.okWide Try.prog W .any base t v := hval0
  have hW' := hW
  obtain ⟨p, q, hA0, hV, rfl, hfz, hnd⟩ := hW
  have hA : DataW.TrodAll enc Try.prog W 0 (fun _ => true) true Try.f4.params.toList args.toList ds p := hA0
  rw [Try.params4] at hA hval
  obtain ⟨v0, vs0, d0, ds0, p0, q0, hargs, rfl, rfl, h0, r0⟩ := trodAll_cons hA
  obtain ⟨v1, vs1, d1, ds1, p1, q1, rfl, rfl, rfl, h1, r1⟩ := trodAll_cons r0
  obtain ⟨v2, vs2, d2, ds2, p2, q2, rfl, rfl, rfl, h2, r2⟩ := trodAll_cons r1
  obtain ⟨rfl, rfl, rfl⟩ := trodAll_nil r2
  obtain rfl : args = #[v0, v1, v2] := by cases args; simp_all
  obtain ⟨rfl, rfl⟩ := trodVars_none hV
  clear hA0 hval0
  have hlt0 : ∀ x ∈ p0, x.block < W.heap.size := fun x hx => hW'.lt x (by simp [hx])
  have hk0 := h0
  obtain ⟨A0, c0, l0, rfl, hr0, hf0⟩ := Kop.viewNu (hval 0 33 v0 rfl rfl) h0
  have hlt1 : ∀ x ∈ p1, x.block < W.heap.size := fun x hx => hW'.lt x (by simp [hx])
  have hk1 := h1
  obtain ⟨A1, c1, l1, rfl, hr1, hf1⟩ := Kop.viewNu (hval 1 33 v1 rfl rfl) h1
  have hlt2 : ∀ x ∈ p2, x.block < W.heap.size := fun x hx => hW'.lt x (by simp [hx])
  have hk2 := h2
  obtain ⟨A2, c2, l2, rfl, hr2, hf2⟩ := Opn.viewQ2 (hval 2 38 v2 rfl rfl) h2
  simp only [List.append_nil] at hW'
  refine (walk W A0 c0 l0 hr0 hf0 A1 c1 l1 hr1 hf1 A2 c2 l2 hr2 hf2).mono fun e W' ⟨he, hg⟩ => ?_
  subst he
  exact ⟨_, rfl, _, _, _, [], _, [], hW', (trodAll_cons_mk (shut_bool Try.underlying4 _) trodAll_mk0), (trodAll_cons_mk (Below.trod Kop.laidOut (by kernel_rfl) (of_decide_eq_true (by kernel_rfl)) hk0 hg hlt0) (trodAll_cons_mk (Below.trod Kop.laidOut (by kernel_rfl) (of_decide_eq_true (by kernel_rfl)) hk1 hg hlt1) (trodAll_cons_mk (Below.trod Kop.laidOut (by kernel_rfl) (of_decide_eq_true (by kernel_rfl)) hk2 hg hlt2) trodAll_mk0))), rfl, hg.frame _, fun h => by cases h⟩

theorem over : Rows.coolUsesRow.holds Try.pinned (OpenSpec.ofChange Rows.coolUsesSpec) :=
  OpenClaim.holds_of_wide 4 Try.f4 rfl rfl rfl rfl rfl rfl rfl ⟨rfl, rfl, rfl, rfl, rfl⟩ rfl rfl rfl rfl rfl (by kernel_rfl) Try.func4 (by kernel_rfl)
    (of_decide_eq_true (by kernel_rfl)) (by unfold Func.isWrapper; first | (rw [if_pos (by decide +kernel)]; kernel_rfl) | (rw [if_neg (by decide +kernel)]; exact ⟨rfl, rfl⟩))
    (fun os started H enc _ => lifted os started H enc)

/-- The given statement. -/
theorem proved : Rows.CoolUsesSaid :=
  over
#print axioms proved
end Go.Proofs.Ytmdnjkiciaidiaa.coolUses
