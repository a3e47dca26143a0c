/-
  TimerOrders holds for every row of dues and of times: each timer comes once, at the first Due from its own on, in the order.
-/
import Derived.Test.YtibiobcjnnoeeaaCq
import Derived.WalkKit
import Derived.ProofKit
import Derived.OpenShut
namespace Go.Proofs.Ytibiobcjnnoeeaa.timerOrders
open Go.ChangeShapes Go.WideShapes Go.ChangeAt Go.RowKit Con Tmr
set_option linter.unusedVariables false

theorem own : ownKnob Try.prog.godebug = none := by kernel_rfl

theorem all_next {l : List Int} {k : Nat} {d : Int} (h : l[k]?.getD 0 = d) : all l k ++ [(⟨d, k, (k : Int) + 1⟩ : Tm)] = all l (k + 1) := by
  rw [all_succ, ← h]; rfl
/-- A number of a row that came in, whatever has been made since. -/
theorem at_any {W : World} {A : Option Addr} {l : List Int} (h : Open.RI W W.heap.size A l) {k : Nat} (hk : k < l.length) : ∃ b off d, A = some ⟨b, off, none⟩ ∧ b < W.heap.size ∧ l[k]?.getD 0 = d ∧ ∀ w, Below W.heap.size W w → w.cell? ⟨b, off + k, none⟩ = some (.int .i64 d) := by
  obtain ⟨b, off, h1, h2, h3⟩ := h.at' hk
  exact ⟨b, off, _, h1, h2, rfl, fun w hb => (World.cell?_of_block (w := W) (hb.block b h2)).trans h3⟩
theorem last_le {p k : Int} (h : p = k ∨ p < k) : True := trivial
set_option maxHeartbeats 16000000 in
set_option maxRecDepth 20000 in
theorem walk (W : World) (A0 : Option Addr) (c0 : Nat) (l0 : List Int) (hr0 : Open.RI W W.heap.size A0 l0) (hc0 : l0.length ≤ c0) (hl0 : l0.length ≤ 9223372036854775807) (hx0 : ∀ x ∈ l0, -9223372036854775808 ≤ x ∧ x ≤ 9223372036854775807)
    (A1 : Option Addr) (c1 : Nat) (l1 : List Int) (hr1 : Open.RI W W.heap.size A1 l1) (hc1 : l1.length ≤ c1) (hl1 : l1.length ≤ 9223372036854775807) (hx1 : ∀ x ∈ l1, -9223372036854775808 ≤ x ∧ x ≤ 9223372036854775807) :
    Calls Try.prog 4 #[.slice A0 l0.length c0, .slice A1 l1.length c1] W fun e W' => e = .returned (.bool true) ∧ Below W.heap.size W W' := by
  have HR0 := Lib.hid hr0; have HR1 := Lib.hid hr1
  clear hr0 hr1 hc0 hc1 hl0 hl1 hx0 hx1
  by_cases hg0 : (l0.length : Int) > 200
  · go_enter Try.func4, Try.ntmps4
    go_wp2_with (first
      | ((with_reducible refine (small_any W).mono ?_); rintro e w1 ⟨rfl, hb1⟩; have HB1 := Lib.hid hb1; clear hb1)
      | ((with_reducible refine (pq_new HB1.out).mono ?_); rintro e w2 ⟨rfl, HP2⟩))
    go_ret
    exact ⟨rfl, HP2.out.below⟩
  · have hd0 : decide ((l0.length : Int) > 200) = false := by simpa using hg0
    by_cases hg1 : (l1.length : Int) > 50
    · clear hg0
      go_enter Try.func4, Try.ntmps4
      go_wp2_with (first
        | ((with_reducible refine (small_any W).mono ?_); rintro e w1 ⟨rfl, hb1⟩; have HB1 := Lib.hid hb1; clear hb1)
        | ((with_reducible refine (pq_new HB1.out).mono ?_); rintro e w2 ⟨rfl, HP2⟩))
      go_ret
      exact ⟨rfl, HP2.out.below⟩
    · have hd1 : decide ((l1.length : Int) > 50) = false := by simpa using hg1
      have hL0 : (l0.length : Int) ≤ 3000 := by omega
      have hL1 : (l1.length : Int) ≤ 3000 := by omega
      have HLb : Hid ((l0.length : Int) ≤ 200) := Lib.hid (by omega)
      clear hg0 hg1
      obtain ⟨j0, hj0, hz0, hz1, hz2⟩ := info_parts info4
      have HI0 := Lib.hid hj0; have HZ0 := Lib.hid hz0; have HZ1 := Lib.hid hz1; have HZ2 := Lib.hid hz2
      clear hj0 hz0 hz1 hz2
      go_enter Try.func4, Try.ntmps4
      go_wp2_with (first
        | ((with_reducible refine (small_any W).mono ?_); rintro e w1 ⟨rfl, hb1⟩; have HB1 := Lib.hid hb1; clear hb1)
        | ((with_reducible refine (pq_new HB1.out).mono ?_); rintro e w2 ⟨rfl, HP2⟩))
      clear hd0 hd1
      generalize w1.heap.size + 1 = q at HP2 ⊢
      generalize w1.heap.size = mb at HP2 ⊢
      go_loopg [7] l0.length (fun m s7 wr => ∃ k : Nat, k ≤ l0.length ∧ m = l0.length - k ∧ s7 = .int .i64 (k : Int) ∧ Hid (PQ W wr q mb (all l0 k) k))
      case atStart => exact ⟨0, by omega, rfl, rfl, HP2⟩
      case round =>
        obtain ⟨k, hk, rfl, rfl, HP⟩ := hrel
        by_cases hkl : k < l0.length
        · have hkl' : (k : Int) < l0.length := by omega
          obtain ⟨b, off, d, hA, hbl, hdk, hcell⟩ := at_any HR0.out hkl
          have e1 := hcell wr HP.out.below
          have HDk := Lib.hid hdk
          have HSl : Hid (((all l0 k).length : Int) < 1024) := Lib.hid (by rw [all_len]; have := HLb.out; omega)
          subst hA
          clear hcell hdk
          go_wp2_with ((with_reducible refine (pq_add HP.out HSl.out d (k : Int) ((k : Int) + 1) rfl (by omega) _ (all_next HDk.out)).mono ?_); rintro e w3 ⟨rfl, HP3⟩)
          go_roundg (l0.length - (k + 1))
          · exact ⟨k + 1, by omega, rfl, by simp, HP3⟩
          · omega
        · have hkL : k = l0.length := by omega
          subst hkL
          have hkk : decide ((l0.length : Int) < l0.length) = false := by simp
          clear hkl
          go_wp2_with (at_make; refine wpList_make_row _ rfl (.tmp 63) (.tmp 63) 42 rfl 4 j0 (.bool false) Try.underlying42 HI0.out HZ0.out HZ1.out rfl _ _ l0.length rfl rfl (by rw [HZ2.out]; omega) (by omega) ?_)
          have HCQ := Lib.hid (cq_made (n := l0.length) HP.out rfl)
          generalize wr.alloc (.cells (madeCells #[.bool false] l0.length) 4) = w4 at HCQ ⊢
          generalize wr.heap.size = cb at HCQ ⊢
          have HC0 := Lib.hid (HCQ.out.congr (f' := mk (all l0 l0.length) []) (fun j hj => by unfold mk; rw [all_has l0 hj]; rfl))
          have HR := Lib.hid (all_right l0)
          have HAl := Lib.hid (all_len l0 l0.length)
          generalize all l0 l0.length = S0 at HC0 HR HAl
          have HW4 := Lib.hid HC0.out.below
          clear HCQ
          go_wp2
          go_loopg [11, 12] l1.length (fun m s11 s12 wr => ∃ (i cn : Nat) (Sr : List Tm), i ≤ l1.length ∧ m = l1.length - i ∧ s11 = .int .i64 (cn : Int) ∧ s12 = .int .i64 (i : Int) ∧ cn + Sr.length = l0.length ∧ Hid (Right l0 Sr) ∧ Hid (CQ W wr q mb cb l0.length Sr l0.length (mk Sr [])))
          case atStart => exact ⟨0, 0, S0, by omega, rfl, rfl, rfl, by have := HAl.out; omega, HR, HC0⟩
          case round =>
            obtain ⟨i, cn, Sr, hi, rfl, rfl, rfl, hcn, HRr, HCr⟩ := hrel
            by_cases hil : i < l1.length
            · have hil' : (i : Int) < l1.length := by omega
              obtain ⟨b1, off1, now, hA1, hbl1, hnow, hcell1⟩ := at_any HR1.out hil
              have HC1 := Lib.hid hcell1
              have e1 := hcell1 _ HCr.out.below
              have hW := HCr.out.below.size
              obtain ⟨C, hC⟩ : ∃ C, come Sr now = C := ⟨_, rfl⟩
              obtain ⟨S', hS'⟩ : ∃ S', rest Sr now = S' := ⟨_, rfl⟩
              have HG := Lib.hid HCr.out.good
              have hln := come_len (now := now) Sr HG.out
              rw [hC, hS'] at hln
              have HCe := Lib.hid hC; have HSe := Lib.hid hS'
              have HMk : Hid (∀ j, mk Sr C j = mk S' [] j) := Lib.hid (fun j => by rw [← hC, ← hS']; exact mk_done HG.out j)
              have HKth : Hid (∀ j, j < C.length → ∃ k, Kth l0 Sr C now j k) := Lib.hid (fun j hj => by rw [← hC] at hj ⊢; exact kth HG.out HRr.out hj)
              have HSo : Hid (∀ i j, i < j → j < C.length → Lt (g C i) (g C j)) := Lib.hid (fun i j hij hj => by rw [← hC] at hj ⊢; exact sorted_at HG.out hij hj)
              have HRi' : Hid (Right l0 S') := Lib.hid (by rw [← hS']; exact rest_right HG.out HRr.out)
              have HCm : Hid (∀ k, l0[k]?.getD 0 ≤ now → mk S' [] k = true) := Lib.hid (fun k hk => by rw [← hS']; exact rest_came HG.out HRr.out hk)
              have HFi : Hid (∀ t, first S' = some t → now < t.due) := Lib.hid (fun t ht => by rw [← hS'] at ht; exact rest_first HG.out ht)
              have HLn := Lib.hid hln; have HCn := Lib.hid hcn
              have hcb : (C.length : Int) ≤ 3000 := by omega
              have hcnb : (cn : Int) ≤ 3000 := by omega
              subst hA1
              clear hC hS' hcell1 hnow hln hcn
              go_wp2_with ((with_reducible refine (cq_due HCr.out now C S' HCe.out HSe.out).mono ?_); rintro e wd ⟨Ac, cc, rfl, HRT, HNe, HCd⟩)
              clear e1 hW
              go_loopg [11, 14] C.length (fun m s11 s14 wr => ∃ (j c2 : Nat), j ≤ C.length ∧ m = C.length - j ∧ s11 = .int .i64 (c2 : Int) ∧ s14 = .int .i64 (j : Int) ∧ c2 = cn + j ∧ Hid (RT wr wd.heap.size Ac C) ∧ Hid (wd.heap.size ≤ wr.heap.size) ∧ Hid (CQ W wr q mb cb l0.length S' l0.length (mk Sr (C.take j))))
              case atStart => exact ⟨0, cn, by omega, rfl, rfl, rfl, rfl, HRT, Lib.hid (Nat.le_refl _), Lib.hid (by rw [List.take_zero]; exact HCd.out)⟩
              case round =>
                obtain ⟨j, c2, hj, rfl, rfl, rfl, hc2, HRq, HSz, HCq⟩ := hrel
                have hc2b : (c2 : Int) ≤ 6000 := by omega
                by_cases hjl : j < C.length
                · have hjl' : (j : Int) < C.length := by omega
                  obtain ⟨k, hK⟩ := HKth.out j hjl
                  obtain ⟨ba, hAc, hbal, f1, f2, f3⟩ := HRq.out.at' hjl
                  rw [hK.eq] at f1 f2 f3
                  obtain ⟨b0, off0, d, hA0, hbl0, hdk, hcell0⟩ := at_any HR0.out hK.lt
                  have hdue := hK.due
                  have hkl' : (k : Int) < l0.length := by have := hK.lt; omega
                  have hwk : IntKind.i64.wrap (k : Int) = (k : Int) := IntWalk.i64_in _ (by omega)
                  have hkpos : (0 : Int) ≤ (k : Int) := by omega
                  have e0 := hcell0 wr HCq.out.below
                  have e1 := HC1.out wr HCq.out.below
                  have eb := HCq.out.cell hK.lt
                  rw [hK.mark] at eb
                  have hWq := HCq.out.below.size
                  have hcbl := HCq.out.row.lt
                  have hfz : ∀ o : Obj, (wr.alloc o).frozen? ⟨cb, k, none⟩ = false := fun o => (World.frozen?_of_block (w := wr) (Below.heap_alloc _ _ _ hcbl)).trans (HCq.out.row.frozen k)
                  have hbaq : ba < wr.heap.size := by have := HSz.out; omega
                  simp only [mkT] at f1 f2 f3
                  rw [hdk] at f1 hdue
                  have HK := Lib.hid hK
                  have g1 : decide ((k : Int) + 1 < 1) = false := by simp; omega
                  have g2 : decide ((k : Int) + 1 > (l0.length : Int)) = false := by simp; omega
                  have g3 : decide (d > now) = false := by simp; omega
                  have HFin : Hid (∀ p o, Qd W wr (((wr.alloc o).drewN p).setCell ⟨cb, k, none⟩ (.bool true)) q mb cb l0.length S' l0.length (mk Sr (C.take (j + 1))) wd.heap.size Ac C) := Lib.hid (fun p o => qd_step HCq.out HRq.out HSz.out HNe.out (mk Sr (C.take (j + 1))) (fun x => by rw [take_g hjl]; exact mk_snoc Sr (C.take j) (g C j) k (by rw [hK.eq]; rfl) x) o p)
                  have HHi := Lib.hid hdk
                  subst hAc; subst hA0
                  clear hK hcell0 hdk
                  have x1 := (World.cell?_alloc_lt wr (.cells #[.int .i64 d, .int .i64 k, .int .i64 ((k : Int) + 1)] 33) ⟨ba, j * 3, none⟩ hbaq).trans f1
                  have x0 := (World.cell?_alloc_lt wr (.cells #[.int .i64 d, .int .i64 k, .int .i64 ((k : Int) + 1)] 33) ⟨b0, off0 + k, none⟩ (show b0 < wr.heap.size by omega)).trans e0
                  have xn := (World.cell?_alloc_lt wr (.cells #[.int .i64 d, .int .i64 k, .int .i64 ((k : Int) + 1)] 33) ⟨b1, off1 + i, none⟩ (show b1 < wr.heap.size by omega)).trans e1
                  have xb := (World.cell?_alloc_lt wr (.cells #[.int .i64 d, .int .i64 k, .int .i64 ((k : Int) + 1)] 33) ⟨cb, k, none⟩ hcbl).trans eb
                  have hnew := heap_alloc_new wr (.cells #[.int .i64 d, .int .i64 k, .int .i64 ((k : Int) + 1)] 33)
                  have xf := hfz (.cells #[.int .i64 d, .int .i64 k, .int .i64 ((k : Int) + 1)] 33)
                  have HFn : Hid (∀ p, Qd W wr (((wr.alloc (.cells #[.int .i64 d, .int .i64 k, .int .i64 ((k : Int) + 1)] 33)).drewN p).setCell ⟨cb, k, none⟩ (.bool true)) q mb cb l0.length S' l0.length (mk Sr (C.take (j + 1))) wd.heap.size (some ⟨ba, 0, none⟩) C) := Lib.hid (fun p => HFin.out p _)
                  clear HFin hfz
                  by_cases hj0 : j = 0
                  · subst hj0
                    as_aux_lemma =>
                      go_wp2
                      generalize wr.alloc (.cells #[.int .i64 d, .int .i64 k, .int .i64 ((k : Int) + 1)] 33) = w6 at x1 x0 xn xb hnew xf HFn ⊢
                      have n0 : w6.cell? ⟨wr.heap.size, 0, none⟩ = some (.int .i64 d) := (cell_of_row w6 _ 0 _ 33 (0, 0) hnew).trans rfl
                      have n1 : w6.cell? ⟨wr.heap.size, 1, none⟩ = some (.int .i64 k) := (cell_of_row w6 _ 1 _ 33 (0, 0) hnew).trans rfl
                      have n2 : w6.cell? ⟨wr.heap.size, 2, none⟩ = some (.int .i64 ((k : Int) + 1)) := (cell_of_row w6 _ 2 _ 33 (0, 0) hnew).trans rfl
                      clear hnew f1 f2 f3 e0 e1 eb
                      try simp only [List.append_eq, List.cons_append, List.nil_append]
                      go_quiet (fail)
                      go_wp2
                      go_roundg (C.length - (0 + 1))
                      · exact ⟨0 + 1, c2 + 1, by omega, rfl, by simp <;> omega, by simp, by omega, Lib.hid (HFn.out _).rt, Lib.hid (Nat.le_trans HSz.out (HFn.out _).sz), Lib.hid (HFn.out _).cq⟩
                      · omega
                  · obtain ⟨i', hi'⟩ : ∃ i', i' + 1 = j := ⟨j - 1, by omega⟩
                    have hjp : decide ((j : Int) > 0) = true := by simp; omega
                    have hjn : 0 < j := by omega
                    have hi2 : (j : Int) - 1 = (i' : Int) := by omega
                    have hi3 : (i' : Int) < C.length := by omega
                    have hi4 : IntKind.i64.wrap ((j : Int) - 1) = (i' : Int) := by rw [hi2]; exact IntWalk.i64_in _ (by omega)
                    have hi5 : (0 : Int) ≤ (i' : Int) := by omega
                    obtain ⟨bz, hAz, _, p1, p2, p3⟩ := HRq.out.at' (k := i') (by omega)
                    injection hAz with hAz
                    injection hAz with hAz
                    subst hAz
                    have hS := HSo.out i' j (by omega) hjl
                    rw [HK.out.eq] at hS
                    generalize g C i' = pv at p1 p2 p3 hS
                    have hS1 : pv.due < d ∨ (pv.due = d ∧ pv.id < (k : Int) + 1) := by
                      have := hS
                      simp only [Lt, mkT] at this
                      rw [HHi.out] at this
                      exact this
                    clear hS
                    have y1 := (World.cell?_alloc_lt wr (.cells #[.int .i64 d, .int .i64 k, .int .i64 ((k : Int) + 1)] 33) ⟨ba, i' * 3, none⟩ hbaq).trans p1
                    have y3 := (World.cell?_alloc_lt wr (.cells #[.int .i64 d, .int .i64 k, .int .i64 ((k : Int) + 1)] 33) ⟨ba, i' * 3 + 2, none⟩ hbaq).trans p3
                    rcases hS1 with h1 | ⟨h1, h2⟩
                    · have q1 : decide (pv.due > d) = false := by simp; omega
                      have q2 : (pv.due == d) = false := by simp; omega
                      as_aux_lemma =>
                        go_wp2
                        generalize wr.alloc (.cells #[.int .i64 d, .int .i64 k, .int .i64 ((k : Int) + 1)] 33) = w6 at x1 x0 xn xb y1 y3 hnew xf HFn ⊢
                        have n0 : w6.cell? ⟨wr.heap.size, 0, none⟩ = some (.int .i64 d) := (cell_of_row w6 _ 0 _ 33 (0, 0) hnew).trans rfl
                        have n1 : w6.cell? ⟨wr.heap.size, 1, none⟩ = some (.int .i64 k) := (cell_of_row w6 _ 1 _ 33 (0, 0) hnew).trans rfl
                        have n2 : w6.cell? ⟨wr.heap.size, 2, none⟩ = some (.int .i64 ((k : Int) + 1)) := (cell_of_row w6 _ 2 _ 33 (0, 0) hnew).trans rfl
                        clear hnew f1 f2 f3 e0 e1 eb
                        try simp only [List.append_eq, List.cons_append, List.nil_append]
                        go_quiet (fail)
                        go_wp2
                        go_roundg (C.length - (j + 1))
                        · exact ⟨j + 1, c2 + 1, by omega, rfl, by simp <;> omega, by simp, by omega, Lib.hid (HFn.out _).rt, Lib.hid (Nat.le_trans HSz.out (HFn.out _).sz), Lib.hid (HFn.out _).cq⟩
                        · omega
                    · have q1 : decide (pv.due > d) = false := by simp; omega
                      have q2 : (pv.due == d) = true := by simp; omega
                      have q3 : decide (pv.id > (k : Int) + 1) = false := by simp; omega
                      as_aux_lemma =>
                        go_wp2
                        generalize wr.alloc (.cells #[.int .i64 d, .int .i64 k, .int .i64 ((k : Int) + 1)] 33) = w6 at x1 x0 xn xb y1 y3 hnew xf HFn ⊢
                        have n0 : w6.cell? ⟨wr.heap.size, 0, none⟩ = some (.int .i64 d) := (cell_of_row w6 _ 0 _ 33 (0, 0) hnew).trans rfl
                        have n1 : w6.cell? ⟨wr.heap.size, 1, none⟩ = some (.int .i64 k) := (cell_of_row w6 _ 1 _ 33 (0, 0) hnew).trans rfl
                        have n2 : w6.cell? ⟨wr.heap.size, 2, none⟩ = some (.int .i64 ((k : Int) + 1)) := (cell_of_row w6 _ 2 _ 33 (0, 0) hnew).trans rfl
                        clear hnew f1 f2 f3 e0 e1 eb
                        try simp only [List.append_eq, List.cons_append, List.nil_append]
                        go_quiet (fail)
                        go_wp2
                        go_roundg (C.length - (j + 1))
                        · exact ⟨j + 1, c2 + 1, by omega, rfl, by simp <;> omega, by simp, by omega, Lib.hid (HFn.out _).rt, Lib.hid (Nat.le_trans HSz.out (HFn.out _).sz), Lib.hid (HFn.out _).cq⟩
                        · omega
                · have hjC : j = C.length := by omega
                  have hjl' : decide ((j : Int) < C.length) = false := by simp; omega
                  have HCx := Lib.hid (HCq.out.congr (f' := mk S' []) (fun x hx => by rw [hjC, List.take_of_length_le (Nat.le_refl _)]; exact HMk.out x))
                  have HCt : Hid (c2 + S'.length = l0.length) := Lib.hid (by have := HCn.out; have := HLn.out; omega)
                  have hjj : ¬ j < C.length := hjl
                  clear hjl hc2 hjC
                  go_wp2
                  go_loopg [16] l0.length (fun m s16 wz => ∃ (k p : Nat), k ≤ l0.length ∧ m = l0.length - k ∧ s16 = .int .i64 (k : Int) ∧ Hid (CQ W wz q mb cb l0.length S' l0.length (mk S' [])))
                  case atStart => exact ⟨0, 0, by omega, rfl, rfl, HCx⟩
                  case round =>
                    obtain ⟨k, p, hk, rfl, rfl, HCy⟩ := hrel
                    by_cases hkl : k < l0.length
                    · have hkl' : (k : Int) < l0.length := by omega
                      have hkpos : (0 : Int) ≤ (k : Int) := by omega
                      obtain ⟨b0, off0, d, hA0, hbl0, hdk, hcell0⟩ := at_any HR0.out hkl
                      have e0 := hcell0 wr HCy.out.below
                      have e1 := HC1.out wr HCy.out.below
                      by_cases hd : d ≤ now
                      · have hd' : decide (d ≤ now) = true := by simpa using hd
                        have eb := HCy.out.cell hkl
                        rw [HCm.out k (by rw [hdk]; exact hd)] at eb
                        subst hA0
                        clear hcell0 hdk
                        as_aux_lemma =>
                          go_wp2
                          go_quiet (fail)
                          go_wp2
                          go_roundg (l0.length - (k + 1))
                          · exact ⟨k + 1, 0, by omega, rfl, by simp, Lib.hid (HCy.out.step (below_drewN _ _))⟩
                          · omega
                      · have hd' : decide (d ≤ now) = false := by simp; omega
                        subst hA0
                        clear hcell0 hdk
                        as_aux_lemma =>
                          go_wp2
                          go_quiet (fail)
                          go_wp2
                          go_roundg (l0.length - (k + 1))
                          · exact ⟨k + 1, 0, by omega, rfl, by simp, Lib.hid (HCy.out.step (below_drewN _ _))⟩
                          · omega
                    · have hkk : decide ((k : Int) < l0.length) = false := by simp; omega
                      have hkn : ¬ k < l0.length := hkl
                      have e1 := HC1.out wr HCy.out.below
                      rcases hf : first S' with _ | t
                      · have HF5 := Lib.hid hf
                        have hz : S'.length = 0 := by rw [first_none] at hf; rw [hf]; rfl
                        have hcL : c2 = l0.length := by have := HCt.out; omega
                        have HZ := Lib.hid hz
                        have hsub : (l0.length : Int) - (c2 : Int) = 0 := by omega
                        have hlt : decide ((c2 : Int) < l0.length) = false := by simp; omega
                        have hltn : ¬ c2 < l0.length := by omega
                        have hw0 : IntKind.i64.wrap (0 : Int) = 0 := by decide
                        clear hf hz hcL
                        as_aux_lemma =>
                          go_wp2_with ((with_reducible refine (cq_none HCy.out HF5.out).mono ?_); rintro e w5 ⟨rfl, HC5⟩)
                          have HC6 := Lib.hid (HC5.out.step ((Below.refl w5.heap.size w5).alloc (Nat.le_refl _) (.cells #[.int .i64 0, .int .i64 0, .int .i64 0] 33)))
                          generalize w5.alloc (.cells #[.int .i64 0, .int .i64 0, .int .i64 0] 33) = w6 at HC6 ⊢
                          clear e1
                          go_quiet ((go_at_call 11; exact Calls.quiet_of_same (cq_len_q HC6.out 0 HZ.out _)))
                          go_wp2
                          go_roundg (l1.length - (i + 1))
                          · exact ⟨i + 1, c2, S', by omega, rfl, rfl, by simp, HCt.out, HRi', Lib.hid (HC6.out.step (below_drewN _ _))⟩
                          · omega
                      · have HF5 := Lib.hid hf
                        obtain ⟨p1, hp1⟩ : ∃ p1, S'.length = p1 := ⟨_, rfl⟩
                        have h1 : 1 ≤ p1 := by
                          rw [← hp1]
                          rcases S' with _ | ⟨x, r⟩
                          · cases hf
                          · simp
                        have HZ := Lib.hid hp1
                        have hcL : c2 + p1 = l0.length := by have := HCt.out; omega
                        have hsub : (l0.length : Int) - (c2 : Int) = (p1 : Int) := by omega
                        have hw0 : IntKind.i64.wrap (p1 : Int) = (p1 : Int) := IntWalk.i64_in _ (by omega)
                        have hlt : decide ((c2 : Int) < l0.length) = true := by simp; omega
                        have hltn : c2 < l0.length := by omega
                        have hdd : decide (t.due ≤ now) = false := by have := HFi.out t hf; simp; omega
                        have hW5 := HCy.out.below.size
                        clear hf hp1 hcL e1
                        as_aux_lemma =>
                          go_wp2_with ((with_reducible refine (cq_some HCy.out t HF5.out).mono ?_); rintro e w5 ⟨rfl, HC5⟩)
                          have HC6 := Lib.hid (HC5.out.step ((Below.refl w5.heap.size w5).alloc (Nat.le_refl _) (.cells #[.int .i64 t.due, .int .i64 t.tag, .int .i64 t.id] 33)))
                          have hnew := heap_alloc_new w5 (.cells #[.int .i64 t.due, .int .i64 t.tag, .int .i64 t.id] 33)
                          generalize w5.alloc (.cells #[.int .i64 t.due, .int .i64 t.tag, .int .i64 t.id] 33) = w6 at HC6 hnew ⊢
                          have n0 : w6.cell? ⟨w5.heap.size, 0, none⟩ = some (.int .i64 t.due) := (cell_of_row w6 _ 0 _ 33 (0, 0) hnew).trans rfl
                          have e1 := HC1.out w6 HC6.out.below
                          clear hnew
                          go_quiet ((go_at_call 11; exact Calls.quiet_of_same (cq_len_q HC6.out p1 HZ.out _)))
                          go_wp2
                          go_roundg (l1.length - (i + 1))
                          · exact ⟨i + 1, c2, S', by omega, rfl, rfl, by simp, HCt.out, HRi', Lib.hid (HC6.out.step (below_drewN _ _))⟩
                          · omega
            · have hil' : decide ((i : Int) < l1.length) = false := by simp; omega
              go_wp2
              go_ret
              exact ⟨rfl, HCr.out.below⟩


set_option maxRecDepth 100000 in
theorem lifted (os : Os) (started : os.Started) (H : Type) (enc : TypeId × Value → H) :
    ReturnsInHanded {} Try.checked os 4 .any (Rows.timerOrdersSpec.pre6 enc Try.prog Try.f4 Rows.timerOrdersRow.domain false) (Rows.timerOrdersSpec.post enc Try.prog Try.f4 false true false false) := by
  refine returnsInHanded_of_change (C := Try.checked) own started (by kernel_rfl) Try.func4
    (ChangeSpec.witness6 (enc := enc) (C := Try.checked) false ⟨#[], #[.slice none 0 0, .slice none 0 0], []⟩ 8 (by kernel_rfl) (by kernel_rfl) (by kernel_rfl) (by kernel_rfl)) ?_
  intro W base args ds gs before hval0 hW hcnd _
  have hval : ∀ (j : Nat) t v, Try.f4.params[j]? = some t → args[j]? = some v → Value.okWide Try.prog W .any base t v := hval0
  have hW' := hW
  obtain ⟨p, q, hA0, hV, rfl, hfz, hnd⟩ := hW
  have hA : DataW.TrodAll enc Try.prog W 0 (fun _ => true) true Try.f4.params.toList args.toList ds p := hA0
  rw [Try.params4] at hA hval
  obtain ⟨v0, vs0, d0, ds0, p0, q0, hargs, rfl, rfl, h0, r0⟩ := trodAll_cons hA
  obtain ⟨v1, vs1, d1, ds1, p1, q1, rfl, rfl, rfl, h1, r1⟩ := trodAll_cons r0
  obtain ⟨rfl, rfl, rfl⟩ := trodAll_nil r1
  obtain rfl : args = #[v0, v1] := by cases args; simp_all
  obtain ⟨rfl, rfl⟩ := trodVars_none hV
  clear hA0 hval0
  have hlt0 : ∀ x ∈ p0, x.block < W.heap.size := fun x hx => hW'.lt x (by simp [hx])
  have hk0 := h0
  obtain ⟨A0, c0, l0, rfl, hr0, hc0, hl0, hx0⟩ := Open.viewI (hval 0 38 v0 rfl rfl) h0 hlt0
  have hlt1 : ∀ x ∈ p1, x.block < W.heap.size := fun x hx => hW'.lt x (by simp [hx])
  have hk1 := h1
  obtain ⟨A1, c1, l1, rfl, hr1, hc1, hl1, hx1⟩ := Open.viewI (hval 1 38 v1 rfl rfl) h1 hlt1
  simp only [List.append_nil] at hW'
  refine (walk W A0 c0 l0 hr0 hc0 hl0 hx0 A1 c1 l1 hr1 hc1 hl1 hx1).mono fun e W' ⟨he, hg⟩ => ?_
  subst he
  exact ⟨_, rfl, _, _, _, [], _, [], hW', (trodAll_cons_mk (shut_bool Try.underlying4 _) trodAll_mk0), (trodAll_cons_mk (Below.trod Open.laidOut (by kernel_rfl) (of_decide_eq_true (by kernel_rfl)) hk0 hg hlt0) (trodAll_cons_mk (Below.trod Open.laidOut (by kernel_rfl) (of_decide_eq_true (by kernel_rfl)) hk1 hg hlt1) trodAll_mk0)), rfl, hg.frame _, fun h => by cases h⟩

theorem over : Rows.timerOrdersRow.holds Try.pinned (OpenSpec.ofChange Rows.timerOrdersSpec) :=
  OpenClaim.holds_of_wide 4 Try.f4 rfl rfl rfl rfl rfl rfl rfl ⟨rfl, rfl, rfl, rfl, rfl⟩ rfl rfl rfl rfl rfl (by kernel_rfl) Try.func4 (by kernel_rfl)
    (of_decide_eq_true (by kernel_rfl)) (by unfold Func.isWrapper; first | (rw [if_pos (by decide +kernel)]; kernel_rfl) | (rw [if_neg (by decide +kernel)]; exact ⟨rfl, rfl⟩))
    (fun os started H enc _ => lifted os started H enc)

/-- The given statement. -/
theorem proved : Rows.TimerOrdersSaid :=
  over
#print axioms proved
end Go.Proofs.Ytibiobcjnnoeeaa.timerOrders
