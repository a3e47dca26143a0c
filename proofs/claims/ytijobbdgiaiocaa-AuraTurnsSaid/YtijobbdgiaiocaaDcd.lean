/-
  Contract of the document's own Tick.
-/
import Derived.Test.YtijobbdgiaiocaaDca
import Derived.Test.YtijobbdgiaiocaaPgd
namespace Go.Proofs.Ytijobbdgiaiocaa.Con
open Go.RowKit Go.Maps
theorem Two.drew {α β : Type} {E : El α} {F : El β} {w0 V : World} {base : Nat} {v u : Value} {l : List α} {m : List β} (h : Two E F w0 V base v u l m) : Two E F w0 V.drew base v u l m := ⟨h.a, h.b, h.ne, h.below.drew, h.top⟩
set_option maxRecDepth 20000 in
set_option maxHeartbeats 2000000 in
theorem rtick_any {w : World} {B : Nat} {c : Cn} {A : Option Addr} {l : List Ac} {n cp : Nat} (now : Int) (hA : RuC c w) (hau : ∀ a ∈ c.au, NAu a) (hac : ∀ a ∈ l, NAc a) (hn : l.length = n) (hl : (n : Int) ≤ 100000) (hr : RW ac w B A l) (hB : B ≤ w.heap.size) :
    Calls Try.prog 15 #[cnv c, .slice A n cp, .int .i64 now] w (DuA w (l.map (tkA c.au now)) (tkD c.au now l n)) := by
  subst hn
  have hb := below_box w (oCn c)
  have HX := Lib.hid hb; have HA := Lib.hid (hA.of hb); have HN := Lib.hid (heap_alloc_new w (oCn c));
  have HLT : Hid (w.heap.size < (w.alloc (oCn c)).heap.size) := Lib.hid (by simp)
  have HAU := Lib.hid hau; have HAC := Lib.hid hac
  have HCp := Lib.hid (copied_any A cp l.length B l (w.alloc (oCn c)) rfl (hr.below hb hB) (Nat.le_trans hB hb.size) hl)
  clear hA hr hB hb hau hac
  go_enter Try.func15, Try.ntmps15
  go_wp2_with ((with_reducible refine HCp.out.mono ?_); rintro e w0 ⟨A1, c1, rfl, HO0, hB0⟩; have HB0 := Lib.hid hB0; clear hB0)
  generalize w.alloc (oCn c) = V at *
  have HS0 : Hid (Two ac ac V w0 V.heap.size (.slice A1 l.length c1) (.slice none 0 0) l []) := Lib.hid (Two.copy HO0.out HB0.out HB0.out.size)
  clear HCp HO0 HB0
  go_loopg [9, 10] l.length (fun gh s9 s10 wr => ∃ (k : Nat) (M : List Ac) (A2 : Option Addr) (c2 : Nat) (D : List Ac), k ≤ l.length ∧ gh = l.length - k ∧ s10 = .int .i64 k ∧ s9 = .slice A2 D.length c2 ∧ Hid (M = tkK c.au now l k) ∧ Hid (D = tkD c.au now l k) ∧ Hid (Two ac ac V wr V.heap.size (.slice A1 l.length c1) (.slice A2 D.length c2) M D))
  case atStart => exact ⟨0, l, none, 0, [], by omega, rfl, rfl, rfl, Lib.hid tk_zero.symm, Lib.hid rfl, HS0⟩
  case round =>
    obtain ⟨k, M, A2, c2, D, hk, rfl, rfl, rfl, HM, HD, HTW⟩ := hrel
    have HW : Hid (Below V.heap.size V wr) := Lib.hid HTW.out.below
    by_cases hlt : k < l.length
    · obtain ⟨x, hx⟩ : ∃ x, l[k]? = some x := ⟨_, List.getElem?_eq_getElem hlt⟩
      have HXl := Lib.hid hx
      have HMx : Hid (M[k]? = some x) := Lib.hid (by rw [HM.out]; exact tk_get hx)
      obtain ⟨mb, hmb, hmb0, hmb1, hmc, _⟩ := HTW.out.a.at' HMx.out
      subst hmb
      obtain ⟨d0, d1, d2, d3, d4, d5⟩ := cellsAc (o := k * 6) hmc
      clear hmc
      have hlt' : (k : Int) < l.length := by omega
      have HCB : Hid (wr.heap[w.heap.size]? = some (oCn c)) := Lib.hid (hkeep1 HW.out HLT.out HN.out)
      have HBb : Hid (mb < wr.heap.size) := Lib.hid hmb1
      have HZa : Hid (∀ wz, Below wr.heap.size wr wz → wz.cell? ⟨mb, k * 6, none⟩ = some (.int .i64 x.aura) ∧ wz.cell? ⟨mb, k * 6 + 1, none⟩ = some (.int .i64 x.source) ∧ wz.cell? ⟨mb, k * 6 + 2, none⟩ = some (.int .i64 x.stacks) ∧ wz.cell? ⟨mb, k * 6 + 3, none⟩ = some (.int .i64 x.untl) ∧ wz.cell? ⟨mb, k * 6 + 4, none⟩ = some (.int .i64 x.nxt) ∧ wz.cell? ⟨mb, k * 6 + 5, none⟩ = some (.int .i64 x.left)) := Lib.hid (fun wz hz => ⟨(hz.cell (p := ⟨mb, k * 6, none⟩) HBb.out).trans d0, (hz.cell (p := ⟨mb, k * 6 + 1, none⟩) HBb.out).trans d1, (hz.cell (p := ⟨mb, k * 6 + 2, none⟩) HBb.out).trans d2, (hz.cell (p := ⟨mb, k * 6 + 3, none⟩) HBb.out).trans d3, (hz.cell (p := ⟨mb, k * 6 + 4, none⟩) HBb.out).trans d4, (hz.cell (p := ⟨mb, k * 6 + 5, none⟩) HBb.out).trans d5⟩)
      have HZ : Hid (∀ wz, Below wr.heap.size wr wz → wz.cell? ⟨mb, k * 6, none⟩ = some (.int .i64 x.aura)) := Lib.hid (fun wz hz => (HZa.out wz hz).1)
      have HC := Lib.hid (fun U (hU : Below wr.heap.size wr U) => HA.out U (HW.out.trans (hU.mono HW.out.size)) x.aura)
      obtain ⟨a, ha⟩ : ∃ a, lkA c.au x.aura = a := ⟨_, rfl⟩
      obtain ⟨u, hu⟩ : ∃ u, lkB c.au x.aura = u := ⟨_, rfl⟩
      rw [ha, hu] at HC
      have HAE := Lib.hid ha; have HUE := Lib.hid hu
      have HNx := Lib.hid (HAC.out x (List.mem_of_getElem? hx))
      have HNa := Lib.hid (lk_nau HAU.out x.aura)
      rw [ha] at HNa
      have HKd : Hid (tkP c.au now x = ((u && decide (0 < a.every)) && decide (x.nxt ≤ now))) := Lib.hid (by unfold tkP; rw [ha, hu])
      have HDl : Hid (D.length + [x].length ≤ 1000000) := Lib.hid (by have := td_le c.au now l k; rw [← HD.out] at this; simp; omega)
      clear hx ha hu d0 d1 d2 d3 d4 d5 hmb0 hmb1
      go_wp2
      refine wp_region_noPanic ?_
      refine wp_region_held_drew (S := fun w' => Below wr.heap.size wr w') (by kernel_rfl) ((Below.refl _ _).drew) (fun hS0 => ?_)
      generalize wr.drew = v0 at hS0 ⊢
      refine wpAnyH_take (i := 0) (oi := ⟨some 22, Op.load 31 (Operand.tmp 3), 31, _, _, none⟩) (v := ?va0) rfl (by kernel_rfl) (by kernel_rfl) (by kernel_rfl) (fun _ _ _ h => h) (Or.inl ⟨by rfl, ?ha0⟩) hS0 ?ra0
      case ha0 => (intro wz hSw; have u9 := cellOf1 (hkeep1 hSw (lt_blk1 HCB.out) HCB.out); go_simp <;> with_reducible rfl)
      (try simp only [Act.put, List.setIfInBounds_toArray, List.set_cons_zero, List.set_cons_succ])
      refine wpAnyH_take (i := 1) (oi := ⟨some 23, Op.move (Operand.tmp 8), 32, _, _, none⟩) (v := ?va1) rfl (by kernel_rfl) (by kernel_rfl) (by kernel_rfl) (fun _ _ _ h => h) (Or.inl ⟨by rfl, ?ha1⟩) hS0 ?ra1
      case ha1 => (intro wz hSw; go_simp <;> with_reducible rfl)
      (try simp only [Act.put, List.setIfInBounds_toArray, List.set_cons_zero, List.set_cons_succ])
      refine wpAnyH_take (i := 2) (oi := ⟨some 24, Op.move (Operand.tmp 10), 3, _, _, none⟩) (v := ?va2) rfl (by kernel_rfl) (by kernel_rfl) (by kernel_rfl) (fun _ _ _ h => h) (Or.inl ⟨by rfl, ?ha2⟩) hS0 ?ra2
      case ha2 => (intro wz hSw; go_simp <;> with_reducible rfl)
      (try simp only [Act.put, List.setIfInBounds_toArray, List.set_cons_zero, List.set_cons_succ])
      refine wpAnyH_take (i := 3) (oi := ⟨some 25, Op.indexAddr 32 (Operand.tmp 23) (Operand.tmp 24), 0, _, _, none⟩) (v := ?va3) rfl (by kernel_rfl) (by kernel_rfl) (by kernel_rfl) (fun _ _ _ h => h) (Or.inl ⟨by rfl, ?ha3⟩) hS0 ?ra3
      case ha3 => (intro wz hSw; go_simp <;> with_reducible rfl)
      (try simp only [Act.put, List.setIfInBounds_toArray, List.set_cons_zero, List.set_cons_succ])
      refine wpAnyH_take (i := 4) (oi := ⟨some 26, Op.fieldAddr 42 (Operand.tmp 25) 0, 0, _, _, none⟩) (v := ?va4) rfl (by kernel_rfl) (by kernel_rfl) (by kernel_rfl) (fun _ _ _ h => h) (Or.inl ⟨by rfl, ?ha4⟩) hS0 ?ra4
      case ha4 => (intro wz hSw; go_simp <;> with_reducible rfl)
      (try simp only [Act.put, List.setIfInBounds_toArray, List.set_cons_zero, List.set_cons_succ])
      refine wpAnyH_take (i := 5) (oi := ⟨some 27, Op.load 3 (Operand.tmp 26), 3, _, _, none⟩) (v := ?va5) rfl (by kernel_rfl) (by kernel_rfl) (by kernel_rfl) (fun _ _ _ h => h) (Or.inl ⟨by rfl, ?ha5⟩) hS0 ?ra5
      case ha5 => (intro wz hSw; have u8 := HZ.out wz hSw; go_simp <;> with_reducible rfl)
      (try simp only [Act.put, List.setIfInBounds_toArray, List.set_cons_zero, List.set_cons_succ])
      refine wpAnyH_ready (rs := [6, 10]) (by kernel_rfl) (by simp) ?_
      refine AllReadyH.cons (o := ⟨some 28, Op.call { callee := Callee.value (Operand.func 33), args := #[Operand.tmp 22, Operand.tmp 27], argTypes := #[31, 3] }, 55, _, _, none⟩) rfl (fun K hK => ?_) (AllReadyH.cons (o := ⟨some 11, Op.alloc 54, 0, _, _, none⟩) rfl (fun K hK => ?_) AllReadyH.nil)
      · go_simp
        ((with_reducible refine (HC.out v0 hS0).mono ?_); rintro e v1 ⟨rfl, hBv⟩; have hS1 : Below wr.heap.size wr v1 := hS0.trans (hBv.mono hS0.size))
        refine hK.out _ _ hS1 (fun _ => ?_)
        clear hK K
        (try simp only [Act.put, List.setIfInBounds_toArray, List.set_cons_zero, List.set_cons_succ])
        refine wpAnyH_take (i := 7) (oi := ⟨some 21, Op.move (Operand.tmp 28), 55, _, _, none⟩) (v := ?vab67) rfl (by kernel_rfl) (by kernel_rfl) (by kernel_rfl) (fun _ _ _ h => h) (Or.inl ⟨by rfl, ?hab67⟩) hS1 ?rab67
        case hab67 => (intro wz hSw; go_simp <;> with_reducible rfl)
        (try simp only [Act.put, List.setIfInBounds_toArray, List.set_cons_zero, List.set_cons_succ])
        refine wpAnyH_take (i := 8) (oi := ⟨some 29, Op.extract (Operand.tmp 21) 0, 54, _, _, none⟩) (v := ?vab68) rfl (by kernel_rfl) (by kernel_rfl) (by kernel_rfl) (fun _ _ _ h => h) (Or.inl ⟨by rfl, ?hab68⟩) hS1 ?rab68
        case hab68 => (intro wz hSw; go_simp <;> with_reducible rfl)
        (try simp only [Act.put, List.setIfInBounds_toArray, List.set_cons_zero, List.set_cons_succ])
        refine wpAnyH_take (i := 9) (oi := ⟨some 30, Op.extract (Operand.tmp 21) 1, 4, _, _, none⟩) (v := ?vab69) rfl (by kernel_rfl) (by kernel_rfl) (by kernel_rfl) (fun _ _ _ h => h) (Or.inl ⟨by rfl, ?hab69⟩) hS1 ?rab69
        case hab69 => (intro wz hSw; go_simp <;> with_reducible rfl)
        (try simp only [Act.put, List.setIfInBounds_toArray, List.set_cons_zero, List.set_cons_succ])
        refine wpAnyH_ready (rs := [10]) (by kernel_rfl) (by simp) ?_
        refine AllReadyH.cons (o := ⟨some 11, Op.alloc 54, 0, _, _, none⟩) rfl (fun K hK => ?_) AllReadyH.nil
        go_simp
        have HP1 : Hid ((v1.alloc zcAu).heap[v1.heap.size]? = some zcAu) := Lib.hid (heap_alloc_new v1 zcAu); have hS2 : Below wr.heap.size wr (v1.alloc zcAu) := hS1.alloc hS1.size _
        refine hK.out _ _ hS2 (fun _ => ?_)
        clear hK K
        (try simp only [Act.put, List.setIfInBounds_toArray, List.set_cons_zero, List.set_cons_succ])
        refine wpAnyH_ready (rs := [11]) (by kernel_rfl) (by simp) ?_
        refine AllReadyH.cons (o := ⟨none, Op.store 54 (Operand.tmp 11) (Operand.tmp 29), 0, _, _, none⟩) rfl (fun K hK => ?_) AllReadyH.nil
        have z1 := cellOf1 HP1.out; have y1 := frozOf1 HP1.out; have l1 := lt_blk1 HP1.out
        go_simp
        have hS4 : Below wr.heap.size wr (v1.alloc (oAu a)) := hS1.alloc hS1.size _; have HP4 : Hid ((v1.alloc (oAu a)).heap[v1.heap.size]? = some (oAu a)) := Lib.hid (heap_alloc_new v1 (oAu a))
        refine hK.out _ _ hS4 (fun _ => ?_)
        clear hK K
        (try simp only [Act.put, List.setIfInBounds_toArray, List.set_cons_zero, List.set_cons_succ])
        refine wpAnyH_take (i := 12) (oi := ⟨some 12, Op.assign (Operand.tmp 30), 4, _, _, none⟩) (v := ?vab612) rfl (by kernel_rfl) (by kernel_rfl) (by kernel_rfl) (fun _ _ _ h => h) (Or.inl ⟨by rfl, ?hab612⟩) hS4 ?rab612
        case hab612 => (intro wz hSw; go_simp <;> with_reducible rfl)
        (try simp only [Act.put, List.setIfInBounds_toArray, List.set_cons_zero, List.set_cons_succ])
        refine wpAnyH_done (by kernel_rfl) ?_ _
        refine NoPanic.normal ?_
        have hp4 : wr.heap.size ≤ v1.heap.size := hS1.size
        have HV3 := Lib.hid hS4
        clear hS4 hBv
        generalize (v1.alloc (oAu a)) = v3 at HP4 HV3 ⊢
        generalize v1.heap.size = p at HP4 hp4 ⊢
        have hpl := lt_blk1 HP4.out
        clear hS0 hS1
        have q9 := cellOf1 HP4.out
        obtain ⟨d0, d1, d2, d3, d4, d5⟩ := HZa.out v3 HV3.out
        have hbv : mb < v3.heap.size := Nat.lt_of_lt_of_le HBb.out HV3.out.size
        cases u with
        | false =>
          have HP : Hid (tkP c.au now x = false) := Lib.hid (by rw [HKd.out]; rfl)
          clear HKd
          go_wp2
          go_roundg (l.length - (k + 1))
          case measure => omega
          case rel => exact ⟨k + 1, M, A2, c2, D, by omega, rfl, by go_num, rfl, Lib.hid (by rw [HM.out]; exact tk_same HXl.out HP.out), Lib.hid (by rw [HD.out]; exact (td_no HXl.out HP.out).symm), Lib.hid (HTW.out.of HV3.out)⟩
        | true =>
          by_cases hh1 : 0 < a.every
          · by_cases hh2 : x.nxt ≤ now
            · have HP : Hid (tkP c.au now x = true) := Lib.hid (by rw [HKd.out]; simp [hh1, hh2])
              clear HKd
              have HXe : Hid (tkA c.au now x = ⟨x.aura, x.source, x.stacks, x.untl, held (x.nxt + a.every), x.left⟩) := Lib.hid (by rw [tk_yes HP.out, HAE.out])
              have HT5 := Lib.hid ((HTW.out.of HV3.out).of (below_box v3 (oAc x)))
              have HRW : Hid (RW ac (v3.alloc (oAc x)) (v3.heap.size + 1) (some ⟨v3.heap.size, 0, none⟩) [x]) := Lib.hid (rw_at ac _ _ _ _ _ rfl rfl rfl)
              have HQ0 : Hid (∀ j, (Value.slice A2 D.length c2).ownBlock = some j → j < wr.heap.size) := Lib.hid (fun j hj => (HTW.out.b.lt hj).2)
              go_wp2_with (at_builtin; refine wpList_app ac rfl 32 rfl (.tmp 46) (.tmp 51) rfl V.heap.size (v3.heap.size + 1) (.slice A2 D.length c2) D [x] (some ⟨v3.heap.size, 0, none⟩) 1 1 rfl rfl rfl HT5.out.b HRW.out HDl.out HT5.out.top ?_; intro A3 c3 w3 lm HLM HO3 HS3 HB3)
              have HT6 := Lib.hid (HT5.out.put2 HS3.out HO3.out HB3.out)
              have HP5 : Hid (w3.heap[p]? = some (oAu a)) := Lib.hid (by rw [HS3.out.block p (by simp; omega) (fun e => by have := HQ0.out p e.symm; omega), Below.heap_alloc _ _ _ hpl]; exact HP4.out)
              obtain ⟨mb2, hmb2, hmb0, hmbl, hmc, hmf⟩ := HT6.out.a.at' HMx.out
              injection hmb2 with e2; injection e2 with e2; subst e2
              have hmz := cellsAc (o := k * 6) hmc
              have HNe : Hid (p ≠ mb) := Lib.hid (by have := HBb.out; omega)
              clear hmc q9 d0 d1 d2 d3 d4 d5 hmb0 hh1 hh2 hbv
              have hF1 : Fits x.nxt := HNx.out.2.1
              have hF2 : Fits a.every := HNa.out.2.1
              have HD0 : Hid (∀ U, U = w3.drew → Two ac ac V U V.heap.size (.slice (some ⟨mb, 0, none⟩) l.length c1) (.slice A3 lm.length c3) M lm ∧ U.heap[p]? = some (oAu a) ∧ U.cell? ⟨mb, k * 6 + 4, none⟩ = some (.int .i64 x.nxt) ∧ (∀ o, U.frozen? ⟨mb, o, none⟩ = false) ∧ mb < U.heap.size) := Lib.hid (fun U hU => by subst hU; exact ⟨HT6.out.drew, HP5.out, hmz.2.2.2.2.1, hmf, hmbl⟩)
              clear hmz hmf hmbl
              refine wp_region_noPanic ?_
              refine wp_region_held_drew (S := fun w' => w'.heap[p]? = some (oAu a)) (by kernel_rfl) (HD0.out _ rfl).2.1 (fun _ => ?_)
              generalize hx0 : w3.drew = x0
              obtain ⟨ht7, hT0, hld, hfz, hmbl⟩ := HD0.out x0 hx0.symm
              have HT7 := Lib.hid ht7; have HLd := Lib.hid hld; have HFz := Lib.hid hfz; have hpx := lt_blk1 hT0
              clear ht7 hld hfz hx0 HD0
              refine wpAnyH_take (i := 0) (oi := ⟨some 53, Op.move (Operand.tmp 8), 32, _, _, none⟩) (v := ?vav10) rfl (by kernel_rfl) (by kernel_rfl) (by kernel_rfl) (fun _ _ _ h => h) (Or.inl ⟨by rfl, ?hav10⟩) hT0 ?rav10
              case hav10 => (intro wz hSw; go_simp <;> with_reducible rfl)
              (try simp only [Act.put, List.setIfInBounds_toArray, List.set_cons_zero, List.set_cons_succ])
              refine wpAnyH_take (i := 1) (oi := ⟨some 54, Op.move (Operand.tmp 10), 3, _, _, none⟩) (v := ?vav11) rfl (by kernel_rfl) (by kernel_rfl) (by kernel_rfl) (fun _ _ _ h => h) (Or.inl ⟨by rfl, ?hav11⟩) hT0 ?rav11
              case hav11 => (intro wz hSw; go_simp <;> with_reducible rfl)
              (try simp only [Act.put, List.setIfInBounds_toArray, List.set_cons_zero, List.set_cons_succ])
              refine wpAnyH_take (i := 2) (oi := ⟨some 55, Op.move (Operand.tmp 8), 32, _, _, none⟩) (v := ?vav12) rfl (by kernel_rfl) (by kernel_rfl) (by kernel_rfl) (fun _ _ _ h => h) (Or.inl ⟨by rfl, ?hav12⟩) hT0 ?rav12
              case hav12 => (intro wz hSw; go_simp <;> with_reducible rfl)
              (try simp only [Act.put, List.setIfInBounds_toArray, List.set_cons_zero, List.set_cons_succ])
              refine wpAnyH_take (i := 3) (oi := ⟨some 56, Op.move (Operand.tmp 10), 3, _, _, none⟩) (v := ?vav13) rfl (by kernel_rfl) (by kernel_rfl) (by kernel_rfl) (fun _ _ _ h => h) (Or.inl ⟨by rfl, ?hav13⟩) hT0 ?rav13
              case hav13 => (intro wz hSw; go_simp <;> with_reducible rfl)
              (try simp only [Act.put, List.setIfInBounds_toArray, List.set_cons_zero, List.set_cons_succ])
              refine wpAnyH_take (i := 4) (oi := ⟨some 57, Op.indexAddr 32 (Operand.tmp 55) (Operand.tmp 56), 0, _, _, none⟩) (v := ?vav14) rfl (by kernel_rfl) (by kernel_rfl) (by kernel_rfl) (fun _ _ _ h => h) (Or.inl ⟨by rfl, ?hav14⟩) hT0 ?rav14
              case hav14 => (intro wz hSw; go_simp <;> with_reducible rfl)
              (try simp only [Act.put, List.setIfInBounds_toArray, List.set_cons_zero, List.set_cons_succ])
              refine wpAnyH_take (i := 5) (oi := ⟨some 58, Op.fieldAddr 42 (Operand.tmp 57) 4, 0, _, _, none⟩) (v := ?vav15) rfl (by kernel_rfl) (by kernel_rfl) (by kernel_rfl) (fun _ _ _ h => h) (Or.inl ⟨by rfl, ?hav15⟩) hT0 ?rav15
              case hav15 => (intro wz hSw; go_simp <;> with_reducible rfl)
              (try simp only [Act.put, List.setIfInBounds_toArray, List.set_cons_zero, List.set_cons_succ])
              refine wpAnyH_take (i := 7) (oi := ⟨some 60, Op.fieldAddr 54 (Operand.tmp 11) 3, 0, _, _, none⟩) (v := ?vav17) rfl (by kernel_rfl) (by kernel_rfl) (by kernel_rfl) (fun _ _ _ h => h) (Or.inl ⟨by rfl, ?hav17⟩) hT0 ?rav17
              case hav17 => (intro wz hSw; go_simp <;> with_reducible rfl)
              (try simp only [Act.put, List.setIfInBounds_toArray, List.set_cons_zero, List.set_cons_succ])
              refine wpAnyH_take (i := 8) (oi := ⟨some 61, Op.load 3 (Operand.tmp 60), 3, _, _, none⟩) (v := ?vav18) rfl (by kernel_rfl) (by kernel_rfl) (by kernel_rfl) (fun _ _ _ h => h) (Or.inl ⟨by rfl, ?hav18⟩) hT0 ?rav18
              case hav18 => (intro wz hSw; have u9 := cellOf1 hSw; go_simp <;> with_reducible rfl)
              (try simp only [Act.put, List.setIfInBounds_toArray, List.set_cons_zero, List.set_cons_succ])
              refine wpAnyH_ready (rs := [6]) (by kernel_rfl) (by simp) ?_
              refine AllReadyH.cons (o := ⟨some 59, Op.load 3 (Operand.tmp 58), 3, _, _, none⟩) rfl (fun K hK => ?_) AllReadyH.nil
              have zc := HLd.out
              go_simp
              refine hK.out _ _ hT0 (fun _ => ?_)
              clear hK K
              (try simp only [Act.put, List.setIfInBounds_toArray, List.set_cons_zero, List.set_cons_succ])
              refine wpAnyH_ready (rs := [9]) (by kernel_rfl) (by simp) ?_
              refine AllReadyH.cons (o := ⟨some 62, Op.call { callee := Callee.value (Operand.func 35), args := #[Operand.tmp 59, Operand.tmp 61], argTypes := #[3, 3] }, 3, _, _, none⟩) rfl (fun K hK => ?_) AllReadyH.nil
              go_simp
              ((with_reducible refine (radd_any _ _ _ hF1 hF2).mono ?_); rintro e v5 ⟨rfl, rfl⟩)
              refine hK.out _ _ hT0 (fun _ => ?_)
              clear hK K
              (try simp only [Act.put, List.setIfInBounds_toArray, List.set_cons_zero, List.set_cons_succ])
              refine wpAnyH_take (i := 10) (oi := ⟨some 63, Op.indexAddr 32 (Operand.tmp 53) (Operand.tmp 54), 0, _, _, none⟩) (v := ?vav110) rfl (by kernel_rfl) (by kernel_rfl) (by kernel_rfl) (fun _ _ _ h => h) (Or.inl ⟨by rfl, ?hav110⟩) hT0 ?rav110
              case hav110 => (intro wz hSw; go_simp <;> with_reducible rfl)
              (try simp only [Act.put, List.setIfInBounds_toArray, List.set_cons_zero, List.set_cons_succ])
              refine wpAnyH_take (i := 11) (oi := ⟨some 64, Op.fieldAddr 42 (Operand.tmp 63) 4, 0, _, _, none⟩) (v := ?vav111) rfl (by kernel_rfl) (by kernel_rfl) (by kernel_rfl) (fun _ _ _ h => h) (Or.inl ⟨by rfl, ?hav111⟩) hT0 ?rav111
              case hav111 => (intro wz hSw; go_simp <;> with_reducible rfl)
              (try simp only [Act.put, List.setIfInBounds_toArray, List.set_cons_zero, List.set_cons_succ])
              refine wpAnyH_ready (rs := [12]) (by kernel_rfl) (by simp) ?_
              refine AllReadyH.cons (o := ⟨none, Op.store 3 (Operand.tmp 64) (Operand.tmp 62), 0, _, _, none⟩) rfl (fun K hK => ?_) AllReadyH.nil
              have zc := HLd.out; have zf := HFz.out
              go_simp
              have hT1 : (x0.setCell ⟨mb, k * 6 + 4, none⟩ (.int .i64 (held (x.nxt + a.every)))).heap[p]? = some (oAu a) := (Below.heap_setCell x0 _ _ _ (by show p ≠ mb; exact HNe.out)).trans hT0
              refine hK.out _ _ hT1 (fun _ => ?_)
              clear hK K
              (try simp only [Act.put, List.setIfInBounds_toArray, List.set_cons_zero, List.set_cons_succ])
              refine wpAnyH_done (by kernel_rfl) ?_ _
              refine NoPanic.normal ?_
              clear hT1 hT0
              go_wp2
              go_roundg (l.length - (k + 1))
              case measure => omega
              case rel => exact ⟨k + 1, M.set k (tkA c.au now x), A3, c3, lm, by omega, rfl, by go_num, rfl, Lib.hid (by rw [HM.out]; exact tk_next HXl.out), Lib.hid (by rw [HLM.out, HD.out]; exact (td_yes HXl.out HP.out).symm), Lib.hid (by
                rw [HXe.out]
                exact HT7.out.poke rfl HMx.out (j := 4) (by decide) rfl)⟩
            · have hh2' : decide (x.nxt ≤ now) = false := by simpa using hh2
              have HP : Hid (tkP c.au now x = false) := Lib.hid (by rw [HKd.out, hh2']; simp)
              clear HKd
              go_wp2
              go_roundg (l.length - (k + 1))
              case measure => omega
              case rel => exact ⟨k + 1, M, A2, c2, D, by omega, rfl, by go_num, rfl, Lib.hid (by rw [HM.out]; exact tk_same HXl.out HP.out), Lib.hid (by rw [HD.out]; exact (td_no HXl.out HP.out).symm), Lib.hid (HTW.out.of HV3.out)⟩
          · have hh1' : decide (0 < a.every) = false := by simpa using hh1
            have HP : Hid (tkP c.au now x = false) := Lib.hid (by rw [HKd.out, hh1']; simp)
            clear HKd
            go_wp2
            go_roundg (l.length - (k + 1))
            case measure => omega
            case rel => exact ⟨k + 1, M, A2, c2, D, by omega, rfl, by go_num, rfl, Lib.hid (by rw [HM.out]; exact tk_same HXl.out HP.out), Lib.hid (by rw [HD.out]; exact (td_no HXl.out HP.out).symm), Lib.hid (HTW.out.of HV3.out)⟩
      · go_simp
        have hSa : Below wr.heap.size wr (v0.alloc zcAu) := hS0.alloc hS0.size _
        refine hK.out _ _ hSa (fun _ => ?_)
        clear hK K
        (try simp only [Act.put, List.setIfInBounds_toArray, List.set_cons_zero, List.set_cons_succ])
        refine wpAnyH_ready (rs := [6]) (by kernel_rfl) (by simp) ?_
        refine AllReadyH.cons (o := ⟨some 28, Op.call { callee := Callee.value (Operand.func 33), args := #[Operand.tmp 22, Operand.tmp 27], argTypes := #[31, 3] }, 55, _, _, none⟩) rfl (fun K hK => ?_) AllReadyH.nil
        go_simp
        ((with_reducible refine (HC.out _ hSa).mono ?_); rintro e v1 ⟨rfl, hBv⟩; have hS1 : Below wr.heap.size wr v1 := hSa.trans (hBv.mono hSa.size); have HP1 : Hid (v1.heap[v0.heap.size]? = some zcAu) := Lib.hid (hkeep1 hBv (by simp) (heap_alloc_new v0 zcAu)))
        refine hK.out _ _ hS1 (fun _ => ?_)
        clear hK K
        (try simp only [Act.put, List.setIfInBounds_toArray, List.set_cons_zero, List.set_cons_succ])
        refine wpAnyH_take (i := 7) (oi := ⟨some 21, Op.move (Operand.tmp 28), 55, _, _, none⟩) (v := ?vab107) rfl (by kernel_rfl) (by kernel_rfl) (by kernel_rfl) (fun _ _ _ h => h) (Or.inl ⟨by rfl, ?hab107⟩) hS1 ?rab107
        case hab107 => (intro wz hSw; go_simp <;> with_reducible rfl)
        (try simp only [Act.put, List.setIfInBounds_toArray, List.set_cons_zero, List.set_cons_succ])
        refine wpAnyH_take (i := 8) (oi := ⟨some 29, Op.extract (Operand.tmp 21) 0, 54, _, _, none⟩) (v := ?vab108) rfl (by kernel_rfl) (by kernel_rfl) (by kernel_rfl) (fun _ _ _ h => h) (Or.inl ⟨by rfl, ?hab108⟩) hS1 ?rab108
        case hab108 => (intro wz hSw; go_simp <;> with_reducible rfl)
        (try simp only [Act.put, List.setIfInBounds_toArray, List.set_cons_zero, List.set_cons_succ])
        refine wpAnyH_take (i := 9) (oi := ⟨some 30, Op.extract (Operand.tmp 21) 1, 4, _, _, none⟩) (v := ?vab109) rfl (by kernel_rfl) (by kernel_rfl) (by kernel_rfl) (fun _ _ _ h => h) (Or.inl ⟨by rfl, ?hab109⟩) hS1 ?rab109
        case hab109 => (intro wz hSw; go_simp <;> with_reducible rfl)
        (try simp only [Act.put, List.setIfInBounds_toArray, List.set_cons_zero, List.set_cons_succ])
        refine wpAnyH_ready (rs := [11]) (by kernel_rfl) (by simp) ?_
        refine AllReadyH.cons (o := ⟨none, Op.store 54 (Operand.tmp 11) (Operand.tmp 29), 0, _, _, none⟩) rfl (fun K hK => ?_) AllReadyH.nil
        have z1 := cellOf1 HP1.out; have y1 := frozOf1 HP1.out; have l1 := lt_blk1 HP1.out
        go_simp
        have hS4 : Below wr.heap.size wr (((((((v1.setCell ⟨v0.heap.size, 0, none⟩ (.int .i64 a.id)).setCell ⟨v0.heap.size, 1, none⟩ (.int .i64 a.kind)).setCell ⟨v0.heap.size, 2, none⟩ (.int .i64 a.ticks)).setCell ⟨v0.heap.size, 3, none⟩ (.int .i64 a.every)).setCell ⟨v0.heap.size, 4, none⟩ (.int .i64 a.stacks)).setCell ⟨v0.heap.size, 5, none⟩ (.int .i64 a.amount)).setCell ⟨v0.heap.size, 6, none⟩ (.bool a.harm)) := below_setCells v0.heap.size hS0.size [.int .i64 a.id, .int .i64 a.kind, .int .i64 a.ticks, .int .i64 a.every, .int .i64 a.stacks, .int .i64 a.amount, .bool a.harm] 0 _ hS1; have HP4 : Hid ((((((((v1.setCell ⟨v0.heap.size, 0, none⟩ (.int .i64 a.id)).setCell ⟨v0.heap.size, 1, none⟩ (.int .i64 a.kind)).setCell ⟨v0.heap.size, 2, none⟩ (.int .i64 a.ticks)).setCell ⟨v0.heap.size, 3, none⟩ (.int .i64 a.every)).setCell ⟨v0.heap.size, 4, none⟩ (.int .i64 a.stacks)).setCell ⟨v0.heap.size, 5, none⟩ (.int .i64 a.amount)).setCell ⟨v0.heap.size, 6, none⟩ (.bool a.harm)).heap[v0.heap.size]? = some (oAu a)) := Lib.hid (put7 HP1.out _ _ _ _ _ _ _)
        refine hK.out _ _ hS4 (fun _ => ?_)
        clear hK K
        (try simp only [Act.put, List.setIfInBounds_toArray, List.set_cons_zero, List.set_cons_succ])
        refine wpAnyH_take (i := 12) (oi := ⟨some 12, Op.assign (Operand.tmp 30), 4, _, _, none⟩) (v := ?vab1012) rfl (by kernel_rfl) (by kernel_rfl) (by kernel_rfl) (fun _ _ _ h => h) (Or.inl ⟨by rfl, ?hab1012⟩) hS4 ?rab1012
        case hab1012 => (intro wz hSw; go_simp <;> with_reducible rfl)
        (try simp only [Act.put, List.setIfInBounds_toArray, List.set_cons_zero, List.set_cons_succ])
        refine wpAnyH_done (by kernel_rfl) ?_ _
        refine NoPanic.normal ?_
        have hp4 : wr.heap.size ≤ v0.heap.size := hS0.size
        have HV3 := Lib.hid hS4
        clear hS4 hBv
        generalize (((((((v1.setCell ⟨v0.heap.size, 0, none⟩ (.int .i64 a.id)).setCell ⟨v0.heap.size, 1, none⟩ (.int .i64 a.kind)).setCell ⟨v0.heap.size, 2, none⟩ (.int .i64 a.ticks)).setCell ⟨v0.heap.size, 3, none⟩ (.int .i64 a.every)).setCell ⟨v0.heap.size, 4, none⟩ (.int .i64 a.stacks)).setCell ⟨v0.heap.size, 5, none⟩ (.int .i64 a.amount)).setCell ⟨v0.heap.size, 6, none⟩ (.bool a.harm)) = v3 at HP4 HV3 ⊢
        generalize v0.heap.size = p at HP4 hp4 ⊢
        have hpl := lt_blk1 HP4.out
        clear hS0 hS1
        have q9 := cellOf1 HP4.out
        obtain ⟨d0, d1, d2, d3, d4, d5⟩ := HZa.out v3 HV3.out
        have hbv : mb < v3.heap.size := Nat.lt_of_lt_of_le HBb.out HV3.out.size
        cases u with
        | false =>
          have HP : Hid (tkP c.au now x = false) := Lib.hid (by rw [HKd.out]; rfl)
          clear HKd
          go_wp2
          go_roundg (l.length - (k + 1))
          case measure => omega
          case rel => exact ⟨k + 1, M, A2, c2, D, by omega, rfl, by go_num, rfl, Lib.hid (by rw [HM.out]; exact tk_same HXl.out HP.out), Lib.hid (by rw [HD.out]; exact (td_no HXl.out HP.out).symm), Lib.hid (HTW.out.of HV3.out)⟩
        | true =>
          by_cases hh1 : 0 < a.every
          · by_cases hh2 : x.nxt ≤ now
            · have HP : Hid (tkP c.au now x = true) := Lib.hid (by rw [HKd.out]; simp [hh1, hh2])
              clear HKd
              have HXe : Hid (tkA c.au now x = ⟨x.aura, x.source, x.stacks, x.untl, held (x.nxt + a.every), x.left⟩) := Lib.hid (by rw [tk_yes HP.out, HAE.out])
              have HT5 := Lib.hid ((HTW.out.of HV3.out).of (below_box v3 (oAc x)))
              have HRW : Hid (RW ac (v3.alloc (oAc x)) (v3.heap.size + 1) (some ⟨v3.heap.size, 0, none⟩) [x]) := Lib.hid (rw_at ac _ _ _ _ _ rfl rfl rfl)
              have HQ0 : Hid (∀ j, (Value.slice A2 D.length c2).ownBlock = some j → j < wr.heap.size) := Lib.hid (fun j hj => (HTW.out.b.lt hj).2)
              go_wp2_with (at_builtin; refine wpList_app ac rfl 32 rfl (.tmp 46) (.tmp 51) rfl V.heap.size (v3.heap.size + 1) (.slice A2 D.length c2) D [x] (some ⟨v3.heap.size, 0, none⟩) 1 1 rfl rfl rfl HT5.out.b HRW.out HDl.out HT5.out.top ?_; intro A3 c3 w3 lm HLM HO3 HS3 HB3)
              have HT6 := Lib.hid (HT5.out.put2 HS3.out HO3.out HB3.out)
              have HP5 : Hid (w3.heap[p]? = some (oAu a)) := Lib.hid (by rw [HS3.out.block p (by simp; omega) (fun e => by have := HQ0.out p e.symm; omega), Below.heap_alloc _ _ _ hpl]; exact HP4.out)
              obtain ⟨mb2, hmb2, hmb0, hmbl, hmc, hmf⟩ := HT6.out.a.at' HMx.out
              injection hmb2 with e2; injection e2 with e2; subst e2
              have hmz := cellsAc (o := k * 6) hmc
              have HNe : Hid (p ≠ mb) := Lib.hid (by have := HBb.out; omega)
              clear hmc q9 d0 d1 d2 d3 d4 d5 hmb0 hh1 hh2 hbv
              have hF1 : Fits x.nxt := HNx.out.2.1
              have hF2 : Fits a.every := HNa.out.2.1
              have HD0 : Hid (∀ U, U = w3.drew → Two ac ac V U V.heap.size (.slice (some ⟨mb, 0, none⟩) l.length c1) (.slice A3 lm.length c3) M lm ∧ U.heap[p]? = some (oAu a) ∧ U.cell? ⟨mb, k * 6 + 4, none⟩ = some (.int .i64 x.nxt) ∧ (∀ o, U.frozen? ⟨mb, o, none⟩ = false) ∧ mb < U.heap.size) := Lib.hid (fun U hU => by subst hU; exact ⟨HT6.out.drew, HP5.out, hmz.2.2.2.2.1, hmf, hmbl⟩)
              clear hmz hmf hmbl
              refine wp_region_noPanic ?_
              refine wp_region_held_drew (S := fun w' => w'.heap[p]? = some (oAu a)) (by kernel_rfl) (HD0.out _ rfl).2.1 (fun _ => ?_)
              generalize hx0 : w3.drew = x0
              obtain ⟨ht7, hT0, hld, hfz, hmbl⟩ := HD0.out x0 hx0.symm
              have HT7 := Lib.hid ht7; have HLd := Lib.hid hld; have HFz := Lib.hid hfz; have hpx := lt_blk1 hT0
              clear ht7 hld hfz hx0 HD0
              refine wpAnyH_take (i := 0) (oi := ⟨some 53, Op.move (Operand.tmp 8), 32, _, _, none⟩) (v := ?vav00) rfl (by kernel_rfl) (by kernel_rfl) (by kernel_rfl) (fun _ _ _ h => h) (Or.inl ⟨by rfl, ?hav00⟩) hT0 ?rav00
              case hav00 => (intro wz hSw; go_simp <;> with_reducible rfl)
              (try simp only [Act.put, List.setIfInBounds_toArray, List.set_cons_zero, List.set_cons_succ])
              refine wpAnyH_take (i := 1) (oi := ⟨some 54, Op.move (Operand.tmp 10), 3, _, _, none⟩) (v := ?vav01) rfl (by kernel_rfl) (by kernel_rfl) (by kernel_rfl) (fun _ _ _ h => h) (Or.inl ⟨by rfl, ?hav01⟩) hT0 ?rav01
              case hav01 => (intro wz hSw; go_simp <;> with_reducible rfl)
              (try simp only [Act.put, List.setIfInBounds_toArray, List.set_cons_zero, List.set_cons_succ])
              refine wpAnyH_take (i := 2) (oi := ⟨some 55, Op.move (Operand.tmp 8), 32, _, _, none⟩) (v := ?vav02) rfl (by kernel_rfl) (by kernel_rfl) (by kernel_rfl) (fun _ _ _ h => h) (Or.inl ⟨by rfl, ?hav02⟩) hT0 ?rav02
              case hav02 => (intro wz hSw; go_simp <;> with_reducible rfl)
              (try simp only [Act.put, List.setIfInBounds_toArray, List.set_cons_zero, List.set_cons_succ])
              refine wpAnyH_take (i := 3) (oi := ⟨some 56, Op.move (Operand.tmp 10), 3, _, _, none⟩) (v := ?vav03) rfl (by kernel_rfl) (by kernel_rfl) (by kernel_rfl) (fun _ _ _ h => h) (Or.inl ⟨by rfl, ?hav03⟩) hT0 ?rav03
              case hav03 => (intro wz hSw; go_simp <;> with_reducible rfl)
              (try simp only [Act.put, List.setIfInBounds_toArray, List.set_cons_zero, List.set_cons_succ])
              refine wpAnyH_take (i := 4) (oi := ⟨some 57, Op.indexAddr 32 (Operand.tmp 55) (Operand.tmp 56), 0, _, _, none⟩) (v := ?vav04) rfl (by kernel_rfl) (by kernel_rfl) (by kernel_rfl) (fun _ _ _ h => h) (Or.inl ⟨by rfl, ?hav04⟩) hT0 ?rav04
              case hav04 => (intro wz hSw; go_simp <;> with_reducible rfl)
              (try simp only [Act.put, List.setIfInBounds_toArray, List.set_cons_zero, List.set_cons_succ])
              refine wpAnyH_take (i := 5) (oi := ⟨some 58, Op.fieldAddr 42 (Operand.tmp 57) 4, 0, _, _, none⟩) (v := ?vav05) rfl (by kernel_rfl) (by kernel_rfl) (by kernel_rfl) (fun _ _ _ h => h) (Or.inl ⟨by rfl, ?hav05⟩) hT0 ?rav05
              case hav05 => (intro wz hSw; go_simp <;> with_reducible rfl)
              (try simp only [Act.put, List.setIfInBounds_toArray, List.set_cons_zero, List.set_cons_succ])
              refine wpAnyH_take (i := 7) (oi := ⟨some 60, Op.fieldAddr 54 (Operand.tmp 11) 3, 0, _, _, none⟩) (v := ?vav07) rfl (by kernel_rfl) (by kernel_rfl) (by kernel_rfl) (fun _ _ _ h => h) (Or.inl ⟨by rfl, ?hav07⟩) hT0 ?rav07
              case hav07 => (intro wz hSw; go_simp <;> with_reducible rfl)
              (try simp only [Act.put, List.setIfInBounds_toArray, List.set_cons_zero, List.set_cons_succ])
              refine wpAnyH_take (i := 8) (oi := ⟨some 61, Op.load 3 (Operand.tmp 60), 3, _, _, none⟩) (v := ?vav08) rfl (by kernel_rfl) (by kernel_rfl) (by kernel_rfl) (fun _ _ _ h => h) (Or.inl ⟨by rfl, ?hav08⟩) hT0 ?rav08
              case hav08 => (intro wz hSw; have u9 := cellOf1 hSw; go_simp <;> with_reducible rfl)
              (try simp only [Act.put, List.setIfInBounds_toArray, List.set_cons_zero, List.set_cons_succ])
              refine wpAnyH_ready (rs := [6]) (by kernel_rfl) (by simp) ?_
              refine AllReadyH.cons (o := ⟨some 59, Op.load 3 (Operand.tmp 58), 3, _, _, none⟩) rfl (fun K hK => ?_) AllReadyH.nil
              have zc := HLd.out
              go_simp
              refine hK.out _ _ hT0 (fun _ => ?_)
              clear hK K
              (try simp only [Act.put, List.setIfInBounds_toArray, List.set_cons_zero, List.set_cons_succ])
              refine wpAnyH_ready (rs := [9]) (by kernel_rfl) (by simp) ?_
              refine AllReadyH.cons (o := ⟨some 62, Op.call { callee := Callee.value (Operand.func 35), args := #[Operand.tmp 59, Operand.tmp 61], argTypes := #[3, 3] }, 3, _, _, none⟩) rfl (fun K hK => ?_) AllReadyH.nil
              go_simp
              ((with_reducible refine (radd_any _ _ _ hF1 hF2).mono ?_); rintro e v5 ⟨rfl, rfl⟩)
              refine hK.out _ _ hT0 (fun _ => ?_)
              clear hK K
              (try simp only [Act.put, List.setIfInBounds_toArray, List.set_cons_zero, List.set_cons_succ])
              refine wpAnyH_take (i := 10) (oi := ⟨some 63, Op.indexAddr 32 (Operand.tmp 53) (Operand.tmp 54), 0, _, _, none⟩) (v := ?vav010) rfl (by kernel_rfl) (by kernel_rfl) (by kernel_rfl) (fun _ _ _ h => h) (Or.inl ⟨by rfl, ?hav010⟩) hT0 ?rav010
              case hav010 => (intro wz hSw; go_simp <;> with_reducible rfl)
              (try simp only [Act.put, List.setIfInBounds_toArray, List.set_cons_zero, List.set_cons_succ])
              refine wpAnyH_take (i := 11) (oi := ⟨some 64, Op.fieldAddr 42 (Operand.tmp 63) 4, 0, _, _, none⟩) (v := ?vav011) rfl (by kernel_rfl) (by kernel_rfl) (by kernel_rfl) (fun _ _ _ h => h) (Or.inl ⟨by rfl, ?hav011⟩) hT0 ?rav011
              case hav011 => (intro wz hSw; go_simp <;> with_reducible rfl)
              (try simp only [Act.put, List.setIfInBounds_toArray, List.set_cons_zero, List.set_cons_succ])
              refine wpAnyH_ready (rs := [12]) (by kernel_rfl) (by simp) ?_
              refine AllReadyH.cons (o := ⟨none, Op.store 3 (Operand.tmp 64) (Operand.tmp 62), 0, _, _, none⟩) rfl (fun K hK => ?_) AllReadyH.nil
              have zc := HLd.out; have zf := HFz.out
              go_simp
              have hT1 : (x0.setCell ⟨mb, k * 6 + 4, none⟩ (.int .i64 (held (x.nxt + a.every)))).heap[p]? = some (oAu a) := (Below.heap_setCell x0 _ _ _ (by show p ≠ mb; exact HNe.out)).trans hT0
              refine hK.out _ _ hT1 (fun _ => ?_)
              clear hK K
              (try simp only [Act.put, List.setIfInBounds_toArray, List.set_cons_zero, List.set_cons_succ])
              refine wpAnyH_done (by kernel_rfl) ?_ _
              refine NoPanic.normal ?_
              clear hT1 hT0
              go_wp2
              go_roundg (l.length - (k + 1))
              case measure => omega
              case rel => exact ⟨k + 1, M.set k (tkA c.au now x), A3, c3, lm, by omega, rfl, by go_num, rfl, Lib.hid (by rw [HM.out]; exact tk_next HXl.out), Lib.hid (by rw [HLM.out, HD.out]; exact (td_yes HXl.out HP.out).symm), Lib.hid (by
                rw [HXe.out]
                exact HT7.out.poke rfl HMx.out (j := 4) (by decide) rfl)⟩
            · have hh2' : decide (x.nxt ≤ now) = false := by simpa using hh2
              have HP : Hid (tkP c.au now x = false) := Lib.hid (by rw [HKd.out, hh2']; simp)
              clear HKd
              go_wp2
              go_roundg (l.length - (k + 1))
              case measure => omega
              case rel => exact ⟨k + 1, M, A2, c2, D, by omega, rfl, by go_num, rfl, Lib.hid (by rw [HM.out]; exact tk_same HXl.out HP.out), Lib.hid (by rw [HD.out]; exact (td_no HXl.out HP.out).symm), Lib.hid (HTW.out.of HV3.out)⟩
          · have hh1' : decide (0 < a.every) = false := by simpa using hh1
            have HP : Hid (tkP c.au now x = false) := Lib.hid (by rw [HKd.out, hh1']; simp)
            clear HKd
            go_wp2
            go_roundg (l.length - (k + 1))
            case measure => omega
            case rel => exact ⟨k + 1, M, A2, c2, D, by omega, rfl, by go_num, rfl, Lib.hid (by rw [HM.out]; exact tk_same HXl.out HP.out), Lib.hid (by rw [HD.out]; exact (td_no HXl.out HP.out).symm), Lib.hid (HTW.out.of HV3.out)⟩
    · have hlt' : decide ((k : Int) < l.length) = false := by simp; omega
      have hkn : k = l.length := by omega
      subst hkn
      go_wp2
      go_ret2
      have e1 := HM.out; have e2 := HD.out
      rw [tk_all _ _ (Nat.le_refl _)] at e1
      subst e1; subst e2
      have hl9 : (l.map (tkA c.au now)).length = l.length := by simp
      exact ⟨A1, c1, A2, c2, ret_two hl9.symm rfl, Lib.hid (by rw [hl9]; exact HTW.out.base HX.out.size HX.out)⟩
end Go.Proofs.Ytijobbdgiaiocaa.Con
