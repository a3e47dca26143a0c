/-
  Contracts of the document's own Same, Expire and Sum.
-/
import Derived.Test.YtijobbdgiaiocaaDca
import Derived.Test.YtijobbdgiaiocaaPgc
import Derived.BigQuiet
import Derived.Deep.QuietTactic
import Derived.Deep.LoopGhost
namespace Go.Proofs.Ytijobbdgiaiocaa.Con
open Go.RowKit Go.Maps

set_option maxRecDepth 20000 in
set_option maxHeartbeats 2000000 in
theorem same_ac (B B' : Nat) (A A' : Option Addr) (n c c' : Nat) (p : List Ac) (w : World) (hn : p.length = n) (hr : RW ac w B A p) (hr' : RW ac w B' A' p) (hl : (n : Int) ≤ 1000000) :
    Calls Try.prog 13 #[.slice A n c, .slice A' n c'] w fun e w' => e = .returned (.bool true) ∧ ∃ q, w' = w.drewN q := by
  subst hn
  have HR := Lib.hid hr; have HR' := Lib.hid hr'
  clear hr hr'
  go_enter Try.func13, Try.ntmps13
  go_wp2
  go_loopg [5] p.length (fun gh s5 wr => ∃ k q : Nat, k ≤ p.length ∧ gh = p.length - k ∧ s5 = .int .i64 k ∧ wr = w.drewN q)
  case atStart => exact ⟨0, 0, by omega, rfl, rfl, rfl⟩
  case round =>
    obtain ⟨k, q, hk, rfl, rfl, rfl⟩ := hrel
    by_cases hlt : k < p.length
    · obtain ⟨x, hx⟩ : ∃ x, p[k]? = some x := ⟨_, List.getElem?_eq_getElem hlt⟩
      obtain ⟨b, off, rfl, _, hc⟩ := HR.out.at' hx
      obtain ⟨b', off', rfl, _, hc'⟩ := HR'.out.at' hx
      obtain ⟨c0, c1, c2, c3, c4, c5⟩ := cellsAc (o := off + k * 6) hc
      obtain ⟨d0, d1, d2, d3, d4, d5⟩ := cellsAc (o := off' + k * 6) hc'
      clear hx hc hc'
      have hlt' : (k : Int) < p.length := by omega
      have e0 : (0 : Int) ≤ k := by omega
      go_wp2
      go_quiet (fail)
      go_wp2
      go_roundg (p.length - (k + 1))
      case measure => omega
      case rel => exact ⟨k + 1, _, by omega, rfl, by go_num, rfl⟩
    · go_wp2
      go_ret
      exact ⟨rfl, q, rfl⟩
theorem same_acB (B B' : Nat) (A A' : Option Addr) (n c c' : Nat) (p : List Ac) (w : World) (hn : p.length = n) (hr : RW ac w B A p) (hr' : RW ac w B' A' p) (hl : (n : Int) ≤ 1000000) :
    Calls Try.prog 13 #[.slice A n c, .slice A' n c'] w fun e w' => e = .returned (.bool true) ∧ Below w.heap.size w w' :=
  (same_ac B B' A A' n c c' p w hn hr hr' hl).mono fun _ _ h => ⟨h.1, by obtain ⟨q, rfl⟩ := h.2; exact below_drewN (Below.refl _ _) q⟩

set_option maxRecDepth 20000 in
set_option maxHeartbeats 2000000 in
theorem rexpire_any {w : World} {B : Nat} {A : Option Addr} {l : List Ac} {n cp : Nat} (now : Int) (hn : l.length = n) (hl : (n : Int) ≤ 100000) (hr : RW ac w B A l) (hB : B ≤ w.heap.size) :
    Calls Try.prog 12 #[.slice A n cp, .int .i64 now] w (DuA w (goS (exP l now) l n) (goS (fun i => !exP l now i) l n)) := by
  subst hn
  have HR := Lib.hid hr; have HB := Lib.hid hB
  clear hr hB
  go_enter Try.func12, Try.ntmps12
  go_wp2
  go_loopg [6, 7, 8] l.length (fun gh s6 s7 s8 wr => ∃ (k : Nat) (A1 : Option Addr) (c1 : Nat) (L : List Ac) (A2 : Option Addr) (c2 : Nat) (G : List Ac), k ≤ l.length ∧ gh = l.length - k ∧ s8 = .int .i64 k ∧ s6 = .slice A1 L.length c1 ∧ s7 = .slice A2 G.length c2 ∧ Hid (L = goS (exP l now) l k) ∧ Hid (G = goS (fun i => !exP l now i) l k) ∧ Hid (Two ac ac w wr w.heap.size (.slice A1 L.length c1) (.slice A2 G.length c2) L G))
  case atStart => exact ⟨0, none, 0, [], none, 0, [], by omega, rfl, rfl, rfl, rfl, Lib.hid rfl, Lib.hid rfl, Lib.hid (Two.start ac ac (Below.refl _ _) (Nat.le_refl _))⟩
  case round =>
    obtain ⟨k, A1, c1, L, A2, c2, G, hk, rfl, rfl, rfl, rfl, HL, HG, HTW⟩ := hrel
    by_cases hlt : k < l.length
    · obtain ⟨x, hx⟩ : ∃ x, l[k]? = some x := ⟨_, List.getElem?_eq_getElem hlt⟩
      obtain ⟨b, off, hAA, hpl, d0, d1, d2, d3, d4, d5⟩ := rowAc HR.out hx HTW.out.below HB.out
      subst hAA
      have hlt' : (k : Int) < l.length := by omega
      have HXk := Lib.hid hx
      have hLb : L.length ≤ k := by rw [HL.out]; exact go_le _ _ _
      have hGb : G.length ≤ k := by rw [HG.out]; exact go_le _ _ _
      have HL1 : Hid (L.length + [x].length ≤ 1000000) := Lib.hid (by simp; omega)
      have HL2 : Hid (G.length + [x].length ≤ 1000000) := Lib.hid (by simp; omega)
      have HT3 := Lib.hid (HTW.out.of (below_box wr (oAc x)))
      have HRW : Hid (RW ac (wr.alloc (oAc x)) (wr.heap.size + 1) (some ⟨wr.heap.size, 0, none⟩) [x]) := Lib.hid (rw_at ac _ _ _ _ _ rfl rfl rfl)
      have hpx : exP l now k = decide (now < x.untl) := ex_at hx now
      clear hx hLb hGb
      by_cases hu : now < x.untl
      · have HY : Hid (exP l now k = true) := Lib.hid (by rw [hpx]; simpa using hu)
        clear hpx
        go_wp2_with (at_builtin; refine wpList_app ac rfl 32 rfl (.tmp 22) (.tmp 27) rfl w.heap.size (wr.heap.size + 1) (.slice A1 L.length c1) L [x] (some ⟨wr.heap.size, 0, none⟩) 1 1 rfl rfl rfl HT3.out.a HRW.out HL1.out HT3.out.top ?_; intro A3 c3 w3 lm HLM HO3 HS3 HB3)
        go_roundg (l.length - (k + 1))
        case measure => omega
        case rel => exact ⟨k + 1, A3, c3, lm, A2, c2, G, by omega, rfl, by go_num, rfl, rfl, Lib.hid (by rw [HLM.out, HL.out, go_yes HXk.out HY.out]), Lib.hid (by rw [HG.out, go_no (by simp [HY.out])]), Lib.hid (HT3.out.put1 HS3.out HO3.out HB3.out)⟩
      · have hu' : decide (now < x.untl) = false := by simpa using hu
        have HY : Hid (exP l now k = false) := Lib.hid (by rw [hpx]; exact hu')
        clear hpx
        go_wp2_with (at_builtin; refine wpList_app ac rfl 32 rfl (.tmp 29) (.tmp 34) rfl w.heap.size (wr.heap.size + 1) (.slice A2 G.length c2) G [x] (some ⟨wr.heap.size, 0, none⟩) 1 1 rfl rfl rfl HT3.out.b HRW.out HL2.out HT3.out.top ?_; intro A3 c3 w3 lm HLM HO3 HS3 HB3)
        go_roundg (l.length - (k + 1))
        case measure => omega
        case rel => exact ⟨k + 1, A1, c1, L, A3, c3, lm, by omega, rfl, by go_num, rfl, rfl, Lib.hid (by rw [HL.out, go_no HY.out]), Lib.hid (by rw [HLM.out, HG.out, go_yes HXk.out (by simp [HY.out])]), Lib.hid (HT3.out.put2 HS3.out HO3.out HB3.out)⟩
    · have hlt' : decide ((k : Int) < l.length) = false := by simp; omega
      have hkn : k = l.length := by omega
      subst hkn
      go_wp2
      go_ret2
      have e1 := HL.out; have e2 := HG.out
      subst e1; subst e2
      exact ⟨A1, c1, A2, c2, rfl, HTW⟩

set_option maxRecDepth 20000 in
set_option maxHeartbeats 2000000 in
theorem rsum_any {w : World} {B : Nat} {c : Cn} {A : Option Addr} {l : List Ac} {n cp : Nat} (kind : Int) (hA : RuC c w) (hau : ∀ a ∈ c.au, NAu a) (hac : ∀ a ∈ l, NAc a) (hn : l.length = n) (hl : (n : Int) ≤ 1000000) (hr : RW ac w B A l) (hB : B ≤ w.heap.size) :
    Calls Try.prog 23 #[cnv c, .slice A n cp, .int .i64 kind] w fun e w' => e = .returned (.int .i64 (suL c.au kind l)) ∧ Below w.heap.size w w' := by
  subst hn
  have hb := below_box w (oCn c)
  have HX := Lib.hid hb; have HA := Lib.hid (hA.of hb); have HN := Lib.hid (heap_alloc_new w (oCn c)); have HR := Lib.hid (hr.below hb hB)
  have HB := Lib.hid (Nat.le_trans hB hb.size); have HLT : Hid (w.heap.size < (w.alloc (oCn c)).heap.size) := Lib.hid (by simp)
  have HAU := Lib.hid hau; have HAC := Lib.hid hac
  clear hA hr hB hb hau hac
  go_enter Try.func23, Try.ntmps23
  go_wp2
  generalize w.alloc (oCn c) = V at *
  go_loopg [7, 8] l.length (fun gh s7 s8 wr => ∃ (k : Nat) (m : Int), k ≤ l.length ∧ gh = l.length - k ∧ s8 = .int .i64 k ∧ s7 = .int .i64 m ∧ Hid (m = suL c.au kind (l.take k)) ∧ Hid (Below V.heap.size V wr))
  case atStart => exact ⟨0, 0, by omega, rfl, rfl, rfl, Lib.hid rfl, Lib.hid (Below.refl _ _)⟩
  case round =>
    obtain ⟨k, m, hk, rfl, rfl, rfl, HM, HW⟩ := hrel
    by_cases hlt : k < l.length
    · skip
      obtain ⟨x, hx⟩ : ∃ x, l[k]? = some x := ⟨_, List.getElem?_eq_getElem hlt⟩
      obtain ⟨b, off, hAA, hpl, d0, d1, d2, d3, d4, d5⟩ := rowAc HR.out hx HW.out HB.out
      subst hAA
      have hlt' : (k : Int) < l.length := by omega
      have HXk := Lib.hid hx
      have HCB : Hid (wr.heap[w.heap.size]? = some (oCn c)) := Lib.hid (hkeep1 HW.out HLT.out HN.out)
      have HBb : Hid (b < wr.heap.size) := Lib.hid (by have := HW.out.size; have := HB.out; omega)
      have HZa : Hid (∀ wz, Below wr.heap.size wr wz → wz.cell? ⟨b, off + k * 6, none⟩ = some (.int .i64 x.aura) ∧ wz.cell? ⟨b, off + k * 6 + 1, none⟩ = some (.int .i64 x.source) ∧ wz.cell? ⟨b, off + k * 6 + 2, none⟩ = some (.int .i64 x.stacks) ∧ wz.cell? ⟨b, off + k * 6 + 3, none⟩ = some (.int .i64 x.untl) ∧ wz.cell? ⟨b, off + k * 6 + 4, none⟩ = some (.int .i64 x.nxt) ∧ wz.cell? ⟨b, off + k * 6 + 5, none⟩ = some (.int .i64 x.left)) := Lib.hid (fun wz hz => ⟨(hz.cell (p := ⟨b, off + k * 6, none⟩) HBb.out).trans d0, (hz.cell (p := ⟨b, off + k * 6 + 1, none⟩) HBb.out).trans d1, (hz.cell (p := ⟨b, off + k * 6 + 2, none⟩) HBb.out).trans d2, (hz.cell (p := ⟨b, off + k * 6 + 3, none⟩) HBb.out).trans d3, (hz.cell (p := ⟨b, off + k * 6 + 4, none⟩) HBb.out).trans d4, (hz.cell (p := ⟨b, off + k * 6 + 5, none⟩) HBb.out).trans d5⟩)
      have HZ : Hid (∀ wz, Below wr.heap.size wr wz → wz.cell? ⟨b, off + k * 6, none⟩ = some (.int .i64 x.aura)) := Lib.hid (fun wz hz => (HZa.out wz hz).1)
      have HC := Lib.hid (fun U (hU : Below wr.heap.size wr U) => HA.out U (HW.out.trans (hU.mono HW.out.size)) x.aura)
      obtain ⟨a, ha⟩ : ∃ a, lkA c.au x.aura = a := ⟨_, rfl⟩
      obtain ⟨u, hu⟩ : ∃ u, lkB c.au x.aura = u := ⟨_, rfl⟩
      rw [ha, hu] at HC
      have HAE := Lib.hid ha; have HUE := Lib.hid hu
      have HNx := Lib.hid (HAC.out x (List.mem_of_getElem? hx))
      have HNa := Lib.hid (lk_nau HAU.out x.aura)
      rw [ha] at HNa
      have HKd : Hid (kdP c.au kind x = (u && decide (a.kind = kind))) := Lib.hid (by unfold kdP; rw [ha, hu])
      clear hx ha hu d0 d1 d2 d3 d4 d5 hpl
      go_wp2
      refine wp_region_noPanic ?_
      refine wp_region_held_drew (S := fun w' => Below wr.heap.size wr w') (by kernel_rfl) ((Below.refl _ _).drew) (fun hS0 => ?_)
      generalize wr.drew = v0 at hS0 ⊢
      refine wpAnyH_take (i := 0) (oi := ⟨some 18, Op.load 31 (Operand.tmp 3), 31, _, _, none⟩) (v := ?va0) rfl (by kernel_rfl) (by kernel_rfl) (by kernel_rfl) (fun _ _ _ h => h) (Or.inl ⟨by rfl, ?ha0⟩) hS0 ?ra0
      case ha0 => (intro wz hSw; have u9 := cellOf1 (hkeep1 hSw (lt_blk1 HCB.out) HCB.out); go_simp <;> with_reducible rfl)
      (try simp only [Act.put, List.setIfInBounds_toArray, List.set_cons_zero, List.set_cons_succ])
      refine wpAnyH_take (i := 1) (oi := ⟨some 19, Op.move (Operand.tmp 1), 32, _, _, none⟩) (v := ?va1) rfl (by kernel_rfl) (by kernel_rfl) (by kernel_rfl) (fun _ _ _ h => h) (Or.inl ⟨by rfl, ?ha1⟩) hS0 ?ra1
      case ha1 => (intro wz hSw; go_simp <;> with_reducible rfl)
      (try simp only [Act.put, List.setIfInBounds_toArray, List.set_cons_zero, List.set_cons_succ])
      refine wpAnyH_take (i := 2) (oi := ⟨some 20, Op.move (Operand.tmp 8), 3, _, _, none⟩) (v := ?va2) rfl (by kernel_rfl) (by kernel_rfl) (by kernel_rfl) (fun _ _ _ h => h) (Or.inl ⟨by rfl, ?ha2⟩) hS0 ?ra2
      case ha2 => (intro wz hSw; go_simp <;> with_reducible rfl)
      (try simp only [Act.put, List.setIfInBounds_toArray, List.set_cons_zero, List.set_cons_succ])
      refine wpAnyH_take (i := 3) (oi := ⟨some 21, Op.indexAddr 32 (Operand.tmp 19) (Operand.tmp 20), 0, _, _, none⟩) (v := ?va3) rfl (by kernel_rfl) (by kernel_rfl) (by kernel_rfl) (fun _ _ _ h => h) (Or.inl ⟨by rfl, ?ha3⟩) hS0 ?ra3
      case ha3 => (intro wz hSw; go_simp <;> with_reducible rfl)
      (try simp only [Act.put, List.setIfInBounds_toArray, List.set_cons_zero, List.set_cons_succ])
      refine wpAnyH_take (i := 4) (oi := ⟨some 22, Op.fieldAddr 42 (Operand.tmp 21) 0, 0, _, _, none⟩) (v := ?va4) rfl (by kernel_rfl) (by kernel_rfl) (by kernel_rfl) (fun _ _ _ h => h) (Or.inl ⟨by rfl, ?ha4⟩) hS0 ?ra4
      case ha4 => (intro wz hSw; go_simp <;> with_reducible rfl)
      (try simp only [Act.put, List.setIfInBounds_toArray, List.set_cons_zero, List.set_cons_succ])
      refine wpAnyH_take (i := 5) (oi := ⟨some 23, Op.load 3 (Operand.tmp 22), 3, _, _, none⟩) (v := ?va5) rfl (by kernel_rfl) (by kernel_rfl) (by kernel_rfl) (fun _ _ _ h => h) (Or.inl ⟨by rfl, ?ha5⟩) hS0 ?ra5
      case ha5 => (intro wz hSw; have u8 := HZ.out wz hSw; go_simp <;> with_reducible rfl)
      (try simp only [Act.put, List.setIfInBounds_toArray, List.set_cons_zero, List.set_cons_succ])
      refine wpAnyH_ready (rs := [6, 10]) (by kernel_rfl) (by simp) ?_
      refine AllReadyH.cons (o := ⟨some 24, Op.call { callee := Callee.value (Operand.func 33), args := #[Operand.tmp 18, Operand.tmp 23], argTypes := #[31, 3] }, 55, _, _, none⟩) rfl (fun K hK => ?_) (AllReadyH.cons (o := ⟨some 9, Op.alloc 54, 0, _, _, none⟩) rfl (fun K hK => ?_) AllReadyH.nil)
      · go_simp
        ((with_reducible refine (HC.out v0 hS0).mono ?_); rintro e v1 ⟨rfl, hBv⟩; have hS1 : Below wr.heap.size wr v1 := hS0.trans (hBv.mono hS0.size))
        refine hK.out _ _ hS1 (fun _ => ?_)
        clear hK K
        (try simp only [Act.put, List.setIfInBounds_toArray, List.set_cons_zero, List.set_cons_succ])
        refine wpAnyH_take (i := 7) (oi := ⟨some 17, Op.move (Operand.tmp 24), 55, _, _, none⟩) (v := ?vab67) rfl (by kernel_rfl) (by kernel_rfl) (by kernel_rfl) (fun _ _ _ h => h) (Or.inl ⟨by rfl, ?hab67⟩) hS1 ?rab67
        case hab67 => (intro wz hSw; go_simp <;> with_reducible rfl)
        (try simp only [Act.put, List.setIfInBounds_toArray, List.set_cons_zero, List.set_cons_succ])
        refine wpAnyH_take (i := 8) (oi := ⟨some 25, Op.extract (Operand.tmp 17) 0, 54, _, _, none⟩) (v := ?vab68) rfl (by kernel_rfl) (by kernel_rfl) (by kernel_rfl) (fun _ _ _ h => h) (Or.inl ⟨by rfl, ?hab68⟩) hS1 ?rab68
        case hab68 => (intro wz hSw; go_simp <;> with_reducible rfl)
        (try simp only [Act.put, List.setIfInBounds_toArray, List.set_cons_zero, List.set_cons_succ])
        refine wpAnyH_take (i := 9) (oi := ⟨some 26, Op.extract (Operand.tmp 17) 1, 4, _, _, none⟩) (v := ?vab69) rfl (by kernel_rfl) (by kernel_rfl) (by kernel_rfl) (fun _ _ _ h => h) (Or.inl ⟨by rfl, ?hab69⟩) hS1 ?rab69
        case hab69 => (intro wz hSw; go_simp <;> with_reducible rfl)
        (try simp only [Act.put, List.setIfInBounds_toArray, List.set_cons_zero, List.set_cons_succ])
        refine wpAnyH_ready (rs := [10]) (by kernel_rfl) (by simp) ?_
        refine AllReadyH.cons (o := ⟨some 9, Op.alloc 54, 0, _, _, none⟩) rfl (fun K hK => ?_) AllReadyH.nil
        go_simp
        have HP1 : Hid ((v1.alloc zcAu).heap[v1.heap.size]? = some zcAu) := Lib.hid (heap_alloc_new v1 zcAu); have hS2 : Below wr.heap.size wr (v1.alloc zcAu) := hS1.alloc hS1.size _
        refine hK.out _ _ hS2 (fun _ => ?_)
        clear hK K
        (try simp only [Act.put, List.setIfInBounds_toArray, List.set_cons_zero, List.set_cons_succ])
        refine wpAnyH_ready (rs := [11]) (by kernel_rfl) (by simp) ?_
        refine AllReadyH.cons (o := ⟨none, Op.store 54 (Operand.tmp 9) (Operand.tmp 25), 0, _, _, none⟩) rfl (fun K hK => ?_) AllReadyH.nil
        have z1 := cellOf1 HP1.out; have y1 := frozOf1 HP1.out; have l1 := lt_blk1 HP1.out
        go_simp
        have hS4 : Below wr.heap.size wr (v1.alloc (oAu a)) := hS1.alloc hS1.size _; have HP4 : Hid ((v1.alloc (oAu a)).heap[v1.heap.size]? = some (oAu a)) := Lib.hid (heap_alloc_new v1 (oAu a))
        refine hK.out _ _ hS4 (fun _ => ?_)
        clear hK K
        (try simp only [Act.put, List.setIfInBounds_toArray, List.set_cons_zero, List.set_cons_succ])
        refine wpAnyH_take (i := 12) (oi := ⟨some 10, Op.assign (Operand.tmp 26), 4, _, _, none⟩) (v := ?vab612) rfl (by kernel_rfl) (by kernel_rfl) (by kernel_rfl) (fun _ _ _ h => h) (Or.inl ⟨by rfl, ?hab612⟩) hS4 ?rab612
        case hab612 => (intro wz hSw; go_simp <;> with_reducible rfl)
        (try simp only [Act.put, List.setIfInBounds_toArray, List.set_cons_zero, List.set_cons_succ])
        refine wpAnyH_done (by kernel_rfl) ?_ _
        refine NoPanic.normal ?_
        have hp4 : wr.heap.size ≤ v1.heap.size := hS1.size
        have HV3 := Lib.hid hS4
        clear hS4 hBv
        generalize (v1.alloc (oAu a)) = v3 at HP4 HV3 ⊢
        generalize v1.heap.size = p at HP4 hp4 ⊢
        have hpl := lt_blk1 HP4.out
        clear hS0 hS1
        have q9 := cellOf1 HP4.out
        cases u with
        | false =>
          have HKy : Hid (kdP c.au kind x = false) := Lib.hid (by rw [HKd.out]; rfl)
          clear HKd
          go_wp2
          go_roundg (l.length - (k + 1))
          case measure => omega
          case rel => exact ⟨k + 1, m, by omega, rfl, by go_num, rfl, Lib.hid (by rw [su_no HXk.out HKy.out]; exact HM.out), Lib.hid (HW.out.trans (HV3.out.mono HW.out.size))⟩
        | true =>
          by_cases hk9 : a.kind = kind
          · have hk9' : (a.kind == kind) = true := by simpa using hk9
            have HKy : Hid (kdP c.au kind x = true) := Lib.hid (by rw [HKd.out]; simpa using hk9)
            clear HKd hk9
            have HE := Lib.hid (su_yes HXk.out HKy.out)
            rw [← HM.out, HAE.out] at HE
            have hFm : Fits m := by rw [HM.out]; exact su_fits _ _ _
            have hFa := HNa.out.2.2.2
            have hFs := HNx.out.1
            have hFh := held_fits (a.amount * x.stacks)
            clear HM
            go_wp2
            refine wp_region_noPanic ?_
            refine wp_region_held_drew (S := fun w' => Below v3.heap.size v3 w') (by kernel_rfl) ((Below.refl _ _).drew) (fun hT0 => ?_)
            generalize v3.drew = x0 at hT0 ⊢
            refine wpAnyH_take (i := 0) (oi := ⟨some 34, Op.move (Operand.tmp 7), 3, _, _, none⟩) (v := ?vav10) rfl (by kernel_rfl) (by kernel_rfl) (by kernel_rfl) (fun _ _ _ h => h) (Or.inl ⟨by rfl, ?hav10⟩) hT0 ?rav10
            case hav10 => (intro wz hSw; go_simp <;> with_reducible rfl)
            (try simp only [Act.put, List.setIfInBounds_toArray, List.set_cons_zero, List.set_cons_succ])
            refine wpAnyH_take (i := 1) (oi := ⟨some 35, Op.fieldAddr 54 (Operand.tmp 9) 5, 0, _, _, none⟩) (v := ?vav11) rfl (by kernel_rfl) (by kernel_rfl) (by kernel_rfl) (fun _ _ _ h => h) (Or.inl ⟨by rfl, ?hav11⟩) hT0 ?rav11
            case hav11 => (intro wz hSw; go_simp <;> with_reducible rfl)
            (try simp only [Act.put, List.setIfInBounds_toArray, List.set_cons_zero, List.set_cons_succ])
            refine wpAnyH_take (i := 2) (oi := ⟨some 36, Op.load 3 (Operand.tmp 35), 3, _, _, none⟩) (v := ?vav12) rfl (by kernel_rfl) (by kernel_rfl) (by kernel_rfl) (fun _ _ _ h => h) (Or.inl ⟨by rfl, ?hav12⟩) hT0 ?rav12
            case hav12 => (intro wz hSw; have u9 := cellOf1 (hkeep1 hSw (lt_blk1 HP4.out) HP4.out); have u8 := (HZa.out wz (HV3.out.trans (Below.mono hSw HV3.out.size))).2.2.1; go_simp <;> with_reducible rfl)
            (try simp only [Act.put, List.setIfInBounds_toArray, List.set_cons_zero, List.set_cons_succ])
            refine wpAnyH_take (i := 3) (oi := ⟨some 37, Op.move (Operand.tmp 1), 32, _, _, none⟩) (v := ?vav13) rfl (by kernel_rfl) (by kernel_rfl) (by kernel_rfl) (fun _ _ _ h => h) (Or.inl ⟨by rfl, ?hav13⟩) hT0 ?rav13
            case hav13 => (intro wz hSw; go_simp <;> with_reducible rfl)
            (try simp only [Act.put, List.setIfInBounds_toArray, List.set_cons_zero, List.set_cons_succ])
            refine wpAnyH_take (i := 4) (oi := ⟨some 38, Op.move (Operand.tmp 8), 3, _, _, none⟩) (v := ?vav14) rfl (by kernel_rfl) (by kernel_rfl) (by kernel_rfl) (fun _ _ _ h => h) (Or.inl ⟨by rfl, ?hav14⟩) hT0 ?rav14
            case hav14 => (intro wz hSw; go_simp <;> with_reducible rfl)
            (try simp only [Act.put, List.setIfInBounds_toArray, List.set_cons_zero, List.set_cons_succ])
            refine wpAnyH_take (i := 5) (oi := ⟨some 39, Op.indexAddr 32 (Operand.tmp 37) (Operand.tmp 38), 0, _, _, none⟩) (v := ?vav15) rfl (by kernel_rfl) (by kernel_rfl) (by kernel_rfl) (fun _ _ _ h => h) (Or.inl ⟨by rfl, ?hav15⟩) hT0 ?rav15
            case hav15 => (intro wz hSw; go_simp <;> with_reducible rfl)
            (try simp only [Act.put, List.setIfInBounds_toArray, List.set_cons_zero, List.set_cons_succ])
            refine wpAnyH_take (i := 6) (oi := ⟨some 40, Op.fieldAddr 42 (Operand.tmp 39) 2, 0, _, _, none⟩) (v := ?vav16) rfl (by kernel_rfl) (by kernel_rfl) (by kernel_rfl) (fun _ _ _ h => h) (Or.inl ⟨by rfl, ?hav16⟩) hT0 ?rav16
            case hav16 => (intro wz hSw; go_simp <;> with_reducible rfl)
            (try simp only [Act.put, List.setIfInBounds_toArray, List.set_cons_zero, List.set_cons_succ])
            refine wpAnyH_take (i := 7) (oi := ⟨some 41, Op.load 3 (Operand.tmp 40), 3, _, _, none⟩) (v := ?vav17) rfl (by kernel_rfl) (by kernel_rfl) (by kernel_rfl) (fun _ _ _ h => h) (Or.inl ⟨by rfl, ?hav17⟩) hT0 ?rav17
            case hav17 => (intro wz hSw; have u9 := cellOf1 (hkeep1 hSw (lt_blk1 HP4.out) HP4.out); have u8 := (HZa.out wz (HV3.out.trans (Below.mono hSw HV3.out.size))).2.2.1; go_simp <;> with_reducible rfl)
            (try simp only [Act.put, List.setIfInBounds_toArray, List.set_cons_zero, List.set_cons_succ])
            refine wpAnyH_ready (rs := [8]) (by kernel_rfl) (by simp) ?_
            refine AllReadyH.cons (o := ⟨some 42, Op.call { callee := Callee.value (Operand.func 48), args := #[Operand.tmp 36, Operand.tmp 41], argTypes := #[3, 3] }, 3, _, _, none⟩) rfl (fun K hK => ?_) AllReadyH.nil
            go_simp
            ((with_reducible refine (rmul_any _ _ _ hFa hFs).mono ?_); rintro e v4 ⟨rfl, hB4⟩; have hT4 : Below v3.heap.size v3 v4 := hT0.trans (Below.mono hB4 hT0.size))
            refine hK.out _ _ hT4 (fun _ => ?_)
            clear hK K
            (try simp only [Act.put, List.setIfInBounds_toArray, List.set_cons_zero, List.set_cons_succ])
            refine wpAnyH_ready (rs := [9]) (by kernel_rfl) (by simp) ?_
            refine AllReadyH.cons (o := ⟨some 43, Op.call { callee := Callee.value (Operand.func 35), args := #[Operand.tmp 34, Operand.tmp 42], argTypes := #[3, 3] }, 3, _, _, none⟩) rfl (fun K hK => ?_) AllReadyH.nil
            go_simp
            ((with_reducible refine (radd_any _ _ _ hFm hFh).mono ?_); rintro e v5 ⟨rfl, rfl⟩)
            refine hK.out _ _ hT4 (fun _ => ?_)
            clear hK K
            (try simp only [Act.put, List.setIfInBounds_toArray, List.set_cons_zero, List.set_cons_succ])
            refine wpAnyH_take (i := 10) (oi := ⟨some 7, Op.assign (Operand.tmp 43), 3, _, _, none⟩) (v := ?vav110) rfl (by kernel_rfl) (by kernel_rfl) (by kernel_rfl) (fun _ _ _ h => h) (Or.inl ⟨by rfl, ?hav110⟩) hT4 ?rav110
            case hav110 => (intro wz hSw; go_simp <;> with_reducible rfl)
            (try simp only [Act.put, List.setIfInBounds_toArray, List.set_cons_zero, List.set_cons_succ])
            refine wpAnyH_done (by kernel_rfl) ?_ _
            refine NoPanic.normal ?_
            have HT4 := Lib.hid hT4
            clear hT4 hT0 hB4
            go_wp2
            go_roundg (l.length - (k + 1))
            case measure => omega
            case rel => exact ⟨k + 1, _, by omega, rfl, by go_num, rfl, Lib.hid HE.out.symm, Lib.hid (HW.out.trans ((HV3.out.trans (HT4.out.mono HV3.out.size)).mono HW.out.size))⟩
          · have hk9' : (a.kind == kind) = false := by simpa using hk9
            have HKy : Hid (kdP c.au kind x = false) := Lib.hid (by rw [HKd.out]; simpa using hk9)
            clear HKd hk9
            go_wp2
            go_roundg (l.length - (k + 1))
            case measure => omega
            case rel => exact ⟨k + 1, m, by omega, rfl, by go_num, rfl, Lib.hid (by rw [su_no HXk.out HKy.out]; exact HM.out), Lib.hid (HW.out.trans (HV3.out.mono HW.out.size))⟩
      · go_simp
        have hSa : Below wr.heap.size wr (v0.alloc zcAu) := hS0.alloc hS0.size _
        refine hK.out _ _ hSa (fun _ => ?_)
        clear hK K
        (try simp only [Act.put, List.setIfInBounds_toArray, List.set_cons_zero, List.set_cons_succ])
        refine wpAnyH_ready (rs := [6]) (by kernel_rfl) (by simp) ?_
        refine AllReadyH.cons (o := ⟨some 24, Op.call { callee := Callee.value (Operand.func 33), args := #[Operand.tmp 18, Operand.tmp 23], argTypes := #[31, 3] }, 55, _, _, none⟩) rfl (fun K hK => ?_) AllReadyH.nil
        go_simp
        ((with_reducible refine (HC.out _ hSa).mono ?_); rintro e v1 ⟨rfl, hBv⟩; have hS1 : Below wr.heap.size wr v1 := hSa.trans (hBv.mono hSa.size); have HP1 : Hid (v1.heap[v0.heap.size]? = some zcAu) := Lib.hid (hkeep1 hBv (by simp) (heap_alloc_new v0 zcAu)))
        refine hK.out _ _ hS1 (fun _ => ?_)
        clear hK K
        (try simp only [Act.put, List.setIfInBounds_toArray, List.set_cons_zero, List.set_cons_succ])
        refine wpAnyH_take (i := 7) (oi := ⟨some 17, Op.move (Operand.tmp 24), 55, _, _, none⟩) (v := ?vab107) rfl (by kernel_rfl) (by kernel_rfl) (by kernel_rfl) (fun _ _ _ h => h) (Or.inl ⟨by rfl, ?hab107⟩) hS1 ?rab107
        case hab107 => (intro wz hSw; go_simp <;> with_reducible rfl)
        (try simp only [Act.put, List.setIfInBounds_toArray, List.set_cons_zero, List.set_cons_succ])
        refine wpAnyH_take (i := 8) (oi := ⟨some 25, Op.extract (Operand.tmp 17) 0, 54, _, _, none⟩) (v := ?vab108) rfl (by kernel_rfl) (by kernel_rfl) (by kernel_rfl) (fun _ _ _ h => h) (Or.inl ⟨by rfl, ?hab108⟩) hS1 ?rab108
        case hab108 => (intro wz hSw; go_simp <;> with_reducible rfl)
        (try simp only [Act.put, List.setIfInBounds_toArray, List.set_cons_zero, List.set_cons_succ])
        refine wpAnyH_take (i := 9) (oi := ⟨some 26, Op.extract (Operand.tmp 17) 1, 4, _, _, none⟩) (v := ?vab109) rfl (by kernel_rfl) (by kernel_rfl) (by kernel_rfl) (fun _ _ _ h => h) (Or.inl ⟨by rfl, ?hab109⟩) hS1 ?rab109
        case hab109 => (intro wz hSw; go_simp <;> with_reducible rfl)
        (try simp only [Act.put, List.setIfInBounds_toArray, List.set_cons_zero, List.set_cons_succ])
        refine wpAnyH_ready (rs := [11]) (by kernel_rfl) (by simp) ?_
        refine AllReadyH.cons (o := ⟨none, Op.store 54 (Operand.tmp 9) (Operand.tmp 25), 0, _, _, none⟩) rfl (fun K hK => ?_) AllReadyH.nil
        have z1 := cellOf1 HP1.out; have y1 := frozOf1 HP1.out; have l1 := lt_blk1 HP1.out
        go_simp
        have hS4 : Below wr.heap.size wr (((((((v1.setCell ⟨v0.heap.size, 0, none⟩ (.int .i64 a.id)).setCell ⟨v0.heap.size, 1, none⟩ (.int .i64 a.kind)).setCell ⟨v0.heap.size, 2, none⟩ (.int .i64 a.ticks)).setCell ⟨v0.heap.size, 3, none⟩ (.int .i64 a.every)).setCell ⟨v0.heap.size, 4, none⟩ (.int .i64 a.stacks)).setCell ⟨v0.heap.size, 5, none⟩ (.int .i64 a.amount)).setCell ⟨v0.heap.size, 6, none⟩ (.bool a.harm)) := below_setCells v0.heap.size hS0.size [.int .i64 a.id, .int .i64 a.kind, .int .i64 a.ticks, .int .i64 a.every, .int .i64 a.stacks, .int .i64 a.amount, .bool a.harm] 0 _ hS1; have HP4 : Hid ((((((((v1.setCell ⟨v0.heap.size, 0, none⟩ (.int .i64 a.id)).setCell ⟨v0.heap.size, 1, none⟩ (.int .i64 a.kind)).setCell ⟨v0.heap.size, 2, none⟩ (.int .i64 a.ticks)).setCell ⟨v0.heap.size, 3, none⟩ (.int .i64 a.every)).setCell ⟨v0.heap.size, 4, none⟩ (.int .i64 a.stacks)).setCell ⟨v0.heap.size, 5, none⟩ (.int .i64 a.amount)).setCell ⟨v0.heap.size, 6, none⟩ (.bool a.harm)).heap[v0.heap.size]? = some (oAu a)) := Lib.hid (put7 HP1.out _ _ _ _ _ _ _)
        refine hK.out _ _ hS4 (fun _ => ?_)
        clear hK K
        (try simp only [Act.put, List.setIfInBounds_toArray, List.set_cons_zero, List.set_cons_succ])
        refine wpAnyH_take (i := 12) (oi := ⟨some 10, Op.assign (Operand.tmp 26), 4, _, _, none⟩) (v := ?vab1012) rfl (by kernel_rfl) (by kernel_rfl) (by kernel_rfl) (fun _ _ _ h => h) (Or.inl ⟨by rfl, ?hab1012⟩) hS4 ?rab1012
        case hab1012 => (intro wz hSw; go_simp <;> with_reducible rfl)
        (try simp only [Act.put, List.setIfInBounds_toArray, List.set_cons_zero, List.set_cons_succ])
        refine wpAnyH_done (by kernel_rfl) ?_ _
        refine NoPanic.normal ?_
        have hp4 : wr.heap.size ≤ v0.heap.size := hS0.size
        have HV3 := Lib.hid hS4
        clear hS4 hBv
        generalize (((((((v1.setCell ⟨v0.heap.size, 0, none⟩ (.int .i64 a.id)).setCell ⟨v0.heap.size, 1, none⟩ (.int .i64 a.kind)).setCell ⟨v0.heap.size, 2, none⟩ (.int .i64 a.ticks)).setCell ⟨v0.heap.size, 3, none⟩ (.int .i64 a.every)).setCell ⟨v0.heap.size, 4, none⟩ (.int .i64 a.stacks)).setCell ⟨v0.heap.size, 5, none⟩ (.int .i64 a.amount)).setCell ⟨v0.heap.size, 6, none⟩ (.bool a.harm)) = v3 at HP4 HV3 ⊢
        generalize v0.heap.size = p at HP4 hp4 ⊢
        have hpl := lt_blk1 HP4.out
        clear hS0 hS1
        have q9 := cellOf1 HP4.out
        cases u with
        | false =>
          have HKy : Hid (kdP c.au kind x = false) := Lib.hid (by rw [HKd.out]; rfl)
          clear HKd
          go_wp2
          go_roundg (l.length - (k + 1))
          case measure => omega
          case rel => exact ⟨k + 1, m, by omega, rfl, by go_num, rfl, Lib.hid (by rw [su_no HXk.out HKy.out]; exact HM.out), Lib.hid (HW.out.trans (HV3.out.mono HW.out.size))⟩
        | true =>
          by_cases hk9 : a.kind = kind
          · have hk9' : (a.kind == kind) = true := by simpa using hk9
            have HKy : Hid (kdP c.au kind x = true) := Lib.hid (by rw [HKd.out]; simpa using hk9)
            clear HKd hk9
            have HE := Lib.hid (su_yes HXk.out HKy.out)
            rw [← HM.out, HAE.out] at HE
            have hFm : Fits m := by rw [HM.out]; exact su_fits _ _ _
            have hFa := HNa.out.2.2.2
            have hFs := HNx.out.1
            have hFh := held_fits (a.amount * x.stacks)
            clear HM
            go_wp2
            refine wp_region_noPanic ?_
            refine wp_region_held_drew (S := fun w' => Below v3.heap.size v3 w') (by kernel_rfl) ((Below.refl _ _).drew) (fun hT0 => ?_)
            generalize v3.drew = x0 at hT0 ⊢
            refine wpAnyH_take (i := 0) (oi := ⟨some 34, Op.move (Operand.tmp 7), 3, _, _, none⟩) (v := ?vav00) rfl (by kernel_rfl) (by kernel_rfl) (by kernel_rfl) (fun _ _ _ h => h) (Or.inl ⟨by rfl, ?hav00⟩) hT0 ?rav00
            case hav00 => (intro wz hSw; go_simp <;> with_reducible rfl)
            (try simp only [Act.put, List.setIfInBounds_toArray, List.set_cons_zero, List.set_cons_succ])
            refine wpAnyH_take (i := 1) (oi := ⟨some 35, Op.fieldAddr 54 (Operand.tmp 9) 5, 0, _, _, none⟩) (v := ?vav01) rfl (by kernel_rfl) (by kernel_rfl) (by kernel_rfl) (fun _ _ _ h => h) (Or.inl ⟨by rfl, ?hav01⟩) hT0 ?rav01
            case hav01 => (intro wz hSw; go_simp <;> with_reducible rfl)
            (try simp only [Act.put, List.setIfInBounds_toArray, List.set_cons_zero, List.set_cons_succ])
            refine wpAnyH_take (i := 2) (oi := ⟨some 36, Op.load 3 (Operand.tmp 35), 3, _, _, none⟩) (v := ?vav02) rfl (by kernel_rfl) (by kernel_rfl) (by kernel_rfl) (fun _ _ _ h => h) (Or.inl ⟨by rfl, ?hav02⟩) hT0 ?rav02
            case hav02 => (intro wz hSw; have u9 := cellOf1 (hkeep1 hSw (lt_blk1 HP4.out) HP4.out); have u8 := (HZa.out wz (HV3.out.trans (Below.mono hSw HV3.out.size))).2.2.1; go_simp <;> with_reducible rfl)
            (try simp only [Act.put, List.setIfInBounds_toArray, List.set_cons_zero, List.set_cons_succ])
            refine wpAnyH_take (i := 3) (oi := ⟨some 37, Op.move (Operand.tmp 1), 32, _, _, none⟩) (v := ?vav03) rfl (by kernel_rfl) (by kernel_rfl) (by kernel_rfl) (fun _ _ _ h => h) (Or.inl ⟨by rfl, ?hav03⟩) hT0 ?rav03
            case hav03 => (intro wz hSw; go_simp <;> with_reducible rfl)
            (try simp only [Act.put, List.setIfInBounds_toArray, List.set_cons_zero, List.set_cons_succ])
            refine wpAnyH_take (i := 4) (oi := ⟨some 38, Op.move (Operand.tmp 8), 3, _, _, none⟩) (v := ?vav04) rfl (by kernel_rfl) (by kernel_rfl) (by kernel_rfl) (fun _ _ _ h => h) (Or.inl ⟨by rfl, ?hav04⟩) hT0 ?rav04
            case hav04 => (intro wz hSw; go_simp <;> with_reducible rfl)
            (try simp only [Act.put, List.setIfInBounds_toArray, List.set_cons_zero, List.set_cons_succ])
            refine wpAnyH_take (i := 5) (oi := ⟨some 39, Op.indexAddr 32 (Operand.tmp 37) (Operand.tmp 38), 0, _, _, none⟩) (v := ?vav05) rfl (by kernel_rfl) (by kernel_rfl) (by kernel_rfl) (fun _ _ _ h => h) (Or.inl ⟨by rfl, ?hav05⟩) hT0 ?rav05
            case hav05 => (intro wz hSw; go_simp <;> with_reducible rfl)
            (try simp only [Act.put, List.setIfInBounds_toArray, List.set_cons_zero, List.set_cons_succ])
            refine wpAnyH_take (i := 6) (oi := ⟨some 40, Op.fieldAddr 42 (Operand.tmp 39) 2, 0, _, _, none⟩) (v := ?vav06) rfl (by kernel_rfl) (by kernel_rfl) (by kernel_rfl) (fun _ _ _ h => h) (Or.inl ⟨by rfl, ?hav06⟩) hT0 ?rav06
            case hav06 => (intro wz hSw; go_simp <;> with_reducible rfl)
            (try simp only [Act.put, List.setIfInBounds_toArray, List.set_cons_zero, List.set_cons_succ])
            refine wpAnyH_take (i := 7) (oi := ⟨some 41, Op.load 3 (Operand.tmp 40), 3, _, _, none⟩) (v := ?vav07) rfl (by kernel_rfl) (by kernel_rfl) (by kernel_rfl) (fun _ _ _ h => h) (Or.inl ⟨by rfl, ?hav07⟩) hT0 ?rav07
            case hav07 => (intro wz hSw; have u9 := cellOf1 (hkeep1 hSw (lt_blk1 HP4.out) HP4.out); have u8 := (HZa.out wz (HV3.out.trans (Below.mono hSw HV3.out.size))).2.2.1; go_simp <;> with_reducible rfl)
            (try simp only [Act.put, List.setIfInBounds_toArray, List.set_cons_zero, List.set_cons_succ])
            refine wpAnyH_ready (rs := [8]) (by kernel_rfl) (by simp) ?_
            refine AllReadyH.cons (o := ⟨some 42, Op.call { callee := Callee.value (Operand.func 48), args := #[Operand.tmp 36, Operand.tmp 41], argTypes := #[3, 3] }, 3, _, _, none⟩) rfl (fun K hK => ?_) AllReadyH.nil
            go_simp
            ((with_reducible refine (rmul_any _ _ _ hFa hFs).mono ?_); rintro e v4 ⟨rfl, hB4⟩; have hT4 : Below v3.heap.size v3 v4 := hT0.trans (Below.mono hB4 hT0.size))
            refine hK.out _ _ hT4 (fun _ => ?_)
            clear hK K
            (try simp only [Act.put, List.setIfInBounds_toArray, List.set_cons_zero, List.set_cons_succ])
            refine wpAnyH_ready (rs := [9]) (by kernel_rfl) (by simp) ?_
            refine AllReadyH.cons (o := ⟨some 43, Op.call { callee := Callee.value (Operand.func 35), args := #[Operand.tmp 34, Operand.tmp 42], argTypes := #[3, 3] }, 3, _, _, none⟩) rfl (fun K hK => ?_) AllReadyH.nil
            go_simp
            ((with_reducible refine (radd_any _ _ _ hFm hFh).mono ?_); rintro e v5 ⟨rfl, rfl⟩)
            refine hK.out _ _ hT4 (fun _ => ?_)
            clear hK K
            (try simp only [Act.put, List.setIfInBounds_toArray, List.set_cons_zero, List.set_cons_succ])
            refine wpAnyH_take (i := 10) (oi := ⟨some 7, Op.assign (Operand.tmp 43), 3, _, _, none⟩) (v := ?vav010) rfl (by kernel_rfl) (by kernel_rfl) (by kernel_rfl) (fun _ _ _ h => h) (Or.inl ⟨by rfl, ?hav010⟩) hT4 ?rav010
            case hav010 => (intro wz hSw; go_simp <;> with_reducible rfl)
            (try simp only [Act.put, List.setIfInBounds_toArray, List.set_cons_zero, List.set_cons_succ])
            refine wpAnyH_done (by kernel_rfl) ?_ _
            refine NoPanic.normal ?_
            have HT4 := Lib.hid hT4
            clear hT4 hT0 hB4
            go_wp2
            go_roundg (l.length - (k + 1))
            case measure => omega
            case rel => exact ⟨k + 1, _, by omega, rfl, by go_num, rfl, Lib.hid HE.out.symm, Lib.hid (HW.out.trans ((HV3.out.trans (HT4.out.mono HV3.out.size)).mono HW.out.size))⟩
          · have hk9' : (a.kind == kind) = false := by simpa using hk9
            have HKy : Hid (kdP c.au kind x = false) := Lib.hid (by rw [HKd.out]; simpa using hk9)
            clear HKd hk9
            go_wp2
            go_roundg (l.length - (k + 1))
            case measure => omega
            case rel => exact ⟨k + 1, m, by omega, rfl, by go_num, rfl, Lib.hid (by rw [su_no HXk.out HKy.out]; exact HM.out), Lib.hid (HW.out.trans (HV3.out.mono HW.out.size))⟩
    · have hlt' : decide ((k : Int) < l.length) = false := by simp; omega
      go_wp2
      go_ret
      exact ⟨ret_int (by rw [HM.out, su_done (by omega)]), HX.out.trans (HW.out.mono HX.out.size)⟩
end Go.Proofs.Ytijobbdgiaiocaa.Con
