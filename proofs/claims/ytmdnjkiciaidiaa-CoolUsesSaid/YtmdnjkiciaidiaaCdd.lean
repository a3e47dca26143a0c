/-
  Contracts of the document's own Copy and Reset.
-/
import Derived.Test.YtmdnjkiciaidiaaCdc
import Derived.Handy
import Derived.Deep.RegionHeld3
namespace Go.Proofs.Ytmdnjkiciaidiaa.Con
open Go.RowKit Go.Maps

theorem K2.room {α β : Type} {E : El α} {G : El β} {ad : α → Option Addr} {ro : α → List β} {w0 V : World} {base : Nat} {v u : Value} {l : List α} {m : List β} {e : TypeId} (h : K2 E G ad ro w0 V base v u l m) (he : G.e = e) : K2 E G ad ro w0 (V.alloc (.cells #[] e)) base v (.slice (some ⟨V.heap.size, 0, none⟩) 0 0) l [] := by
  subst he
  have hb := below_box V (.cells #[] G.e)
  have h2 := h.of hb
  refine ⟨h2.a, (OW.room G V).mono h.top, fun k hk hu => ?_, fun x hx hr k hk e => ?_, h2.below, h2.top⟩
  · have := (h.a.own.lt hk).2
    simp [Value.ownBlock] at hu
    omega
  · obtain ⟨b, hb, _, hlt⟩ := (h.a.inn x hx).lt' hr
    simp [Value.ownBlock] at hk
    rw [hb] at e; injection e with e
    omega
/-- The block that a region reads. -/
abbrev Kep (wr : World) (b : Nat) (w' : World) : Prop := w'.heap[b]? = wr.heap[b]?
/-- A row in new memory, in all depths. -/
def CoO (w : World) (P : List Cp) (e : Ending) (w' : World) : Prop := ∃ A c M, e = .returned (.slice A (List.length M) c) ∧ Hid (M.map Co.pl = P) ∧ Hid (KOc w' w.heap.size (.slice A M.length c) M) ∧ Hid (Below w.heap.size w w')
theorem pl_next {l : List Co} {k : Nat} {x : Co} {M : List Co} (h : M.map Co.pl = (l.take k).map Co.pl) (hx : l[k]? = some x) (A : Option Addr) (c : Nat) {lm : List Int} (e : lm = [] ++ x.bk) : (M ++ [(⟨x.id, A, lm, c⟩ : Co)]).map Co.pl = (l.take (k + 1)).map Co.pl := by
  rw [List.map_append, h, List.take_add_one, hx, e]; simp [Co.pl]
theorem rs_next {l : List Co} {k : Nat} {x : Co} {M : List Co} {id : Int} (h : M.map Co.pl = rsI ((l.take k).map Co.pl) id) (hx : l[k]? = some x) (A : Option Addr) (c : Nat) {lm : List Int} (e : lm = [] ++ x.bk) (hid : x.id ≠ id) : (M ++ [(⟨x.id, A, lm, c⟩ : Co)]).map Co.pl = rsI ((l.take (k + 1)).map Co.pl) id := by
  rw [List.map_append, h, List.take_add_one, hx, e]; simp [Co.pl, rsI, hid]
theorem rs_skip {l : List Co} {k : Nat} {x : Co} {P : List Cp} {id : Int} (h : P = rsI ((l.take k).map Co.pl) id) (hx : l[k]? = some x) (hid : x.id = id) : P = rsI ((l.take (k + 1)).map Co.pl) id := by
  rw [h, List.take_add_one, hx]; simp [Co.pl, rsI, hid]

set_option maxRecDepth 20000 in
set_option maxHeartbeats 4000000 in
theorem rcopy_any {w : World} {B : Nat} {A : Option Addr} {l : List Co} {n cp : Nat} (hn : l.length = n) (hl : (n : Int) ≤ 100000) (hbk : ∀ x ∈ l, x.bk.length ≤ 1000) (hr : KRc w B A l) (hB : B ≤ w.heap.size) :
    Calls Try.prog 9 #[.slice A n cp] w (CoO w (l.map Co.pl)) := by
  subst hn
  have HR := Lib.hid hr; have HB := Lib.hid hB; have HBK := Lib.hid hbk
  clear hr hB hbk
  go_enter Try.func9, Try.ntmps9
  go_wp2
  go_loopg [3, 4] l.length (fun gh s3 s4 wr => ∃ (k : Nat) (A1 : Option Addr) (c1 : Nat) (L : List Co), k ≤ l.length ∧ gh = l.length - k ∧ s4 = .int .i64 k ∧ s3 = .slice A1 L.length c1 ∧ Hid (L.length ≤ k) ∧ Hid (L.map Co.pl = (l.take k).map Co.pl) ∧ Hid (K2c w wr w.heap.size (.slice A1 L.length c1) (.slice none 0 0) L []))
  case atStart => exact ⟨0, none, 0, [], by omega, rfl, rfl, rfl, Lib.hid (Nat.le_refl _), Lib.hid rfl, Lib.hid (K2.start (Below.refl _ _) (Nat.le_refl _))⟩
  case round =>
    obtain ⟨k, A1, c1, L, hk, rfl, rfl, rfl, HLk, HL, HTW⟩ := hrel
    by_cases hlt : k < l.length
    · obtain ⟨x, hx⟩ : ∃ x, l[k]? = some x := ⟨_, List.getElem?_eq_getElem hlt⟩
      obtain ⟨b, off, hAA, hbB, hc⟩ := HR.out.1.at' hx
      subst hAA
      have HBW : Hid (b < w.heap.size) := Lib.hid (Nat.lt_of_lt_of_le hbB HB.out)
      have HBL : Hid (b < wr.heap.size) := Lib.hid (Nat.lt_of_lt_of_le HBW.out HTW.out.top)
      obtain ⟨y0, y1⟩ := cellsCo (o := off + k * 2) hc
      have e0 : wr.heap[b]? = w.heap[b]? := HTW.out.below.block b HBW.out
      have c0 : wr.cell? ⟨b, off + k * 2, none⟩ = some (.int .i64 x.id) := (World.cell?_of_block (w := w) e0).trans y0
      have c1' : wr.cell? ⟨b, off + k * 2 + 1, none⟩ = some (.slice x.ba x.bk.length x.bc) := (World.cell?_of_block (w := w) e0).trans y1
      have HZ : Hid (∀ wz, Kep wr b wz → wz.cell? ⟨b, off + k * 2, none⟩ = some (.int .i64 x.id) ∧ wz.cell? ⟨b, off + k * 2 + 1, none⟩ = some (.slice x.ba x.bk.length x.bc)) := Lib.hid (fun wz e => ⟨(World.cell?_of_block (w := wr) e).trans c0, (World.cell?_of_block (w := wr) e).trans c1'⟩)
      have HX := Lib.hid hx
      have HI : Hid (RW nu w w.heap.size x.ba x.bk) := Lib.hid ((HR.out.inner hx).more HB.out)
      have HL1 : Hid (([] : List Int).length + x.bk.length ≤ 1000000) := Lib.hid (by have := HBK.out x (List.mem_of_getElem? hx); simp; omega)
      have HL2 : Hid (∀ y : Co, L.length + [y].length ≤ 1000000) := Lib.hid (fun y => by have := HLk.out; simp; omega)
      have hlt' : (k : Int) < l.length := by omega
      have hpl : b < wr.heap.size := HBL.out
      clear hx hc hbB e0 y0 y1
      go_wp2
      have hD0 : Below wr.heap.size wr wr.drew := (Below.refl _ _).drew
      have hS0 : Kep wr b wr.drew := hD0.block b HBL.out
      refine wp_region_noPanic ?_
      refine wp_region_held_drew (S := fun w' => Kep wr b w') (by kernel_rfl) hS0 (fun _ => ?_)
      generalize wr.drew = v0 at hD0 hS0 ⊢
      clear c0 c1'
      refine wpAnyH_take (i := 0) (oi := ⟨some 11, Op.move (Operand.tmp 3), 22, _, _, none⟩) (v := ?va0) rfl (by kernel_rfl) (by kernel_rfl) (by kernel_rfl) (fun _ _ _ h => h) (Or.inl ⟨by rfl, ?ha0⟩) hS0 ?ra0
      case ha0 => (intro wz hSw; go_simp <;> with_reducible rfl)
      (try simp only [Act.put, List.setIfInBounds_toArray, List.set_cons_zero, List.set_cons_succ])
      refine wpAnyH_take (i := 1) (oi := ⟨some 12, Op.move (Operand.tmp 0), 22, _, _, none⟩) (v := ?va1) rfl (by kernel_rfl) (by kernel_rfl) (by kernel_rfl) (fun _ _ _ h => h) (Or.inl ⟨by rfl, ?ha1⟩) hS0 ?ra1
      case ha1 => (intro wz hSw; go_simp <;> with_reducible rfl)
      (try simp only [Act.put, List.setIfInBounds_toArray, List.set_cons_zero, List.set_cons_succ])
      refine wpAnyH_take (i := 2) (oi := ⟨some 13, Op.move (Operand.tmp 4), 3, _, _, none⟩) (v := ?va2) rfl (by kernel_rfl) (by kernel_rfl) (by kernel_rfl) (fun _ _ _ h => h) (Or.inl ⟨by rfl, ?ha2⟩) hS0 ?ra2
      case ha2 => (intro wz hSw; go_simp <;> with_reducible rfl)
      (try simp only [Act.put, List.setIfInBounds_toArray, List.set_cons_zero, List.set_cons_succ])
      refine wpAnyH_take (i := 3) (oi := ⟨some 14, Op.indexAddr 22 (Operand.tmp 12) (Operand.tmp 13), 0, _, _, none⟩) (v := ?va3) rfl (by kernel_rfl) (by kernel_rfl) (by kernel_rfl) (fun _ _ _ h => h) (Or.inl ⟨by rfl, ?ha3⟩) hS0 ?ra3
      case ha3 => (intro wz hSw; go_simp <;> with_reducible rfl)
      (try simp only [Act.put, List.setIfInBounds_toArray, List.set_cons_zero, List.set_cons_succ])
      refine wpAnyH_take (i := 4) (oi := ⟨some 15, Op.fieldAddr 35 (Operand.tmp 14) 0, 0, _, _, none⟩) (v := ?va4) rfl (by kernel_rfl) (by kernel_rfl) (by kernel_rfl) (fun _ _ _ h => h) (Or.inl ⟨by rfl, ?ha4⟩) hS0 ?ra4
      case ha4 => (intro wz hSw; go_simp <;> with_reducible rfl)
      (try simp only [Act.put, List.setIfInBounds_toArray, List.set_cons_zero, List.set_cons_succ])
      refine wpAnyH_take (i := 5) (oi := ⟨some 16, Op.load 3 (Operand.tmp 15), 3, _, _, none⟩) (v := ?va5) rfl (by kernel_rfl) (by kernel_rfl) (by kernel_rfl) (fun _ _ _ h => h) (Or.inl ⟨by rfl, ?ha5⟩) hS0 ?ra5
      case ha5 => (intro wz hSw; obtain ⟨z0, z1⟩ := HZ.out wz hSw; go_simp <;> with_reducible rfl)
      (try simp only [Act.put, List.setIfInBounds_toArray, List.set_cons_zero, List.set_cons_succ])
      refine wpAnyH_take (i := 7) (oi := ⟨some 18, Op.move (Operand.tmp 0), 22, _, _, none⟩) (v := ?va7) rfl (by kernel_rfl) (by kernel_rfl) (by kernel_rfl) (fun _ _ _ h => h) (Or.inl ⟨by rfl, ?ha7⟩) hS0 ?ra7
      case ha7 => (intro wz hSw; go_simp <;> with_reducible rfl)
      (try simp only [Act.put, List.setIfInBounds_toArray, List.set_cons_zero, List.set_cons_succ])
      refine wpAnyH_take (i := 8) (oi := ⟨some 19, Op.move (Operand.tmp 4), 3, _, _, none⟩) (v := ?va8) rfl (by kernel_rfl) (by kernel_rfl) (by kernel_rfl) (fun _ _ _ h => h) (Or.inl ⟨by rfl, ?ha8⟩) hS0 ?ra8
      case ha8 => (intro wz hSw; go_simp <;> with_reducible rfl)
      (try simp only [Act.put, List.setIfInBounds_toArray, List.set_cons_zero, List.set_cons_succ])
      refine wpAnyH_take (i := 9) (oi := ⟨some 20, Op.indexAddr 22 (Operand.tmp 18) (Operand.tmp 19), 0, _, _, none⟩) (v := ?va9) rfl (by kernel_rfl) (by kernel_rfl) (by kernel_rfl) (fun _ _ _ h => h) (Or.inl ⟨by rfl, ?ha9⟩) hS0 ?ra9
      case ha9 => (intro wz hSw; go_simp <;> with_reducible rfl)
      (try simp only [Act.put, List.setIfInBounds_toArray, List.set_cons_zero, List.set_cons_succ])
      refine wpAnyH_take (i := 10) (oi := ⟨some 21, Op.fieldAddr 35 (Operand.tmp 20) 1, 0, _, _, none⟩) (v := ?va10) rfl (by kernel_rfl) (by kernel_rfl) (by kernel_rfl) (fun _ _ _ h => h) (Or.inl ⟨by rfl, ?ha10⟩) hS0 ?ra10
      case ha10 => (intro wz hSw; go_simp <;> with_reducible rfl)
      (try simp only [Act.put, List.setIfInBounds_toArray, List.set_cons_zero, List.set_cons_succ])
      refine wpAnyH_take (i := 11) (oi := ⟨some 22, Op.load 33 (Operand.tmp 21), 33, _, _, none⟩) (v := ?va11) rfl (by kernel_rfl) (by kernel_rfl) (by kernel_rfl) (fun _ _ _ h => h) (Or.inl ⟨by rfl, ?ha11⟩) hS0 ?ra11
      case ha11 => (intro wz hSw; obtain ⟨z0, z1⟩ := HZ.out wz hSw; go_simp <;> with_reducible rfl)
      (try simp only [Act.put, List.setIfInBounds_toArray, List.set_cons_zero, List.set_cons_succ])
      refine wpAnyH_ready (rs := [6]) (by kernel_rfl) (by simp) ?_
      refine AllReadyH.cons (o := ⟨some 17, Op.buildSlice 33 0 #[], 33, _, _, none⟩) rfl (fun K hK => ?_) AllReadyH.nil
      go_simp
      have hA1 := hD0.alloc hD0.size (.cells #[] 3); have hK1 : Kep wr b (v0.alloc (.cells #[] 3)) := hA1.block b HBL.out; have hT1 := (HTW.out.of hD0).room (e := 3) rfl
      refine hK.out _ _ hK1 (fun _ => ?_)
      clear hK K
      (try simp only [Act.put, List.setIfInBounds_toArray, List.set_cons_zero, List.set_cons_succ])
      refine wpAnyH_ready (rs := [12]) (by kernel_rfl) (by simp) ?_
      refine AllReadyH.cons (o := ⟨some 23, Op.call { callee := Callee.builtin Builtin.append, args := #[Operand.tmp 17, Operand.tmp 22], argTypes := #[33, 33] }, 33, _, _, none⟩) rfl (fun K hK => ?_) AllReadyH.nil
      refine step_app nu rfl 33 rfl (.tmp 17) (.tmp 22) rfl w.heap.size w.heap.size (.slice (some ⟨v0.heap.size, 0, none⟩) 0 0) [] x.bk x.ba x.bc x.bk.length rfl (by simp [Act.eval]) (by simp [Act.eval]) hT1.b (HI.out.below (HTW.out.below.trans (hA1.mono HTW.out.top)) (Nat.le_refl _)) HL1.out hT1.top ?_
      intro A3 c3 v2 lm nl hlm hnl hO hG hW; have HLm := Lib.hid hlm; clear hlm; subst hnl; have hT2 := hT1.put2 hG hO hW; have hK2 : Kep wr b v2 := (hG.block b (Nat.lt_of_lt_of_le HBL.out hA1.size) (fun e => by have := (hT1.b.lt e.symm).1; have := HBW.out; omega)).trans hK1
      refine hK.out _ _ hK2 (fun _ => ?_)
      clear hK K
      (try simp only [Act.put, List.setIfInBounds_toArray, List.set_cons_zero, List.set_cons_succ])
      refine wpAnyH_take (i := 13) (oi := ⟨some 24, Op.build 35 #[(0, Operand.tmp 16), (1, Operand.tmp 23)], 35, _, _, none⟩) (v := ?va13) rfl (by kernel_rfl) (by kernel_rfl) (by kernel_rfl) (fun _ _ _ h => h) (Or.inl ⟨by rfl, ?ha13⟩) hK2 ?ra13
      case ha13 => (intro wz hSw; go_simp <;> with_reducible rfl)
      (try simp only [Act.put, List.setIfInBounds_toArray, List.set_cons_zero, List.set_cons_succ])
      refine wpAnyH_ready (rs := [14]) (by kernel_rfl) (by simp) ?_
      refine AllReadyH.cons (o := ⟨some 25, Op.buildSlice 22 1 #[(0, Operand.tmp 24)], 22, _, _, none⟩) rfl (fun K hK => ?_) AllReadyH.nil
      go_simp
      have hA3 := below_box v2 (.cells #[.int .i64 x.id, .slice A3 lm.length c3] 35); have hK3 : Kep wr b (v2.alloc (.cells #[.int .i64 x.id, .slice A3 lm.length c3] 35)) := (hA3.block b (Nat.lt_of_lt_of_le HBW.out hT2.top)).trans hK2; have hT3 := hT2.of hA3; have hRW : RW co (v2.alloc (.cells #[.int .i64 x.id, .slice A3 lm.length c3] 35)) (v2.heap.size + 1) (some ⟨v2.heap.size, 0, none⟩) [⟨x.id, A3, lm, c3⟩] := rw_at co _ _ _ _ _ rfl rfl rfl
      refine hK.out _ _ hK3 (fun _ => ?_)
      clear hK K
      (try simp only [Act.put, List.setIfInBounds_toArray, List.set_cons_zero, List.set_cons_succ])
      refine wpAnyH_ready (rs := [15]) (by kernel_rfl) (by simp) ?_
      refine AllReadyH.cons (o := ⟨some 26, Op.call { callee := Callee.builtin Builtin.append, args := #[Operand.tmp 11, Operand.tmp 25], argTypes := #[22, 22] }, 22, _, _, none⟩) rfl (fun K hK => ?_) AllReadyH.nil
      refine step_app co rfl 22 rfl (.tmp 11) (.tmp 25) rfl w.heap.size (v2.heap.size + 1) (.slice A1 L.length c1) L [⟨x.id, A3, lm, c3⟩] (some ⟨v2.heap.size, 0, none⟩) 1 1 rfl (by simp [Act.eval]) (by simp [Act.eval]) hT3.a.own hRW (HL2.out _) hT3.top ?_
      intro A4 c4 v4 lm4 nl4 hlm4 hnl4 hO4 hG4 hW4; subst hnl4; have HM4 := Lib.hid hlm4; have hT4 : K2c w v4 w.heap.size (.slice A4 lm4.length c4) (.slice none 0 0) lm4 [] := (by subst hlm4; exact hT3.put1 (x := ⟨x.id, A3, lm, c3⟩) rfl rfl hG4 hO4 hW4); have hK4 : Kep wr b v4 := (hG4.block b (Nat.lt_of_lt_of_le HBW.out hT3.top) (fun e => by have := (hT3.a.own.lt e.symm).1; have := HBW.out; omega)).trans hK3
      refine hK.out _ _ hK4 (fun _ => ?_)
      clear hK K
      (try simp only [Act.put, List.setIfInBounds_toArray, List.set_cons_zero, List.set_cons_succ])
      refine wpAnyH_take (i := 16) (oi := ⟨some 3, Op.assign (Operand.tmp 26), 22, _, _, none⟩) (v := ?va16) rfl (by kernel_rfl) (by kernel_rfl) (by kernel_rfl) (fun _ _ _ h => h) (Or.inl ⟨by rfl, ?ha16⟩) hK4 ?ra16
      case ha16 => (intro wz hSw; go_simp <;> with_reducible rfl)
      (try simp only [Act.put, List.setIfInBounds_toArray, List.set_cons_zero, List.set_cons_succ])
      refine wpAnyH_done (by kernel_rfl) ?_ _
      refine NoPanic.normal ?_
      have HT4 := Lib.hid hT4
      clear hlm4 hO4 hW4 hT4 hK4 hG4 hT3 hK3 hA3 hRW hT2 hK2 hG hO hW hT1 hK1 hA1 hS0 hD0
      go_wp2
      go_roundg (l.length - (k + 1))
      case measure => omega
      case rel => exact ⟨k + 1, A4, c4, lm4, by omega, rfl, by go_num, (by first | rfl | (rw [HM4.out]; simp)), Lib.hid (by have := HLk.out; rw [HM4.out]; simp; omega), Lib.hid (by rw [HM4.out]; exact pl_next HL.out HX.out _ _ HLm.out), HT4⟩
    · have hlt' : decide ((k : Int) < l.length) = false := by simp; omega
      have hkn : k = l.length := by omega
      subst hkn
      go_wp2
      go_ret
      exact ⟨A1, c1, L, rfl, Lib.hid (by rw [HL.out, List.take_length]), Lib.hid HTW.out.a, Lib.hid HTW.out.below⟩

set_option maxRecDepth 20000 in
set_option maxHeartbeats 4000000 in
theorem rreset_any {w : World} {B : Nat} {A : Option Addr} {l : List Co} {n cp : Nat} (id : Int) (hn : l.length = n) (hl : (n : Int) ≤ 100000) (hbk : ∀ x ∈ l, x.bk.length ≤ 1000) (hr : KRc w B A l) (hB : B ≤ w.heap.size) :
    Calls Try.prog 16 #[.slice A n cp, .int .i64 id] w (CoO w (rsI (l.map Co.pl) id)) := by
  subst hn
  have HR := Lib.hid hr; have HB := Lib.hid hB; have HBK := Lib.hid hbk
  clear hr hB hbk
  go_enter Try.func16, Try.ntmps16
  go_wp2
  go_loopg [5, 6] l.length (fun gh s3 s4 wr => ∃ (k : Nat) (A1 : Option Addr) (c1 : Nat) (L : List Co), k ≤ l.length ∧ gh = l.length - k ∧ s4 = .int .i64 k ∧ s3 = .slice A1 L.length c1 ∧ Hid (L.length ≤ k) ∧ Hid (L.map Co.pl = rsI ((l.take k).map Co.pl) id) ∧ Hid (K2c w wr w.heap.size (.slice A1 L.length c1) (.slice none 0 0) L []))
  case atStart => exact ⟨0, none, 0, [], by omega, rfl, rfl, rfl, Lib.hid (Nat.le_refl _), Lib.hid rfl, Lib.hid (K2.start (Below.refl _ _) (Nat.le_refl _))⟩
  case round =>
    obtain ⟨k, A1, c1, L, hk, rfl, rfl, rfl, HLk, HL, HTW⟩ := hrel
    by_cases hlt : k < l.length
    · obtain ⟨x, hx⟩ : ∃ x, l[k]? = some x := ⟨_, List.getElem?_eq_getElem hlt⟩
      obtain ⟨b, off, hAA, hbB, hc⟩ := HR.out.1.at' hx
      subst hAA
      have HBW : Hid (b < w.heap.size) := Lib.hid (Nat.lt_of_lt_of_le hbB HB.out)
      have HBL : Hid (b < wr.heap.size) := Lib.hid (Nat.lt_of_lt_of_le HBW.out HTW.out.top)
      obtain ⟨y0, y1⟩ := cellsCo (o := off + k * 2) hc
      have e0 : wr.heap[b]? = w.heap[b]? := HTW.out.below.block b HBW.out
      have c0 : wr.cell? ⟨b, off + k * 2, none⟩ = some (.int .i64 x.id) := (World.cell?_of_block (w := w) e0).trans y0
      have c1' : wr.cell? ⟨b, off + k * 2 + 1, none⟩ = some (.slice x.ba x.bk.length x.bc) := (World.cell?_of_block (w := w) e0).trans y1
      have HZ : Hid (∀ wz, Kep wr b wz → wz.cell? ⟨b, off + k * 2, none⟩ = some (.int .i64 x.id) ∧ wz.cell? ⟨b, off + k * 2 + 1, none⟩ = some (.slice x.ba x.bk.length x.bc)) := Lib.hid (fun wz e => ⟨(World.cell?_of_block (w := wr) e).trans c0, (World.cell?_of_block (w := wr) e).trans c1'⟩)
      have HX := Lib.hid hx
      have HI : Hid (RW nu w w.heap.size x.ba x.bk) := Lib.hid ((HR.out.inner hx).more HB.out)
      have HL1 : Hid (([] : List Int).length + x.bk.length ≤ 1000000) := Lib.hid (by have := HBK.out x (List.mem_of_getElem? hx); simp; omega)
      have HL2 : Hid (∀ y : Co, L.length + [y].length ≤ 1000000) := Lib.hid (fun y => by have := HLk.out; simp; omega)
      have hlt' : (k : Int) < l.length := by omega
      have hpl : b < wr.heap.size := HBL.out
      clear hx hc hbB e0 y0 y1
      by_cases hid : x.id = id
      · have hid' : decide (x.id = id) = true := by simpa using hid
        go_wp2
        go_roundg (l.length - (k + 1))
        case measure => omega
        case rel => exact ⟨k + 1, A1, c1, L, by omega, rfl, by go_num, rfl, Lib.hid (by have := HLk.out; omega), Lib.hid (rs_skip HL.out HX.out hid), HTW⟩
      · have hid' : decide (x.id = id) = false := by simpa using hid
        go_wp2
        have hD0 : Below wr.heap.size wr wr.drew := (Below.refl _ _).drew
        have hS0 : Kep wr b wr.drew := hD0.block b HBL.out
        refine wp_region_noPanic ?_
        refine wp_region_held_drew (S := fun w' => Kep wr b w') (by kernel_rfl) hS0 (fun _ => ?_)
        generalize wr.drew = v0 at hD0 hS0 ⊢
        clear c0 c1'
        refine wpAnyH_take (i := 0) (oi := ⟨some 20, Op.move (Operand.tmp 5), 22, _, _, none⟩) (v := ?va0) rfl (by kernel_rfl) (by kernel_rfl) (by kernel_rfl) (fun _ _ _ h => h) (Or.inl ⟨by rfl, ?ha0⟩) hS0 ?ra0
        case ha0 => (intro wz hSw; go_simp <;> with_reducible rfl)
        (try simp only [Act.put, List.setIfInBounds_toArray, List.set_cons_zero, List.set_cons_succ])
        refine wpAnyH_take (i := 1) (oi := ⟨some 21, Op.move (Operand.tmp 0), 22, _, _, none⟩) (v := ?va1) rfl (by kernel_rfl) (by kernel_rfl) (by kernel_rfl) (fun _ _ _ h => h) (Or.inl ⟨by rfl, ?ha1⟩) hS0 ?ra1
        case ha1 => (intro wz hSw; go_simp <;> with_reducible rfl)
        (try simp only [Act.put, List.setIfInBounds_toArray, List.set_cons_zero, List.set_cons_succ])
        refine wpAnyH_take (i := 2) (oi := ⟨some 22, Op.move (Operand.tmp 6), 3, _, _, none⟩) (v := ?va2) rfl (by kernel_rfl) (by kernel_rfl) (by kernel_rfl) (fun _ _ _ h => h) (Or.inl ⟨by rfl, ?ha2⟩) hS0 ?ra2
        case ha2 => (intro wz hSw; go_simp <;> with_reducible rfl)
        (try simp only [Act.put, List.setIfInBounds_toArray, List.set_cons_zero, List.set_cons_succ])
        refine wpAnyH_take (i := 3) (oi := ⟨some 23, Op.indexAddr 22 (Operand.tmp 21) (Operand.tmp 22), 0, _, _, none⟩) (v := ?va3) rfl (by kernel_rfl) (by kernel_rfl) (by kernel_rfl) (fun _ _ _ h => h) (Or.inl ⟨by rfl, ?ha3⟩) hS0 ?ra3
        case ha3 => (intro wz hSw; go_simp <;> with_reducible rfl)
        (try simp only [Act.put, List.setIfInBounds_toArray, List.set_cons_zero, List.set_cons_succ])
        refine wpAnyH_take (i := 4) (oi := ⟨some 24, Op.fieldAddr 35 (Operand.tmp 23) 0, 0, _, _, none⟩) (v := ?va4) rfl (by kernel_rfl) (by kernel_rfl) (by kernel_rfl) (fun _ _ _ h => h) (Or.inl ⟨by rfl, ?ha4⟩) hS0 ?ra4
        case ha4 => (intro wz hSw; go_simp <;> with_reducible rfl)
        (try simp only [Act.put, List.setIfInBounds_toArray, List.set_cons_zero, List.set_cons_succ])
        refine wpAnyH_take (i := 5) (oi := ⟨some 25, Op.load 3 (Operand.tmp 24), 3, _, _, none⟩) (v := ?va5) rfl (by kernel_rfl) (by kernel_rfl) (by kernel_rfl) (fun _ _ _ h => h) (Or.inl ⟨by rfl, ?ha5⟩) hS0 ?ra5
        case ha5 => (intro wz hSw; obtain ⟨z0, z1⟩ := HZ.out wz hSw; go_simp <;> with_reducible rfl)
        (try simp only [Act.put, List.setIfInBounds_toArray, List.set_cons_zero, List.set_cons_succ])
        refine wpAnyH_take (i := 7) (oi := ⟨some 27, Op.move (Operand.tmp 0), 22, _, _, none⟩) (v := ?va7) rfl (by kernel_rfl) (by kernel_rfl) (by kernel_rfl) (fun _ _ _ h => h) (Or.inl ⟨by rfl, ?ha7⟩) hS0 ?ra7
        case ha7 => (intro wz hSw; go_simp <;> with_reducible rfl)
        (try simp only [Act.put, List.setIfInBounds_toArray, List.set_cons_zero, List.set_cons_succ])
        refine wpAnyH_take (i := 8) (oi := ⟨some 28, Op.move (Operand.tmp 6), 3, _, _, none⟩) (v := ?va8) rfl (by kernel_rfl) (by kernel_rfl) (by kernel_rfl) (fun _ _ _ h => h) (Or.inl ⟨by rfl, ?ha8⟩) hS0 ?ra8
        case ha8 => (intro wz hSw; go_simp <;> with_reducible rfl)
        (try simp only [Act.put, List.setIfInBounds_toArray, List.set_cons_zero, List.set_cons_succ])
        refine wpAnyH_take (i := 9) (oi := ⟨some 29, Op.indexAddr 22 (Operand.tmp 27) (Operand.tmp 28), 0, _, _, none⟩) (v := ?va9) rfl (by kernel_rfl) (by kernel_rfl) (by kernel_rfl) (fun _ _ _ h => h) (Or.inl ⟨by rfl, ?ha9⟩) hS0 ?ra9
        case ha9 => (intro wz hSw; go_simp <;> with_reducible rfl)
        (try simp only [Act.put, List.setIfInBounds_toArray, List.set_cons_zero, List.set_cons_succ])
        refine wpAnyH_take (i := 10) (oi := ⟨some 30, Op.fieldAddr 35 (Operand.tmp 29) 1, 0, _, _, none⟩) (v := ?va10) rfl (by kernel_rfl) (by kernel_rfl) (by kernel_rfl) (fun _ _ _ h => h) (Or.inl ⟨by rfl, ?ha10⟩) hS0 ?ra10
        case ha10 => (intro wz hSw; go_simp <;> with_reducible rfl)
        (try simp only [Act.put, List.setIfInBounds_toArray, List.set_cons_zero, List.set_cons_succ])
        refine wpAnyH_take (i := 11) (oi := ⟨some 31, Op.load 33 (Operand.tmp 30), 33, _, _, none⟩) (v := ?va11) rfl (by kernel_rfl) (by kernel_rfl) (by kernel_rfl) (fun _ _ _ h => h) (Or.inl ⟨by rfl, ?ha11⟩) hS0 ?ra11
        case ha11 => (intro wz hSw; obtain ⟨z0, z1⟩ := HZ.out wz hSw; go_simp <;> with_reducible rfl)
        (try simp only [Act.put, List.setIfInBounds_toArray, List.set_cons_zero, List.set_cons_succ])
        refine wpAnyH_ready (rs := [6]) (by kernel_rfl) (by simp) ?_
        refine AllReadyH.cons (o := ⟨some 26, Op.buildSlice 33 0 #[], 33, _, _, none⟩) rfl (fun K hK => ?_) AllReadyH.nil
        go_simp
        have hA1 := hD0.alloc hD0.size (.cells #[] 3); have hK1 : Kep wr b (v0.alloc (.cells #[] 3)) := hA1.block b HBL.out; have hT1 := (HTW.out.of hD0).room (e := 3) rfl
        refine hK.out _ _ hK1 (fun _ => ?_)
        clear hK K
        (try simp only [Act.put, List.setIfInBounds_toArray, List.set_cons_zero, List.set_cons_succ])
        refine wpAnyH_ready (rs := [12]) (by kernel_rfl) (by simp) ?_
        refine AllReadyH.cons (o := ⟨some 32, Op.call { callee := Callee.builtin Builtin.append, args := #[Operand.tmp 26, Operand.tmp 31], argTypes := #[33, 33] }, 33, _, _, none⟩) rfl (fun K hK => ?_) AllReadyH.nil
        refine step_app nu rfl 33 rfl (.tmp 26) (.tmp 31) rfl w.heap.size w.heap.size (.slice (some ⟨v0.heap.size, 0, none⟩) 0 0) [] x.bk x.ba x.bc x.bk.length rfl (by simp [Act.eval]) (by simp [Act.eval]) hT1.b (HI.out.below (HTW.out.below.trans (hA1.mono HTW.out.top)) (Nat.le_refl _)) HL1.out hT1.top ?_
        intro A3 c3 v2 lm nl hlm hnl hO hG hW; have HLm := Lib.hid hlm; clear hlm; subst hnl; have hT2 := hT1.put2 hG hO hW; have hK2 : Kep wr b v2 := (hG.block b (Nat.lt_of_lt_of_le HBL.out hA1.size) (fun e => by have := (hT1.b.lt e.symm).1; have := HBW.out; omega)).trans hK1
        refine hK.out _ _ hK2 (fun _ => ?_)
        clear hK K
        (try simp only [Act.put, List.setIfInBounds_toArray, List.set_cons_zero, List.set_cons_succ])
        refine wpAnyH_take (i := 13) (oi := ⟨some 33, Op.build 35 #[(0, Operand.tmp 25), (1, Operand.tmp 32)], 35, _, _, none⟩) (v := ?va13) rfl (by kernel_rfl) (by kernel_rfl) (by kernel_rfl) (fun _ _ _ h => h) (Or.inl ⟨by rfl, ?ha13⟩) hK2 ?ra13
        case ha13 => (intro wz hSw; go_simp <;> with_reducible rfl)
        (try simp only [Act.put, List.setIfInBounds_toArray, List.set_cons_zero, List.set_cons_succ])
        refine wpAnyH_ready (rs := [14]) (by kernel_rfl) (by simp) ?_
        refine AllReadyH.cons (o := ⟨some 34, Op.buildSlice 22 1 #[(0, Operand.tmp 33)], 22, _, _, none⟩) rfl (fun K hK => ?_) AllReadyH.nil
        go_simp
        have hA3 := below_box v2 (.cells #[.int .i64 x.id, .slice A3 lm.length c3] 35); have hK3 : Kep wr b (v2.alloc (.cells #[.int .i64 x.id, .slice A3 lm.length c3] 35)) := (hA3.block b (Nat.lt_of_lt_of_le HBW.out hT2.top)).trans hK2; have hT3 := hT2.of hA3; have hRW : RW co (v2.alloc (.cells #[.int .i64 x.id, .slice A3 lm.length c3] 35)) (v2.heap.size + 1) (some ⟨v2.heap.size, 0, none⟩) [⟨x.id, A3, lm, c3⟩] := rw_at co _ _ _ _ _ rfl rfl rfl
        refine hK.out _ _ hK3 (fun _ => ?_)
        clear hK K
        (try simp only [Act.put, List.setIfInBounds_toArray, List.set_cons_zero, List.set_cons_succ])
        refine wpAnyH_ready (rs := [15]) (by kernel_rfl) (by simp) ?_
        refine AllReadyH.cons (o := ⟨some 35, Op.call { callee := Callee.builtin Builtin.append, args := #[Operand.tmp 20, Operand.tmp 34], argTypes := #[22, 22] }, 22, _, _, none⟩) rfl (fun K hK => ?_) AllReadyH.nil
        refine step_app co rfl 22 rfl (.tmp 20) (.tmp 34) rfl w.heap.size (v2.heap.size + 1) (.slice A1 L.length c1) L [⟨x.id, A3, lm, c3⟩] (some ⟨v2.heap.size, 0, none⟩) 1 1 rfl (by simp [Act.eval]) (by simp [Act.eval]) hT3.a.own hRW (HL2.out _) hT3.top ?_
        intro A4 c4 v4 lm4 nl4 hlm4 hnl4 hO4 hG4 hW4; subst hnl4; have HM4 := Lib.hid hlm4; have hT4 : K2c w v4 w.heap.size (.slice A4 lm4.length c4) (.slice none 0 0) lm4 [] := (by subst hlm4; exact hT3.put1 (x := ⟨x.id, A3, lm, c3⟩) rfl rfl hG4 hO4 hW4); have hK4 : Kep wr b v4 := (hG4.block b (Nat.lt_of_lt_of_le HBW.out hT3.top) (fun e => by have := (hT3.a.own.lt e.symm).1; have := HBW.out; omega)).trans hK3
        refine hK.out _ _ hK4 (fun _ => ?_)
        clear hK K
        (try simp only [Act.put, List.setIfInBounds_toArray, List.set_cons_zero, List.set_cons_succ])
        refine wpAnyH_take (i := 16) (oi := ⟨some 5, Op.assign (Operand.tmp 35), 22, _, _, none⟩) (v := ?va16) rfl (by kernel_rfl) (by kernel_rfl) (by kernel_rfl) (fun _ _ _ h => h) (Or.inl ⟨by rfl, ?ha16⟩) hK4 ?ra16
        case ha16 => (intro wz hSw; go_simp <;> with_reducible rfl)
        (try simp only [Act.put, List.setIfInBounds_toArray, List.set_cons_zero, List.set_cons_succ])
        refine wpAnyH_done (by kernel_rfl) ?_ _
        refine NoPanic.normal ?_
        have HT4 := Lib.hid hT4
        clear hlm4 hO4 hW4 hT4 hK4 hG4 hT3 hK3 hA3 hRW hT2 hK2 hG hO hW hT1 hK1 hA1 hS0 hD0
        go_wp2
        go_roundg (l.length - (k + 1))
        case measure => omega
        case rel => exact ⟨k + 1, A4, c4, lm4, by omega, rfl, by go_num, (by first | rfl | (rw [HM4.out]; simp)), Lib.hid (by have := HLk.out; rw [HM4.out]; simp; omega), Lib.hid (by rw [HM4.out]; exact rs_next HL.out HX.out _ _ HLm.out hid), HT4⟩
    · have hlt' : decide ((k : Int) < l.length) = false := by simp; omega
      have hkn : k = l.length := by omega
      subst hkn
      go_wp2
      go_ret
      exact ⟨A1, c1, L, rfl, Lib.hid (by rw [HL.out, List.take_length]), Lib.hid HTW.out.a, Lib.hid HTW.out.below⟩
end Go.Proofs.Ytmdnjkiciaidiaa.Con
