/-
  Contract of the document's own Clean.
-/
import Derived.Test.YtmdnjkiciaidiaaCdd
namespace Go.Proofs.Ytmdnjkiciaidiaa.Con
open Go.RowKit Go.Maps

theorem cl_next {l : List Co} {k : Nat} {x : Co} {M : List Co} {now : Int} (h : M.map Co.pl = clI ((l.take k).map Co.pl) now) (hx : l[k]? = some x) (A : Option Addr) (c : Nat) {lm : List Int} (e : lm = wyI ([x].map Co.pl) x.id now) (h0 : lm.length ≠ 0) : (M ++ [(⟨x.id, A, lm, c⟩ : Co)]).map Co.pl = clI ((l.take (k + 1)).map Co.pl) now := by
  have e2 : lm = awI x.bk now := by rw [e]; unfold wyI bkI; simp [Co.pl]
  rw [e2] at h0 ⊢
  rw [List.map_append, h, List.take_add_one, hx]
  unfold clI
  simp only [Option.toList, List.map_append, List.filter_append, List.map_cons, List.map_nil]
  congr 1
  rw [List.filter_cons_of_pos (by simpa [Co.pl] using h0)]
  rfl
theorem cl_skip {l : List Co} {k : Nat} {x : Co} {P : List Cp} {now : Int} (h : P = clI ((l.take k).map Co.pl) now) (hx : l[k]? = some x) {lm : List Int} (e : lm = wyI ([x].map Co.pl) x.id now) (h0 : lm.length = 0) : P = clI ((l.take (k + 1)).map Co.pl) now := by
  have e2 : lm = awI x.bk now := by rw [e]; unfold wyI bkI; simp [Co.pl]
  rw [e2] at h0
  rw [h, List.take_add_one, hx]
  unfold clI
  simp only [Option.toList, List.map_append, List.filter_append, List.map_cons, List.map_nil]
  rw [List.filter_cons_of_neg (by simpa [Co.pl] using h0), List.filter_nil, List.append_nil]
theorem KR.one {w : World} {B b off : Nat} {l : List Co} {k : Nat} {x : Co} (h : KRc w B (some ⟨b, off, none⟩) l) (hx : l[k]? = some x) : KRc w B (some ⟨b, off + k * 2, none⟩) [x] := by
  obtain ⟨b', off', hA, hb, hc⟩ := h.1.at' hx
  injection hA with hA; injection hA with e1 e2
  subst e1; subst e2
  refine ⟨.inr ⟨b, off + k * 2, rfl, hb, fun i y hy j v hv => ?_⟩, fun y hy => ?_⟩
  · cases i with
    | zero => simp at hy; subst hy; rw [Nat.zero_mul, Nat.add_zero]; exact hc j v hv
    | succ i => simp at hy
  · rcases List.mem_singleton.1 hy with rfl; exact h.inner hx

set_option maxRecDepth 20000 in
set_option maxHeartbeats 4000000 in
theorem rclean_any {w : World} {B : Nat} {A : Option Addr} {l : List Co} {n cp : Nat} (now : Int) (hn : l.length = n) (hcp : n ≤ cp) (hl : (n : Int) ≤ 100000) (hbk : ∀ x ∈ l, x.bk.length ≤ 1000) (hr : KRc w B A l) (hB : B ≤ w.heap.size) :
    Calls Try.prog 15 #[.slice A n cp, .int .i64 now] w (CoO w (clI (l.map Co.pl) now)) := by
  subst hn
  have HR := Lib.hid hr; have HB := Lib.hid hB; have HBK := Lib.hid hbk
  clear hr hB hbk
  go_enter Try.func15, Try.ntmps15
  go_wp2
  go_loopg [5, 6] l.length (fun gh s3 s4 wr => ∃ (k : Nat) (A1 : Option Addr) (c1 : Nat) (L : List Co), k ≤ l.length ∧ gh = l.length - k ∧ s4 = .int .i64 k ∧ s3 = .slice A1 L.length c1 ∧ Hid (L.length ≤ k) ∧ Hid (L.map Co.pl = clI ((l.take k).map Co.pl) now) ∧ Hid (K2c w wr w.heap.size (.slice A1 L.length c1) (.slice none 0 0) L []))
  case atStart => exact ⟨0, none, 0, [], by omega, rfl, rfl, rfl, Lib.hid (Nat.le_refl _), Lib.hid rfl, Lib.hid (K2.start (Below.refl _ _) (Nat.le_refl _))⟩
  case round =>
    obtain ⟨k, A1, c1, L, hk, rfl, rfl, rfl, HLk, HL, HTW⟩ := hrel
    by_cases hlt : k < l.length
    · obtain ⟨x, hx⟩ : ∃ x, l[k]? = some x := ⟨_, List.getElem?_eq_getElem hlt⟩
      obtain ⟨b, off, hAA, hpl, c0, c1'⟩ := rowCo HR.out hx HTW.out.below HB.out
      subst hAA
      have HBL : Hid (b < wr.heap.size) := Lib.hid hpl
      have HZ : Hid (∀ wz, Below wr.heap.size wr wz → wz.cell? ⟨b, off + k * 2, none⟩ = some (.int .i64 x.id) ∧ wz.cell? ⟨b, off + k * 2 + 1, none⟩ = some (.slice x.ba x.bk.length x.bc)) := Lib.hid (fun wz e => ⟨(World.cell?_of_block (w := wr) (e.block b HBL.out)).trans c0, (World.cell?_of_block (w := wr) (e.block b HBL.out)).trans c1'⟩)
      have HX := Lib.hid hx
      have HC : Hid (∀ V, Below wr.heap.size wr V → Calls Try.prog 29 #[.slice (some ⟨b, off + k * 2, none⟩) 1 (cp - k), .int .i64 x.id, .int .i64 now] V (NuO V (wyI ([x].map Co.pl) x.id now))) := Lib.hid (fun V hV => raway_any x.id now rfl (by omega) (fun y hy => by rcases List.mem_singleton.1 hy with rfl; exact HBK.out _ (List.mem_of_getElem? HX.out)) (KR.one (HR.out.below (HTW.out.below.trans (hV.mono HTW.out.top)) HB.out) HX.out) (Nat.le_trans HB.out (Nat.le_trans HTW.out.top hV.size)))
      have HL2 : Hid (∀ y : Co, L.length + [y].length ≤ 1000000) := Lib.hid (fun y => by have := HLk.out; simp; omega)
      have hlt' : (k : Int) < l.length := by omega
      have hk1 : IntKind.i64.wrap ((k : Int) + 1) = (k : Int) + 1 := IntWalk.i64_in _ (by omega)
      have hkc : (k : Int) + 1 ≤ cp := by omega
      have hcl : k ≤ cp := by omega
      have h0k : (0 : Int) ≤ (k : Int) + 1 := by omega
      have hck : ¬ cp = k := by omega
      clear hx
      go_wp2
      refine wp_region_noPanic ?_
      refine wp_region_held_drew (S := fun w' => Below wr.heap.size wr w') (by kernel_rfl) ((Below.refl _ _).drew) (fun hS0 => ?_)
      generalize wr.drew = v0 at hS0 ⊢
      refine wpAnyH_take (i := 0) (oi := ⟨some 14, Op.move (Operand.tmp 0), 22, _, _, none⟩) (v := ?va0) rfl (by kernel_rfl) (by kernel_rfl) (by kernel_rfl) (fun _ _ _ h => h) (Or.inl ⟨by rfl, ?ha0⟩) hS0 ?ra0
      case ha0 => (intro wz hSw; go_simp <;> with_reducible rfl)
      (try simp only [Act.put, List.setIfInBounds_toArray, List.set_cons_zero, List.set_cons_succ])
      refine wpAnyH_take (i := 1) (oi := ⟨some 15, Op.move (Operand.tmp 6), 3, _, _, none⟩) (v := ?va1) rfl (by kernel_rfl) (by kernel_rfl) (by kernel_rfl) (fun _ _ _ h => h) (Or.inl ⟨by rfl, ?ha1⟩) hS0 ?ra1
      case ha1 => (intro wz hSw; go_simp <;> with_reducible rfl)
      (try simp only [Act.put, List.setIfInBounds_toArray, List.set_cons_zero, List.set_cons_succ])
      refine wpAnyH_take (i := 2) (oi := ⟨some 16, Op.move (Operand.tmp 6), 3, _, _, none⟩) (v := ?va2) rfl (by kernel_rfl) (by kernel_rfl) (by kernel_rfl) (fun _ _ _ h => h) (Or.inl ⟨by rfl, ?ha2⟩) hS0 ?ra2
      case ha2 => (intro wz hSw; go_simp <;> with_reducible rfl)
      (try simp only [Act.put, List.setIfInBounds_toArray, List.set_cons_zero, List.set_cons_succ])
      refine wpAnyH_take (i := 3) (oi := ⟨some 17, Op.binOp BinOp.add 3 (Operand.tmp 16) (Operand.const (Value.int IntKind.i64 1)) 3, 3, _, _, none⟩) (v := ?va3) rfl (by kernel_rfl) (by kernel_rfl) (by kernel_rfl) (fun _ _ _ h => h) (Or.inl ⟨by rfl, ?ha3⟩) hS0 ?ra3
      case ha3 => (intro wz hSw; go_simp <;> with_reducible rfl)
      (try simp only [Act.put, List.setIfInBounds_toArray, List.set_cons_zero, List.set_cons_succ])
      refine wpAnyH_take (i := 4) (oi := ⟨some 18, Op.slice 22 (Operand.tmp 14) (some (Operand.tmp 15)) (some (Operand.tmp 17)) none, 22, _, _, none⟩) (v := ?va4) rfl (by kernel_rfl) (by kernel_rfl) (by kernel_rfl) (fun _ _ _ h => h) (Or.inl ⟨by rfl, ?ha4⟩) hS0 ?ra4
      case ha4 => (intro wz hSw; go_simp <;> with_reducible rfl)
      (try simp only [Act.put, List.setIfInBounds_toArray, List.set_cons_zero, List.set_cons_succ])
      refine wpAnyH_take (i := 5) (oi := ⟨some 19, Op.move (Operand.tmp 0), 22, _, _, none⟩) (v := ?va5) rfl (by kernel_rfl) (by kernel_rfl) (by kernel_rfl) (fun _ _ _ h => h) (Or.inl ⟨by rfl, ?ha5⟩) hS0 ?ra5
      case ha5 => (intro wz hSw; go_simp <;> with_reducible rfl)
      (try simp only [Act.put, List.setIfInBounds_toArray, List.set_cons_zero, List.set_cons_succ])
      refine wpAnyH_take (i := 6) (oi := ⟨some 20, Op.move (Operand.tmp 6), 3, _, _, none⟩) (v := ?va6) rfl (by kernel_rfl) (by kernel_rfl) (by kernel_rfl) (fun _ _ _ h => h) (Or.inl ⟨by rfl, ?ha6⟩) hS0 ?ra6
      case ha6 => (intro wz hSw; go_simp <;> with_reducible rfl)
      (try simp only [Act.put, List.setIfInBounds_toArray, List.set_cons_zero, List.set_cons_succ])
      refine wpAnyH_take (i := 7) (oi := ⟨some 21, Op.indexAddr 22 (Operand.tmp 19) (Operand.tmp 20), 0, _, _, none⟩) (v := ?va7) rfl (by kernel_rfl) (by kernel_rfl) (by kernel_rfl) (fun _ _ _ h => h) (Or.inl ⟨by rfl, ?ha7⟩) hS0 ?ra7
      case ha7 => (intro wz hSw; go_simp <;> with_reducible rfl)
      (try simp only [Act.put, List.setIfInBounds_toArray, List.set_cons_zero, List.set_cons_succ])
      refine wpAnyH_take (i := 8) (oi := ⟨some 22, Op.fieldAddr 35 (Operand.tmp 21) 0, 0, _, _, none⟩) (v := ?va8) rfl (by kernel_rfl) (by kernel_rfl) (by kernel_rfl) (fun _ _ _ h => h) (Or.inl ⟨by rfl, ?ha8⟩) hS0 ?ra8
      case ha8 => (intro wz hSw; go_simp <;> with_reducible rfl)
      (try simp only [Act.put, List.setIfInBounds_toArray, List.set_cons_zero, List.set_cons_succ])
      refine wpAnyH_take (i := 9) (oi := ⟨some 23, Op.load 3 (Operand.tmp 22), 3, _, _, none⟩) (v := ?va9) rfl (by kernel_rfl) (by kernel_rfl) (by kernel_rfl) (fun _ _ _ h => h) (Or.inl ⟨by rfl, ?ha9⟩) hS0 ?ra9
      case ha9 => (intro wz hSw; obtain ⟨z0, z1⟩ := HZ.out wz hSw; go_simp <;> with_reducible rfl)
      (try simp only [Act.put, List.setIfInBounds_toArray, List.set_cons_zero, List.set_cons_succ])
      refine wpAnyH_take (i := 10) (oi := ⟨some 24, Op.move (Operand.tmp 1), 3, _, _, none⟩) (v := ?va10) rfl (by kernel_rfl) (by kernel_rfl) (by kernel_rfl) (fun _ _ _ h => h) (Or.inl ⟨by rfl, ?ha10⟩) hS0 ?ra10
      case ha10 => (intro wz hSw; go_simp <;> with_reducible rfl)
      (try simp only [Act.put, List.setIfInBounds_toArray, List.set_cons_zero, List.set_cons_succ])
      refine wpAnyH_ready (rs := [11]) (by kernel_rfl) (by simp) ?_
      refine AllReadyH.cons (o := ⟨some 25, Op.call { callee := Callee.value (Operand.func 29), args := #[Operand.tmp 18, Operand.tmp 23, Operand.tmp 24], argTypes := #[22, 3, 3] }, 33, _, _, none⟩) rfl (fun K hK => ?_) AllReadyH.nil
      go_simp
      (with_reducible refine (HC.out v0 hS0).mono ?_); rintro e v1 ⟨A3, c3, lm, rfl, hlm, hO, hBv⟩; have hS1 : Below wr.heap.size wr v1 := hS0.trans (hBv.out.mono hS0.size); have hO1 := Lib.hid hO
      refine hK.out _ _ hS1 (fun _ => ?_)
      clear hK K
      (try simp only [Act.put, List.setIfInBounds_toArray, List.set_cons_zero, List.set_cons_succ])
      refine wpAnyH_take (i := 12) (oi := ⟨some 7, Op.assign (Operand.tmp 25), 33, _, _, none⟩) (v := ?va12) rfl (by kernel_rfl) (by kernel_rfl) (by kernel_rfl) (fun _ _ _ h => h) (Or.inl ⟨by rfl, ?ha12⟩) hS1 ?ra12
      case ha12 => (intro wz hSw; go_simp <;> with_reducible rfl)
      (try simp only [Act.put, List.setIfInBounds_toArray, List.set_cons_zero, List.set_cons_succ])
      refine wpAnyH_done (by kernel_rfl) ?_ _
      refine NoPanic.normal ?_
      have HV1 := Lib.hid hS1; have HV0 : Hid (wr.heap.size ≤ v0.heap.size) := Lib.hid hS0.size
      clear hS1 hS0 hBv
      have HT1 := Lib.hid (HTW.out.of HV1.out)
      have HPWB : Hid (PW nu v1 w.heap.size A3 lm) := Lib.hid ((OW.pw hO1.out.out).mono (Nat.le_trans HTW.out.top HV0.out))
      have HNE : Hid (lm ≠ [] → ∀ q, (Value.slice A1 L.length c1).ownBlock = some q ∨ (Value.slice none 0 0).ownBlock = some q → blk A3 ≠ some q) := Lib.hid (fun hr q hq e => by
        obtain ⟨g, hg, hg2, _⟩ := (OW.pw hO1.out.out).lt' hr
        rcases hq with hq | hq
        · have := (HTW.out.a.own.lt hq).2
          rw [hg] at e; injection e with e
          have := HV0.out
          omega
        · cases hq)
      have d0 := (HZ.out v1 HV1.out).1
      have hpl1 : b < v1.heap.size := Nat.lt_of_lt_of_le HBL.out HV1.out.size
      clear c0 c1' hpl
      by_cases h0 : lm.length = 0
      · have h0' : decide ((0 : Int) < (lm.length : Int)) = false := decide_eq_false (by omega)
        go_wp2
        go_roundg (l.length - (k + 1))
        case measure => omega
        case rel => exact ⟨k + 1, A1, c1, L, by omega, rfl, by go_num, rfl, Lib.hid (by have := HLk.out; omega), Lib.hid (cl_skip HL.out HX.out hlm.out h0), HT1⟩
      · have h0' : decide ((0 : Int) < (lm.length : Int)) = true := decide_eq_true (by omega)
        have HA2 := Lib.hid (below_box v1 (.cells #[.int .i64 x.id, .slice A3 lm.length c3] 35))
        have HT2 := Lib.hid (HT1.out.of HA2.out)
        have HRW : Hid (RW co (v1.alloc (.cells #[.int .i64 x.id, .slice A3 lm.length c3] 35)) (v1.heap.size + 1) (some ⟨v1.heap.size, 0, none⟩) [⟨x.id, A3, lm, c3⟩]) := Lib.hid (rw_at co _ _ _ _ _ rfl rfl rfl)
        go_wp2_with (at_builtin; refine wpList_app co rfl 22 rfl (.tmp 29) (.tmp 37) rfl w.heap.size (v1.heap.size + 1) (.slice A1 L.length c1) L [⟨x.id, A3, lm, c3⟩] (some ⟨v1.heap.size, 0, none⟩) 1 1 rfl rfl rfl HT2.out.a.own HRW.out (HL2.out _) HT2.out.top ?_; intro A4 c4 v4 lm4 HM4 HO4 HS4 HB4)
        go_roundg (l.length - (k + 1))
        case measure => omega
        case rel => exact ⟨k + 1, A4, c4, lm4, by omega, rfl, by go_num, (by first | rfl | (rw [HM4.out]; simp)), Lib.hid (by have := HLk.out; rw [HM4.out]; simp; omega), Lib.hid (by rw [HM4.out]; exact cl_next HL.out HX.out _ _ hlm.out h0), Lib.hid (by
          have q := HM4.out; have ho := HO4.out; have hs := HS4.out; have hb := HB4.out
          subst q
          exact HT2.out.put (x := ⟨x.id, A3, lm, c3⟩) (HPWB.out.of HA2.out) (HNE.out) hs ho hb)⟩
    · have hlt' : decide ((k : Int) < l.length) = false := by simp; omega
      have hkn : k = l.length := by omega
      subst hkn
      go_wp2
      go_ret
      exact ⟨A1, c1, L, rfl, Lib.hid (by rw [HL.out, List.take_length]), Lib.hid HTW.out.a, Lib.hid HTW.out.below⟩
end Go.Proofs.Ytmdnjkiciaidiaa.Con
