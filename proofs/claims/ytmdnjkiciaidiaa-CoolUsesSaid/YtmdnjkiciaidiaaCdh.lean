/-
  Contract of the document's own Use, where it answers true: a way of it.
-/
import Derived.Test.YtmdnjkiciaidiaaCdg
import Derived.Test.YtmdnjkiciaidiaaCug
namespace Go.Proofs.Ytmdnjkiciaidiaa.Con
open Go.RowKit Go.Maps

theorem K2.begin {α β : Type} {E : El α} {G : El β} {ad : α → Option Addr} {ro : α → List β} {w0 V : World} {base : Nat} {u : Value} {m : List β} (h : OW G V base u m) (hb : Below base w0 V) (ht : base ≤ V.heap.size) : K2 E G ad ro w0 V base (.slice none 0 0) u [] m :=
  ⟨KO.nil V base, h, fun _ hk => (by cases hk), fun x hx => (by cases hx), hb, ht⟩
theorem drop_next {l : List Co} {k : Nat} {x : Co} (hx : l[k]? = some x) : (l.drop k).map Co.pl = x.pl :: (l.drop (k + 1)).map Co.pl := by
  obtain ⟨h, rfl⟩ := List.getElem?_eq_some_iff.1 hx
  rw [List.drop_eq_getElem_cons h]; rfl
theorem gp_copy {l : List Co} {k : Nat} {x : Co} {M : List Co} {id : Int} {Q : List Int} {pt : Bool} {R : List Cp} (h : M.map Co.pl ++ gP id Q pt ((l.drop k).map Co.pl) = R) (hx : l[k]? = some x) (A : Option Addr) (c : Nat) {lm : List Int} (e : lm = [] ++ x.bk) (hs : pt = true ∨ x.id < id) (hne : ¬ x.id = id) : (M ++ [(⟨x.id, A, lm, c⟩ : Co)]).map Co.pl ++ gP id Q pt ((l.drop (k + 1)).map Co.pl) = R := by
  rw [← h, drop_next hx, e]
  cases pt with
  | true => simp [gP, Co.pl, hne]
  | false => have : x.id < id := hs.elim (fun h => by cases h) (fun h => h); simp [gP, Co.pl, this]
theorem gp_skipR {l : List Co} {k : Nat} {x : Co} {M : List Co} {id : Int} {Q : List Int} {R : List Cp} (h : M.map Co.pl ++ gP id Q true ((l.drop k).map Co.pl) = R) (hx : l[k]? = some x) (e : x.id = id) : M.map Co.pl ++ gP id Q true ((l.drop (k + 1)).map Co.pl) = R := by
  rw [← h, drop_next hx]; simp [gP, Co.pl, e]
theorem gp_putR {l : List Co} {k : Nat} {x : Co} {M : List Co} {id : Int} {Q : List Int} {R : List Cp} (h : M.map Co.pl ++ gP id Q false ((l.drop k).map Co.pl) = R) (hx : l[k]? = some x) (e : ¬ x.id < id) : ∀ {A : Option Addr} {c : Nat} M', M' = M ++ [(⟨id, A, Q, c⟩ : Co)] → M'.map Co.pl ++ gP id Q true ((l.drop k).map Co.pl) = R := by
  rintro A c _ rfl
  rw [← h, drop_next hx]; simp [gP, Co.pl, e]
theorem last_at {P : List Int} {y : Int} (h : P[P.length - 1]? = some y) (now : Int) : P.getLastD now = y := by
  rw [List.getLastD_eq_getLast?, List.getLast?_eq_getElem?, h]; rfl

set_option maxRecDepth 20000 in
set_option maxHeartbeats 8000000 in
theorem ruse_w4 {w : World} {B : Nat} {A : Option Addr} {l : List Co} {n cp : Nat} (a : Abl) (now : Int) (hch : Fits a.charges) (hco : Fits a.cool) (hnow : Fits now) (hfl : ∀ x ∈ l, FCo x) (hn : l.length = n) (hl : (n : Int) ≤ 100000) (hbk : ∀ x ∈ l, x.bk.length ≤ 1000) (hr : KRc w B A l) (hB : B ≤ w.heap.size) (hub : usB (l.map Co.pl) a.id a.charges now) (hc : ¬ 0 < a.cool) (hp : ¬ (wyI (l.map Co.pl) a.id now).length = 0) :
    Calls Try.prog 11 #[.slice A n cp, ablv a, .int .i64 now] w (UsO w true (usL (l.map Co.pl) a.id a.cool now)) := by
  subst hn
  have hn : l.length = l.length := rfl
  have HGP : Hid (∀ Q, nbI (wyI (l.map Co.pl) a.id now) a.cool now = Q → gP a.id Q (decide (Q.length = 0)) (l.map Co.pl) = usL (l.map Co.pl) a.id a.cool now) := Lib.hid (fun Q hQ => by rw [gP_put hub.1, ← hQ]; rfl)
  obtain ⟨R, hR⟩ : ∃ R, usL (l.map Co.pl) a.id a.cool now = R := ⟨_, rfl⟩
  rw [hR] at HGP ⊢
  clear hR
  have HNOW := Lib.hid hnow; have HFC := Lib.hid hco; have HFL := Lib.hid hfl
  clear hnow hco hfl
  have hb := below_box w (oAbl a)
  have HX := Lib.hid hb
  obtain ⟨rb, hrb⟩ : ∃ rb : Bool, rb = true ↔ RtC (l.map Co.pl) := ⟨@decide (RtC (l.map Co.pl)) (Classical.propDecidable _), by simp⟩
  have HRt : Hid (∀ V, Below w.heap.size w V → Calls Try.prog 18 #[.slice A l.length cp] V fun e w' => e = .returned (.bool rb) ∧ Below V.heap.size V w') := Lib.hid (fun V hV => rright_any hn (by omega) hbk (hr.below hV hB) (Nat.le_trans hB hV.size) rb hrb)
  have HAw : Hid (∀ V, Below w.heap.size w V → Calls Try.prog 29 #[.slice A l.length cp, .int .i64 a.id, .int .i64 now] V (NuO V (wyI (l.map Co.pl) a.id now))) := Lib.hid (fun V hV => raway_any a.id now hn (by omega) hbk (hr.below hV hB) (Nat.le_trans hB hV.size))
  have HRd : Hid (∀ V, Below w.heap.size w V → Calls Try.prog 20 #[.slice A l.length cp, ablv a, .int .i64 now] V fun e w' => e = .returned (.int .i64 (rdI a.charges (wyI (l.map Co.pl) a.id now).length)) ∧ Below V.heap.size V w') := Lib.hid (fun V hV => rready_any a now hch hn (by omega) hbk (hr.below hV hB) (Nat.le_trans hB hV.size))
  have HCp : Hid (∀ V, Below w.heap.size w V → Calls Try.prog 9 #[.slice A l.length cp] V (CoO V (l.map Co.pl))) := Lib.hid (fun V hV => rcopy_any hn (by omega) hbk (hr.below hV hB) (Nat.le_trans hB hV.size))
  have HR := Lib.hid hr; have HB0 := Lib.hid hB; have HBK := Lib.hid hbk; have HN := Lib.hid hn
  have HRB := Lib.hid hrb
  obtain ⟨P, hP⟩ : ∃ P, wyI (l.map Co.pl) a.id now = P := ⟨_, rfl⟩
  have HP := Lib.hid hP
  obtain ⟨r, hr1⟩ : ∃ r, rdI a.charges P.length = r := ⟨_, rfl⟩
  have HRe := Lib.hid hr1
  unfold usB at hub
  rw [hP] at hub HRd
  rw [hr1] at HRd
  rw [hP] at hp
  clear hr hB hbk hch hn hrb hP hr1
  have HZ : Hid (∀ wz, Below (w.alloc (oAbl a)).heap.size (w.alloc (oAbl a)) wz → w.heap.size < wz.heap.size ∧ wz.heap[w.heap.size]? = some (oAbl a) ∧ wz.cell? ⟨w.heap.size, 0, none⟩ = some (.int .i64 a.id) ∧ wz.cell? ⟨w.heap.size, 2, none⟩ = some (.int .i64 a.cool) ∧ wz.cell? ⟨w.heap.size, 3, none⟩ = some (.int .i64 a.charges)) := Lib.hid (fun wz h => box_abl h)
  go_enter Try.func11, Try.ntmps11
  have HB1 := Lib.hid (Below.refl (w.alloc (oAbl a)).heap.size (w.alloc (oAbl a)))
  have zb := cellsAbl (HZ.out _ HB1.out).2.1
  have lb := (HZ.out _ HB1.out).1
  have HRtN := Lib.hid (HRt.out _ HX.out)
  have HFM : Hid (∀ y ∈ P, Fits y) := Lib.hid (fun y hy => by
    rw [← HP.out] at hy
    have hy2 := aw_in hy
    obtain ⟨x, hx, hq⟩ := List.mem_map.1 (bk_in (l := l.map Co.pl) (id := a.id) (by have := List.length_pos_of_mem hy2; omega))
    injection hq with _ q
    exact (HFL.out x hx).2 y (by rw [q]; exact hy2))
  obtain ⟨hu1, hu2, hu3, hu4⟩ := hub
  have hrbt : rb = true := HRB.out.2 hu1
  subst hrbt
  have hr0 : ¬ r = 0 := fun e => by have q := HRe.out; unfold rdI at q; rw [if_pos hu3] at q; omega
  have h2b : (r == 0) = false := by simpa using hr0
  have h2c : decide (r = 0) = false := by simpa using hr0
  have h3c : decide (a.id < 1) = false := by simp; omega
  have h4c : decide ((100 : Int) ≤ (P.length : Int)) = false := decide_eq_false (by omega)
  clear hu1 hr0 HRe
  have HL1 : Hid (∀ y : Int, P.length + [y].length ≤ 1000000) := Lib.hid (fun y => by simp; omega)
  have hc' : decide (0 < a.cool) = false := by simpa using hc
  have HG0 : Hid (([] : List Co).map Co.pl ++ gP a.id P false ((l.drop 0).map Co.pl) = R) := Lib.hid (by have h := HGP.out P (by rw [HP.out]; unfold nbI; rw [if_neg hc]); rw [decide_eq_false hp] at h; exact h)
  have hP0' : ((P.length : Int) == 0) = false := beq_eq_false_iff_ne.2 (by omega)
  go_wp2_with (first
    | ((with_reducible refine HRtN.out.mono ?_); rintro e w2 ⟨rfl, hB⟩; have HB2 := Lib.hid (HB1.out.trans (hB.mono HB1.out.size)); clear zb lb; have zb := cellsAbl (HZ.out w2 HB2.out).2.1; have lb := (HZ.out w2 HB2.out).1; clear hB; have HRdN := Lib.hid (HRd.out w2 (HX.out.trans (HB2.out.mono HX.out.size))))
    | ((with_reducible refine HRdN.out.mono ?_); rintro e w3 ⟨rfl, hB⟩; have HB3 := Lib.hid (HB2.out.trans (hB.mono HB2.out.size)); clear zb lb; have zb := cellsAbl (HZ.out w3 HB3.out).2.1; have lb := (HZ.out w3 HB3.out).1; clear hB; have HAwN := Lib.hid (HAw.out w3 (HX.out.trans (HB3.out.mono HX.out.size))))
    | ((with_reducible refine HAwN.out.mono ?_); rintro e w4 ⟨Ab, cb, lm, rfl, hlm, hO, hBo⟩; have HB4 := Lib.hid (HB3.out.trans (hBo.out.mono HB3.out.size)); clear zb lb; have zb := cellsAbl (HZ.out w4 HB4.out).2.1; have lb := (HZ.out w4 HB4.out).1; have HQ := Lib.hid (hlm.out.trans HP.out); have hq := HQ.out; subst hq; clear hO hlm HQ; have HAwN := Lib.hid (HAw.out w4 (HX.out.trans (HB4.out.mono HX.out.size))))
    | ((with_reducible refine HAwN.out.mono ?_); rintro e w5 ⟨Ab, cb, lm, rfl, hlm, hO, hBo⟩; have HB5 := Lib.hid (HB4.out.trans (hBo.out.mono HB4.out.size)); clear zb lb; have zb := cellsAbl (HZ.out w5 HB5.out).2.1; have lb := (HZ.out w5 HB5.out).1; have HQ := Lib.hid (hlm.out.trans HP.out); have hq := HQ.out; subst hq; have HO5 := Lib.hid (hO.out.mono HB4.out.size); have HT5 : Hid (K2c (w.alloc (oAbl a)) w5 (w.alloc (oAbl a)).heap.size (.slice none 0 0) (.slice Ab lm.length cb) [] lm) := Lib.hid (K2.begin HO5.out HB5.out HB5.out.size)))
  clear zb lb
  go_loopg [11, 12, 13] l.length (fun gh s11 s12 s13 wr => ∃ (k : Nat) (A1 : Option Addr) (c1 : Nat) (M : List Co) (pt : Bool) (u : Value) (m : List Int), k ≤ l.length ∧ gh = l.length - k ∧ s13 = .int .i64 k ∧ s12 = .bool pt ∧ s11 = .slice A1 M.length c1 ∧ Hid (M.length ≤ 2 * k) ∧ Hid (M.map Co.pl ++ gP a.id lm pt ((l.drop k).map Co.pl) = R) ∧ Hid (pt = false → u = .slice Ab lm.length cb ∧ m = lm) ∧ Hid (K2c (w.alloc (oAbl a)) wr (w.alloc (oAbl a)).heap.size (.slice A1 M.length c1) u M m))
  case atStart => exact ⟨0, none, 0, [], false, _, _, by omega, rfl, rfl, rfl, rfl, Lib.hid (Nat.zero_le _), HG0, Lib.hid (fun _ => ⟨rfl, rfl⟩), HT5⟩
  case round =>
    obtain ⟨k, A1, c1, M, pt, u, m, hk, rfl, rfl, rfl, rfl, HMk, HG, HPT, HTW⟩ := hrel
    by_cases hlt : k < l.length
    · obtain ⟨x, hx⟩ : ∃ x, l[k]? = some x := ⟨_, List.getElem?_eq_getElem hlt⟩
      have HXk := Lib.hid hx
      have hlt' : (k : Int) < l.length := by omega
      have HI : Hid (RW nu w w.heap.size x.ba x.bk) := Lib.hid ((HR.out.inner hx).more HB0.out)
      have HLx : Hid (([] : List Int).length + x.bk.length ≤ 1000000) := Lib.hid (by have := HBK.out x (List.mem_of_getElem? hx); simp; omega)
      have HWb := Lib.hid (HX.out.trans (HTW.out.below.mono HX.out.size))
      obtain ⟨b, off, hAA, hbB, _⟩ := HR.out.1.at' hx
      have HBW : Hid (b < w.heap.size) := Lib.hid (Nat.lt_of_lt_of_le hbB HB0.out)
      obtain ⟨b9, off9, hAA9, hpl, c0, c1'⟩ := rowCo HR.out HXk.out HWb.out HB0.out
      subst hAA
      injection hAA9 with hAA9; injection hAA9 with q8 q9
      subst q8; subst q9
      have zb := cellsAbl (HZ.out _ HTW.out.below).2.1
      have lb := (HZ.out _ HTW.out.below).1
      clear hx hbB
      cases pt with
      | true =>
        go_wp2
        go_quiet (fail)
        have HTa := Lib.hid (HTW.out.of (below_drewN (Below.refl _ _) nq))
        generalize wr.drewN nq = wa at *
        clear zb lb c0 c1' hpl HWb
        have HWb := Lib.hid (HX.out.trans (HTa.out.below.mono HX.out.size))
        obtain ⟨b9, off9, hAA9, hpl, c0, c1'⟩ := rowCo HR.out HXk.out HWb.out HB0.out
        injection hAA9 with hAA9; injection hAA9 with q8 q9
        subst q8; subst q9
        have zb := cellsAbl (HZ.out _ HTa.out.below).2.1
        have lb := (HZ.out _ HTa.out.below).1
        by_cases hid : x.id = a.id
        · have hid' : decide (x.id = a.id) = true := by simpa using hid
          have hid'' : (x.id == a.id) = true := by simpa using hid
          go_wp2
          go_quiet (fail)
          have HT1 := Lib.hid (HTa.out.of (below_drewN (Below.refl _ _) nq))
          generalize wa.drewN nq = w1 at *
          clear zb lb c0 c1' hpl HWb
          go_wp2
          go_roundg (l.length - (k + 1))
          case measure => omega
          case rel => exact ⟨k + 1, A1, c1, M, true, u, m, by omega, rfl, by go_num, rfl, rfl, Lib.hid (by have := HMk.out; omega), Lib.hid (gp_skipR HG.out HXk.out hid), Lib.hid (fun h => by cases h), HT1⟩
        · have hid' : decide (x.id = a.id) = false := by simpa using hid
          have hid'' : (x.id == a.id) = false := by simpa using hid
          go_wp2
          go_quiet (fail)
          have HT1 := Lib.hid (HTa.out.of (below_drewN (Below.refl _ _) nq))
          generalize wa.drewN nq = w1 at *
          clear zb lb c0 c1' hpl HWb
          go_wp2
          have HW1 := Lib.hid (HX.out.trans (HT1.out.below.mono HX.out.size))
          have HBV : Hid (b < (w.alloc (oAbl a)).heap.size) := Lib.hid (Nat.lt_of_lt_of_le HBW.out HX.out.size)
          have HBL : Hid (b < w1.heap.size) := Lib.hid (Nat.lt_of_lt_of_le HBV.out HT1.out.top)
          have hd0 := (rowCo HR.out HXk.out HW1.out HB0.out)
          obtain ⟨b', off', hAA, _, k0, k1⟩ := hd0
          injection hAA with hAA; injection hAA with q1 q2
          subst q1; subst q2
          have HZc : Hid (∀ wz, Kep w1 b wz → wz.cell? ⟨b, off + k * 2, none⟩ = some (.int .i64 x.id) ∧ wz.cell? ⟨b, off + k * 2 + 1, none⟩ = some (.slice x.ba x.bk.length x.bc)) := Lib.hid (fun wz e => ⟨(World.cell?_of_block (w := w1) e).trans k0, (World.cell?_of_block (w := w1) e).trans k1⟩)
          have HL2 : Hid (∀ y : Co, M.length + [y].length ≤ 1000000) := Lib.hid (fun y => by have := HMk.out; simp; omega)
          clear k0 k1
          have hD0 : Below w1.heap.size w1 w1.drew := (Below.refl _ _).drew
          have hS0 : Kep w1 b w1.drew := hD0.block b HBL.out
          refine wp_region_noPanic ?_
          refine wp_region_held_drew (S := fun w' => Kep w1 b w') (by kernel_rfl) hS0 (fun _ => ?_)
          generalize w1.drew = v0 at hD0 hS0 ⊢
          refine wpAnyH_take (i := 0) (oi := ⟨some 102, Op.move (Operand.tmp 11), 22, _, _, none⟩) (v := ?vb0) rfl (by kernel_rfl) (by kernel_rfl) (by kernel_rfl) (fun _ _ _ h => h) (Or.inl ⟨by rfl, ?hb0⟩) hS0 ?rb0
          case hb0 => (intro wz hSw; go_simp <;> with_reducible rfl)
          (try simp only [Act.put, List.setIfInBounds_toArray, List.set_cons_zero, List.set_cons_succ])
          refine wpAnyH_take (i := 1) (oi := ⟨some 103, Op.move (Operand.tmp 0), 22, _, _, none⟩) (v := ?vb1) rfl (by kernel_rfl) (by kernel_rfl) (by kernel_rfl) (fun _ _ _ h => h) (Or.inl ⟨by rfl, ?hb1⟩) hS0 ?rb1
          case hb1 => (intro wz hSw; go_simp <;> with_reducible rfl)
          (try simp only [Act.put, List.setIfInBounds_toArray, List.set_cons_zero, List.set_cons_succ])
          refine wpAnyH_take (i := 2) (oi := ⟨some 104, Op.move (Operand.tmp 13), 3, _, _, none⟩) (v := ?vb2) rfl (by kernel_rfl) (by kernel_rfl) (by kernel_rfl) (fun _ _ _ h => h) (Or.inl ⟨by rfl, ?hb2⟩) hS0 ?rb2
          case hb2 => (intro wz hSw; go_simp <;> with_reducible rfl)
          (try simp only [Act.put, List.setIfInBounds_toArray, List.set_cons_zero, List.set_cons_succ])
          refine wpAnyH_take (i := 3) (oi := ⟨some 105, Op.indexAddr 22 (Operand.tmp 103) (Operand.tmp 104), 0, _, _, none⟩) (v := ?vb3) rfl (by kernel_rfl) (by kernel_rfl) (by kernel_rfl) (fun _ _ _ h => h) (Or.inl ⟨by rfl, ?hb3⟩) hS0 ?rb3
          case hb3 => (intro wz hSw; go_simp <;> with_reducible rfl)
          (try simp only [Act.put, List.setIfInBounds_toArray, List.set_cons_zero, List.set_cons_succ])
          refine wpAnyH_take (i := 4) (oi := ⟨some 106, Op.fieldAddr 35 (Operand.tmp 105) 0, 0, _, _, none⟩) (v := ?vb4) rfl (by kernel_rfl) (by kernel_rfl) (by kernel_rfl) (fun _ _ _ h => h) (Or.inl ⟨by rfl, ?hb4⟩) hS0 ?rb4
          case hb4 => (intro wz hSw; go_simp <;> with_reducible rfl)
          (try simp only [Act.put, List.setIfInBounds_toArray, List.set_cons_zero, List.set_cons_succ])
          refine wpAnyH_take (i := 5) (oi := ⟨some 107, Op.load 3 (Operand.tmp 106), 3, _, _, none⟩) (v := ?vb5) rfl (by kernel_rfl) (by kernel_rfl) (by kernel_rfl) (fun _ _ _ h => h) (Or.inl ⟨by rfl, ?hb5⟩) hS0 ?rb5
          case hb5 => (intro wz hSw; obtain ⟨z0, z1⟩ := HZc.out wz hSw; go_simp <;> with_reducible rfl)
          (try simp only [Act.put, List.setIfInBounds_toArray, List.set_cons_zero, List.set_cons_succ])
          refine wpAnyH_take (i := 7) (oi := ⟨some 109, Op.move (Operand.tmp 0), 22, _, _, none⟩) (v := ?vb7) rfl (by kernel_rfl) (by kernel_rfl) (by kernel_rfl) (fun _ _ _ h => h) (Or.inl ⟨by rfl, ?hb7⟩) hS0 ?rb7
          case hb7 => (intro wz hSw; go_simp <;> with_reducible rfl)
          (try simp only [Act.put, List.setIfInBounds_toArray, List.set_cons_zero, List.set_cons_succ])
          refine wpAnyH_take (i := 8) (oi := ⟨some 110, Op.move (Operand.tmp 13), 3, _, _, none⟩) (v := ?vb8) rfl (by kernel_rfl) (by kernel_rfl) (by kernel_rfl) (fun _ _ _ h => h) (Or.inl ⟨by rfl, ?hb8⟩) hS0 ?rb8
          case hb8 => (intro wz hSw; go_simp <;> with_reducible rfl)
          (try simp only [Act.put, List.setIfInBounds_toArray, List.set_cons_zero, List.set_cons_succ])
          refine wpAnyH_take (i := 9) (oi := ⟨some 111, Op.indexAddr 22 (Operand.tmp 109) (Operand.tmp 110), 0, _, _, none⟩) (v := ?vb9) rfl (by kernel_rfl) (by kernel_rfl) (by kernel_rfl) (fun _ _ _ h => h) (Or.inl ⟨by rfl, ?hb9⟩) hS0 ?rb9
          case hb9 => (intro wz hSw; go_simp <;> with_reducible rfl)
          (try simp only [Act.put, List.setIfInBounds_toArray, List.set_cons_zero, List.set_cons_succ])
          refine wpAnyH_take (i := 10) (oi := ⟨some 112, Op.fieldAddr 35 (Operand.tmp 111) 1, 0, _, _, none⟩) (v := ?vb10) rfl (by kernel_rfl) (by kernel_rfl) (by kernel_rfl) (fun _ _ _ h => h) (Or.inl ⟨by rfl, ?hb10⟩) hS0 ?rb10
          case hb10 => (intro wz hSw; go_simp <;> with_reducible rfl)
          (try simp only [Act.put, List.setIfInBounds_toArray, List.set_cons_zero, List.set_cons_succ])
          refine wpAnyH_take (i := 11) (oi := ⟨some 113, Op.load 33 (Operand.tmp 112), 33, _, _, none⟩) (v := ?vb11) rfl (by kernel_rfl) (by kernel_rfl) (by kernel_rfl) (fun _ _ _ h => h) (Or.inl ⟨by rfl, ?hb11⟩) hS0 ?rb11
          case hb11 => (intro wz hSw; obtain ⟨z0, z1⟩ := HZc.out wz hSw; go_simp <;> with_reducible rfl)
          (try simp only [Act.put, List.setIfInBounds_toArray, List.set_cons_zero, List.set_cons_succ])
          refine wpAnyH_ready (rs := [6]) (by kernel_rfl) (by simp) ?_
          refine AllReadyH.cons (o := ⟨some 108, Op.buildSlice 33 0 #[], 33, _, _, none⟩) rfl (fun K hK => ?_) AllReadyH.nil
          go_simp
          have hA1 := below_box v0 (.cells #[] 3); have hK1 : Kep w1 b (v0.alloc (.cells #[] 3)) := (hA1.block b (Nat.lt_of_lt_of_le HBL.out hD0.size)).trans hS0; have hO1 : OW nu (v0.alloc (.cells #[] 3)) v0.heap.size (.slice (some ⟨v0.heap.size, 0, none⟩) 0 0) [] := OW.room nu v0; have hT1 := HT1.out.of hD0
          refine hK.out _ _ hK1 (fun _ => ?_)
          clear hK K
          (try simp only [Act.put, List.setIfInBounds_toArray, List.set_cons_zero, List.set_cons_succ])
          refine wpAnyH_ready (rs := [12]) (by kernel_rfl) (by simp) ?_
          refine AllReadyH.cons (o := ⟨some 114, Op.call { callee := Callee.builtin Builtin.append, args := #[Operand.tmp 108, Operand.tmp 113], argTypes := #[33, 33] }, 33, _, _, none⟩) rfl (fun K hK => ?_) AllReadyH.nil
          refine step_app nu rfl 33 rfl (.tmp 108) (.tmp 113) rfl v0.heap.size w.heap.size (.slice (some ⟨v0.heap.size, 0, none⟩) 0 0) [] x.bk x.ba x.bc x.bk.length rfl (by simp [Act.eval]) (by simp [Act.eval]) hO1 (HI.out.below ((HW1.out.trans (hD0.mono HW1.out.size)).trans (hA1.mono (Nat.le_trans HW1.out.size hD0.size))) (Nat.le_refl _)) HLx.out hA1.size ?_
          intro A3 c3 v2 lq nl hlq hnl hO hG hW; have HLq := Lib.hid hlq; clear hlq; subst hnl; have hB2 : Below v0.heap.size v0 v2 := below_app hA1 hG (fun j hj => (hO1.lt hj).1); have hK2 : Kep w1 b v2 := (hB2.block b (Nat.lt_of_lt_of_le HBL.out hD0.size)).trans hS0; have hT2 := hT1.of hB2
          refine hK.out _ _ hK2 (fun _ => ?_)
          clear hK K
          (try simp only [Act.put, List.setIfInBounds_toArray, List.set_cons_zero, List.set_cons_succ])
          refine wpAnyH_take (i := 13) (oi := ⟨some 115, Op.build 35 #[(0, Operand.tmp 107), (1, Operand.tmp 114)], 35, _, _, none⟩) (v := ?vb13) rfl (by kernel_rfl) (by kernel_rfl) (by kernel_rfl) (fun _ _ _ h => h) (Or.inl ⟨by rfl, ?hb13⟩) hK2 ?rb13
          case hb13 => (intro wz hSw; go_simp <;> with_reducible rfl)
          (try simp only [Act.put, List.setIfInBounds_toArray, List.set_cons_zero, List.set_cons_succ])
          refine wpAnyH_ready (rs := [14]) (by kernel_rfl) (by simp) ?_
          refine AllReadyH.cons (o := ⟨some 116, Op.buildSlice 22 1 #[(0, Operand.tmp 115)], 22, _, _, none⟩) rfl (fun K hK => ?_) AllReadyH.nil
          go_simp
          have hA3 := below_box v2 (.cells #[.int .i64 x.id, .slice A3 lq.length c3] 35); have hK3 : Kep w1 b (v2.alloc (.cells #[.int .i64 x.id, .slice A3 lq.length c3] 35)) := (hA3.block b (Nat.lt_of_lt_of_le HBL.out (Nat.le_trans hD0.size hB2.size))).trans hK2; have hT3 := hT2.of hA3; have hRW : RW co (v2.alloc (.cells #[.int .i64 x.id, .slice A3 lq.length c3] 35)) (v2.heap.size + 1) (some ⟨v2.heap.size, 0, none⟩) [⟨x.id, A3, lq, c3⟩] := rw_at co _ _ _ _ _ rfl rfl rfl; have hPW : PW nu (v2.alloc (.cells #[.int .i64 x.id, .slice A3 lq.length c3] 35)) (w.alloc (oAbl a)).heap.size A3 lq := ((OW.pw hO).mono hT1.top).of hA3; have hNE : lq ≠ [] → ∀ q, (Value.slice A1 M.length c1).ownBlock = some q ∨ u.ownBlock = some q → blk A3 ≠ some q := (fun hr q hq e => by obtain ⟨g, hg, hg2, _⟩ := (OW.pw hO).lt' hr; have h5 : q < v0.heap.size := (hq.elim (fun h => (hT1.a.own.lt h).2) (fun h => (hT1.b.lt h).2)); rw [hg] at e; injection e with e; omega)
          refine hK.out _ _ hK3 (fun _ => ?_)
          clear hK K
          (try simp only [Act.put, List.setIfInBounds_toArray, List.set_cons_zero, List.set_cons_succ])
          refine wpAnyH_ready (rs := [15]) (by kernel_rfl) (by simp) ?_
          refine AllReadyH.cons (o := ⟨some 117, Op.call { callee := Callee.builtin Builtin.append, args := #[Operand.tmp 102, Operand.tmp 116], argTypes := #[22, 22] }, 22, _, _, none⟩) rfl (fun K hK => ?_) AllReadyH.nil
          refine step_app co rfl 22 rfl (.tmp 102) (.tmp 116) rfl (w.alloc (oAbl a)).heap.size (v2.heap.size + 1) (.slice A1 M.length c1) M [⟨x.id, A3, lq, c3⟩] (some ⟨v2.heap.size, 0, none⟩) 1 1 rfl (by simp [Act.eval]) (by simp [Act.eval]) hT3.a.own hRW (HL2.out _) hT3.top ?_
          intro A4 c4 v4 lm4 nl4 hlm4 hnl4 hO4 hG4 hW4; subst hnl4; have HM4 := Lib.hid hlm4; have hT4 : K2c (w.alloc (oAbl a)) v4 (w.alloc (oAbl a)).heap.size (.slice A4 lm4.length c4) u lm4 m := (by subst hlm4; exact hT3.put (x := ⟨x.id, A3, lq, c3⟩) hPW hNE hG4 hO4 hW4); have hK4 : Kep w1 b v4 := (hG4.block b (Nat.lt_of_lt_of_le HBL.out (Nat.le_trans hD0.size (Nat.le_trans hB2.size hA3.size))) (fun e => by have := (hT3.a.own.lt e.symm).1; have := HBV.out; omega)).trans hK3
          refine hK.out _ _ hK4 (fun _ => ?_)
          clear hK K
          (try simp only [Act.put, List.setIfInBounds_toArray, List.set_cons_zero, List.set_cons_succ])
          refine wpAnyH_take (i := 16) (oi := ⟨some 11, Op.assign (Operand.tmp 117), 22, _, _, none⟩) (v := ?vb16) rfl (by kernel_rfl) (by kernel_rfl) (by kernel_rfl) (fun _ _ _ h => h) (Or.inl ⟨by rfl, ?hb16⟩) hK4 ?rb16
          case hb16 => (intro wz hSw; go_simp <;> with_reducible rfl)
          (try simp only [Act.put, List.setIfInBounds_toArray, List.set_cons_zero, List.set_cons_succ])
          refine wpAnyH_done (by kernel_rfl) ?_ _
          refine NoPanic.normal ?_
          have HT4 := Lib.hid hT4
          clear hlm4 hO4 hW4 hT4 hK4 hG4 hT3 hK3 hA3 hRW hPW hNE hT2 hB2 hK2 hG hO hW hT1 hO1 hK1 hA1 hS0 hD0
          go_wp2
          go_roundg (l.length - (k + 1))
          case measure => omega
          case rel => exact ⟨k + 1, A4, c4, lm4, true, u, m, by omega, rfl, by go_num, rfl, (by first | rfl | (rw [HM4.out]; simp)), Lib.hid (by have := HMk.out; rw [HM4.out]; simp; omega), Lib.hid (by rw [HM4.out]; exact gp_copy HG.out HXk.out _ _ HLq.out (.inl rfl) (hid)), Lib.hid (fun h => by cases h), HT4⟩
      | false =>
        obtain ⟨hu', hm'⟩ := HPT.out rfl
        subst u; subst m
        by_cases hle : x.id < a.id
        · have hle' : decide (a.id ≤ x.id) = false := by simp; omega
          have hid : ¬ x.id = a.id := by omega
          have hid' : decide (x.id = a.id) = false := by simpa using hid
          have hid'' : (x.id == a.id) = false := by simpa using hid
          go_wp2
          go_quiet (fail)
          have HTa := Lib.hid (HTW.out.of (below_drewN (Below.refl _ _) nq))
          generalize wr.drewN nq = wa at *
          clear zb lb c0 c1' hpl HWb
          have HWb := Lib.hid (HX.out.trans (HTa.out.below.mono HX.out.size))
          obtain ⟨b9, off9, hAA9, hpl, c0, c1'⟩ := rowCo HR.out HXk.out HWb.out HB0.out
          injection hAA9 with hAA9; injection hAA9 with q8 q9
          subst q8; subst q9
          have zb := cellsAbl (HZ.out _ HTa.out.below).2.1
          have lb := (HZ.out _ HTa.out.below).1
          go_wp2
          go_quiet (fail)
          have HT1 := Lib.hid (HTa.out.of (below_drewN (Below.refl _ _) nq))
          generalize wa.drewN nq = w1 at *
          clear zb lb c0 c1' hpl HWb
          go_wp2
          have HW1 := Lib.hid (HX.out.trans (HT1.out.below.mono HX.out.size))
          have HBV : Hid (b < (w.alloc (oAbl a)).heap.size) := Lib.hid (Nat.lt_of_lt_of_le HBW.out HX.out.size)
          have HBL : Hid (b < w1.heap.size) := Lib.hid (Nat.lt_of_lt_of_le HBV.out HT1.out.top)
          have hd0 := (rowCo HR.out HXk.out HW1.out HB0.out)
          obtain ⟨b', off', hAA, _, k0, k1⟩ := hd0
          injection hAA with hAA; injection hAA with q1 q2
          subst q1; subst q2
          have HZc : Hid (∀ wz, Kep w1 b wz → wz.cell? ⟨b, off + k * 2, none⟩ = some (.int .i64 x.id) ∧ wz.cell? ⟨b, off + k * 2 + 1, none⟩ = some (.slice x.ba x.bk.length x.bc)) := Lib.hid (fun wz e => ⟨(World.cell?_of_block (w := w1) e).trans k0, (World.cell?_of_block (w := w1) e).trans k1⟩)
          have HL2 : Hid (∀ y : Co, M.length + [y].length ≤ 1000000) := Lib.hid (fun y => by have := HMk.out; simp; omega)
          clear k0 k1
          have hD0 : Below w1.heap.size w1 w1.drew := (Below.refl _ _).drew
          have hS0 : Kep w1 b w1.drew := hD0.block b HBL.out
          refine wp_region_noPanic ?_
          refine wp_region_held_drew (S := fun w' => Kep w1 b w') (by kernel_rfl) hS0 (fun _ => ?_)
          generalize w1.drew = v0 at hD0 hS0 ⊢
          refine wpAnyH_take (i := 0) (oi := ⟨some 102, Op.move (Operand.tmp 11), 22, _, _, none⟩) (v := ?vc0) rfl (by kernel_rfl) (by kernel_rfl) (by kernel_rfl) (fun _ _ _ h => h) (Or.inl ⟨by rfl, ?hc0⟩) hS0 ?rc0
          case hc0 => (intro wz hSw; go_simp <;> with_reducible rfl)
          (try simp only [Act.put, List.setIfInBounds_toArray, List.set_cons_zero, List.set_cons_succ])
          refine wpAnyH_take (i := 1) (oi := ⟨some 103, Op.move (Operand.tmp 0), 22, _, _, none⟩) (v := ?vc1) rfl (by kernel_rfl) (by kernel_rfl) (by kernel_rfl) (fun _ _ _ h => h) (Or.inl ⟨by rfl, ?hc1⟩) hS0 ?rc1
          case hc1 => (intro wz hSw; go_simp <;> with_reducible rfl)
          (try simp only [Act.put, List.setIfInBounds_toArray, List.set_cons_zero, List.set_cons_succ])
          refine wpAnyH_take (i := 2) (oi := ⟨some 104, Op.move (Operand.tmp 13), 3, _, _, none⟩) (v := ?vc2) rfl (by kernel_rfl) (by kernel_rfl) (by kernel_rfl) (fun _ _ _ h => h) (Or.inl ⟨by rfl, ?hc2⟩) hS0 ?rc2
          case hc2 => (intro wz hSw; go_simp <;> with_reducible rfl)
          (try simp only [Act.put, List.setIfInBounds_toArray, List.set_cons_zero, List.set_cons_succ])
          refine wpAnyH_take (i := 3) (oi := ⟨some 105, Op.indexAddr 22 (Operand.tmp 103) (Operand.tmp 104), 0, _, _, none⟩) (v := ?vc3) rfl (by kernel_rfl) (by kernel_rfl) (by kernel_rfl) (fun _ _ _ h => h) (Or.inl ⟨by rfl, ?hc3⟩) hS0 ?rc3
          case hc3 => (intro wz hSw; go_simp <;> with_reducible rfl)
          (try simp only [Act.put, List.setIfInBounds_toArray, List.set_cons_zero, List.set_cons_succ])
          refine wpAnyH_take (i := 4) (oi := ⟨some 106, Op.fieldAddr 35 (Operand.tmp 105) 0, 0, _, _, none⟩) (v := ?vc4) rfl (by kernel_rfl) (by kernel_rfl) (by kernel_rfl) (fun _ _ _ h => h) (Or.inl ⟨by rfl, ?hc4⟩) hS0 ?rc4
          case hc4 => (intro wz hSw; go_simp <;> with_reducible rfl)
          (try simp only [Act.put, List.setIfInBounds_toArray, List.set_cons_zero, List.set_cons_succ])
          refine wpAnyH_take (i := 5) (oi := ⟨some 107, Op.load 3 (Operand.tmp 106), 3, _, _, none⟩) (v := ?vc5) rfl (by kernel_rfl) (by kernel_rfl) (by kernel_rfl) (fun _ _ _ h => h) (Or.inl ⟨by rfl, ?hc5⟩) hS0 ?rc5
          case hc5 => (intro wz hSw; obtain ⟨z0, z1⟩ := HZc.out wz hSw; go_simp <;> with_reducible rfl)
          (try simp only [Act.put, List.setIfInBounds_toArray, List.set_cons_zero, List.set_cons_succ])
          refine wpAnyH_take (i := 7) (oi := ⟨some 109, Op.move (Operand.tmp 0), 22, _, _, none⟩) (v := ?vc7) rfl (by kernel_rfl) (by kernel_rfl) (by kernel_rfl) (fun _ _ _ h => h) (Or.inl ⟨by rfl, ?hc7⟩) hS0 ?rc7
          case hc7 => (intro wz hSw; go_simp <;> with_reducible rfl)
          (try simp only [Act.put, List.setIfInBounds_toArray, List.set_cons_zero, List.set_cons_succ])
          refine wpAnyH_take (i := 8) (oi := ⟨some 110, Op.move (Operand.tmp 13), 3, _, _, none⟩) (v := ?vc8) rfl (by kernel_rfl) (by kernel_rfl) (by kernel_rfl) (fun _ _ _ h => h) (Or.inl ⟨by rfl, ?hc8⟩) hS0 ?rc8
          case hc8 => (intro wz hSw; go_simp <;> with_reducible rfl)
          (try simp only [Act.put, List.setIfInBounds_toArray, List.set_cons_zero, List.set_cons_succ])
          refine wpAnyH_take (i := 9) (oi := ⟨some 111, Op.indexAddr 22 (Operand.tmp 109) (Operand.tmp 110), 0, _, _, none⟩) (v := ?vc9) rfl (by kernel_rfl) (by kernel_rfl) (by kernel_rfl) (fun _ _ _ h => h) (Or.inl ⟨by rfl, ?hc9⟩) hS0 ?rc9
          case hc9 => (intro wz hSw; go_simp <;> with_reducible rfl)
          (try simp only [Act.put, List.setIfInBounds_toArray, List.set_cons_zero, List.set_cons_succ])
          refine wpAnyH_take (i := 10) (oi := ⟨some 112, Op.fieldAddr 35 (Operand.tmp 111) 1, 0, _, _, none⟩) (v := ?vc10) rfl (by kernel_rfl) (by kernel_rfl) (by kernel_rfl) (fun _ _ _ h => h) (Or.inl ⟨by rfl, ?hc10⟩) hS0 ?rc10
          case hc10 => (intro wz hSw; go_simp <;> with_reducible rfl)
          (try simp only [Act.put, List.setIfInBounds_toArray, List.set_cons_zero, List.set_cons_succ])
          refine wpAnyH_take (i := 11) (oi := ⟨some 113, Op.load 33 (Operand.tmp 112), 33, _, _, none⟩) (v := ?vc11) rfl (by kernel_rfl) (by kernel_rfl) (by kernel_rfl) (fun _ _ _ h => h) (Or.inl ⟨by rfl, ?hc11⟩) hS0 ?rc11
          case hc11 => (intro wz hSw; obtain ⟨z0, z1⟩ := HZc.out wz hSw; go_simp <;> with_reducible rfl)
          (try simp only [Act.put, List.setIfInBounds_toArray, List.set_cons_zero, List.set_cons_succ])
          refine wpAnyH_ready (rs := [6]) (by kernel_rfl) (by simp) ?_
          refine AllReadyH.cons (o := ⟨some 108, Op.buildSlice 33 0 #[], 33, _, _, none⟩) rfl (fun K hK => ?_) AllReadyH.nil
          go_simp
          have hA1 := below_box v0 (.cells #[] 3); have hK1 : Kep w1 b (v0.alloc (.cells #[] 3)) := (hA1.block b (Nat.lt_of_lt_of_le HBL.out hD0.size)).trans hS0; have hO1 : OW nu (v0.alloc (.cells #[] 3)) v0.heap.size (.slice (some ⟨v0.heap.size, 0, none⟩) 0 0) [] := OW.room nu v0; have hT1 := HT1.out.of hD0
          refine hK.out _ _ hK1 (fun _ => ?_)
          clear hK K
          (try simp only [Act.put, List.setIfInBounds_toArray, List.set_cons_zero, List.set_cons_succ])
          refine wpAnyH_ready (rs := [12]) (by kernel_rfl) (by simp) ?_
          refine AllReadyH.cons (o := ⟨some 114, Op.call { callee := Callee.builtin Builtin.append, args := #[Operand.tmp 108, Operand.tmp 113], argTypes := #[33, 33] }, 33, _, _, none⟩) rfl (fun K hK => ?_) AllReadyH.nil
          refine step_app nu rfl 33 rfl (.tmp 108) (.tmp 113) rfl v0.heap.size w.heap.size (.slice (some ⟨v0.heap.size, 0, none⟩) 0 0) [] x.bk x.ba x.bc x.bk.length rfl (by simp [Act.eval]) (by simp [Act.eval]) hO1 (HI.out.below ((HW1.out.trans (hD0.mono HW1.out.size)).trans (hA1.mono (Nat.le_trans HW1.out.size hD0.size))) (Nat.le_refl _)) HLx.out hA1.size ?_
          intro A3 c3 v2 lq nl hlq hnl hO hG hW; have HLq := Lib.hid hlq; clear hlq; subst hnl; have hB2 : Below v0.heap.size v0 v2 := below_app hA1 hG (fun j hj => (hO1.lt hj).1); have hK2 : Kep w1 b v2 := (hB2.block b (Nat.lt_of_lt_of_le HBL.out hD0.size)).trans hS0; have hT2 := hT1.of hB2
          refine hK.out _ _ hK2 (fun _ => ?_)
          clear hK K
          (try simp only [Act.put, List.setIfInBounds_toArray, List.set_cons_zero, List.set_cons_succ])
          refine wpAnyH_take (i := 13) (oi := ⟨some 115, Op.build 35 #[(0, Operand.tmp 107), (1, Operand.tmp 114)], 35, _, _, none⟩) (v := ?vc13) rfl (by kernel_rfl) (by kernel_rfl) (by kernel_rfl) (fun _ _ _ h => h) (Or.inl ⟨by rfl, ?hc13⟩) hK2 ?rc13
          case hc13 => (intro wz hSw; go_simp <;> with_reducible rfl)
          (try simp only [Act.put, List.setIfInBounds_toArray, List.set_cons_zero, List.set_cons_succ])
          refine wpAnyH_ready (rs := [14]) (by kernel_rfl) (by simp) ?_
          refine AllReadyH.cons (o := ⟨some 116, Op.buildSlice 22 1 #[(0, Operand.tmp 115)], 22, _, _, none⟩) rfl (fun K hK => ?_) AllReadyH.nil
          go_simp
          have hA3 := below_box v2 (.cells #[.int .i64 x.id, .slice A3 lq.length c3] 35); have hK3 : Kep w1 b (v2.alloc (.cells #[.int .i64 x.id, .slice A3 lq.length c3] 35)) := (hA3.block b (Nat.lt_of_lt_of_le HBL.out (Nat.le_trans hD0.size hB2.size))).trans hK2; have hT3 := hT2.of hA3; have hRW : RW co (v2.alloc (.cells #[.int .i64 x.id, .slice A3 lq.length c3] 35)) (v2.heap.size + 1) (some ⟨v2.heap.size, 0, none⟩) [⟨x.id, A3, lq, c3⟩] := rw_at co _ _ _ _ _ rfl rfl rfl; have hPW : PW nu (v2.alloc (.cells #[.int .i64 x.id, .slice A3 lq.length c3] 35)) (w.alloc (oAbl a)).heap.size A3 lq := ((OW.pw hO).mono hT1.top).of hA3; have hNE : lq ≠ [] → ∀ q, (Value.slice A1 M.length c1).ownBlock = some q ∨ (Value.slice Ab lm.length cb).ownBlock = some q → blk A3 ≠ some q := (fun hr q hq e => by obtain ⟨g, hg, hg2, _⟩ := (OW.pw hO).lt' hr; have h5 : q < v0.heap.size := (hq.elim (fun h => (hT1.a.own.lt h).2) (fun h => (hT1.b.lt h).2)); rw [hg] at e; injection e with e; omega)
          refine hK.out _ _ hK3 (fun _ => ?_)
          clear hK K
          (try simp only [Act.put, List.setIfInBounds_toArray, List.set_cons_zero, List.set_cons_succ])
          refine wpAnyH_ready (rs := [15]) (by kernel_rfl) (by simp) ?_
          refine AllReadyH.cons (o := ⟨some 117, Op.call { callee := Callee.builtin Builtin.append, args := #[Operand.tmp 102, Operand.tmp 116], argTypes := #[22, 22] }, 22, _, _, none⟩) rfl (fun K hK => ?_) AllReadyH.nil
          refine step_app co rfl 22 rfl (.tmp 102) (.tmp 116) rfl (w.alloc (oAbl a)).heap.size (v2.heap.size + 1) (.slice A1 M.length c1) M [⟨x.id, A3, lq, c3⟩] (some ⟨v2.heap.size, 0, none⟩) 1 1 rfl (by simp [Act.eval]) (by simp [Act.eval]) hT3.a.own hRW (HL2.out _) hT3.top ?_
          intro A4 c4 v4 lm4 nl4 hlm4 hnl4 hO4 hG4 hW4; subst hnl4; have HM4 := Lib.hid hlm4; have hT4 : K2c (w.alloc (oAbl a)) v4 (w.alloc (oAbl a)).heap.size (.slice A4 lm4.length c4) (.slice Ab lm.length cb) lm4 lm := (by subst hlm4; exact hT3.put (x := ⟨x.id, A3, lq, c3⟩) hPW hNE hG4 hO4 hW4); have hK4 : Kep w1 b v4 := (hG4.block b (Nat.lt_of_lt_of_le HBL.out (Nat.le_trans hD0.size (Nat.le_trans hB2.size hA3.size))) (fun e => by have := (hT3.a.own.lt e.symm).1; have := HBV.out; omega)).trans hK3
          refine hK.out _ _ hK4 (fun _ => ?_)
          clear hK K
          (try simp only [Act.put, List.setIfInBounds_toArray, List.set_cons_zero, List.set_cons_succ])
          refine wpAnyH_take (i := 16) (oi := ⟨some 11, Op.assign (Operand.tmp 117), 22, _, _, none⟩) (v := ?vc16) rfl (by kernel_rfl) (by kernel_rfl) (by kernel_rfl) (fun _ _ _ h => h) (Or.inl ⟨by rfl, ?hc16⟩) hK4 ?rc16
          case hc16 => (intro wz hSw; go_simp <;> with_reducible rfl)
          (try simp only [Act.put, List.setIfInBounds_toArray, List.set_cons_zero, List.set_cons_succ])
          refine wpAnyH_done (by kernel_rfl) ?_ _
          refine NoPanic.normal ?_
          have HT4 := Lib.hid hT4
          clear hlm4 hO4 hW4 hT4 hK4 hG4 hT3 hK3 hA3 hRW hPW hNE hT2 hB2 hK2 hG hO hW hT1 hO1 hK1 hA1 hS0 hD0
          go_wp2
          go_roundg (l.length - (k + 1))
          case measure => omega
          case rel => exact ⟨k + 1, A4, c4, lm4, false, _, _, by omega, rfl, by go_num, rfl, (by first | rfl | (rw [HM4.out]; simp)), Lib.hid (by have := HMk.out; rw [HM4.out]; simp; omega), Lib.hid (by rw [HM4.out]; exact gp_copy HG.out HXk.out _ _ HLq.out (.inr hle) (hid)), Lib.hid (fun _ => ⟨rfl, rfl⟩), HT4⟩
        · have hle' : decide (a.id ≤ x.id) = true := by simp; omega
          go_wp2
          go_quiet (fail)
          have HTa := Lib.hid (HTW.out.of (below_drewN (Below.refl _ _) nq))
          generalize wr.drewN nq = wa at *
          clear zb lb c0 c1' hpl HWb
          have HWb := Lib.hid (HX.out.trans (HTa.out.below.mono HX.out.size))
          obtain ⟨b9, off9, hAA9, hpl, c0, c1'⟩ := rowCo HR.out HXk.out HWb.out HB0.out
          injection hAA9 with hAA9; injection hAA9 with q8 q9
          subst q8; subst q9
          have zb := cellsAbl (HZ.out _ HTa.out.below).2.1
          have lb := (HZ.out _ HTa.out.below).1
          have HG := Lib.hid (gp_putR (l := l) (A := Ab) (c := cb) HG.out HXk.out (by omega))
          have HAx := Lib.hid (below_box wa (.cells #[.int .i64 a.id, .slice Ab lm.length cb] 35))
          have HTx := Lib.hid (HTa.out.of HAx.out)
          have HRx : Hid (RW co (wa.alloc (.cells #[.int .i64 a.id, .slice Ab lm.length cb] 35)) (wa.heap.size + 1) (some ⟨wa.heap.size, 0, none⟩) [⟨a.id, Ab, lm, cb⟩]) := Lib.hid (rw_at co _ _ _ _ _ rfl rfl rfl)
          have HL3 : Hid (∀ y : Co, M.length + [y].length ≤ 1000000) := Lib.hid (fun y => by have := HMk.out; simp; omega)
          go_wp2_with (at_builtin; refine wpList_app co rfl 22 rfl (.tmp 87) (.tmp 92) rfl (w.alloc (oAbl a)).heap.size (wa.heap.size + 1) (.slice A1 M.length c1) M [⟨a.id, Ab, lm, cb⟩] (some ⟨wa.heap.size, 0, none⟩) 1 1 rfl rfl rfl HTx.out.a.own HRx.out (HL3.out _) HTx.out.top ?_; intro A5 c5 w5x M5 HM5 HO5x HS5 HB5x; have HT5x : Hid (K2c (w.alloc (oAbl a)) w5x (w.alloc (oAbl a)).heap.size (.slice A5 M5.length c5) (.slice none 0 0) M5 []) := Lib.hid (by have q := HM5.out; have ho := HO5x.out; have hs := HS5.out; have hb := HB5x.out; subst q; exact HTx.out.put1 (x := ⟨a.id, Ab, lm, cb⟩) rfl rfl hs ho hb); clear zb lb c0 c1' hpl HWb; have HWb := Lib.hid (HX.out.trans (HT5x.out.below.mono HX.out.size)); obtain ⟨b9, off9, hAA9, hpl, c0, c1'⟩ := rowCo HR.out HXk.out HWb.out HB0.out; injection hAA9 with hAA9; injection hAA9 with q8 q9; subst q8; subst q9; have zb := cellsAbl (HZ.out _ HT5x.out.below).2.1; have lb := (HZ.out _ HT5x.out.below).1)
          have HG := Lib.hid (HG.out _ HM5.out)
          have HMk : Hid (M5.length ≤ 2 * k + 1) := Lib.hid (by have := HMk.out; rw [HM5.out]; simp; omega)
          by_cases hid : x.id = a.id
          · have hid' : decide (x.id = a.id) = true := by simpa using hid
            have hid'' : (x.id == a.id) = true := by simpa using hid
            go_quiet (fail)
            have HT1 := Lib.hid (HT5x.out.of (below_drewN (Below.refl _ _) nq))
            generalize w5x.drewN nq = w1 at *
            clear zb lb c0 c1' hpl HWb
            go_wp2
            go_roundg (l.length - (k + 1))
            case measure => omega
            case rel => exact ⟨k + 1, A5, c5, M5, true, _, _, by omega, rfl, by go_num, rfl, rfl, Lib.hid (by have := HMk.out; omega), Lib.hid (gp_skipR HG.out HXk.out hid), Lib.hid (fun h => by cases h), HT1⟩
          · have hid' : decide (x.id = a.id) = false := by simpa using hid
            have hid'' : (x.id == a.id) = false := by simpa using hid
            go_quiet (fail)
            have HT1 := Lib.hid (HT5x.out.of (below_drewN (Below.refl _ _) nq))
            generalize w5x.drewN nq = w1 at *
            clear zb lb c0 c1' hpl HWb
            go_wp2
            have HW1 := Lib.hid (HX.out.trans (HT1.out.below.mono HX.out.size))
            have HBV : Hid (b < (w.alloc (oAbl a)).heap.size) := Lib.hid (Nat.lt_of_lt_of_le HBW.out HX.out.size)
            have HBL : Hid (b < w1.heap.size) := Lib.hid (Nat.lt_of_lt_of_le HBV.out HT1.out.top)
            have hd0 := (rowCo HR.out HXk.out HW1.out HB0.out)
            obtain ⟨b', off', hAA, _, k0, k1⟩ := hd0
            injection hAA with hAA; injection hAA with q1 q2
            subst q1; subst q2
            have HZc : Hid (∀ wz, Kep w1 b wz → wz.cell? ⟨b, off + k * 2, none⟩ = some (.int .i64 x.id) ∧ wz.cell? ⟨b, off + k * 2 + 1, none⟩ = some (.slice x.ba x.bk.length x.bc)) := Lib.hid (fun wz e => ⟨(World.cell?_of_block (w := w1) e).trans k0, (World.cell?_of_block (w := w1) e).trans k1⟩)
            have HL2 : Hid (∀ y : Co, M5.length + [y].length ≤ 1000000) := Lib.hid (fun y => by have := HMk.out; simp; omega)
            clear k0 k1
            have hD0 : Below w1.heap.size w1 w1.drew := (Below.refl _ _).drew
            have hS0 : Kep w1 b w1.drew := hD0.block b HBL.out
            refine wp_region_noPanic ?_
            refine wp_region_held_drew (S := fun w' => Kep w1 b w') (by kernel_rfl) hS0 (fun _ => ?_)
            generalize w1.drew = v0 at hD0 hS0 ⊢
            refine wpAnyH_take (i := 0) (oi := ⟨some 102, Op.move (Operand.tmp 11), 22, _, _, none⟩) (v := ?va0) rfl (by kernel_rfl) (by kernel_rfl) (by kernel_rfl) (fun _ _ _ h => h) (Or.inl ⟨by rfl, ?ha0⟩) hS0 ?ra0
            case ha0 => (intro wz hSw; go_simp <;> with_reducible rfl)
            (try simp only [Act.put, List.setIfInBounds_toArray, List.set_cons_zero, List.set_cons_succ])
            refine wpAnyH_take (i := 1) (oi := ⟨some 103, Op.move (Operand.tmp 0), 22, _, _, none⟩) (v := ?va1) rfl (by kernel_rfl) (by kernel_rfl) (by kernel_rfl) (fun _ _ _ h => h) (Or.inl ⟨by rfl, ?ha1⟩) hS0 ?ra1
            case ha1 => (intro wz hSw; go_simp <;> with_reducible rfl)
            (try simp only [Act.put, List.setIfInBounds_toArray, List.set_cons_zero, List.set_cons_succ])
            refine wpAnyH_take (i := 2) (oi := ⟨some 104, Op.move (Operand.tmp 13), 3, _, _, none⟩) (v := ?va2) rfl (by kernel_rfl) (by kernel_rfl) (by kernel_rfl) (fun _ _ _ h => h) (Or.inl ⟨by rfl, ?ha2⟩) hS0 ?ra2
            case ha2 => (intro wz hSw; go_simp <;> with_reducible rfl)
            (try simp only [Act.put, List.setIfInBounds_toArray, List.set_cons_zero, List.set_cons_succ])
            refine wpAnyH_take (i := 3) (oi := ⟨some 105, Op.indexAddr 22 (Operand.tmp 103) (Operand.tmp 104), 0, _, _, none⟩) (v := ?va3) rfl (by kernel_rfl) (by kernel_rfl) (by kernel_rfl) (fun _ _ _ h => h) (Or.inl ⟨by rfl, ?ha3⟩) hS0 ?ra3
            case ha3 => (intro wz hSw; go_simp <;> with_reducible rfl)
            (try simp only [Act.put, List.setIfInBounds_toArray, List.set_cons_zero, List.set_cons_succ])
            refine wpAnyH_take (i := 4) (oi := ⟨some 106, Op.fieldAddr 35 (Operand.tmp 105) 0, 0, _, _, none⟩) (v := ?va4) rfl (by kernel_rfl) (by kernel_rfl) (by kernel_rfl) (fun _ _ _ h => h) (Or.inl ⟨by rfl, ?ha4⟩) hS0 ?ra4
            case ha4 => (intro wz hSw; go_simp <;> with_reducible rfl)
            (try simp only [Act.put, List.setIfInBounds_toArray, List.set_cons_zero, List.set_cons_succ])
            refine wpAnyH_take (i := 5) (oi := ⟨some 107, Op.load 3 (Operand.tmp 106), 3, _, _, none⟩) (v := ?va5) rfl (by kernel_rfl) (by kernel_rfl) (by kernel_rfl) (fun _ _ _ h => h) (Or.inl ⟨by rfl, ?ha5⟩) hS0 ?ra5
            case ha5 => (intro wz hSw; obtain ⟨z0, z1⟩ := HZc.out wz hSw; go_simp <;> with_reducible rfl)
            (try simp only [Act.put, List.setIfInBounds_toArray, List.set_cons_zero, List.set_cons_succ])
            refine wpAnyH_take (i := 7) (oi := ⟨some 109, Op.move (Operand.tmp 0), 22, _, _, none⟩) (v := ?va7) rfl (by kernel_rfl) (by kernel_rfl) (by kernel_rfl) (fun _ _ _ h => h) (Or.inl ⟨by rfl, ?ha7⟩) hS0 ?ra7
            case ha7 => (intro wz hSw; go_simp <;> with_reducible rfl)
            (try simp only [Act.put, List.setIfInBounds_toArray, List.set_cons_zero, List.set_cons_succ])
            refine wpAnyH_take (i := 8) (oi := ⟨some 110, Op.move (Operand.tmp 13), 3, _, _, none⟩) (v := ?va8) rfl (by kernel_rfl) (by kernel_rfl) (by kernel_rfl) (fun _ _ _ h => h) (Or.inl ⟨by rfl, ?ha8⟩) hS0 ?ra8
            case ha8 => (intro wz hSw; go_simp <;> with_reducible rfl)
            (try simp only [Act.put, List.setIfInBounds_toArray, List.set_cons_zero, List.set_cons_succ])
            refine wpAnyH_take (i := 9) (oi := ⟨some 111, Op.indexAddr 22 (Operand.tmp 109) (Operand.tmp 110), 0, _, _, none⟩) (v := ?va9) rfl (by kernel_rfl) (by kernel_rfl) (by kernel_rfl) (fun _ _ _ h => h) (Or.inl ⟨by rfl, ?ha9⟩) hS0 ?ra9
            case ha9 => (intro wz hSw; go_simp <;> with_reducible rfl)
            (try simp only [Act.put, List.setIfInBounds_toArray, List.set_cons_zero, List.set_cons_succ])
            refine wpAnyH_take (i := 10) (oi := ⟨some 112, Op.fieldAddr 35 (Operand.tmp 111) 1, 0, _, _, none⟩) (v := ?va10) rfl (by kernel_rfl) (by kernel_rfl) (by kernel_rfl) (fun _ _ _ h => h) (Or.inl ⟨by rfl, ?ha10⟩) hS0 ?ra10
            case ha10 => (intro wz hSw; go_simp <;> with_reducible rfl)
            (try simp only [Act.put, List.setIfInBounds_toArray, List.set_cons_zero, List.set_cons_succ])
            refine wpAnyH_take (i := 11) (oi := ⟨some 113, Op.load 33 (Operand.tmp 112), 33, _, _, none⟩) (v := ?va11) rfl (by kernel_rfl) (by kernel_rfl) (by kernel_rfl) (fun _ _ _ h => h) (Or.inl ⟨by rfl, ?ha11⟩) hS0 ?ra11
            case ha11 => (intro wz hSw; obtain ⟨z0, z1⟩ := HZc.out wz hSw; go_simp <;> with_reducible rfl)
            (try simp only [Act.put, List.setIfInBounds_toArray, List.set_cons_zero, List.set_cons_succ])
            refine wpAnyH_ready (rs := [6]) (by kernel_rfl) (by simp) ?_
            refine AllReadyH.cons (o := ⟨some 108, Op.buildSlice 33 0 #[], 33, _, _, none⟩) rfl (fun K hK => ?_) AllReadyH.nil
            go_simp
            have hA1 := below_box v0 (.cells #[] 3); have hK1 : Kep w1 b (v0.alloc (.cells #[] 3)) := (hA1.block b (Nat.lt_of_lt_of_le HBL.out hD0.size)).trans hS0; have hO1 : OW nu (v0.alloc (.cells #[] 3)) v0.heap.size (.slice (some ⟨v0.heap.size, 0, none⟩) 0 0) [] := OW.room nu v0; have hT1 := HT1.out.of hD0
            refine hK.out _ _ hK1 (fun _ => ?_)
            clear hK K
            (try simp only [Act.put, List.setIfInBounds_toArray, List.set_cons_zero, List.set_cons_succ])
            refine wpAnyH_ready (rs := [12]) (by kernel_rfl) (by simp) ?_
            refine AllReadyH.cons (o := ⟨some 114, Op.call { callee := Callee.builtin Builtin.append, args := #[Operand.tmp 108, Operand.tmp 113], argTypes := #[33, 33] }, 33, _, _, none⟩) rfl (fun K hK => ?_) AllReadyH.nil
            refine step_app nu rfl 33 rfl (.tmp 108) (.tmp 113) rfl v0.heap.size w.heap.size (.slice (some ⟨v0.heap.size, 0, none⟩) 0 0) [] x.bk x.ba x.bc x.bk.length rfl (by simp [Act.eval]) (by simp [Act.eval]) hO1 (HI.out.below ((HW1.out.trans (hD0.mono HW1.out.size)).trans (hA1.mono (Nat.le_trans HW1.out.size hD0.size))) (Nat.le_refl _)) HLx.out hA1.size ?_
            intro A3 c3 v2 lq nl hlq hnl hO hG hW; have HLq := Lib.hid hlq; clear hlq; subst hnl; have hB2 : Below v0.heap.size v0 v2 := below_app hA1 hG (fun j hj => (hO1.lt hj).1); have hK2 : Kep w1 b v2 := (hB2.block b (Nat.lt_of_lt_of_le HBL.out hD0.size)).trans hS0; have hT2 := hT1.of hB2
            refine hK.out _ _ hK2 (fun _ => ?_)
            clear hK K
            (try simp only [Act.put, List.setIfInBounds_toArray, List.set_cons_zero, List.set_cons_succ])
            refine wpAnyH_take (i := 13) (oi := ⟨some 115, Op.build 35 #[(0, Operand.tmp 107), (1, Operand.tmp 114)], 35, _, _, none⟩) (v := ?va13) rfl (by kernel_rfl) (by kernel_rfl) (by kernel_rfl) (fun _ _ _ h => h) (Or.inl ⟨by rfl, ?ha13⟩) hK2 ?ra13
            case ha13 => (intro wz hSw; go_simp <;> with_reducible rfl)
            (try simp only [Act.put, List.setIfInBounds_toArray, List.set_cons_zero, List.set_cons_succ])
            refine wpAnyH_ready (rs := [14]) (by kernel_rfl) (by simp) ?_
            refine AllReadyH.cons (o := ⟨some 116, Op.buildSlice 22 1 #[(0, Operand.tmp 115)], 22, _, _, none⟩) rfl (fun K hK => ?_) AllReadyH.nil
            go_simp
            have hA3 := below_box v2 (.cells #[.int .i64 x.id, .slice A3 lq.length c3] 35); have hK3 : Kep w1 b (v2.alloc (.cells #[.int .i64 x.id, .slice A3 lq.length c3] 35)) := (hA3.block b (Nat.lt_of_lt_of_le HBL.out (Nat.le_trans hD0.size hB2.size))).trans hK2; have hT3 := hT2.of hA3; have hRW : RW co (v2.alloc (.cells #[.int .i64 x.id, .slice A3 lq.length c3] 35)) (v2.heap.size + 1) (some ⟨v2.heap.size, 0, none⟩) [⟨x.id, A3, lq, c3⟩] := rw_at co _ _ _ _ _ rfl rfl rfl; have hPW : PW nu (v2.alloc (.cells #[.int .i64 x.id, .slice A3 lq.length c3] 35)) (w.alloc (oAbl a)).heap.size A3 lq := ((OW.pw hO).mono hT1.top).of hA3; have hNE : lq ≠ [] → ∀ q, (Value.slice A5 M5.length c5).ownBlock = some q ∨ (Value.slice none 0 0).ownBlock = some q → blk A3 ≠ some q := (fun hr q hq e => by obtain ⟨g, hg, hg2, _⟩ := (OW.pw hO).lt' hr; have h5 : q < v0.heap.size := (hq.elim (fun h => (hT1.a.own.lt h).2) (fun h => (hT1.b.lt h).2)); rw [hg] at e; injection e with e; omega)
            refine hK.out _ _ hK3 (fun _ => ?_)
            clear hK K
            (try simp only [Act.put, List.setIfInBounds_toArray, List.set_cons_zero, List.set_cons_succ])
            refine wpAnyH_ready (rs := [15]) (by kernel_rfl) (by simp) ?_
            refine AllReadyH.cons (o := ⟨some 117, Op.call { callee := Callee.builtin Builtin.append, args := #[Operand.tmp 102, Operand.tmp 116], argTypes := #[22, 22] }, 22, _, _, none⟩) rfl (fun K hK => ?_) AllReadyH.nil
            refine step_app co rfl 22 rfl (.tmp 102) (.tmp 116) rfl (w.alloc (oAbl a)).heap.size (v2.heap.size + 1) (.slice A5 M5.length c5) M5 [⟨x.id, A3, lq, c3⟩] (some ⟨v2.heap.size, 0, none⟩) 1 1 rfl (by simp [Act.eval]) (by simp [Act.eval]) hT3.a.own hRW (HL2.out _) hT3.top ?_
            intro A4 c4 v4 lm4 nl4 hlm4 hnl4 hO4 hG4 hW4; subst hnl4; have HM4 := Lib.hid hlm4; have hT4 : K2c (w.alloc (oAbl a)) v4 (w.alloc (oAbl a)).heap.size (.slice A4 lm4.length c4) (.slice none 0 0) lm4 [] := (by subst hlm4; exact hT3.put (x := ⟨x.id, A3, lq, c3⟩) hPW hNE hG4 hO4 hW4); have hK4 : Kep w1 b v4 := (hG4.block b (Nat.lt_of_lt_of_le HBL.out (Nat.le_trans hD0.size (Nat.le_trans hB2.size hA3.size))) (fun e => by have := (hT3.a.own.lt e.symm).1; have := HBV.out; omega)).trans hK3
            refine hK.out _ _ hK4 (fun _ => ?_)
            clear hK K
            (try simp only [Act.put, List.setIfInBounds_toArray, List.set_cons_zero, List.set_cons_succ])
            refine wpAnyH_take (i := 16) (oi := ⟨some 11, Op.assign (Operand.tmp 117), 22, _, _, none⟩) (v := ?va16) rfl (by kernel_rfl) (by kernel_rfl) (by kernel_rfl) (fun _ _ _ h => h) (Or.inl ⟨by rfl, ?ha16⟩) hK4 ?ra16
            case ha16 => (intro wz hSw; go_simp <;> with_reducible rfl)
            (try simp only [Act.put, List.setIfInBounds_toArray, List.set_cons_zero, List.set_cons_succ])
            refine wpAnyH_done (by kernel_rfl) ?_ _
            refine NoPanic.normal ?_
            have HT4 := Lib.hid hT4
            clear hlm4 hO4 hW4 hT4 hK4 hG4 hT3 hK3 hA3 hRW hPW hNE hT2 hB2 hK2 hG hO hW hT1 hO1 hK1 hA1 hS0 hD0
            go_wp2
            go_roundg (l.length - (k + 1))
            case measure => omega
            case rel => exact ⟨k + 1, A4, c4, lm4, true, _, _, by omega, rfl, by go_num, rfl, (by first | rfl | (rw [HM4.out]; simp)), Lib.hid (by have := HMk.out; rw [HM4.out]; simp; omega), Lib.hid (by rw [HM4.out]; exact gp_copy HG.out HXk.out _ _ HLq.out (.inl rfl) (hid)), Lib.hid (fun h => by cases h), HT4⟩
    · have hlt' : decide ((k : Int) < l.length) = false := by simp; omega
      have hkn : k = l.length := by omega
      subst hkn
      have zb := cellsAbl (HZ.out _ HTW.out.below).2.1
      have lb := (HZ.out _ HTW.out.below).1
      cases pt with
      | true =>
        go_wp2
        go_ret2
        exact ⟨A1, c1, M, rfl, Lib.hid (by have h := HG.out; rw [List.drop_length] at h; simpa [gP] using h), Lib.hid (HTW.out.a.mono HX.out.size), Lib.hid (HX.out.trans (HTW.out.below.mono HX.out.size))⟩
      | false =>
        obtain ⟨hu', hm'⟩ := HPT.out rfl
        subst u; subst m
        have HAx := Lib.hid (below_box wr (.cells #[.int .i64 a.id, .slice Ab lm.length cb] 35))
        have HTx := Lib.hid (HTW.out.of HAx.out)
        have HRx : Hid (RW co (wr.alloc (.cells #[.int .i64 a.id, .slice Ab lm.length cb] 35)) (wr.heap.size + 1) (some ⟨wr.heap.size, 0, none⟩) [⟨a.id, Ab, lm, cb⟩]) := Lib.hid (rw_at co _ _ _ _ _ rfl rfl rfl)
        have HL3 : Hid (∀ y : Co, M.length + [y].length ≤ 1000000) := Lib.hid (fun y => by have := HMk.out; simp; omega)
        go_wp2_with (at_builtin; refine wpList_app co rfl 22 rfl (.tmp 120) (.tmp 125) rfl (w.alloc (oAbl a)).heap.size (wr.heap.size + 1) (.slice A1 M.length c1) M [⟨a.id, Ab, lm, cb⟩] (some ⟨wr.heap.size, 0, none⟩) 1 1 rfl rfl rfl HTx.out.a.own HRx.out (HL3.out _) HTx.out.top ?_; intro A5 c5 w5x M5 HM5 HO5x HS5 HB5x; have HT5x : Hid (K2c (w.alloc (oAbl a)) w5x (w.alloc (oAbl a)).heap.size (.slice A5 M5.length c5) (.slice none 0 0) M5 []) := Lib.hid (by have q := HM5.out; have ho := HO5x.out; have hs := HS5.out; have hb := HB5x.out; subst q; exact HTx.out.put1 (x := ⟨a.id, Ab, lm, cb⟩) rfl rfl hs ho hb))
        go_ret2
        exact ⟨A5, c5, M5, by first | rfl | (rw [HM5.out]; simp), Lib.hid (by have h := HG.out; rw [List.drop_length] at h; rw [HM5.out]; simpa [gP, Co.pl] using h), Lib.hid (HT5x.out.a.mono HX.out.size), Lib.hid (HX.out.trans (HT5x.out.below.mono HX.out.size))⟩
end Go.Proofs.Ytmdnjkiciaidiaa.Con
