/-
  Contract of Use of package cool.
-/
import Derived.Test.YtmdnjkiciaidiaaPcb
import Derived.Test.YtmdnjkiciaidiaaPcc
import Derived.Test.YtmdnjkiciaidiaaPcg
import Derived.Deep.RegionLawGrows
namespace Go.Proofs.Ytmdnjkiciaidiaa.Con
open Go.RowKit Go.Maps

/-- Append onto a row that is cut where it ends: it grows into new memory. -/
theorem step_appX {w : World} {ops : Array Oper} {o : Oper} {a : Act} {K : Act → World → Prop} {Q : Exit → Act → World → Prop} {Ep : Prop} (hgd : o.guard = none) (s x : Operand)
    (ho : o.op = .call { callee := .builtin .append, args := #[s, x], argTypes := #[33, 33] }) (A : Option Addr) (M : List Int) (B p : Nat) (y : Int) (hs : a.eval s = .slice A M.length M.length) (hx : a.eval x = .slice (some ⟨p, 0, none⟩) 1 1)
    (hr : RW nu w B A M) (hp : w.cell? ⟨p, 0, none⟩ = some (.int .i64 y)) (hl : M.length ≤ 1000)
    (h : ∀ A' c' w' L nl, L = M ++ [y] → L.length = nl → OW nu w' w.heap.size (.slice A' nl c') L → w.grownBy w' none → K (a.put o.dst (.slice A' nl c')) w') :
    if Region.wanted o (yielded ops a.tmps) = true then Oper.wp Try.prog o a w K Q else Ep := by
  obtain ⟨i0, hi0, hz0, hz1, hz2⟩ := info_parts' nu.info
  have hfl : ∀ l : List Int, (flat nu l).length = l.length * 1 := fun l => flat_len nu l
  refine step_append_grows hgd s x 33 ho 3 i0 _ 1 8 Try.underlying33 hi0 hz0 hz1 hz2 rfl (by omega) A M.length M.length (flat nu M) hs (fun e => ?_) (hfl M) (fun b hA j u hu => ?_) ⟨p, 0, none⟩ 1 1 (flat nu [y]) hx (hfl [y]) (fun j u hu => ?_) (flat_one nu [y]) (by omega) (by unfold maxLen; omega) (by omega) (fun v' w' k1 k2 => ?_)
  · rcases hr with rfl | ⟨b, off, hA, _⟩
    · exact ⟨rfl, rfl⟩
    · rw [e] at hA; cases hA
  · obtain ⟨i, j', z, rfl, hz, hu'⟩ := flat_at nu hu
    rcases hr with rfl | ⟨b', off, hA', _, hc⟩
    · simp at hz
    · rw [hA] at hA'; injection hA' with hA'; subst hA'
      have := hc i z hz j' u hu'
      rw [add_at, ← Nat.add_assoc]; exact this
  · have e : flat nu [y] = [.int .i64 y] := rfl
    rw [e] at hu
    cases j with
    | zero => simp at hu; subst hu; rw [add_at]; exact hp
    | succ j => simp at hu
  · obtain ⟨A', c', rfl⟩ := own_shape k1
    rw [← flat_app] at k1
    refine h A' c' w' (M ++ [y]) _ rfl (by simp) ?_ k2
    have e : M.length + 1 = (M ++ [y]).length := by simp
    unfold OW
    rw [e] at k1 ⊢
    exact k1

def UpO (w : World) (ub : Bool) (P : List Cp) (e : Ending) (w' : World) : Prop := ∃ A c M, e = .returned (.tuple #[.slice A (List.length M) c, .bool ub]) ∧ Hid (M.map Co.pl = P) ∧ Hid (KOc w' w.heap.size (.slice A M.length c) M) ∧ Hid (∀ x ∈ M, x.bk.length ≤ x.bc) ∧ Hid (Below w.heap.size w w')

set_option maxRecDepth 20000 in
set_option maxHeartbeats 4000000 in
theorem use_no {w : World} {B : Nat} {A : Option Addr} {l : List Co} {n cp : Nat} (a : Abl) (now : Int) (hch : Fits a.charges) (hn : l.length = n) (hl : (n : Int) ≤ 1000) (hbk : ∀ x ∈ l, x.bk.length ≤ 1000) (hbc : ∀ x ∈ l, x.bk.length ≤ x.bc) (hr : KRc w B A l) (hB : B ≤ w.heap.size) (hub : ¬ usB (l.map Co.pl) a.id a.charges now) :
    Calls Try.prog 10 #[.slice A n cp, ablv a, .int .i64 now] w (UpO w false (l.map Co.pl)) := by
  have hb := below_box w (oAbl a)
  have HX := Lib.hid hb
  obtain ⟨rb, hrb⟩ : ∃ rb : Bool, rb = true ↔ RtC (l.map Co.pl) := ⟨@decide (RtC (l.map Co.pl)) (Classical.propDecidable _), by simp⟩
  have HRt : Hid (∀ V, Below w.heap.size w V → Calls Try.prog 17 #[.slice A n cp] V fun e w' => e = .returned (.bool rb) ∧ Below V.heap.size V w') := Lib.hid (fun V hV => right_any hn (by omega) hbk (hr.below hV hB) (Nat.le_trans hB hV.size) rb hrb)
  have HBo : Hid (∀ V, Below w.heap.size w V → Calls Try.prog 25 #[.slice A n cp, .int .i64 a.id] V (BkO V B (bkI (l.map Co.pl) a.id))) := Lib.hid (fun V hV => backOf_any a.id hn (by omega) (hr.below hV hB) (Nat.le_trans hB hV.size) hbc)
  have HRd : Hid (∀ V, Below w.heap.size w V → Calls Try.prog 19 #[.slice A n cp, ablv a, .int .i64 now] V fun e w' => e = .returned (.int .i64 (rdI a.charges (wyI (l.map Co.pl) a.id now).length)) ∧ Below V.heap.size V w') := Lib.hid (fun V hV => ready_any a now hch hn (by omega) hbk hbc (hr.below hV hB) (Nat.le_trans hB hV.size))
  have HCp : Hid (∀ V, Below w.heap.size w V → Calls Try.prog 23 #[.slice A n cp] V (CkO V (l.map Co.pl))) := Lib.hid (fun V hV => copyOf_any hn (by omega) hbk (hr.below hV hB) (Nat.le_trans hB hV.size))
  have HR := Lib.hid hr; have HB0 := Lib.hid hB; have HBK := Lib.hid hbk; have HN := Lib.hid hn
  have HRB := Lib.hid hrb
  have HLE : Hid (((bkI (l.map Co.pl) a.id).length : Int) ≤ 1000) := Lib.hid (by have := bk_short hbk a.id; omega)
  obtain ⟨P, hP⟩ : ∃ P, wyI (l.map Co.pl) a.id now = P := ⟨_, rfl⟩
  have HP : Hid (awI (bkI (l.map Co.pl) a.id) now = P) := Lib.hid hP
  obtain ⟨r, hr1⟩ : ∃ r, rdI a.charges P.length = r := ⟨_, rfl⟩
  have HRe := Lib.hid hr1
  unfold usB at hub
  rw [hP] at hub HRd
  rw [hr1] at HRd
  clear hr hB hbk hch hn hrb hP hr1 hbc
  have HZ : Hid (∀ wz, Below (w.alloc (oAbl a)).heap.size (w.alloc (oAbl a)) wz → w.heap.size < wz.heap.size ∧ wz.heap[w.heap.size]? = some (oAbl a) ∧ wz.cell? ⟨w.heap.size, 0, none⟩ = some (.int .i64 a.id) ∧ wz.cell? ⟨w.heap.size, 2, none⟩ = some (.int .i64 a.cool) ∧ wz.cell? ⟨w.heap.size, 3, none⟩ = some (.int .i64 a.charges)) := Lib.hid (fun wz h => box_abl h)
  go_enter Try.func10, Try.ntmps10
  have HB1 := Lib.hid (Below.refl (w.alloc (oAbl a)).heap.size (w.alloc (oAbl a)))
  have zb := cellsAbl (HZ.out _ HB1.out).2.1
  have lb := (HZ.out _ HB1.out).1
  have HRtN := Lib.hid (HRt.out _ HX.out)
  cases rb with
  | false =>
    go_wp2_with (first
      | ((with_reducible refine HRtN.out.mono ?_); rintro e w2 ⟨rfl, hB⟩; have HB2 := Lib.hid (HB1.out.trans (hB.mono HB1.out.size)); clear zb lb; have zb := cellsAbl (HZ.out w2 HB2.out).2.1; have lb := (HZ.out w2 HB2.out).1; clear hB; have HCpN := Lib.hid (HCp.out w2 (HX.out.trans (HB2.out.mono HX.out.size))))
      | ((with_reducible refine HCpN.out.mono ?_); rintro e w3 ⟨A9, c9, M9, rfl, hM9, hK9, hC9, hB9⟩; have HB3 := Lib.hid (HB2.out.trans (hB9.out.mono HB2.out.size)); clear zb lb; have zb := cellsAbl (HZ.out w3 HB3.out).2.1; have lb := (HZ.out w3 HB3.out).1; skip))
    go_ret2
    exact ⟨A9, c9, M9, rfl, hM9, Lib.hid (hK9.out.mono (Nat.le_trans HX.out.size HB2.out.size)), hC9, Lib.hid (HX.out.trans (HB3.out.mono HX.out.size))⟩
  | true =>
    have HRTC : Hid (RtC (l.map Co.pl)) := Lib.hid (HRB.out.1 (by first | rfl | trivial))
    by_cases h3 : a.id < 1
    · have h3c : decide (a.id < 1) = true := by simpa using h3
      go_wp2_with (first
        | ((with_reducible refine HRtN.out.mono ?_); rintro e w2 ⟨rfl, hB⟩; have HB2 := Lib.hid (HB1.out.trans (hB.mono HB1.out.size)); clear zb lb; have zb := cellsAbl (HZ.out w2 HB2.out).2.1; have lb := (HZ.out w2 HB2.out).1; clear hB; have HCpN := Lib.hid (HCp.out w2 (HX.out.trans (HB2.out.mono HX.out.size))))
        | ((with_reducible refine HCpN.out.mono ?_); rintro e w3 ⟨A9, c9, M9, rfl, hM9, hK9, hC9, hB9⟩; have HB3 := Lib.hid (HB2.out.trans (hB9.out.mono HB2.out.size)); clear zb lb; have zb := cellsAbl (HZ.out w3 HB3.out).2.1; have lb := (HZ.out w3 HB3.out).1; skip))
      go_ret2
      exact ⟨A9, c9, M9, rfl, hM9, Lib.hid (hK9.out.mono (Nat.le_trans HX.out.size HB2.out.size)), hC9, Lib.hid (HX.out.trans (HB3.out.mono HX.out.size))⟩
    · have h3c : decide (a.id < 1) = false := by simpa using h3
      by_cases h2 : r = 0
      · have h2b : (r == 0) = true := by simpa using h2
        have h2c : decide (r = 0) = true := by simpa using h2
        subst h2
        go_wp2_with (first
          | ((with_reducible refine HRtN.out.mono ?_); rintro e w2 ⟨rfl, hB⟩; have HB2 := Lib.hid (HB1.out.trans (hB.mono HB1.out.size)); clear zb lb; have zb := cellsAbl (HZ.out w2 HB2.out).2.1; have lb := (HZ.out w2 HB2.out).1; clear hB; have HRdN := Lib.hid (HRd.out w2 (HX.out.trans (HB2.out.mono HX.out.size))))
          | ((with_reducible refine HRdN.out.mono ?_); rintro e w3 ⟨rfl, hB⟩; have HB3 := Lib.hid (HB2.out.trans (hB.mono HB2.out.size)); clear zb lb; have zb := cellsAbl (HZ.out w3 HB3.out).2.1; have lb := (HZ.out w3 HB3.out).1; clear hB; have HCpN := Lib.hid (HCp.out w3 (HX.out.trans (HB3.out.mono HX.out.size))))
          | ((with_reducible refine HCpN.out.mono ?_); rintro e w4 ⟨A9, c9, M9, rfl, hM9, hK9, hC9, hB9⟩; have HB4 := Lib.hid (HB3.out.trans (hB9.out.mono HB3.out.size)); clear zb lb; have zb := cellsAbl (HZ.out w4 HB4.out).2.1; have lb := (HZ.out w4 HB4.out).1; skip))
        go_ret2
        exact ⟨A9, c9, M9, rfl, hM9, Lib.hid (hK9.out.mono (Nat.le_trans HX.out.size HB3.out.size)), hC9, Lib.hid (HX.out.trans (HB4.out.mono HX.out.size))⟩
      · have h2b : (r == 0) = false := by simpa using h2
        have h2c : decide (r = 0) = false := by simpa using h2
        have h4 : 100 ≤ P.length := by
          have hc : (P.length : Int) < a.charges := by
            have q := HRe.out; unfold rdI at q; split at q <;> omega
          refine Nat.le_of_not_lt (fun h => hub ⟨HRTC.out, by omega, hc, h⟩)
        have h4c : decide ((100 : Int) ≤ (P.length : Int)) = true := decide_eq_true (by omega)
        go_wp2_with (first
          | ((with_reducible refine HRtN.out.mono ?_); rintro e w2 ⟨rfl, hB⟩; have HB2 := Lib.hid (HB1.out.trans (hB.mono HB1.out.size)); clear zb lb; have zb := cellsAbl (HZ.out w2 HB2.out).2.1; have lb := (HZ.out w2 HB2.out).1; clear hB; have HRdN := Lib.hid (HRd.out w2 (HX.out.trans (HB2.out.mono HX.out.size))))
          | ((with_reducible refine HRdN.out.mono ?_); rintro e w3 ⟨rfl, hB⟩; have HB3 := Lib.hid (HB2.out.trans (hB.mono HB2.out.size)); clear zb lb; have zb := cellsAbl (HZ.out w3 HB3.out).2.1; have lb := (HZ.out w3 HB3.out).1; clear hB; have HBoN := Lib.hid (HBo.out w3 (HX.out.trans (HB3.out.mono HX.out.size))))
          | ((with_reducible refine HBoN.out.mono ?_); rintro e w4 ⟨Ab, cb, M, rfl, hM, hRM, hMc, hBo⟩; have HB4 := Lib.hid (HB3.out.trans (hBo.out.mono HB3.out.size)); clear zb lb; have zb := cellsAbl (HZ.out w4 HB4.out).2.1; have lb := (HZ.out w4 HB4.out).1; have HEnN := Lib.hid (end_any (c := cb) now rfl (by rw [hM.out]; exact HLE.out) (hRM.out.below hBo.out (Nat.le_trans HB0.out (Nat.le_trans HX.out.size HB3.out.size))) (Nat.le_trans (Nat.le_trans HB0.out (Nat.le_trans HX.out.size HB3.out.size)) hBo.out.size) hMc.out (by rw [hM.out]; exact bk_sorted HRTC.out a.id)))
          | ((with_reducible refine HEnN.out.mono ?_); rintro e w5 ⟨Ae, ce, P1, rfl, hP1, hRP, hce, hBe⟩; have HB5 := Lib.hid (HB4.out.trans (hBe.out.mono HB4.out.size)); clear zb lb; have zb := cellsAbl (HZ.out w5 HB5.out).2.1; have lb := (HZ.out w5 HB5.out).1; have hq := (hP1.out.trans (congrArg (awI · now) hM.out)).trans HP.out; subst hq; have HRP := Lib.hid (hRP.out.below hBe.out (Nat.le_trans HB0.out (Nat.le_trans HX.out.size HB4.out.size))); have hq2 := hce.out; subst hq2; have HCpN := Lib.hid (HCp.out w5 (HX.out.trans (HB5.out.mono HX.out.size))))
          | ((with_reducible refine HCpN.out.mono ?_); rintro e w6 ⟨A9, c9, M9, rfl, hM9, hK9, hC9, hB9⟩; have HB6 := Lib.hid (HB5.out.trans (hB9.out.mono HB5.out.size)); clear zb lb; have zb := cellsAbl (HZ.out w6 HB6.out).2.1; have lb := (HZ.out w6 HB6.out).1; skip))
        go_ret2
        exact ⟨A9, c9, M9, rfl, hM9, Lib.hid (hK9.out.mono (Nat.le_trans HX.out.size HB5.out.size)), hC9, Lib.hid (HX.out.trans (HB6.out.mono HX.out.size))⟩

set_option maxRecDepth 20000 in
set_option maxHeartbeats 4000000 in
theorem use_y0 {w : World} {B : Nat} {A : Option Addr} {l : List Co} {n cp : Nat} (a : Abl) (now : Int) (hch : Fits a.charges) (hn : l.length = n) (hl : (n : Int) ≤ 1000) (hbk : ∀ x ∈ l, x.bk.length ≤ 1000) (hbc : ∀ x ∈ l, x.bk.length ≤ x.bc) (hr : KRc w B A l) (hB : B ≤ w.heap.size) (hub : usB (l.map Co.pl) a.id a.charges now) (hcl : ¬ 0 < a.cool) :
    Calls Try.prog 10 #[.slice A n cp, ablv a, .int .i64 now] w (UpO w true (usL (l.map Co.pl) a.id a.cool now)) := by
  have HUS : Hid (usL (l.map Co.pl) a.id a.cool now = putI (l.map Co.pl) a.id (wyI (l.map Co.pl) a.id now)) := Lib.hid (by unfold usL nbI; rw [if_neg hcl])
  have hclc : decide (0 < a.cool) = false := by simpa using hcl
  clear hcl
  have hb := below_box w (oAbl a)
  have HX := Lib.hid hb
  obtain ⟨rb, hrb⟩ : ∃ rb : Bool, rb = true ↔ RtC (l.map Co.pl) := ⟨@decide (RtC (l.map Co.pl)) (Classical.propDecidable _), by simp⟩
  have HRt : Hid (∀ V, Below w.heap.size w V → Calls Try.prog 17 #[.slice A n cp] V fun e w' => e = .returned (.bool rb) ∧ Below V.heap.size V w') := Lib.hid (fun V hV => right_any hn (by omega) hbk (hr.below hV hB) (Nat.le_trans hB hV.size) rb hrb)
  have HBo : Hid (∀ V, Below w.heap.size w V → Calls Try.prog 25 #[.slice A n cp, .int .i64 a.id] V (BkO V B (bkI (l.map Co.pl) a.id))) := Lib.hid (fun V hV => backOf_any a.id hn (by omega) (hr.below hV hB) (Nat.le_trans hB hV.size) hbc)
  have HRd : Hid (∀ V, Below w.heap.size w V → Calls Try.prog 19 #[.slice A n cp, ablv a, .int .i64 now] V fun e w' => e = .returned (.int .i64 (rdI a.charges (wyI (l.map Co.pl) a.id now).length)) ∧ Below V.heap.size V w') := Lib.hid (fun V hV => ready_any a now hch hn (by omega) hbk hbc (hr.below hV hB) (Nat.le_trans hB hV.size))
  have HCp : Hid (∀ V, Below w.heap.size w V → Calls Try.prog 23 #[.slice A n cp] V (CkO V (l.map Co.pl))) := Lib.hid (fun V hV => copyOf_any hn (by omega) hbk (hr.below hV hB) (Nat.le_trans hB hV.size))
  have HR := Lib.hid hr; have HB0 := Lib.hid hB; have HBK := Lib.hid hbk; have HN := Lib.hid hn
  have HRB := Lib.hid hrb
  have HLE : Hid (((bkI (l.map Co.pl) a.id).length : Int) ≤ 1000) := Lib.hid (by have := bk_short hbk a.id; omega)
  obtain ⟨P, hP⟩ : ∃ P, wyI (l.map Co.pl) a.id now = P := ⟨_, rfl⟩
  have HP : Hid (awI (bkI (l.map Co.pl) a.id) now = P) := Lib.hid hP
  obtain ⟨r, hr1⟩ : ∃ r, rdI a.charges P.length = r := ⟨_, rfl⟩
  have HRe := Lib.hid hr1
  unfold usB at hub
  rw [hP] at hub HRd
  rw [hr1] at HRd
  have hrt : RtC (l.map Co.pl) := hub.1
  have HRTC := Lib.hid hrt
  have hrb2 : rb = true := HRB.out.2 hrt
  subst hrb2
  have h3c : decide (a.id < 1) = false := by have := hub.2.1; simp; omega
  have hrp : 0 < r := by rw [← hr1]; exact rd_pos.2 hub.2.2.1
  have h2b : (r == 0) = false := beq_eq_false_iff_ne.2 (by omega)
  have h2c : decide (r = 0) = false := decide_eq_false (by omega)
  have h4c : decide ((100 : Int) ≤ (P.length : Int)) = false := by have := hub.2.2.2; simp; omega
  have HPL : Hid ((P.length : Int) < 100) := Lib.hid (by have := hub.2.2.2; omega)
  have HPu : Hid (∀ (V : World) (Bp : Nat) (Ap : Option Addr) (Q : List Int) (nq cq : Nat), Below w.heap.size w V → Q.length = nq → (nq : Int) ≤ 1000 → RW nu V Bp Ap Q → Bp ≤ V.heap.size → Calls Try.prog 28 #[.slice A n cp, .int .i64 a.id, .slice Ap nq cq] V (CkO V (putI (l.map Co.pl) a.id Q))) := Lib.hid (fun V Bp Ap Q nq cq hV h1 h2 h3 h4 => put_any a.id hn hl hbk (hr.below hV hB) (Nat.le_trans hB hV.size) hrt h1 h2 h3 h4)
  clear hub hrt hrp
  rw [hP] at HUS
  clear hr hB hbk hch hn hrb hP hr1 hbc
  have HZ : Hid (∀ wz, Below (w.alloc (oAbl a)).heap.size (w.alloc (oAbl a)) wz → w.heap.size < wz.heap.size ∧ wz.heap[w.heap.size]? = some (oAbl a) ∧ wz.cell? ⟨w.heap.size, 0, none⟩ = some (.int .i64 a.id) ∧ wz.cell? ⟨w.heap.size, 2, none⟩ = some (.int .i64 a.cool) ∧ wz.cell? ⟨w.heap.size, 3, none⟩ = some (.int .i64 a.charges)) := Lib.hid (fun wz h => box_abl h)
  go_enter Try.func10, Try.ntmps10
  have HB1 := Lib.hid (Below.refl (w.alloc (oAbl a)).heap.size (w.alloc (oAbl a)))
  have zb := cellsAbl (HZ.out _ HB1.out).2.1
  have lb := (HZ.out _ HB1.out).1
  have HRtN := Lib.hid (HRt.out _ HX.out)
  go_wp2_with (first
    | ((with_reducible refine HRtN.out.mono ?_); rintro e w2 ⟨rfl, hB⟩; have HB2 := Lib.hid (HB1.out.trans (hB.mono HB1.out.size)); clear zb lb; have zb := cellsAbl (HZ.out w2 HB2.out).2.1; have lb := (HZ.out w2 HB2.out).1; clear hB; have HRdN := Lib.hid (HRd.out w2 (HX.out.trans (HB2.out.mono HX.out.size))))
    | ((with_reducible refine HRdN.out.mono ?_); rintro e w3 ⟨rfl, hB⟩; have HB3 := Lib.hid (HB2.out.trans (hB.mono HB2.out.size)); clear zb lb; have zb := cellsAbl (HZ.out w3 HB3.out).2.1; have lb := (HZ.out w3 HB3.out).1; clear hB; have HBoN := Lib.hid (HBo.out w3 (HX.out.trans (HB3.out.mono HX.out.size))))
    | ((with_reducible refine HBoN.out.mono ?_); rintro e w4 ⟨Ab, cb, M, rfl, hM, hRM, hMc, hBo⟩; have HB4 := Lib.hid (HB3.out.trans (hBo.out.mono HB3.out.size)); clear zb lb; have zb := cellsAbl (HZ.out w4 HB4.out).2.1; have lb := (HZ.out w4 HB4.out).1; have HEnN := Lib.hid (end_any (c := cb) now rfl (by rw [hM.out]; exact HLE.out) (hRM.out.below hBo.out (Nat.le_trans HB0.out (Nat.le_trans HX.out.size HB3.out.size))) (Nat.le_trans (Nat.le_trans HB0.out (Nat.le_trans HX.out.size HB3.out.size)) hBo.out.size) hMc.out (by rw [hM.out]; exact bk_sorted HRTC.out a.id)))
    | ((with_reducible refine HEnN.out.mono ?_); rintro e w5 ⟨Ae, ce, P1, rfl, hP1, hRP, hce, hBe⟩; have HB5 := Lib.hid (HB4.out.trans (hBe.out.mono HB4.out.size)); clear zb lb; have zb := cellsAbl (HZ.out w5 HB5.out).2.1; have lb := (HZ.out w5 HB5.out).1; have hq := (hP1.out.trans (congrArg (awI · now) hM.out)).trans HP.out; subst hq; have HRP := Lib.hid (hRP.out.below hBe.out (Nat.le_trans HB0.out (Nat.le_trans HX.out.size HB4.out.size))); have hq2 := hce.out; subst hq2; have HPuN := Lib.hid (HPu.out w5 B Ae P1 P1.length P1.length (HX.out.trans (HB5.out.mono HX.out.size)) rfl (by have := HPL.out; omega) HRP.out (Nat.le_trans HB0.out (Nat.le_trans HX.out.size HB5.out.size))))
    | ((with_reducible refine HPuN.out.mono ?_); rintro e w6 ⟨A9, c9, M9, rfl, hM9, hK9, hC9, hB9⟩; have HB6 := Lib.hid (HB5.out.trans (hB9.out.mono HB5.out.size)); clear zb lb; have zb := cellsAbl (HZ.out w6 HB6.out).2.1; have lb := (HZ.out w6 HB6.out).1; skip))
  go_ret2
  exact ⟨A9, c9, M9, rfl, Lib.hid (hM9.out.trans HUS.out.symm), Lib.hid (hK9.out.mono (Nat.le_trans HX.out.size HB5.out.size)), hC9, Lib.hid (HX.out.trans (HB6.out.mono HX.out.size))⟩

set_option maxRecDepth 20000 in
set_option maxHeartbeats 4000000 in
theorem use_y1 {w : World} {B : Nat} {A : Option Addr} {l : List Co} {n cp : Nat} (a : Abl) (now : Int) (hch : Fits a.charges) (hn : l.length = n) (hl : (n : Int) ≤ 1000) (hbk : ∀ x ∈ l, x.bk.length ≤ 1000) (hbc : ∀ x ∈ l, x.bk.length ≤ x.bc) (hr : KRc w B A l) (hB : B ≤ w.heap.size) (hub : usB (l.map Co.pl) a.id a.charges now) (hcl : 0 < a.cool) (hfc : Fits a.cool) (hfn : Fits now) (hfl : ∀ x ∈ l, ∀ y ∈ x.bk, Fits y) :
    Calls Try.prog 10 #[.slice A n cp, ablv a, .int .i64 now] w (UpO w true (usL (l.map Co.pl) a.id a.cool now)) := by
  have HUS : Hid (usL (l.map Co.pl) a.id a.cool now = putI (l.map Co.pl) a.id (wyI (l.map Co.pl) a.id now ++ [held (a.cool + (wyI (l.map Co.pl) a.id now).getLastD now)])) := Lib.hid (by unfold usL nbI; rw [if_pos hcl, Int.add_comm])
  have hclc : decide (0 < a.cool) = true := by simpa using hcl
  have HFC := Lib.hid hfc
  have HFL0 : Hid (Fits ((wyI (l.map Co.pl) a.id now).getLastD now)) := Lib.hid (by
    rcases last_in (b := wyI (l.map Co.pl) a.id now) now with ⟨_, e⟩ | e
    · rw [e]; exact hfn
    · have h1 := aw_in e
      obtain ⟨x, hx, hq⟩ := List.mem_map.1 (bk_in (l := l.map Co.pl) (id := a.id) (by have := List.length_pos_of_mem h1; omega))
      injection hq with _ q
      rw [← q] at h1
      exact hfl x hx _ h1)
  clear hcl hfc hfn hfl
  have hb := below_box w (oAbl a)
  have HX := Lib.hid hb
  obtain ⟨rb, hrb⟩ : ∃ rb : Bool, rb = true ↔ RtC (l.map Co.pl) := ⟨@decide (RtC (l.map Co.pl)) (Classical.propDecidable _), by simp⟩
  have HRt : Hid (∀ V, Below w.heap.size w V → Calls Try.prog 17 #[.slice A n cp] V fun e w' => e = .returned (.bool rb) ∧ Below V.heap.size V w') := Lib.hid (fun V hV => right_any hn (by omega) hbk (hr.below hV hB) (Nat.le_trans hB hV.size) rb hrb)
  have HBo : Hid (∀ V, Below w.heap.size w V → Calls Try.prog 25 #[.slice A n cp, .int .i64 a.id] V (BkO V B (bkI (l.map Co.pl) a.id))) := Lib.hid (fun V hV => backOf_any a.id hn (by omega) (hr.below hV hB) (Nat.le_trans hB hV.size) hbc)
  have HRd : Hid (∀ V, Below w.heap.size w V → Calls Try.prog 19 #[.slice A n cp, ablv a, .int .i64 now] V fun e w' => e = .returned (.int .i64 (rdI a.charges (wyI (l.map Co.pl) a.id now).length)) ∧ Below V.heap.size V w') := Lib.hid (fun V hV => ready_any a now hch hn (by omega) hbk hbc (hr.below hV hB) (Nat.le_trans hB hV.size))
  have HCp : Hid (∀ V, Below w.heap.size w V → Calls Try.prog 23 #[.slice A n cp] V (CkO V (l.map Co.pl))) := Lib.hid (fun V hV => copyOf_any hn (by omega) hbk (hr.below hV hB) (Nat.le_trans hB hV.size))
  have HR := Lib.hid hr; have HB0 := Lib.hid hB; have HBK := Lib.hid hbk; have HN := Lib.hid hn
  have HRB := Lib.hid hrb
  have HLE : Hid (((bkI (l.map Co.pl) a.id).length : Int) ≤ 1000) := Lib.hid (by have := bk_short hbk a.id; omega)
  obtain ⟨P, hP⟩ : ∃ P, wyI (l.map Co.pl) a.id now = P := ⟨_, rfl⟩
  have HP : Hid (awI (bkI (l.map Co.pl) a.id) now = P) := Lib.hid hP
  obtain ⟨r, hr1⟩ : ∃ r, rdI a.charges P.length = r := ⟨_, rfl⟩
  have HRe := Lib.hid hr1
  unfold usB at hub
  rw [hP] at hub HRd
  rw [hr1] at HRd
  have hrt : RtC (l.map Co.pl) := hub.1
  have HRTC := Lib.hid hrt
  have hrb2 : rb = true := HRB.out.2 hrt
  subst hrb2
  have h3c : decide (a.id < 1) = false := by have := hub.2.1; simp; omega
  have hrp : 0 < r := by rw [← hr1]; exact rd_pos.2 hub.2.2.1
  have h2b : (r == 0) = false := beq_eq_false_iff_ne.2 (by omega)
  have h2c : decide (r = 0) = false := decide_eq_false (by omega)
  have h4c : decide ((100 : Int) ≤ (P.length : Int)) = false := by have := hub.2.2.2; simp; omega
  have HPL : Hid ((P.length : Int) < 100) := Lib.hid (by have := hub.2.2.2; omega)
  have HPu : Hid (∀ (V : World) (Bp : Nat) (Ap : Option Addr) (Q : List Int) (nq cq : Nat), Below w.heap.size w V → Q.length = nq → (nq : Int) ≤ 1000 → RW nu V Bp Ap Q → Bp ≤ V.heap.size → Calls Try.prog 28 #[.slice A n cp, .int .i64 a.id, .slice Ap nq cq] V (CkO V (putI (l.map Co.pl) a.id Q))) := Lib.hid (fun V Bp Ap Q nq cq hV h1 h2 h3 h4 => put_any a.id hn hl hbk (hr.below hV hB) (Nat.le_trans hB hV.size) hrt h1 h2 h3 h4)
  clear hub hrt hrp
  rw [hP] at HUS HFL0
  clear hr hB hbk hch hn hrb hP hr1 hbc
  have HZ : Hid (∀ wz, Below (w.alloc (oAbl a)).heap.size (w.alloc (oAbl a)) wz → w.heap.size < wz.heap.size ∧ wz.heap[w.heap.size]? = some (oAbl a) ∧ wz.cell? ⟨w.heap.size, 0, none⟩ = some (.int .i64 a.id) ∧ wz.cell? ⟨w.heap.size, 2, none⟩ = some (.int .i64 a.cool) ∧ wz.cell? ⟨w.heap.size, 3, none⟩ = some (.int .i64 a.charges)) := Lib.hid (fun wz h => box_abl h)
  go_enter Try.func10, Try.ntmps10
  have HB1 := Lib.hid (Below.refl (w.alloc (oAbl a)).heap.size (w.alloc (oAbl a)))
  have zb := cellsAbl (HZ.out _ HB1.out).2.1
  have lb := (HZ.out _ HB1.out).1
  have HRtN := Lib.hid (HRt.out _ HX.out)
  go_wp2_with (first
    | ((with_reducible refine HRtN.out.mono ?_); rintro e w2 ⟨rfl, hB⟩; have HB2 := Lib.hid (HB1.out.trans (hB.mono HB1.out.size)); clear zb lb; have zb := cellsAbl (HZ.out w2 HB2.out).2.1; have lb := (HZ.out w2 HB2.out).1; clear hB; have HRdN := Lib.hid (HRd.out w2 (HX.out.trans (HB2.out.mono HX.out.size))))
    | ((with_reducible refine HRdN.out.mono ?_); rintro e w3 ⟨rfl, hB⟩; have HB3 := Lib.hid (HB2.out.trans (hB.mono HB2.out.size)); clear zb lb; have zb := cellsAbl (HZ.out w3 HB3.out).2.1; have lb := (HZ.out w3 HB3.out).1; clear hB; have HBoN := Lib.hid (HBo.out w3 (HX.out.trans (HB3.out.mono HX.out.size))))
    | ((with_reducible refine HBoN.out.mono ?_); rintro e w4 ⟨Ab, cb, M, rfl, hM, hRM, hMc, hBo⟩; have HB4 := Lib.hid (HB3.out.trans (hBo.out.mono HB3.out.size)); clear zb lb; have zb := cellsAbl (HZ.out w4 HB4.out).2.1; have lb := (HZ.out w4 HB4.out).1; have HEnN := Lib.hid (end_any (c := cb) now rfl (by rw [hM.out]; exact HLE.out) (hRM.out.below hBo.out (Nat.le_trans HB0.out (Nat.le_trans HX.out.size HB3.out.size))) (Nat.le_trans (Nat.le_trans HB0.out (Nat.le_trans HX.out.size HB3.out.size)) hBo.out.size) hMc.out (by rw [hM.out]; exact bk_sorted HRTC.out a.id)))
    | ((with_reducible refine HEnN.out.mono ?_); rintro e w5 ⟨Ae, ce, P1, rfl, hP1, hRP, hce, hBe⟩; have HB5 := Lib.hid (HB4.out.trans (hBe.out.mono HB4.out.size)); clear zb lb; have zb := cellsAbl (HZ.out w5 HB5.out).2.1; have lb := (HZ.out w5 HB5.out).1; have hq := (hP1.out.trans (congrArg (awI · now) hM.out)).trans HP.out; subst hq; have HRP := Lib.hid (hRP.out.below hBe.out (Nat.le_trans HB0.out (Nat.le_trans HX.out.size HB4.out.size))); have hq2 := hce.out; subst hq2; skip))
  obtain ⟨la, hla⟩ : ∃ la, P1.getLastD now = la := ⟨_, rfl⟩
  rw [hla] at HFL0 HUS
  have HFL := HFL0
  have HLA := Lib.hid hla
  clear hla
  have HPL1 : Hid ((P1.length : Int) ≤ 1000) := Lib.hid (by have := HPL.out; omega)
  have HPL2 : Hid (P1.length ≤ 1000) := Lib.hid (by have := HPL.out; omega)
  have HLast : Hid (∀ V, Below w5.heap.size w5 V → Calls Try.prog 27 #[.slice Ae P1.length P1.length, .int .i64 now] V fun e w' => e = .returned (.int .i64 la) ∧ w' = V) := Lib.hid (fun V hV => by
    have h9 := last_any (c := P1.length) now rfl HPL1.out (HRP.out.below hV (Nat.le_trans HB0.out (Nat.le_trans HX.out.size HB5.out.size))) (Nat.le_trans (Nat.le_trans HB0.out (Nat.le_trans HX.out.size HB5.out.size)) hV.size)
    rw [HLA.out] at h9; exact h9)
  have hD0 : Below w5.heap.size w5 w5.drew := (Below.refl _ _).drew
  have hS0 : Below (w.alloc (oAbl a)).heap.size (w.alloc (oAbl a)) w5.drew := HB5.out.trans (hD0.mono HB5.out.size)
  refine wp_region_noPanic ?_
  refine wp_region_held_drew (S := fun w' => Below (w.alloc (oAbl a)).heap.size (w.alloc (oAbl a)) w') (by kernel_rfl) hS0 (fun _ => ?_)
  generalize w5.drew = v0 at hD0 hS0 ⊢
  refine wpAnyH_take (i := 0) (oi := ⟨some 40, Op.move (Operand.tmp 8), 33, _, _, none⟩) (v := ?va0) rfl (by kernel_rfl) (by kernel_rfl) (by kernel_rfl) (fun _ _ _ h => h) (Or.inl ⟨by rfl, ?ha0⟩) hS0 ?ra0
  case ha0 => (intro wz hSw; go_simp <;> with_reducible rfl)
  (try simp only [Act.put, List.setIfInBounds_toArray, List.set_cons_zero, List.set_cons_succ])
  refine wpAnyH_take (i := 1) (oi := ⟨some 41, Op.fieldAddr 25 (Operand.tmp 4) 2, 0, _, _, none⟩) (v := ?va1) rfl (by kernel_rfl) (by kernel_rfl) (by kernel_rfl) (fun _ _ _ h => h) (Or.inl ⟨by rfl, ?ha1⟩) hS0 ?ra1
  case ha1 => (intro wz hSw; go_simp <;> with_reducible rfl)
  (try simp only [Act.put, List.setIfInBounds_toArray, List.set_cons_zero, List.set_cons_succ])
  refine wpAnyH_take (i := 2) (oi := ⟨some 42, Op.load 3 (Operand.tmp 41), 3, _, _, none⟩) (v := ?va2) rfl (by kernel_rfl) (by kernel_rfl) (by kernel_rfl) (fun _ _ _ h => h) (Or.inl ⟨by rfl, ?ha2⟩) hS0 ?ra2
  case ha2 => (intro wz hSw; have z0 := cellsAbl (HZ.out wz hSw).2.1; have z1 := (HZ.out wz hSw).1; go_simp <;> with_reducible rfl)
  (try simp only [Act.put, List.setIfInBounds_toArray, List.set_cons_zero, List.set_cons_succ])
  refine wpAnyH_take (i := 3) (oi := ⟨some 43, Op.move (Operand.tmp 8), 33, _, _, none⟩) (v := ?va3) rfl (by kernel_rfl) (by kernel_rfl) (by kernel_rfl) (fun _ _ _ h => h) (Or.inl ⟨by rfl, ?ha3⟩) hS0 ?ra3
  case ha3 => (intro wz hSw; go_simp <;> with_reducible rfl)
  (try simp only [Act.put, List.setIfInBounds_toArray, List.set_cons_zero, List.set_cons_succ])
  refine wpAnyH_take (i := 4) (oi := ⟨some 44, Op.move (Operand.tmp 2), 3, _, _, none⟩) (v := ?va4) rfl (by kernel_rfl) (by kernel_rfl) (by kernel_rfl) (fun _ _ _ h => h) (Or.inl ⟨by rfl, ?ha4⟩) hS0 ?ra4
  case ha4 => (intro wz hSw; go_simp <;> with_reducible rfl)
  (try simp only [Act.put, List.setIfInBounds_toArray, List.set_cons_zero, List.set_cons_succ])
  refine wpAnyH_ready (rs := [5]) (by kernel_rfl) (by simp) ?_
  refine AllReadyH.cons (o := ⟨some 45, Op.call { callee := Callee.value (Operand.func 27), args := #[Operand.tmp 43, Operand.tmp 44], argTypes := #[33, 3] }, 3, _, _, none⟩) rfl (fun K hK => ?_) AllReadyH.nil
  go_simp
  (with_reducible refine (HLast.out v0 hD0).mono ?_); rintro e v1 ⟨rfl, rfl⟩
  refine hK.out _ _ hS0 (fun _ => ?_)
  clear hK K
  (try simp only [Act.put, List.setIfInBounds_toArray, List.set_cons_zero, List.set_cons_succ])
  refine wpAnyH_ready (rs := [6]) (by kernel_rfl) (by simp) ?_
  refine AllReadyH.cons (o := ⟨some 46, Op.call { callee := Callee.value (Operand.func 26), args := #[Operand.tmp 42, Operand.tmp 45], argTypes := #[3, 3] }, 3, _, _, none⟩) rfl (fun K hK => ?_) AllReadyH.nil
  go_simp
  (with_reducible refine (add_any a.cool la v1 HFC.out HFL.out).mono ?_); rintro e v2 ⟨rfl, rfl⟩
  refine hK.out _ _ hS0 (fun _ => ?_)
  clear hK K
  (try simp only [Act.put, List.setIfInBounds_toArray, List.set_cons_zero, List.set_cons_succ])
  refine wpAnyH_ready (rs := [7]) (by kernel_rfl) (by simp) ?_
  refine AllReadyH.cons (o := ⟨some 47, Op.buildSlice 33 1 #[(0, Operand.tmp 46)], 33, _, _, none⟩) rfl (fun K hK => ?_) AllReadyH.nil
  go_simp
  have hA1 := below_box v1 (.cells #[.int .i64 (held (a.cool + la))] 3); have hS1 : Below (w.alloc (oAbl a)).heap.size (w.alloc (oAbl a)) (v1.alloc (.cells #[.int .i64 (held (a.cool + la))] 3)) := hS0.trans (hA1.mono hS0.size); have hc1 : (v1.alloc (.cells #[.int .i64 (held (a.cool + la))] 3)).cell? ⟨v1.heap.size, 0, none⟩ = some (.int .i64 (held (a.cool + la))) := box_cell1 (heap_alloc_new v1 _)
  refine hK.out _ _ hS1 (fun _ => ?_)
  clear hK K
  (try simp only [Act.put, List.setIfInBounds_toArray, List.set_cons_zero, List.set_cons_succ])
  refine wpAnyH_ready (rs := [8]) (by kernel_rfl) (by simp) ?_
  refine AllReadyH.cons (o := ⟨some 48, Op.call { callee := Callee.builtin Builtin.append, args := #[Operand.tmp 40, Operand.tmp 47], argTypes := #[33, 33] }, 33, _, _, none⟩) rfl (fun K hK => ?_) AllReadyH.nil
  refine step_appX rfl (.tmp 40) (.tmp 47) rfl Ae P1 B v1.heap.size (held (a.cool + la)) (by simp [Act.eval]) (by simp [Act.eval]) ((HRP.out.below hD0 (Nat.le_trans HB0.out (Nat.le_trans HX.out.size HB5.out.size))).below hA1 (Nat.le_trans (Nat.le_trans HB0.out (Nat.le_trans HX.out.size HB5.out.size)) hD0.size)) hc1 HPL2.out ?_
  intro A8 c8 v3 L8 nl hL8 hnl hO8 hG8; subst hnl; have HL8 := Lib.hid hL8; clear hL8; have hS2 : Below (w.alloc (oAbl a)).heap.size (w.alloc (oAbl a)) v3 := hS1.grown hG8 hS1.size (fun j hj => by cases hj)
  refine hK.out _ _ hS2 (fun _ => ?_)
  clear hK K
  (try simp only [Act.put, List.setIfInBounds_toArray, List.set_cons_zero, List.set_cons_succ])
  refine wpAnyH_take (i := 9) (oi := ⟨some 8, Op.assign (Operand.tmp 48), 33, _, _, none⟩) (v := ?va9) rfl (by kernel_rfl) (by kernel_rfl) (by kernel_rfl) (fun _ _ _ h => h) (Or.inl ⟨by rfl, ?ha9⟩) hS2 ?ra9
  case ha9 => (intro wz hSw; go_simp <;> with_reducible rfl)
  (try simp only [Act.put, List.setIfInBounds_toArray, List.set_cons_zero, List.set_cons_succ])
  refine wpAnyH_done (by kernel_rfl) ?_ _
  refine NoPanic.normal ?_
  have HB7 := Lib.hid hS2
  have HO8 := Lib.hid hO8
  clear hS2 hO8 hG8 hc1 hS1 hA1 hS0 hD0
  clear zb lb
  have zb := cellsAbl (HZ.out v3 HB7.out).2.1
  have lb := (HZ.out v3 HB7.out).1
  have HLL : Hid ((L8.length : Int) ≤ 1000) := Lib.hid (by have := HPL.out; rw [HL8.out]; simp; omega)
  have HPuN := Lib.hid (HPu.out v3 v3.heap.size A8 L8 L8.length c8 (HX.out.trans (HB7.out.mono HX.out.size)) rfl HLL.out (OW.pw HO8.out).rw' (Nat.le_refl _))
  go_wp2_with (first
    | ((with_reducible refine HPuN.out.mono ?_); rintro e w6 ⟨A9, c9, M9, rfl, hM9, hK9, hC9, hB9⟩; have HB6 := Lib.hid (HB7.out.trans (hB9.out.mono HB7.out.size)); clear zb lb; have zb := cellsAbl (HZ.out w6 HB6.out).2.1; have lb := (HZ.out w6 HB6.out).1; skip))
  go_ret2
  exact ⟨A9, c9, M9, rfl, Lib.hid (by rw [hM9.out, HL8.out]; exact HUS.out.symm), Lib.hid (hK9.out.mono (Nat.le_trans HX.out.size HB7.out.size)), hC9, Lib.hid (HX.out.trans (HB6.out.mono HX.out.size))⟩

theorem use_yes {w : World} {B : Nat} {A : Option Addr} {l : List Co} {n cp : Nat} (a : Abl) (now : Int) (hch : Fits a.charges) (hn : l.length = n) (hl : (n : Int) ≤ 1000) (hbk : ∀ x ∈ l, x.bk.length ≤ 1000) (hbc : ∀ x ∈ l, x.bk.length ≤ x.bc) (hr : KRc w B A l) (hB : B ≤ w.heap.size) (hub : usB (l.map Co.pl) a.id a.charges now) (hfc : Fits a.cool) (hfn : Fits now) (hfl : ∀ x ∈ l, ∀ y ∈ x.bk, Fits y) :
    Calls Try.prog 10 #[.slice A n cp, ablv a, .int .i64 now] w (UpO w true (usL (l.map Co.pl) a.id a.cool now)) := by
  by_cases hc : 0 < a.cool
  · exact use_y1 a now hch hn hl hbk hbc hr hB hub hc hfc hfn hfl
  · exact use_y0 a now hch hn hl hbk hbc hr hB hub hc
end Go.Proofs.Ytmdnjkiciaidiaa.Con
