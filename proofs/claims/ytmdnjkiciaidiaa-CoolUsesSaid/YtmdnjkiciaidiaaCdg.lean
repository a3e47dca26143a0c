/-
  Contract of the document's own Use, where it answers false.
-/
import Derived.Test.YtmdnjkiciaidiaaCdb
import Derived.Test.YtmdnjkiciaidiaaCde
import Derived.Test.YtmdnjkiciaidiaaCdf
namespace Go.Proofs.Ytmdnjkiciaidiaa.Con
open Go.RowKit Go.Maps

def UsO (w : World) (ub : Bool) (P : List Cp) (e : Ending) (w' : World) : Prop := ∃ A c M, e = .returned (.tuple #[.slice A (List.length M) c, .bool ub]) ∧ Hid (M.map Co.pl = P) ∧ Hid (KOc w' w.heap.size (.slice A M.length c) M) ∧ Hid (Below w.heap.size w w')

set_option maxRecDepth 20000 in
set_option maxHeartbeats 4000000 in
theorem ruse_no {w : World} {B : Nat} {A : Option Addr} {l : List Co} {n cp : Nat} (a : Abl) (now : Int) (hch : Fits a.charges) (hn : l.length = n) (hl : (n : Int) ≤ 100000) (hbk : ∀ x ∈ l, x.bk.length ≤ 1000) (hr : KRc w B A l) (hB : B ≤ w.heap.size) (hub : ¬ usB (l.map Co.pl) a.id a.charges now) :
    Calls Try.prog 11 #[.slice A n cp, ablv a, .int .i64 now] w (UsO w false (l.map Co.pl)) := by
  have hb := below_box w (oAbl a)
  have HX := Lib.hid hb
  obtain ⟨rb, hrb⟩ : ∃ rb : Bool, rb = true ↔ RtC (l.map Co.pl) := ⟨@decide (RtC (l.map Co.pl)) (Classical.propDecidable _), by simp⟩
  have HRt : Hid (∀ V, Below w.heap.size w V → Calls Try.prog 18 #[.slice A n cp] V fun e w' => e = .returned (.bool rb) ∧ Below V.heap.size V w') := Lib.hid (fun V hV => rright_any hn (by omega) hbk (hr.below hV hB) (Nat.le_trans hB hV.size) rb hrb)
  have HAw : Hid (∀ V, Below w.heap.size w V → Calls Try.prog 29 #[.slice A n cp, .int .i64 a.id, .int .i64 now] V (NuO V (wyI (l.map Co.pl) a.id now))) := Lib.hid (fun V hV => raway_any a.id now hn (by omega) hbk (hr.below hV hB) (Nat.le_trans hB hV.size))
  have HRd : Hid (∀ V, Below w.heap.size w V → Calls Try.prog 20 #[.slice A n cp, ablv a, .int .i64 now] V fun e w' => e = .returned (.int .i64 (rdI a.charges (wyI (l.map Co.pl) a.id now).length)) ∧ Below V.heap.size V w') := Lib.hid (fun V hV => rready_any a now hch hn (by omega) hbk (hr.below hV hB) (Nat.le_trans hB hV.size))
  have HCp : Hid (∀ V, Below w.heap.size w V → Calls Try.prog 9 #[.slice A n cp] V (CoO V (l.map Co.pl))) := Lib.hid (fun V hV => rcopy_any hn (by omega) hbk (hr.below hV hB) (Nat.le_trans hB hV.size))
  have HR := Lib.hid hr; have HB0 := Lib.hid hB; have HBK := Lib.hid hbk; have HN := Lib.hid hn
  have HRB := Lib.hid hrb
  obtain ⟨P, hP⟩ : ∃ P, wyI (l.map Co.pl) a.id now = P := ⟨_, rfl⟩
  have HP := Lib.hid hP
  obtain ⟨r, hr1⟩ : ∃ r, rdI a.charges P.length = r := ⟨_, rfl⟩
  have HRe := Lib.hid hr1
  unfold usB at hub
  rw [hP] at hub HRd
  rw [hr1] at HRd
  clear hr hB hbk hch hn hrb hP hr1
  have HZ : Hid (∀ wz, Below (w.alloc (oAbl a)).heap.size (w.alloc (oAbl a)) wz → w.heap.size < wz.heap.size ∧ wz.heap[w.heap.size]? = some (oAbl a) ∧ wz.cell? ⟨w.heap.size, 0, none⟩ = some (.int .i64 a.id) ∧ wz.cell? ⟨w.heap.size, 2, none⟩ = some (.int .i64 a.cool) ∧ wz.cell? ⟨w.heap.size, 3, none⟩ = some (.int .i64 a.charges)) := Lib.hid (fun wz h => box_abl h)
  go_enter Try.func11, Try.ntmps11
  have HB1 := Lib.hid (Below.refl (w.alloc (oAbl a)).heap.size (w.alloc (oAbl a)))
  have zb := cellsAbl (HZ.out _ HB1.out).2.1
  have lb := (HZ.out _ HB1.out).1
  have HRtN := Lib.hid (HRt.out _ HX.out)
  cases rb with
  | false =>
    go_wp2_with (first
      | ((with_reducible refine HRtN.out.mono ?_); rintro e w2 ⟨rfl, hB⟩; have HB2 := Lib.hid (HB1.out.trans (hB.mono HB1.out.size)); clear zb lb; have zb := cellsAbl (HZ.out w2 HB2.out).2.1; have lb := (HZ.out w2 HB2.out).1; clear hB; have HCpN := Lib.hid (HCp.out w2 (HX.out.trans (HB2.out.mono HX.out.size))))
      | ((with_reducible refine HCpN.out.mono ?_); rintro e w3 ⟨A9, c9, M, rfl, hM, hK, hBo⟩; have HB3 := Lib.hid (HB2.out.trans (hBo.out.mono HB2.out.size)); clear zb lb; have zb := cellsAbl (HZ.out w3 HB3.out).2.1; have lb := (HZ.out w3 HB3.out).1; skip))
    go_ret2
    exact ⟨A9, c9, M, rfl, hM, Lib.hid (hK.out.mono (Nat.le_trans HX.out.size HB2.out.size)), Lib.hid (HX.out.trans (HB3.out.mono HX.out.size))⟩
  | true =>
    have hrt : RtC (l.map Co.pl) := HRB.out.1 (by first | rfl | trivial)
    by_cases h2 : r = 0
    · have h2b : (r == 0) = true := by simpa using h2
      have h2c : decide (r = 0) = true := by simpa using h2
      subst h2
      go_wp2_with (first
        | ((with_reducible refine HRtN.out.mono ?_); rintro e w2 ⟨rfl, hB⟩; have HB2 := Lib.hid (HB1.out.trans (hB.mono HB1.out.size)); clear zb lb; have zb := cellsAbl (HZ.out w2 HB2.out).2.1; have lb := (HZ.out w2 HB2.out).1; clear hB; have HRdN := Lib.hid (HRd.out w2 (HX.out.trans (HB2.out.mono HX.out.size))))
        | ((with_reducible refine HRdN.out.mono ?_); rintro e w3 ⟨rfl, hB⟩; have HB3 := Lib.hid (HB2.out.trans (hB.mono HB2.out.size)); clear zb lb; have zb := cellsAbl (HZ.out w3 HB3.out).2.1; have lb := (HZ.out w3 HB3.out).1; clear hB; have HCpN := Lib.hid (HCp.out w3 (HX.out.trans (HB3.out.mono HX.out.size))))
        | ((with_reducible refine HCpN.out.mono ?_); rintro e w4 ⟨A9, c9, M, rfl, hM, hK, hBo⟩; have HB4 := Lib.hid (HB3.out.trans (hBo.out.mono HB3.out.size)); clear zb lb; have zb := cellsAbl (HZ.out w4 HB4.out).2.1; have lb := (HZ.out w4 HB4.out).1; skip))
      go_ret2
      exact ⟨A9, c9, M, rfl, hM, Lib.hid (hK.out.mono (Nat.le_trans HX.out.size HB3.out.size)), Lib.hid (HX.out.trans (HB4.out.mono HX.out.size))⟩
    · have h2b : (r == 0) = false := by simpa using h2
      have h2c : decide (r = 0) = false := by simpa using h2
      by_cases h3 : a.id < 1
      · have h3c : decide (a.id < 1) = true := by simpa using h3
        go_wp2_with (first
          | ((with_reducible refine HRtN.out.mono ?_); rintro e w2 ⟨rfl, hB⟩; have HB2 := Lib.hid (HB1.out.trans (hB.mono HB1.out.size)); clear zb lb; have zb := cellsAbl (HZ.out w2 HB2.out).2.1; have lb := (HZ.out w2 HB2.out).1; clear hB; have HRdN := Lib.hid (HRd.out w2 (HX.out.trans (HB2.out.mono HX.out.size))))
          | ((with_reducible refine HRdN.out.mono ?_); rintro e w3 ⟨rfl, hB⟩; have HB3 := Lib.hid (HB2.out.trans (hB.mono HB2.out.size)); clear zb lb; have zb := cellsAbl (HZ.out w3 HB3.out).2.1; have lb := (HZ.out w3 HB3.out).1; clear hB; have HCpN := Lib.hid (HCp.out w3 (HX.out.trans (HB3.out.mono HX.out.size))))
          | ((with_reducible refine HCpN.out.mono ?_); rintro e w4 ⟨A9, c9, M, rfl, hM, hK, hBo⟩; have HB4 := Lib.hid (HB3.out.trans (hBo.out.mono HB3.out.size)); clear zb lb; have zb := cellsAbl (HZ.out w4 HB4.out).2.1; have lb := (HZ.out w4 HB4.out).1; skip))
        go_ret2
        exact ⟨A9, c9, M, rfl, hM, Lib.hid (hK.out.mono (Nat.le_trans HX.out.size HB3.out.size)), Lib.hid (HX.out.trans (HB4.out.mono HX.out.size))⟩
      · have h3c : decide (a.id < 1) = false := by simpa using h3
        have h4 : 100 ≤ P.length := by
          have hc : (P.length : Int) < a.charges := by
            have q := HRe.out; unfold rdI at q; split at q <;> omega
          refine Nat.le_of_not_lt (fun h => hub ⟨hrt, by omega, hc, h⟩)
        have h4c : decide ((100 : Int) ≤ (P.length : Int)) = true := decide_eq_true (by omega)
        go_wp2_with (first
          | ((with_reducible refine HRtN.out.mono ?_); rintro e w2 ⟨rfl, hB⟩; have HB2 := Lib.hid (HB1.out.trans (hB.mono HB1.out.size)); clear zb lb; have zb := cellsAbl (HZ.out w2 HB2.out).2.1; have lb := (HZ.out w2 HB2.out).1; clear hB; have HRdN := Lib.hid (HRd.out w2 (HX.out.trans (HB2.out.mono HX.out.size))))
          | ((with_reducible refine HRdN.out.mono ?_); rintro e w3 ⟨rfl, hB⟩; have HB3 := Lib.hid (HB2.out.trans (hB.mono HB2.out.size)); clear zb lb; have zb := cellsAbl (HZ.out w3 HB3.out).2.1; have lb := (HZ.out w3 HB3.out).1; clear hB; have HAwN := Lib.hid (HAw.out w3 (HX.out.trans (HB3.out.mono HX.out.size))))
          | ((with_reducible refine HAwN.out.mono ?_); rintro e w4 ⟨Ab, cb, lm, rfl, hlm, hO, hBo⟩; have HB4 := Lib.hid (HB3.out.trans (hBo.out.mono HB3.out.size)); clear zb lb; have zb := cellsAbl (HZ.out w4 HB4.out).2.1; have lb := (HZ.out w4 HB4.out).1; have HQ := Lib.hid (hlm.out.trans HP.out); have hq := HQ.out; subst hq; have HCpN := Lib.hid (HCp.out w4 (HX.out.trans (HB4.out.mono HX.out.size))))
          | ((with_reducible refine HCpN.out.mono ?_); rintro e w5 ⟨A9, c9, M, rfl, hM, hK, hBo⟩; have HB5 := Lib.hid (HB4.out.trans (hBo.out.mono HB4.out.size)); clear zb lb; have zb := cellsAbl (HZ.out w5 HB5.out).2.1; have lb := (HZ.out w5 HB5.out).1; skip))
        go_ret2
        exact ⟨A9, c9, M, rfl, hM, Lib.hid (hK.out.mono (Nat.le_trans HX.out.size HB4.out.size)), Lib.hid (HX.out.trans (HB5.out.mono HX.out.size))⟩
end Go.Proofs.Ytmdnjkiciaidiaa.Con
