/-
  Contract of Clean of package cool.
-/
import Derived.Test.YtmdnjkiciaidiaaPcd
import Derived.Test.YtmdnjkiciaidiaaCde
namespace Go.Proofs.Ytmdnjkiciaidiaa.Con
open Go.RowKit Go.Maps

theorem wy_one (x : Co) (now : Int) : awI x.bk now = wyI ([x].map Co.pl) x.id now := by unfold wyI bkI; simp [Co.pl]

set_option maxRecDepth 20000 in
set_option maxHeartbeats 4000000 in
theorem clean_any {w : World} {B : Nat} {A : Option Addr} {l : List Co} {n cp : Nat} (now : Int) (hn : l.length = n) (hl : (n : Int) ≤ 100000) (hbk : ∀ x ∈ l, x.bk.length ≤ 1000) (hr : KRc w B A l) (hB : B ≤ w.heap.size) :
    Calls Try.prog 12 #[.slice A n cp, .int .i64 now] w (CkO w (clI (l.map Co.pl) now)) := by
  subst hn
  have HR := Lib.hid hr; have HB := Lib.hid hB; have HBK := Lib.hid hbk
  clear hr hB hbk
  go_enter Try.func12, Try.ntmps12
  go_wp2
  go_loopg [5, 11] l.length (fun gh s5 s11 wr => ∃ (k : Nat) (A1 : Option Addr) (c1 : Nat) (L : List Co), k ≤ l.length ∧ gh = l.length - k ∧ s11 = .int .i64 k ∧ s5 = .slice A1 L.length c1 ∧ Hid (L.length ≤ k) ∧ Hid (L.map Co.pl = clI ((l.take k).map Co.pl) now) ∧ Hid (∀ x ∈ L, x.bk.length ≤ x.bc) ∧ Hid (K2c w wr w.heap.size (.slice A1 L.length c1) (.slice none 0 0) L []))
  case atStart => exact ⟨0, none, 0, [], by omega, rfl, rfl, rfl, Lib.hid (Nat.le_refl _), Lib.hid rfl, Lib.hid (by simp), Lib.hid (K2.start (Below.refl _ _) (Nat.le_refl _))⟩
  case round =>
    obtain ⟨k, A1, c1, L, hk, rfl, rfl, rfl, HLk, HL, HBC, HTW⟩ := hrel
    by_cases hlt : k < l.length
    · obtain ⟨x, hx⟩ : ∃ x, l[k]? = some x := ⟨_, List.getElem?_eq_getElem hlt⟩
      obtain ⟨b, off, hAA, hpl, c0, c1'⟩ := rowCo HR.out hx HTW.out.below HB.out
      subst hAA
      have HX := Lib.hid hx
      have hlt' : (k : Int) < l.length := by omega
      have HA1 : Hid (Below wr.heap.size wr (wr.alloc (oCo x))) := Lib.hid (below_box _ _)
      have HT1 := Lib.hid (HTW.out.of HA1.out)
      have HZ0 := Lib.hid (heap_alloc_new wr (oCo x))
      have HI := Lib.hid (HR.out.inner hx)
      have HBX : Hid ((x.bk.length : Int) ≤ 1000) := Lib.hid (by have := HBK.out x (List.mem_of_getElem? hx); omega)
      have HC := Lib.hid (away_any (c := x.bc) now rfl HBX.out (HI.out.below HT1.out.below HB.out) (Nat.le_trans HB.out HT1.out.top))
      have HL2 : Hid (∀ y : Co, L.length + [y].length ≤ 1000000) := Lib.hid (fun y => by have := HLk.out; simp; omega)
      obtain ⟨Q, hQ⟩ : ∃ Q, awI x.bk now = Q := ⟨_, rfl⟩
      have HQ := Lib.hid hQ
      rw [hQ] at HC
      clear hx hQ
      by_cases h0 : Q.length = 0
      · have hq : Q = [] := List.eq_nil_of_length_eq_zero h0
        subst hq
        go_wp2_with (first
          | ((with_reducible refine HC.out.mono ?_); rintro e w2 ⟨A3, c3, lm, rfl, hlm, hO, hB2⟩; have hq := hlm.out; subst hq; have HT2 := Lib.hid (HT1.out.of hB2.out)))
        go_roundg (l.length - (k + 1))
        case measure => omega
        case rel => exact ⟨k + 1, A1, c1, L, by omega, rfl, by go_num, rfl, Lib.hid (by have := HLk.out; omega), Lib.hid (cl_skip HL.out HX.out (HQ.out.symm.trans (wy_one x now)) rfl), HBC, HT2⟩
      · have h0' : decide ((0 : Int) < (Q.length : Int)) = true := decide_eq_true (by omega)
        go_wp2_with (first
          | ((with_reducible refine HC.out.mono ?_); rintro e w2 ⟨A3, c3, lm, rfl, hlm, hO, hB2⟩; have hq := hlm.out; subst hq; have HT2 := Lib.hid (HT1.out.of hB2.out); have y0 := blk_cell HZ0.out hB2.out (by simp); have ly : wr.heap.size < w2.heap.size := Nat.lt_of_lt_of_le (by simp) hB2.out.size; have HA4 := Lib.hid (below_box w2 (.cells #[.int .i64 x.id, .slice A3 lm.length c3] 35)); have HT4 := Lib.hid (HT2.out.of HA4.out); have HRW : Hid (RW co (w2.alloc (.cells #[.int .i64 x.id, .slice A3 lm.length c3] 35)) (w2.heap.size + 1) (some ⟨w2.heap.size, 0, none⟩) [⟨x.id, A3, lm, c3⟩]) := Lib.hid (rw_at co _ _ _ _ _ rfl rfl rfl))
          | (at_builtin; refine wpList_app co rfl 22 rfl (.tmp 22) (.tmp 27) rfl w.heap.size (w2.heap.size + 1) (.slice A1 L.length c1) L [⟨x.id, A3, lm, c3⟩] (some ⟨w2.heap.size, 0, none⟩) 1 1 rfl rfl rfl HT4.out.a.own HRW.out (HL2.out _) HT4.out.top ?_; intro A4 c4 w4 lm4 HM4 HO4 HS4 HB4))
        go_roundg (l.length - (k + 1))
        case measure => omega
        case rel => exact ⟨k + 1, A4, c4, lm4, by omega, rfl, by go_num, rfl, Lib.hid (by have := HLk.out; rw [HM4.out]; simp; omega), Lib.hid (by rw [HM4.out]; exact cl_next HL.out HX.out _ _ (HQ.out.symm.trans (wy_one x now)) h0), Lib.hid (bc_next HBC.out (y := ⟨x.id, A3, lm, c3⟩) hO.out.cap HM4.out), Lib.hid (HT4.out.more ((OW.pw hO.out).of HA4.out) (fun q hq => (HT1.out.a.own.lt hq).2) HT1.out.top HM4.out HS4.out HO4.out HB4.out)⟩
    · have hlt' : decide ((k : Int) < l.length) = false := by simp; omega
      have hkn : k = l.length := by omega
      subst hkn
      go_wp2
      go_ret
      exact ⟨A1, c1, L, rfl, Lib.hid (by rw [HL.out, List.take_length]), Lib.hid HTW.out.a, HBC, Lib.hid HTW.out.below⟩
end Go.Proofs.Ytmdnjkiciaidiaa.Con
