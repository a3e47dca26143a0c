/-
  The document's Decode: which content bytes are; bytes that are short.
-/
import Derived.Test.YtpjenkgimkndaaaGreatRtc
import Derived.Test.YtpjenkgimkndaaaGreatRcm
import Derived.Test.YtpjenkgimkndaaaGreatEnc
namespace Go.Proofs.YtpjenkgimkndaaaGreat.Con
open Go.RowKit Go.Maps Pm Mth

/-- What the document's ReadInts answers. -/
theorem o_ints (A : Option Addr) (c : Nat) (b : List Int) (w : World) (B : Nat) (hr : Rd .u8 w B A b) (hB : B ≤ w.heap.size) (hl : (b.length : Int) ≤ 10000000) (hb : Byt b) (l : List Int) (z er : Int) (h : Pk.ix b 4 (b.length : Int) = (l, z, er)) :
    Calls Tryz.prog 46 #[.slice A b.length c, .int .i64 4, .int .i64 (b.length : Int)] w fun e w' => ∃ A' c', e = .returned (.tuple #[.slice A' l.length c', .int .i64 z, .int .i64 er]) ∧ Hid (Own w' w.heap.size .i64 3 A' c' l) ∧ Hid (Below w.heap.size w w') :=
  (Pk.rints_read A c b 4 w B hr hB hl hb (by omega) (b.length : Int)).mono (by
    rintro e w' ⟨lm, A', c', HL, rfl, HO, HB⟩
    rw [h] at HL ⊢
    have hl : lm = l := HL.out
    subst hl
    exact ⟨A', c', rfl, HO, HB⟩)
theorem rright_nc {w : World} {M : Nat} {c : Cn} (hr : NC w M c) (hs : Sm c) (x : Bool) (hx : x = true ↔ RightC c) :
    Calls Tryz.prog 34 #[cnv c] w fun e w' => e = .returned (.bool x) ∧ Below w.heap.size w w' := rright10 hr.rc (Nat.le_refl _) hs x hx
theorem no_mark {b : List Int} (h : ¬ ∃ t, b = mk4 ++ t) : DC b none := .inr ⟨dl_none1 (fun t e => h ⟨t, e⟩), rfl⟩
theorem short_no {b : List Int} (h : b.length < 4) : ¬ ∃ t, b = mk4 ++ t := by
  rintro ⟨t, rfl⟩
  rw [List.length_append] at h
  have h1 : mk4.length = 4 := rfl
  omega
theorem conv4 {w : World} {B : Nat} {A : Option Addr} {b : List Int} (c : Nat) (h : Rd .u8 w B A b) (h4 : 4 ≤ b.length) : (convert 38 9 (.slice A 4 c)).run Tryz.prog w = .ok (.string (strOfNums (b.take 4))) w := by
  have := conv c (h.take 4)
  rw [List.length_take, Nat.min_eq_left h4] at this
  exact this
theorem mk_str : (strOfNums mk4).toList = [66, 82, 87, 49] := by rw [ByteArray.toList_eq]; rfl
set_option maxRecDepth 20000 in
set_option maxHeartbeats 4000000 in
theorem o_decode (A : Option Addr) (c : Nat) (b : List Int) (w : World) (B : Nat) (hr : Rd .u8 w B A b) (hB : B ≤ w.heap.size) (hb : Byt b) (hc : b.length ≤ c) (hl : (b.length : Int) ≤ 10000000) (hd : ∀ l, DL b (some l) → l.length ≤ 400000) (hsm : ∀ d, DC b (some d) → Sm d) :
    Calls Tryz.prog 19 #[.slice A b.length c] w (DA w b) := by
  have hN := heap_alloc_new w (.cells #[.slice none 0 0, .slice none 0 0, .slice none 0 0, .int .i64 0, .int .i64 0, .slice none 0 0, .int .i64 0, .int .i64 0, .int .i64 0, .int .i64 0] 31)
  have hb0 : Below w.heap.size w (w.alloc (.cells #[.slice none 0 0, .slice none 0 0, .slice none 0 0, .int .i64 0, .int .i64 0, .slice none 0 0, .int .i64 0, .int .i64 0, .int .i64 0, .int .i64 0] 31)) := by go_grown
  have HR := Lib.hid (hr.below hb0 hB); have HBy := Lib.hid hb; have HC := Lib.hid hc; have HL := Lib.hid hl; have HD := Lib.hid hd; have HBw := Lib.hid hB; have HB0 := Lib.hid hb0; have HSm := Lib.hid hsm
  have hsz : w.heap.size < (w.alloc (.cells #[.slice none 0 0, .slice none 0 0, .slice none 0 0, .int .i64 0, .int .i64 0, .slice none 0 0, .int .i64 0, .int .i64 0, .int .i64 0, .int .i64 0] 31)).heap.size := by simp
  have hcb : (b.length : Int) ≤ c := by omega
  have hlb : (b.length : Int) ≤ 10000000 := hl
  clear hr hb hc hl hd hB hb0 hsm
  have HN := Lib.hid hN; have HSz := Lib.hid hsz
  have hz := cellOf' HN.out; have hyy := frozOf' HN.out; have hlt := lt_of_block HN.out
  clear hN hsz
  by_cases h4 : b.length < 4
  · have h4' : decide ((b.length : Int) < 4) = true := by simp; omega
    have h4n : decide (b.length < 4) = true := by simpa using h4
    have HNo : Hid (DC b none) := Lib.hid (no_mark (short_no h4))
    clear h4
    go_enter Tryz.func19, Tryz.ntmps19
    go_wp2
    refine bodyPost_ret (by simp [results, Tryz.results19, go_sem, hz]; try rfl) rfl ?_
    exact ⟨zCn, 2, rfl, Lib.hid (nc_zero _ _), Lib.hid ⟨none, HNo.out, .inl ⟨rfl, rfl, rfl⟩⟩, HB0⟩
  · have h4' : decide ((b.length : Int) < 4) = false := by simp; omega
    have h4n : decide (b.length < 4) = false := by simpa using h4
    obtain ⟨y, hy⟩ := bex (∃ t, b = mk4 ++ t)
    have HY := Lib.hid hy
    have hcv := conv4 c HR.out (by omega)
    have h4i : (4 : Int) ≤ b.length := by omega
    have h4c : (4 : Int) ≤ c := by omega
    have hne : ((strOfNums (b.take 4)).toList == [66, 82, 87, 49]) = y := by rw [← mk_str]; exact beq_str (HBy.out.take 4) mk_byt y (by rw [hy]; exact (pre_iff (by omega)).symm)
    clear h4 hy
    cases y with
    | false =>
      have HNo : Hid (DC b none) := Lib.hid (no_mark (fun h => by have := HY.out.2 h; cases this))
      go_enter Tryz.func19, Tryz.ntmps19
      go_wp2
      refine bodyPost_ret (by simp [results, Tryz.results19, go_sem, hz]; try rfl) rfl ?_
      exact ⟨zCn, 2, rfl, Lib.hid (nc_zero _ _), Lib.hid ⟨none, HNo.out, .inl ⟨rfl, rfl, rfl⟩⟩, HB0⟩
    | true =>
      obtain ⟨l, z, er, hix⟩ : ∃ l z er, Pk.ix b 4 (b.length : Int) = (l, z, er) := ⟨_, _, _, rfl⟩
      have HIx := Lib.hid hix; clear hix
      obtain ⟨t, ht⟩ := HY.out.1 rfl
      have HT := Lib.hid ht; clear ht
      go_enter Tryz.func19, Tryz.ntmps19
      go_wp2_with (fail)
      clear hz hyy hlt hcv hne
      generalize w.alloc (.cells #[.slice none 0 0, .slice none 0 0, .slice none 0 0, .int .i64 0, .int .i64 0, .slice none 0 0, .int .i64 0, .int .i64 0, .int .i64 0, .int .i64 0] 31) = w1 at *
      (with_reducible refine (o_ints A c b _ B HR.out (by have := HBw.out; have := HSz.out; omega) HL.out HBy.out l z er HIx.out).mono ?_); rintro e w2 ⟨A2, c2, rfl, HO2, HB2⟩
      have hw1' : w.heap.size < w1.heap.size := HSz.out
      have HN2 : Hid (w2.heap[w.heap.size]? = some (.cells #[.slice none 0 0, .slice none 0 0, .slice none 0 0, .int .i64 0, .int .i64 0, .slice none 0 0, .int .i64 0, .int .i64 0, .int .i64 0, .int .i64 0] 31)) := Lib.hid ((HB2.out.block _ hw1').trans HN.out)
      have HW2 : Hid (Below w.heap.size w w2) := Lib.hid (HB0.out.trans (HB2.out.mono (Nat.le_of_lt hw1')))
      have hw2 : w.heap.size < w2.heap.size := Nat.lt_of_lt_of_le hw1' HB2.out.size
      by_cases he : er = 0
      · subst he
        by_cases hz9 : z = (b.length : Int)
        · have HDL := Lib.hid (dl_some HBy.out HT.out (hz9 ▸ HIx.out))
          have HLl := Lib.hid (HD.out l HDL.out)
          have hzn : (z != (b.length : Int)) = false := by simp [hz9]
          have hzm : ((b.length : Int) != (b.length : Int)) = false := by simp
          clear HIx
          have HRl := Lib.hid (Own.rd HO2.out)
          go_wp2_with (fail)
          (with_reducible refine (o_unflat A2 c2 l _ w2.heap.size HRl.out (Nat.le_refl _) (by have := HLl.out; omega)).mono ?_); rintro e w3 ⟨k, x, rfl, HK, HU, HB3⟩
          have HN3 : Hid (w3.heap[w.heap.size]? = some (.cells #[.slice none 0 0, .slice none 0 0, .slice none 0 0, .int .i64 0, .int .i64 0, .slice none 0 0, .int .i64 0, .int .i64 0, .int .i64 0, .int .i64 0] 31)) := Lib.hid ((HB3.out.block _ hw2).trans HN2.out)
          have HW3 : Hid (Below w.heap.size w w3) := Lib.hid (HW2.out.trans (HB3.out.mono (Nat.le_of_lt hw2)))
          have hw3 : w.heap.size < w3.heap.size := Nat.lt_of_lt_of_le hw2 HB3.out.size
          have HN4 : Hid ((w3.alloc (.cells #[.slice k.aA k.ab.length k.aC, .slice k.uA k.au.length k.uC, .slice k.fA k.fo.length k.fC, .int .i64 k.W, .int .i64 k.H, .slice k.gA k.wl.length k.gC, .int .i64 k.dx, .int .i64 k.dy, .int .i64 k.lx, .int .i64 k.ly] 31)).heap[w.heap.size]? = some (.cells #[.slice none 0 0, .slice none 0 0, .slice none 0 0, .int .i64 0, .int .i64 0, .slice none 0 0, .int .i64 0, .int .i64 0, .int .i64 0, .int .i64 0] 31)) := Lib.hid ((Below.heap_alloc _ _ _ hw3).trans HN3.out)
          have HW4 : Hid (Below w.heap.size w (w3.alloc (.cells #[.slice k.aA k.ab.length k.aC, .slice k.uA k.au.length k.uC, .slice k.fA k.fo.length k.fC, .int .i64 k.W, .int .i64 k.H, .slice k.gA k.wl.length k.gC, .int .i64 k.dx, .int .i64 k.dy, .int .i64 k.lx, .int .i64 k.ly] 31))) := Lib.hid (HW3.out.alloc (Nat.le_of_lt hw3) _)
          have hz := cellOf' HN4.out; have hyy := frozOf' HN4.out; have hlt := lt_of_block HN4.out
          have Hw3 := Lib.hid hw3; clear hw3
          cases x with
          | false =>
            have HNo : Hid (DC b none) := Lib.hid (.inl ⟨l, HDL.out, by
              rcases HU.out with ⟨h, _⟩ | ⟨_, h, _⟩
              · cases h
              · exact h.symm⟩)
            go_wp2
            refine bodyPost_ret (by simp [results, Tryz.results19, go_sem, hz]; try rfl) rfl ?_
            exact ⟨zCn, 2, rfl, Lib.hid (nc_zero _ _), Lib.hid ⟨none, HNo.out, .inl ⟨rfl, rfl, rfl⟩⟩, Lib.hid (below_setCells _ (Nat.le_refl _) [.slice none 0 0, .slice none 0 0, .slice none 0 0, .int .i64 0, .int .i64 0, .slice none 0 0, .int .i64 0, .int .i64 0, .int .i64 0, .int .i64 0] 0 _ HW4.out)⟩
          | true =>
            have HOk : Hid (DC b (some k.pl)) := Lib.hid (.inl ⟨l, HDL.out, by
              rcases HU.out with ⟨_, h⟩ | ⟨h, _⟩
              · exact h.symm
              · cases h⟩)
            have HSk : Hid (Sm k) := Lib.hid ((HSm.out k.pl HOk.out).of_pl (by simp [Cn.pl, Ab.pl, Fo.pl, Function.comp_def]))
            obtain ⟨q, hq⟩ := bex (RightC k)
            have HQ := Lib.hid hq; clear hq
            have HK4 : Hid (NC (w3.alloc (.cells #[.slice k.aA k.ab.length k.aC, .slice k.uA k.au.length k.uC, .slice k.fA k.fo.length k.fC, .int .i64 k.W, .int .i64 k.H, .slice k.gA k.wl.length k.gC, .int .i64 k.dx, .int .i64 k.dy, .int .i64 k.lx, .int .i64 k.ly] 31)) w2.heap.size k) := Lib.hid (HK.out.kp (kp_below ((Below.refl _ _).alloc (Nat.le_refl _) _)))
            have HBk : Hid ((w3.alloc (.cells #[.slice k.aA k.ab.length k.aC, .slice k.uA k.au.length k.uC, .slice k.fA k.fo.length k.fC, .int .i64 k.W, .int .i64 k.H, .slice k.gA k.wl.length k.gC, .int .i64 k.dx, .int .i64 k.dy, .int .i64 k.lx, .int .i64 k.ly] 31)).heap[w3.heap.size]? = some (.cells #[.slice k.aA k.ab.length k.aC, .slice k.uA k.au.length k.uC, .slice k.fA k.fo.length k.fC, .int .i64 k.W, .int .i64 k.H, .slice k.gA k.wl.length k.gC, .int .i64 k.dx, .int .i64 k.dy, .int .i64 k.lx, .int .i64 k.ly] 31)) := Lib.hid (heap_alloc_new w3 _)
            have hb := cellOf' HBk.out; have hbl := lt_of_block HBk.out
            go_wp2_with (fail)
            generalize hwa : w3.alloc (.cells #[.slice k.aA k.ab.length k.aC, .slice k.uA k.au.length k.uC, .slice k.fA k.fo.length k.fC, .int .i64 k.W, .int .i64 k.H, .slice k.gA k.wl.length k.gC, .int .i64 k.dx, .int .i64 k.dy, .int .i64 k.lx, .int .i64 k.ly] 31) = wa at *
            clear hwa
            (with_reducible refine (rright_nc HK4.out HSk.out q HQ.out).mono ?_); rintro e w5 ⟨rfl, hB5⟩
            have HB5 := Lib.hid hB5
            have hw4 : w.heap.size < wa.heap.size := hlt
            have HN5 : Hid (w5.heap[w.heap.size]? = some (.cells #[.slice none 0 0, .slice none 0 0, .slice none 0 0, .int .i64 0, .int .i64 0, .slice none 0 0, .int .i64 0, .int .i64 0, .int .i64 0, .int .i64 0] 31)) := Lib.hid ((hB5.block _ hw4).trans HN4.out)
            have HBk5 : Hid (w5.heap[w3.heap.size]? = some (.cells #[.slice k.aA k.ab.length k.aC, .slice k.uA k.au.length k.uC, .slice k.fA k.fo.length k.fC, .int .i64 k.W, .int .i64 k.H, .slice k.gA k.wl.length k.gC, .int .i64 k.dx, .int .i64 k.dy, .int .i64 k.lx, .int .i64 k.ly] 31)) := Lib.hid ((hB5.block _ hbl).trans HBk.out)
            have HW5 : Hid (Below w.heap.size w w5) := Lib.hid (HW4.out.trans (hB5.mono (Nat.le_of_lt hw4)))
            have HK5 : Hid (NC w5 w2.heap.size k) := Lib.hid (HK4.out.kp (kp_below hB5))
            have Hw2 := Lib.hid hw2
            clear hB5 hz hyy hlt hb hbl hw4 HU HN4 HBk
            have hz := cellOf' HN5.out; have hyy := frozOf' HN5.out; have hlt := lt_of_block HN5.out; have hb := cellOf' HBk5.out
            cases q with
            | false =>
              have HNr : Hid (¬ RightC k) := Lib.hid (fun h => by have := HQ.out.2 h; cases this)
              clear HQ
              go_wp2
              refine bodyPost_ret (by simp [results, Tryz.results19, go_sem, hz]; try rfl) rfl ?_
              exact ⟨zCn, 1, rfl, Lib.hid (nc_zero _ _), Lib.hid ⟨_, HOk.out, .inr (.inl ⟨k.pl, rfl, fun h => HNr.out ((rightC_pl k).1 h), rfl, rfl⟩)⟩, Lib.hid (below_setCells _ (Nat.le_refl _) [.slice none 0 0, .slice none 0 0, .slice none 0 0, .int .i64 0, .int .i64 0, .slice none 0 0, .int .i64 0, .int .i64 0, .int .i64 0, .int .i64 0] 0 _ HW5.out)⟩
            | true =>
              have HRt : Hid (RightC k) := Lib.hid (HQ.out.1 rfl)
              clear HQ
              go_wp2
              refine bodyPost_ret (by simp [results, Tryz.results19, go_sem, hz]; try rfl) rfl ?_
              exact ⟨k, 0, rfl, Lib.hid ((HK5.out.kp (kp_set (Below.refl _ _) Hw2.out [.slice k.aA k.ab.length k.aC, .slice k.uA k.au.length k.uC, .slice k.fA k.fo.length k.fC, .int .i64 k.W, .int .i64 k.H, .slice k.gA k.wl.length k.gC, .int .i64 k.dx, .int .i64 k.dy, .int .i64 k.lx, .int .i64 k.ly])).mono (Nat.le_of_lt Hw2.out)), Lib.hid ⟨_, HOk.out, .inr (.inr ⟨k.pl, rfl, (rightC_pl k).2 HRt.out, rfl, rfl⟩)⟩, Lib.hid (below_setCells _ (Nat.le_refl _) [.slice k.aA k.ab.length k.aC, .slice k.uA k.au.length k.uC, .slice k.fA k.fo.length k.fC, .int .i64 k.W, .int .i64 k.H, .slice k.gA k.wl.length k.gC, .int .i64 k.dx, .int .i64 k.dy, .int .i64 k.lx, .int .i64 k.ly] 0 _ HW5.out)⟩
        · have hzn : (z != (b.length : Int)) = true := by simpa using hz9
          have HNo : Hid (DC b none) := Lib.hid (.inr ⟨dl_none2 HIx.out (by omega) (by have := HL.out; omega) (.inr hz9), rfl⟩)
          have hz := cellOf' HN2.out; have hyy := frozOf' HN2.out; have hlt := lt_of_block HN2.out
          clear hz9
          go_wp2
          refine bodyPost_ret (by simp [results, Tryz.results19, go_sem, hz]; try rfl) rfl ?_
          exact ⟨zCn, 2, rfl, Lib.hid (nc_zero _ _), Lib.hid ⟨none, HNo.out, .inl ⟨rfl, rfl, rfl⟩⟩, Lib.hid (below_setCells _ (Nat.le_refl _) [.slice none 0 0, .slice none 0 0, .slice none 0 0, .int .i64 0, .int .i64 0, .slice none 0 0, .int .i64 0, .int .i64 0, .int .i64 0, .int .i64 0] 0 _ HW2.out)⟩
      · have he' : (er != 0) = true := by simpa using he
        have HNo : Hid (DC b none) := Lib.hid (.inr ⟨dl_none2 HIx.out (by omega) (by have := HL.out; omega) (.inl he), rfl⟩)
        have hz := cellOf' HN2.out; have hyy := frozOf' HN2.out; have hlt := lt_of_block HN2.out
        clear he
        go_wp2
        refine bodyPost_ret (by simp [results, Tryz.results19, go_sem, hz]; try rfl) rfl ?_
        exact ⟨zCn, 2, rfl, Lib.hid (nc_zero _ _), Lib.hid ⟨none, HNo.out, .inl ⟨rfl, rfl, rfl⟩⟩, Lib.hid (below_setCells _ (Nat.le_refl _) [.slice none 0 0, .slice none 0 0, .slice none 0 0, .int .i64 0, .int .i64 0, .slice none 0 0, .int .i64 0, .int .i64 0, .int .i64 0, .int .i64 0] 0 _ HW2.out)⟩
theorem flat_ge {α : Type} {g : α → List Int} {l : List α} (h : ∀ x ∈ l, 1 ≤ (g x).length) : l.length ≤ (fRows g l).length := by
  unfold fRows
  rw [List.length_cons]
  have : l.length ≤ (l.flatMap g).length := by
    induction l with
    | nil => simp
    | cons x r ih =>
      rw [List.flatMap_cons, List.length_append, List.length_cons]
      have h1 := h x (by simp)
      have h2 := ih (fun y hy => h y (List.mem_cons_of_mem _ hy))
      omega
  omega
theorem flat_mem {α : Type} {g : α → List Int} {l : List α} {a : α} (h : a ∈ l) : (g a).length ≤ (fRows g l).length := by
  unfold fRows
  rw [List.length_cons]
  have : (g a).length ≤ (l.flatMap g).length := by
    induction l with
    | nil => cases h
    | cons x r ih =>
      rw [List.flatMap_cons, List.length_append]
      rcases List.mem_cons.1 h with rfl | h
      · omega
      · have := ih h; omega
  omega
/-- Content of few numbers is short in all its rows. -/
theorem sm_flat {d : Cn} (h : (fCn d).length ≤ 50000) : Sm d := by
  have e : (fCn d).length = (fRows fAb d.ab).length + (fRows fAu d.au).length + (fRows fFo d.fo).length + 2 + (fRows fTr d.wl).length + 2 + 2 := by simp [fCn]; omega
  have e1 := flat_ge (g := fAb) (l := d.ab) (fun x _ => by simp [fAb])
  have e2 := flat_ge (g := fAu) (l := d.au) (fun x _ => by simp [fAu])
  have e3 := flat_ge (g := fFo) (l := d.fo) (fun x _ => by simp [fFo])
  have e4 := flat_ge (g := fTr) (l := d.wl) (fun x _ => by simp [fTr])
  refine ⟨by omega, by omega, by omega, by omega, fun a ha => ?_, fun a ha => ?_, fun a ha => ?_⟩
  · have := flat_mem (g := fAb) ha
    have := flat_ge (g := fEf) (l := a.eff) (fun x _ => by simp [fEf])
    have : (fAb a).length = 7 + (fRows fEf a.eff).length := by simp [fAb]; omega
    omega
  · have := flat_mem (g := fFo) ha
    have := flat_ge (g := fLn) (l := a.script) (fun x _ => by simp [fLn])
    have : (fFo a).length = 6 + (fRows fLn a.script).length + (fRows fPz a.hoard).length := by simp [fFo]; omega
    omega
  · have := flat_mem (g := fFo) ha
    have := flat_ge (g := fPz) (l := a.hoard) (fun x _ => by simp [fPz])
    have : (fFo a).length = 6 + (fRows fLn a.script).length + (fRows fPz a.hoard).length := by simp [fFo]; omega
    omega
theorem sm_zero : Sm zCn := ⟨by simp [zCn], by simp [zCn], by simp [zCn], by simp [zCn], by simp [zCn], by simp [zCn], by simp [zCn]⟩
/-- What both Unflats say of the numbers l. -/
def UnOk (l : List Int) (k : Cn) (x : Bool) : Prop := (x = true ∧ unfl l = some k.pl) ∨ (x = false ∧ unfl l = none ∧ k = zCn)
theorem UnOk.sm {l : List Int} {k : Cn} {x : Bool} (h : UnOk l k x) (hl : l.length ≤ 50000) : Sm k := by
  rcases h with ⟨_, h⟩ | ⟨_, _, rfl⟩
  · have h1 := (unfl_some h).1
    rw [fCn_pl] at h1
    exact sm_flat (by rw [h1]; exact hl)
  · exact sm_zero
theorem UnOk.same {l m : List Int} (hm : m = l) {k k' : Cn} {x x' : Bool} (h : UnOk m k x) (h' : UnOk l k' x') : x' = x ∧ k.pl = k'.pl := by
  subst hm
  rcases h with ⟨rfl, h⟩ | ⟨rfl, h, rfl⟩ <;> rcases h' with ⟨rfl, h'⟩ | ⟨rfl, h', rfl⟩
  · rw [h] at h'; exact ⟨rfl, Option.some.inj h'⟩
  · rw [h] at h'; cases h'
  · rw [h] at h'; cases h'
  · exact ⟨rfl, rfl⟩
/-- What both Decodes say of the bytes b. -/
def DcOk (b : List Int) (k : Cn) (er : Int) : Prop := ∃ o, DC b o ∧ ((o = none ∧ k = zCn ∧ er = 2) ∨ (∃ d, o = some d ∧ ¬ RightC d ∧ k = zCn ∧ er = 1) ∨ (∃ d, o = some d ∧ RightC d ∧ k.pl = d ∧ er = 0))
theorem dc_short {b : List Int} {d : Cn} (hl : (b.length : Int) ≤ 4096) (h : DC b (some d)) : Sm d := by
  obtain ⟨e1, _, _⟩ := dc_some h
  have := en_long (fCn d)
  rw [← e1] at this
  exact sm_flat (by omega)
theorem DcOk.sm {b : List Int} {k : Cn} {er : Int} (h : DcOk b k er) (hl : (b.length : Int) ≤ 4096) : Sm k := by
  obtain ⟨o, h1, h2⟩ := h
  rcases h2 with ⟨_, rfl, _⟩ | ⟨d, _, _, rfl, _⟩ | ⟨d, rfl, _, h3, _⟩
  · exact sm_zero
  · exact sm_zero
  · subst h3
    exact (dc_short hl h1).of_pl (by simp [Cn.pl, Ab.pl, Fo.pl, Function.comp_def])
theorem DcOk.same {b : List Int} (hb : (b.length : Int) ≤ 4096) {k k' : Cn} {er er' : Int} (h : DcOk b k er) (h' : DcOk b k' er') : er' = er ∧ k.pl = k'.pl := by
  obtain ⟨o, h1, h2⟩ := h
  obtain ⟨o', h1', h2'⟩ := h'
  have e := dc_uniq (by omega) h1 h1'
  subst e
  rcases h2 with ⟨rfl, rfl, rfl⟩ | ⟨d, rfl, hr, rfl, rfl⟩ | ⟨d, rfl, hr, h3, rfl⟩ <;> rcases h2' with ⟨e, rfl, rfl⟩ | ⟨d', e, hr', rfl, rfl⟩ | ⟨d', e, hr', h3', rfl⟩
  · exact ⟨rfl, rfl⟩
  · cases e
  · cases e
  · cases e
  · exact ⟨rfl, rfl⟩
  · injection e with e; subst e; exact absurd hr' hr
  · cases e
  · injection e with e; subst e; exact absurd hr hr'
  · injection e with e; subst e; exact ⟨rfl, by rw [h3, h3']⟩
theorem dec_p {w : World} {B : Nat} (A : Option Addr) (c : Nat) (b : List Int) (hr : Rd .u8 w B A b) (hB : B ≤ w.heap.size) (hb : Byt b) (hc : b.length ≤ c) (hl : (b.length : Int) ≤ 4096) :
    Calls Tryz.prog 18 #[.slice A b.length c] w fun e w' => ∃ (k : Cn) (er : Int), e = .returned (.tuple #[cnv k, .int .i64 er]) ∧ Hid (RC w' w'.heap.size k) ∧ Hid (DcOk b k er) ∧ Hid (Below w.heap.size w w') :=
  (decode_any A c b w B hr hB hb hc (by omega) (fun m h => by have := en_long m; rw [← h.1] at this; omega) (fun d h => dc_short hl h)).mono (by
    rintro e w' ⟨k, er, rfl, HK, HO, HB⟩
    exact ⟨k, er, rfl, Lib.hid HK.out.rc, HO, HB⟩)
theorem dec_d {w : World} {B : Nat} (A : Option Addr) (c : Nat) (b : List Int) (hr : Rd .u8 w B A b) (hB : B ≤ w.heap.size) (hb : Byt b) (hc : b.length ≤ c) (hl : (b.length : Int) ≤ 4096) :
    Calls Tryz.prog 19 #[.slice A b.length c] w fun e w' => ∃ (k : Cn) (er : Int), e = .returned (.tuple #[cnv k, .int .i64 er]) ∧ Hid (RC w' w'.heap.size k) ∧ Hid (DcOk b k er) ∧ Hid (Below w.heap.size w w') :=
  (o_decode A c b w B hr hB hb hc (by omega) (fun m h => by have := en_long m; rw [← h.1] at this; omega) (fun d h => dc_short hl h)).mono (by
    rintro e w' ⟨k, er, rfl, HK, HO, HB⟩
    exact ⟨k, er, rfl, Lib.hid HK.out.rc, HO, HB⟩)
end Go.Proofs.YtpjenkgimkndaaaGreat.Con
