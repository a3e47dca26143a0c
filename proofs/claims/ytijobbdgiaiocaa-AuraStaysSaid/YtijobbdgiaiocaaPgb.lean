/-
  Contracts of ofKind, Sum and Has of package aura.
-/
import Derived.Test.YtijobbdgiaiocaaPga
namespace Go.Proofs.Ytijobbdgiaiocaa.Con
open Go.RowKit Go.Maps

/-- The aura of one, if it is of that kind; else a zero one. -/
def okA (L : List Au) (kind : Int) (a : Ac) : Au := if kdP L kind a = true then lkA L a.aura else zAu
set_option maxRecDepth 20000 in
set_option maxHeartbeats 1000000 in
theorem ofKind_any {w : World} {c : Cn} (x : Ac) (kind : Int) (hA : AuC c w) :
    Calls Try.prog 42 #[cnv c, acv x, .int .i64 kind] w fun e w' => e = .returned (.tuple #[auv (okA c.au kind x), .bool (kdP c.au kind x)]) ∧ Below w.heap.size w w' := by
  have hX : Below w.heap.size w (((w.alloc (oCn c)).alloc (oAc x)).alloc zcAu) := by go_grown
  have hsz : (((w.alloc (oCn c)).alloc (oAc x)).alloc zcAu).heap.size = w.heap.size + 1 + 1 + 1 := by simp
  have hn3 : (((w.alloc (oCn c)).alloc (oAc x)).alloc zcAu).heap[w.heap.size + 1 + 1]? = some zcAu := by have := heap_alloc_new ((w.alloc (oCn c)).alloc (oAc x)) zcAu; simpa using this
  obtain ⟨a, ha⟩ : ∃ a, lkA c.au x.aura = a := ⟨_, rfl⟩
  obtain ⟨y, hy⟩ : ∃ y, lkB c.au x.aura = y := ⟨_, rfl⟩
  have HC := Lib.hid (hA _ hX x.aura)
  rw [ha, hy] at HC
  have HX := Lib.hid hX; have HN := Lib.hid hn3; have HS := Lib.hid hsz; have HAE := Lib.hid ha; have HYE := Lib.hid hy
  clear hA hX hn3 hsz ha hy
  go_enter Try.func42, Try.ntmps42
  obtain ⟨Q, hQ⟩ : ∃ Q, Q = bodyPost Try.prog Try.f42 (fun e w' => e = .returned (.tuple #[auv (okA c.au kind x), .bool (kdP c.au kind x)]) ∧ Below w.heap.size w w') := ⟨_, rfl⟩
  rw [← hQ]
  have HQ := Lib.hid hQ
  clear hQ
  cases y with
  | false =>
    have HK : Hid (kdP c.au kind x = false) := Lib.hid (by unfold kdP; rw [HYE.out]; rfl)
    have HO : Hid (okA c.au kind x = zAu) := Lib.hid (by unfold okA; rw [HK.out]; rfl)
    go_wp2_with (first | ((with_reducible refine HC.out.mono ?_); rintro e w1 ⟨rfl, hB1⟩; have hV1 : Below w.heap.size w w1 := HX.out.trans (hB1.mono HX.out.size); have hz1 := hV1.size; have z1 := blk_cell HN.out hB1 (by rw [HS.out]; omega); have y1 := blk_froz HN.out hB1 (by rw [HS.out]; omega); have hs1 : w.heap.size + 1 + 1 < w1.heap.size := Nat.lt_of_lt_of_le (by rw [HS.out]; omega) hB1.size))
    rw [HQ.out]
    refine bodyPost_ret (by simp [results, Try.results42, go_sem, z1, hs1]; try rfl) rfl ?_
    exact ⟨by rw [HK.out, HO.out]; rfl, by go_grown⟩
  | true =>
    by_cases hk : a.kind = kind
    · have hk' : (a.kind == kind) = true := by simpa using hk
      have HK : Hid (kdP c.au kind x = true) := Lib.hid (by unfold kdP; rw [HYE.out, HAE.out]; simpa using hk)
      have HO : Hid (okA c.au kind x = a) := Lib.hid (by unfold okA; rw [HK.out, if_pos rfl, HAE.out])
      clear hk
      go_wp2_with (first | ((with_reducible refine HC.out.mono ?_); rintro e w1 ⟨rfl, hB1⟩; have hV1 : Below w.heap.size w w1 := HX.out.trans (hB1.mono HX.out.size); have hz1 := hV1.size; have z1 := blk_cell HN.out hB1 (by rw [HS.out]; omega); have y1 := blk_froz HN.out hB1 (by rw [HS.out]; omega); have hs1 : w.heap.size + 1 + 1 < w1.heap.size := Nat.lt_of_lt_of_le (by rw [HS.out]; omega) hB1.size))
      rw [HQ.out]
      refine bodyPost_ret (by simp [results, Try.results42, go_sem, z1, hs1]; try rfl) rfl ?_
      exact ⟨by rw [HK.out, HO.out], by go_grown⟩
    · have hk' : (a.kind == kind) = false := by simpa using hk
      have HK : Hid (kdP c.au kind x = false) := Lib.hid (by unfold kdP; rw [HYE.out, HAE.out]; simpa using hk)
      have HO : Hid (okA c.au kind x = zAu) := Lib.hid (by unfold okA; rw [HK.out]; rfl)
      clear hk
      go_wp2_with (first | ((with_reducible refine HC.out.mono ?_); rintro e w1 ⟨rfl, hB1⟩; have hV1 : Below w.heap.size w w1 := HX.out.trans (hB1.mono HX.out.size); have hz1 := hV1.size; have z1 := blk_cell HN.out hB1 (by rw [HS.out]; omega); have y1 := blk_froz HN.out hB1 (by rw [HS.out]; omega); have hs1 : w.heap.size + 1 + 1 < w1.heap.size := Nat.lt_of_lt_of_le (by rw [HS.out]; omega) hB1.size))
      rw [HQ.out]
      refine bodyPost_ret (by simp [results, Try.results42, go_sem, z1, hs1]; try rfl) rfl ?_
      exact ⟨by rw [HK.out, HO.out]; rfl, by go_grown⟩
/-- In this world, and in later ones, ofKind tells of any row. -/
def OkC (c : Cn) (w : World) : Prop := ∀ V, Below w.heap.size w V → ∀ (x : Ac) (kind : Int), Calls Try.prog 42 #[cnv c, acv x, .int .i64 kind] V fun e w' => e = .returned (.tuple #[auv (okA c.au kind x), .bool (kdP c.au kind x)]) ∧ Below V.heap.size V w'
theorem okC {w : World} {c : Cn} (hA : AuC c w) : OkC c w := fun _ hV x kind => ofKind_any x kind (hA.of hV)
theorem OkC.of {c : Cn} {w w' : World} (h : OkC c w) (hb : Below w.heap.size w w') : OkC c w' := fun _ hV x kind => h _ (hb.trans (hV.mono hb.size)) x kind

set_option maxRecDepth 20000 in
set_option maxHeartbeats 1000000 in
theorem has1_any {w : World} {c : Cn} (x : Ac) (kind : Int) (p q : Nat) (hO : OkC c w) (hp : w.heap[p]? = some (oCn c)) (hq : w.cell? ⟨q, 0, none⟩ = some (.int .i64 kind)) :
    Calls Try.prog 50 #[acv x, pt p, pt q] w fun e w' => e = .returned (.bool (kdP c.au kind x)) ∧ Below w.heap.size w w' := by
  have hX := below_box w (oAc x)
  have hpl := lt_blk1 hp
  have hql := World.block_lt_of_cell? w _ hq
  simp only at hql
  have z0 := cellOf1 hp
  have HC := Lib.hid (hO _ hX x kind)
  have HX := Lib.hid hX
  generalize okA c.au kind x = a at HC
  generalize kdP c.au kind x = y at HC ⊢
  clear hO hX hp
  go_enter Try.func50, Try.ntmps50
  go_wp2_with (first | ((with_reducible refine HC.out.mono ?_); rintro e w1 ⟨rfl, hB1⟩; have hV1 : Below w.heap.size w w1 := HX.out.trans (hB1.mono HX.out.size); have hz1 := hV1.size))
  go_ret
  exact ⟨rfl, by go_grown⟩
theorem has_any {w : World} {B : Nat} {c : Cn} {A : Option Addr} {l : List Ac} {n cp : Nat} (kind : Int) (hA : AuC c w) (hn : l.length = n) (hl : (n : Int) ≤ 1000000) (hr : RW ac w B A l) (hB : B ≤ w.heap.size) :
    Calls Try.prog 24 #[cnv c, .slice A n cp, .int .i64 kind] w fun e w' => e = .returned (.bool (l.any (kdP c.au kind))) ∧ Below w.heap.size w w' := by
  have hb : Below w.heap.size w ((w.alloc (oCn c)).alloc (.cells #[.int .i64 kind] 3)) := by go_grown
  have hn1 : ((w.alloc (oCn c)).alloc (.cells #[.int .i64 kind] 3)).heap[w.heap.size]? = some (oCn c) := (Below.heap_alloc _ _ _ (by simp)).trans (heap_alloc_new w _)
  have hn2 : ((w.alloc (oCn c)).alloc (.cells #[.int .i64 kind] 3)).heap[w.heap.size + 1]? = some (.cells #[.int .i64 kind] 3) := by have := heap_alloc_new (w.alloc (oCn c)) (.cells #[.int .i64 kind] 3); simpa using this
  have hsz : ((w.alloc (oCn c)).alloc (.cells #[.int .i64 kind] 3)).heap.size = w.heap.size + 1 + 1 := by simp
  have hO := okC (hA.of hb)
  have HI := Lib.hid (idx_ha (w := (w.alloc (oCn c)).alloc (.cells #[.int .i64 kind] 3)) (c := cp) (p := w.heap.size) (q := w.heap.size + 1) hn hl (hr.below hb hB) (Nat.le_trans hB hb.size) (kdP c.au kind) (fun V hV x _ => has1_any x kind _ _ (hO.of hV) (hkeep1 hV (by omega) hn1) (blk_cell hn2 hV (by omega) 0)))
  have HCo : Hid (Calls Try.prog 49 #[.slice A n cp, .func (.func 50) #[] #[pt w.heap.size, pt (w.heap.size + 1)]] ((w.alloc (oCn c)).alloc (.cells #[.int .i64 kind] 3)) fun e w' => e = .returned (.bool (l.any (kdP c.au kind))) ∧ Below ((w.alloc (oCn c)).alloc (.cells #[.int .i64 kind] 3)).heap.size ((w.alloc (oCn c)).alloc (.cells #[.int .i64 kind] 3)) w') := Lib.hid (by
    generalize (w.alloc (oCn c)).alloc (.cells #[.int .i64 kind] 3) = V at HI ⊢
    have HIA := Lib.hid (idx_any (kdP c.au kind) l)
    generalize idxI (kdP c.au kind) l = i at HI HIA
    generalize l.any (kdP c.au kind) = y at HIA ⊢
    clear hA hn hr hn1 hn2 hO hb hsz
    go_enter Try.func49, Try.ntmps49
    go_wp2_with (first | ((with_reducible refine HI.out.mono ?_); rintro e w1 ⟨rfl, hB1⟩))
    go_ret
    exact ⟨ret_bool HIA.out, hB1⟩)
  clear hA hr hn1 hn2 hO HI hn
  generalize l.any (kdP c.au kind) = y at HCo ⊢
  go_enter Try.func24, Try.ntmps24
  go_wp2_with ((with_reducible refine HCo.out.mono ?_); rintro e w1 ⟨rfl, hB1⟩)
  go_ret
  exact ⟨rfl, hb.trans (hB1.mono hb.size)⟩

set_option maxRecDepth 20000 in
set_option maxHeartbeats 1000000 in
theorem sum_any {w : World} {B : Nat} {c : Cn} {A : Option Addr} {l : List Ac} {n cp : Nat} (kind : Int) (hA : AuC c w) (hau : ∀ a ∈ c.au, NAu a) (hac : ∀ a ∈ l, NAc a) (hn : l.length = n) (hl : (n : Int) ≤ 1000000) (hr : RW ac w B A l) (hB : B ≤ w.heap.size) :
    Calls Try.prog 22 #[cnv c, .slice A n cp, .int .i64 kind] w fun e w' => e = .returned (.int .i64 (suL c.au kind l)) ∧ Below w.heap.size w w' := by
  have hb := below_box w (oCn c)
  have HO := Lib.hid (okC (hA.of hb)); have HN := Lib.hid (heap_alloc_new w (oCn c))
  have HR := Lib.hid (hr.below hb hB); have HK := Lib.hid hn; have HAU := Lib.hid hau; have HAC := Lib.hid hac; have HX := Lib.hid hb
  have HB2 := Lib.hid (Nat.le_trans hB hb.size); have HLT : Hid (w.heap.size < (w.alloc (oCn c)).heap.size) := Lib.hid (by simp)
  clear hA hau hac hn hr hB hb
  go_enter Try.func22, Try.ntmps22
  go_wp2
  generalize w.alloc (oCn c) = V at *
  go_loopg [7, 14] n (fun gh s7 s14 wr => ∃ (k : Nat) (m : Int), k ≤ n ∧ gh = n - k ∧ s14 = .int .i64 k ∧ s7 = .int .i64 m ∧ Hid (m = suL c.au kind (l.take k)) ∧ Hid (Below V.heap.size V wr))
  case atStart => exact ⟨0, 0, by omega, rfl, rfl, rfl, Lib.hid rfl, Lib.hid (Below.refl _ _)⟩
  case round =>
    obtain ⟨k, m, hk, rfl, rfl, rfl, HM, HW⟩ := hrel
    by_cases hkl : k < n
    · have hkl' : (k : Int) < n := by omega
      obtain ⟨x, hx⟩ : ∃ x, l[k]? = some x := ⟨_, List.getElem?_eq_getElem (by rw [HK.out]; exact hkl)⟩
      obtain ⟨b, off, hA, hpl, c0, c1, c2, c3, c4, c5⟩ := rowAc HR.out hx HW.out HB2.out
      subst hA
      have hcb := hkeep1 HW.out HLT.out HN.out
      have z0 := cellOf1 hcb
      have hwl := lt_blk1 hcb
      have hX1 : Below wr.heap.size wr (wr.alloc (oAc x)) := below_box _ _
      have hXW := HW.out.trans (hX1.mono HW.out.size)
      have HC := Lib.hid (HO.out _ hXW x kind)
      have HXk := Lib.hid hx; have HX1 := Lib.hid hX1
      have hxn := HAC.out x (List.mem_of_getElem? hx)
      have hFs := hxn.1
      obtain ⟨y, hy⟩ : ∃ y, kdP c.au kind x = y := ⟨_, rfl⟩
      have HY := Lib.hid hy
      rw [hy] at HC
      clear hx hy hxn hcb hX1 hXW
      cases y with
      | false =>
        generalize okA c.au kind x = a at HC
        go_wp2_with (first | ((with_reducible refine HC.out.mono ?_); rintro e w1 ⟨rfl, hB1⟩; have hV1 : Below wr.heap.size wr w1 := HX1.out.trans (hB1.mono HX1.out.size); have hz1 := hV1.size))
        go_roundg (n - (k + 1))
        case measure => omega
        case rel => exact ⟨k + 1, m, by omega, rfl, by go_num, rfl, Lib.hid (by rw [su_no HXk.out HY.out]; exact HM.out), Lib.hid (HW.out.trans (Below.mono (by go_grown : Below wr.heap.size wr _) HW.out.size))⟩
      | true =>
        have hao : okA c.au kind x = lkA c.au x.aura := by unfold okA; rw [HY.out, if_pos rfl]
        have hNA := lk_nau HAU.out x.aura
        rw [hao] at HC
        have HE := Lib.hid (su_yes HXk.out HY.out)
        rw [← HM.out] at HE
        have hFm : Fits m := by rw [HM.out]; exact su_fits _ _ _
        generalize lkA c.au x.aura = a at HC hNA HE
        have hFa := hNA.2.2.2
        have hFh := held_fits (a.amount * x.stacks)
        clear hao hNA HM
        go_wp2_with (first
          | ((with_reducible refine HC.out.mono ?_); rintro e w1 ⟨rfl, hB1⟩; have hV1 : Below wr.heap.size wr w1 := HX1.out.trans (hB1.mono HX1.out.size); have hz1 := hV1.size; have z1 := blk_cell (heap_alloc_new wr (oAc x)) hB1 (by simp); have hs1 : wr.heap.size < w1.heap.size := Nat.lt_of_lt_of_le (by simp) hB1.size)
          | ((with_reducible refine (mul_any _ _ _ hFa hFs).mono ?_); rintro e w2 ⟨rfl, rfl⟩)
          | ((with_reducible refine (add_any _ _ _ hFm hFh).mono ?_); rintro e w3 ⟨rfl, rfl⟩))
        go_roundg (n - (k + 1))
        case measure => omega
        case rel => exact ⟨k + 1, _, by omega, rfl, by go_num, rfl, Lib.hid HE.out.symm, Lib.hid (HW.out.trans (Below.mono (by go_grown : Below wr.heap.size wr _) HW.out.size))⟩
    · have hkl' : decide ((k : Int) < n) = false := by simp; omega
      go_wp2
      go_ret
      exact ⟨ret_int (by rw [HM.out, su_done (by have := HK.out; omega)]), HX.out.trans (HW.out.mono HX.out.size)⟩
end Go.Proofs.Ytijobbdgiaiocaa.Con
