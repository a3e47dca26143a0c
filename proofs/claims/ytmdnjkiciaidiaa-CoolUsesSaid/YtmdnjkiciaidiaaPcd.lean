/-
  Contracts of sort.Search with each closure of package cool; of end; of those, copyOf, Reset and Clean.
-/
import Derived.Test.YtmdnjkiciaidiaaPca
import Derived.Test.YtmdnjkiciaidiaaCdd
namespace Go.Proofs.Ytmdnjkiciaidiaa.Con
open Go.RowKit Go.Maps

/-- What a search answers: the first place from which on it is so. -/
def ScO (w : World) (n : Nat) (p : Nat → Bool) (e : Ending) (w' : World) : Prop := ∃ m : Nat, e = .returned (.int .i64 m) ∧ Hid (m ≤ n ∧ (∀ t, t < m → p t = false) ∧ ∀ t, m ≤ t → t < n → p t = true) ∧ Hid (Below w.heap.size w w')

set_option maxRecDepth 20000 in
set_option maxHeartbeats 4000000 in
theorem search_end {w : World} {p q n : Nat} (hn : (n : Int) ≤ 1000000) (P : Nat → Bool) (hm : ∀ a b, a ≤ b → b < n → P a = true → P b = true)
    (hd : ∀ V, Below w.heap.size w V → ∀ i : Nat, i < n → Calls Try.prog 39 #[.int .i64 i, pt p, pt q] V fun e w' => e = .returned (.bool (P i)) ∧ Below V.heap.size V w') :
    Calls Try.prog 38 #[.int .i64 n, .func (.func 39) #[] #[pt p, pt q]] w (ScO w n P) := by
  have HD := Lib.hid hd; have HM := Lib.hid hm
  clear hd hm
  go_enter Try.func38, Try.ntmps38
  go_wp2
  go_loopg [5, 6] n (fun gh s5 s6 wr => ∃ lo hi : Nat, s5 = .int .i64 lo ∧ s6 = .int .i64 hi ∧ lo ≤ hi ∧ hi ≤ n ∧ hi - lo ≤ gh ∧ Hid (Below w.heap.size w wr) ∧ Hid ((∀ t, t < lo → P t = false) ∧ (∀ t, hi ≤ t → t < n → P t = true)))
  case atStart => exact ⟨0, n, rfl, rfl, Nat.zero_le _, Nat.le_refl _, by omega, Lib.hid (Below.refl _ _), Lib.hid ⟨fun t ht => absurd ht (Nat.not_lt_zero _), fun t h1 h2 => by omega⟩⟩
  case round =>
    obtain ⟨lo, hi, rfl, rfl, hlh, hin, hg, HW, HI⟩ := hrel
    by_cases hlt : lo < hi
    · have hc := HD.out wr HW.out ((lo + hi) / 2) (by omega)
      rw [show (((lo + hi) / 2 : Nat) : Int) = ((lo : Int) + (hi : Int)) / 2 by omega] at hc
      obtain ⟨y, hy⟩ : ∃ y, P ((lo + hi) / 2) = y := ⟨_, rfl⟩
      rw [hy] at hc
      have HY := Lib.hid hy; have HC := Lib.hid hc
      clear hy hc
      cases y with
      | false =>
        go_wp2_with ((with_reducible refine HC.out.mono ?_); rintro e w1 ⟨rfl, hB1⟩)
        go_roundg (hi - ((lo + hi) / 2 + 1))
        case measure => omega
        case rel =>
          exact ⟨(lo + hi) / 2 + 1, hi, by rw [show ((lo : Int) + (hi : Int)) / 2 + 1 = (((lo + hi) / 2 + 1 : Nat) : Int) by omega], rfl, by omega, hin, Nat.le_refl _, Lib.hid (HW.out.trans (hB1.mono HW.out.size)), Lib.hid ⟨fun t ht => (by
            cases h : P t with
            | false => rfl
            | true => have := HM.out t ((lo + hi) / 2) (by omega) (by omega) h; rw [HY.out] at this; cases this), HI.out.2⟩⟩
      | true =>
        go_wp2_with ((with_reducible refine HC.out.mono ?_); rintro e w1 ⟨rfl, hB1⟩)
        go_roundg ((lo + hi) / 2 - lo)
        case measure => omega
        case rel =>
          exact ⟨lo, (lo + hi) / 2, rfl, by rw [show ((lo : Int) + (hi : Int)) / 2 = (((lo + hi) / 2 : Nat) : Int) by omega], by omega, by omega, Nat.le_refl _, Lib.hid (HW.out.trans (hB1.mono HW.out.size)), Lib.hid ⟨HI.out.1, fun t ht htn => HM.out ((lo + hi) / 2) t ht htn HY.out⟩⟩
    · obtain rfl : hi = lo := by omega
      go_wp2
      go_ret
      exact ⟨hi, rfl, Lib.hid ⟨hin, HI.out.1, HI.out.2⟩, HW⟩

/-! ### end -/
theorem ret_sl {A : Option Addr} {n m c : Nat} (h : n = m) : Ending.returned (.slice A n c) = .returned (.slice A m c) := by rw [h]
theorem end1_any {w : World} {p q B : Nat} {A : Option Addr} {l : List Int} {n c i : Nat} {y : Int} (now : Int) (hn : l.length = n) (hr : RW nu w B A l) (hB : B ≤ w.heap.size) (hi : l[i]? = some y) (hp : w.cell? ⟨p, 0, none⟩ = some (.slice A n c)) (hq : w.cell? ⟨q, 0, none⟩ = some (.int .i64 now)) :
    Calls Try.prog 39 #[.int .i64 i, pt p, pt q] w fun e w' => e = .returned (.bool (decide (now < y))) ∧ Below w.heap.size w w' := by
  obtain ⟨b2, off2, hA2, hp2, f0⟩ := rowNu hr hi (Below.refl _ _) hB
  subst hA2
  have hin : i < n := by rw [← hn]; exact (List.getElem?_eq_some_iff.1 hi).1
  have hin' : (i : Int) < n := by omega
  have hpl := World.block_lt_of_cell? w _ hp
  have hql := World.block_lt_of_cell? w _ hq
  simp only at hpl hql
  clear hr hi hn
  go_enter Try.func39, Try.ntmps39
  go_wp2
  go_quiet (fail)
  go_wp2
  go_ret
  exact ⟨rfl, below_drewN (Below.refl _ _) _⟩
theorem sorted_mono {l : List Int} (hs : l.Pairwise (· ≤ ·)) (now : Int) : ∀ a b, a ≤ b → b < l.length → decide (now < l[a]?.getD 0) = true → decide (now < l[b]?.getD 0) = true := by
  intro a b hab hb h
  rw [List.getElem?_eq_getElem (by omega)] at h
  rw [List.getElem?_eq_getElem hb]
  simp only [Option.getD_some, decide_eq_true_eq] at h ⊢
  rcases Nat.lt_or_eq_of_le hab with h1 | rfl
  · have := List.pairwise_iff_getElem.1 hs a b (by omega) hb h1; omega
  · exact h
/-- Those above now are the end of a row that rises. -/
theorem aw_drop {l : List Int} {now : Int} {m : Nat} (h1 : ∀ t, t < m → decide (now < l[t]?.getD 0) = false) (h2 : ∀ t, m ≤ t → t < l.length → decide (now < l[t]?.getD 0) = true) (hm : m ≤ l.length) : awI l now = l.drop m := by
  have e : l = l.take m ++ l.drop m := (List.take_append_drop m l).symm
  have q1 : awI (l.take m) now = [] := aw_none (fun x hx => by
    obtain ⟨i, hi, rfl⟩ := List.getElem_of_mem hx
    rw [List.length_take] at hi
    have := h1 i (by omega)
    rw [List.getElem?_eq_getElem (by omega)] at this
    simp at this
    rw [List.getElem_take]; omega)
  have q2 : awI (l.drop m) now = l.drop m := aw_all (fun x hx => by
    obtain ⟨i, hi, rfl⟩ := List.getElem_of_mem hx
    rw [List.length_drop] at hi
    have := h2 (m + i) (by omega) (by omega)
    rw [List.getElem?_eq_getElem (by omega)] at this
    simp at this
    rw [List.getElem_drop]; exact this)
  conv => lhs; rw [e, aw_append, q1, q2]
  rfl
theorem RW.drop {w : World} {B m : Nat} {A : Option Addr} {l : List Int} (h : RW nu w B A l) : RW nu w B (A.map (fun a => a.add m)) (l.drop m) := by
  rcases h with rfl | ⟨b, off, hA, hlt, hc⟩
  · exact .inl (by simp)
  · refine .inr ⟨b, off + m, by rw [hA]; show some (Addr.add _ _) = _; rw [add_at], hlt, fun i x hx j v hv => ?_⟩
    rw [List.getElem?_drop] at hx
    have := hc (m + i) x hx j v hv
    have e : (nu).k = 1 := rfl
    rw [e, Nat.mul_one] at this ⊢
    rw [Nat.add_assoc off m i]; exact this
/-- What end answers: cut where it ends. -/
def EnO (w : World) (B : Nat) (L : List Int) (e : Ending) (w' : World) : Prop := ∃ A c M, e = .returned (.slice A (List.length M) c) ∧ Hid (M = L) ∧ Hid (RW nu w B A M) ∧ Hid (c = M.length) ∧ Hid (Below w.heap.size w w')

set_option maxRecDepth 20000 in
set_option maxHeartbeats 4000000 in
theorem end_any {w : World} {B : Nat} {A : Option Addr} {l : List Int} {n c : Nat} (now : Int) (hn : l.length = n) (hl : (n : Int) ≤ 1000) (hr : RW nu w B A l) (hB : B ≤ w.heap.size) (hc : n ≤ c) (hs : l.Pairwise (· ≤ ·)) :
    Calls Try.prog 24 #[.slice A n c, .int .i64 now] w (EnO w B (awI l now)) := by
  have hb1 := below_box w (.cells #[.slice A n c] 33)
  have hb2 : Below w.heap.size w ((w.alloc (.cells #[.slice A n c] 33)).alloc (.cells #[.int .i64 now] 3)) := hb1.alloc (hb1.size) _
  have hn1 : ((w.alloc (.cells #[.slice A n c] 33)).alloc (.cells #[.int .i64 now] 3)).heap[w.heap.size]? = some (.cells #[.slice A n c] 33) := (Below.heap_alloc _ _ _ (by simp)).trans (heap_alloc_new w _)
  have hn2 : ((w.alloc (.cells #[.slice A n c] 33)).alloc (.cells #[.int .i64 now] 3)).heap[w.heap.size + 1]? = some (.cells #[.int .i64 now] 3) := by have := heap_alloc_new (w.alloc (.cells #[.slice A n c] 33)) (.cells #[.int .i64 now] 3); simpa using this
  have hsz : ((w.alloc (.cells #[.slice A n c] 33)).alloc (.cells #[.int .i64 now] 3)).heap.size = w.heap.size + 1 + 1 := by simp
  have HB2 := Lib.hid hb2; have HN1 := Lib.hid hn1; have HN2 := Lib.hid hn2; have HSZ := Lib.hid hsz
  have HR := Lib.hid hr
  have HI := Lib.hid (search_end (w := (w.alloc (.cells #[.slice A n c] 33)).alloc (.cells #[.int .i64 now] 3)) (p := w.heap.size) (q := w.heap.size + 1) (n := n) (by omega) (fun t => decide (now < l[t]?.getD 0)) (by rw [← hn]; exact sorted_mono hs now) (fun V hV i hi => by
    have z1 := blk_cell hn1 hV (by omega) 0
    have z2 := blk_cell hn2 hV (by omega) 0
    obtain ⟨y, hy⟩ : ∃ y, l[i]? = some y := ⟨_, List.getElem?_eq_getElem (by omega)⟩
    have e : decide (now < l[i]?.getD 0) = decide (now < y) := by rw [hy]; rfl
    show Calls _ _ _ V fun e w' => e = .returned (.bool (decide (now < l[i]?.getD 0))) ∧ _
    rw [e]
    exact end1_any now hn (hr.below (hb2.trans (hV.mono hb2.size)) hB) (Nat.le_trans hB (hb2.trans (hV.mono hb2.size)).size) hy z1 z2))
  have HCN := Lib.hid hn
  clear hr hn1 hn2 hb1 hb2 hsz hs hn
  go_enter Try.func24, Try.ntmps24
  go_wp2_with ((with_reducible refine HI.out.mono ?_); rintro e w1 ⟨m, rfl, hm, hB1⟩; have z1 := blk_cell HN1.out hB1.out (by rw [HSZ.out]; omega); have ly : w.heap.size < w1.heap.size := Nat.lt_of_lt_of_le (by rw [HSZ.out]; omega) hB1.out.size; have hmn : m ≤ n := hm.out.1; have hmn' : (m : Int) ≤ n := by omega)
  case inr =>
    have hdm := aw_drop hm.out.2.1 (fun t h1 h2 => hm.out.2.2 t h1 (by rw [← HCN.out]; exact h2)) (by rw [HCN.out]; exact hmn)
    have hll : (awI l now).length = n - m := by rw [hdm, List.length_drop, HCN.out]
    go_ret
    exact ⟨A.map (fun x => x.add m), n - m, awI l now, ret_sl hll.symm, Lib.hid rfl, Lib.hid (by rw [hdm]; exact HR.out.drop), Lib.hid hll.symm, Lib.hid (HB2.out.trans (hB1.out.mono HB2.out.size))⟩
  case inl =>
    have hdm := aw_drop hm.out.2.1 (fun t h1 h2 => hm.out.2.2 t h1 (by rw [← HCN.out]; exact h2)) (by rw [HCN.out]; exact hmn)
    have hll : (awI l now) = [] := by rw [hdm]; exact List.drop_eq_nil_of_le (by rw [HCN.out]; omega)
    go_ret
    exact ⟨A, 0, [], rfl, Lib.hid hll.symm, Lib.hid (.inl rfl), Lib.hid rfl, Lib.hid (HB2.out.trans (hB1.out.mono HB2.out.size))⟩

/-! ### rows that stay, in new memory -/
theorem OW.cap {α : Type} {E : El α} {w : World} {base n c : Nat} {A : Option Addr} {l : List α} (h : OW E w base (.slice A n c) l) : l.length ≤ c := by
  obtain ⟨A', c', hv, _, h2⟩ := h.shape
  injection hv with e1 e2 e3
  subst e3
  rcases h2 with ⟨_, rfl, _⟩ | ⟨b, cur, _, _, _, hc, _⟩
  · simp
  · exact hc
def CkO (w : World) (L : List Cp) (e : Ending) (w' : World) : Prop := ∃ A c M, e = .returned (.slice A (List.length M) c) ∧ Hid (M.map Co.pl = L) ∧ Hid (KOc w' w.heap.size (.slice A M.length c) M) ∧ Hid (∀ x ∈ M, x.bk.length ≤ x.bc) ∧ Hid (Below w.heap.size w w')
theorem fl_next {l : List Co} {k : Nat} {x : Co} {M : List Co} {P : Co → Bool} (h : M.map Co.pl = ((l.take k).filter P).map Co.pl) (hx : l[k]? = some x) (hP : P x = true) (A : Option Addr) (c : Nat) {lm : List Int} (e : lm = x.bk) : (M ++ [(⟨x.id, A, lm, c⟩ : Co)]).map Co.pl = ((l.take (k + 1)).filter P).map Co.pl := by
  rw [List.take_add_one, hx, List.filter_append, List.map_append, List.map_append, h, e]
  congr 1
  show _ = ([x].filter P).map Co.pl
  rw [List.filter_cons_of_pos hP]; rfl
theorem fl_skip {l : List Co} {k : Nat} {x : Co} {Q : List Cp} {P : Co → Bool} (h : Q = ((l.take k).filter P).map Co.pl) (hx : l[k]? = some x) (hP : P x = false) : Q = ((l.take (k + 1)).filter P).map Co.pl := by
  rw [List.take_add_one, hx, List.filter_append, List.map_append, h]
  show _ = _ ++ ([x].filter P).map Co.pl
  rw [List.filter_cons_of_neg (by rw [hP]; simp)]; simp
theorem bc_next {M : List Co} (h : ∀ x ∈ M, x.bk.length ≤ x.bc) {y : Co} (hy : y.bk.length ≤ y.bc) {M' : List Co} (e : M' = M ++ [y]) : ∀ x ∈ M', x.bk.length ≤ x.bc := by
  subst e
  intro x hx
  rcases List.mem_append.1 hx with hx | hx
  · exact h x hx
  · rcases List.mem_singleton.1 hx with rfl; exact hy
/-- One more of a row that was made behind all that is there. -/
theorem K2.more {w0 V V' : World} {base base' : Nat} {A1 A3 A4 : Option Addr} {c1 c3 c4 n4 : Nat} {id : Int} {L L4 : List Co} {lm : List Int} (h : K2c w0 V base (.slice A1 L.length c1) (.slice none 0 0) L []) (hp : PW nu V base' A3 lm) (hlo : ∀ q, (Value.slice A1 L.length c1).ownBlock = some q → q < base') (hbb : base ≤ base') (e : L4 = L ++ [(⟨id, A3, lm, c3⟩ : Co)]) (hg : V.grownBy V' (Value.slice A1 L.length c1).ownBlock) (ho : OW co V' base (.slice A4 n4 c4) L4) (hw : (Value.slice A4 n4 c4).ownBlock = (Value.slice A1 L.length c1).ownBlock ∨ (Value.slice A4 n4 c4).ownBlock = some V.heap.size) : K2c w0 V' base (.slice A4 n4 c4) (.slice none 0 0) L4 [] := by
  subst e
  refine h.put (x := ⟨id, A3, lm, c3⟩) (hp.mono hbb) (fun hr q hq e => ?_) hg ho hw
  obtain ⟨g, hg, hg2, _⟩ := hp.lt' hr
  rcases hq with hq | hq
  · have := hlo q hq
    rw [hg] at e; injection e with e; omega
  · cases hq

set_option maxRecDepth 20000 in
set_option maxHeartbeats 4000000 in
theorem those_rs {w : World} {B p : Nat} {A : Option Addr} {l : List Co} {n cp : Nat} (P : Co → Bool) (hn : l.length = n) (hl : (n : Int) ≤ 100000) (hbk : ∀ x ∈ l, x.bk.length ≤ 1000) (hr : KRc w B A l) (hB : B ≤ w.heap.size)
    (hd : ∀ V, Below w.heap.size w V → ∀ x, Calls Try.prog 33 #[cov x, pt p] V fun e w' => e = .returned (.bool (P x)) ∧ Below V.heap.size V w') :
    Calls Try.prog 32 #[.slice A n cp, .func (.func 33) #[] #[pt p]] w (CkO w ((l.filter P).map Co.pl)) := by
  subst hn
  have HR := Lib.hid hr; have HB := Lib.hid hB; have HBK := Lib.hid hbk; have HD := Lib.hid hd
  clear hr hB hbk hd
  go_enter Try.func32, Try.ntmps32
  go_wp2
  go_loopg [5, 10] l.length (fun gh s5 s10 wr => ∃ (k : Nat) (A1 : Option Addr) (c1 : Nat) (L : List Co), k ≤ l.length ∧ gh = l.length - k ∧ s10 = .int .i64 k ∧ s5 = .slice A1 L.length c1 ∧ Hid (L.length ≤ k) ∧ Hid (L.map Co.pl = ((l.take k).filter P).map Co.pl) ∧ Hid (∀ x ∈ L, x.bk.length ≤ x.bc) ∧ Hid (K2c w wr w.heap.size (.slice A1 L.length c1) (.slice none 0 0) L []))
  case atStart => exact ⟨0, none, 0, [], by omega, rfl, rfl, rfl, Lib.hid (Nat.le_refl _), Lib.hid rfl, Lib.hid (by simp), Lib.hid (K2.start (Below.refl _ _) (Nat.le_refl _))⟩
  case round =>
    obtain ⟨k, A1, c1, L, hk, rfl, rfl, rfl, HLk, HL, HBC, HTW⟩ := hrel
    by_cases hlt : k < l.length
    · obtain ⟨x, hx⟩ : ∃ x, l[k]? = some x := ⟨_, List.getElem?_eq_getElem hlt⟩
      obtain ⟨b, off, hAA, hpl, c0, c1'⟩ := rowCo HR.out hx HTW.out.below HB.out
      subst hAA
      have HX := Lib.hid hx
      have hlt' : (k : Int) < l.length := by omega
      have HA1 : Hid (Below wr.heap.size wr (wr.alloc (oCo x))) := Lib.hid (below_box _ _)
      have HT1 := Lib.hid (HTW.out.of HA1.out)
      have HZ0 := Lib.hid (heap_alloc_new wr (oCo x))
      have HC := Lib.hid (HD.out (wr.alloc (oCo x)) HT1.out.below x)
      have HI := Lib.hid (HR.out.inner hx)
      have HBX : Hid ((x.bk.length : Int) ≤ 1000) := Lib.hid (by have := HBK.out x (List.mem_of_getElem? hx); omega)
      have HL2 : Hid (∀ y : Co, L.length + [y].length ≤ 1000000) := Lib.hid (fun y => by have := HLk.out; simp; omega)
      obtain ⟨y, hy⟩ : ∃ y, P x = y := ⟨_, rfl⟩
      have HY := Lib.hid hy
      rw [hy] at HC
      clear hx hy
      cases y with
      | true =>
        go_wp2_with (first
          | ((with_reducible refine HC.out.mono ?_); rintro e w2 ⟨rfl, hB2⟩; have HB2 := Lib.hid hB2; have HT2 := Lib.hid (HT1.out.of hB2); have y0 := blk_cell HZ0.out hB2 (by simp); have ly : wr.heap.size < w2.heap.size := Nat.lt_of_lt_of_le (by simp) hB2.size; have HF := Lib.hid (fresh_any (c := x.bc) x.id rfl HBX.out (HI.out.below HT2.out.below HB.out) (Nat.le_trans HB.out HT2.out.top)); clear hB2)
          | ((with_reducible refine HF.out.mono ?_); rintro e w3 ⟨A3, c3, lm, rfl, hlm, hO, hB3⟩; have HT3 := Lib.hid (HT2.out.of hB3.out); have HA4 := Lib.hid (below_box w3 (.cells #[.int .i64 x.id, .slice A3 lm.length c3] 35)); have HT4 := Lib.hid (HT3.out.of HA4.out); have HRW : Hid (RW co (w3.alloc (.cells #[.int .i64 x.id, .slice A3 lm.length c3] 35)) (w3.heap.size + 1) (some ⟨w3.heap.size, 0, none⟩) [⟨x.id, A3, lm, c3⟩]) := Lib.hid (rw_at co _ _ _ _ _ rfl rfl rfl))
          | (at_builtin; refine wpList_app co rfl 22 rfl (.tmp 17) (.tmp 23) rfl w.heap.size (w3.heap.size + 1) (.slice A1 L.length c1) L [⟨x.id, A3, lm, c3⟩] (some ⟨w3.heap.size, 0, none⟩) 1 1 rfl rfl rfl HT4.out.a.own HRW.out (HL2.out _) HT4.out.top ?_; intro A4 c4 w4 lm4 HM4 HO4 HS4 HB4))
        go_roundg (l.length - (k + 1))
        case measure => omega
        case rel => exact ⟨k + 1, A4, c4, lm4, by omega, rfl, by go_num, rfl, Lib.hid (by have := HLk.out; rw [HM4.out]; simp; omega), Lib.hid (by rw [HM4.out]; exact fl_next HL.out HX.out HY.out _ _ hlm.out), Lib.hid (bc_next HBC.out (y := ⟨x.id, A3, lm, c3⟩) hO.out.cap HM4.out), Lib.hid (HT4.out.more ((OW.pw hO.out).of HA4.out) (fun q hq => (HT2.out.a.own.lt hq).2) HT2.out.top HM4.out HS4.out HO4.out HB4.out)⟩
      | false =>
        go_wp2_with (first
          | ((with_reducible refine HC.out.mono ?_); rintro e w2 ⟨rfl, hB2⟩; have HT2 := Lib.hid (HT1.out.of hB2); clear hB2))
        go_roundg (l.length - (k + 1))
        case measure => omega
        case rel => exact ⟨k + 1, A1, c1, L, by omega, rfl, by go_num, rfl, Lib.hid (by have := HLk.out; omega), Lib.hid (fl_skip HL.out HX.out HY.out), HBC, HT2⟩
    · have hlt' : decide ((k : Int) < l.length) = false := by simp; omega
      have hkn : k = l.length := by omega
      subst hkn
      go_wp2
      go_ret
      exact ⟨A1, c1, L, rfl, Lib.hid (by rw [HL.out, List.take_length]), Lib.hid HTW.out.a, HBC, Lib.hid HTW.out.below⟩

set_option maxRecDepth 20000 in
set_option maxHeartbeats 4000000 in
theorem those_cp {w : World} {B : Nat} {A : Option Addr} {l : List Co} {n cp : Nat} (P : Co → Bool) (hn : l.length = n) (hl : (n : Int) ≤ 100000) (hbk : ∀ x ∈ l, x.bk.length ≤ 1000) (hr : KRc w B A l) (hB : B ≤ w.heap.size)
    (hd : ∀ V, Below w.heap.size w V → ∀ x, Calls Try.prog 37 #[cov x] V fun e w' => e = .returned (.bool (P x)) ∧ Below V.heap.size V w') :
    Calls Try.prog 32 #[.slice A n cp, .func (.func 37) #[] #[]] w (CkO w ((l.filter P).map Co.pl)) := by
  subst hn
  have HR := Lib.hid hr; have HB := Lib.hid hB; have HBK := Lib.hid hbk; have HD := Lib.hid hd
  clear hr hB hbk hd
  go_enter Try.func32, Try.ntmps32
  go_wp2
  go_loopg [5, 10] l.length (fun gh s5 s10 wr => ∃ (k : Nat) (A1 : Option Addr) (c1 : Nat) (L : List Co), k ≤ l.length ∧ gh = l.length - k ∧ s10 = .int .i64 k ∧ s5 = .slice A1 L.length c1 ∧ Hid (L.length ≤ k) ∧ Hid (L.map Co.pl = ((l.take k).filter P).map Co.pl) ∧ Hid (∀ x ∈ L, x.bk.length ≤ x.bc) ∧ Hid (K2c w wr w.heap.size (.slice A1 L.length c1) (.slice none 0 0) L []))
  case atStart => exact ⟨0, none, 0, [], by omega, rfl, rfl, rfl, Lib.hid (Nat.le_refl _), Lib.hid rfl, Lib.hid (by simp), Lib.hid (K2.start (Below.refl _ _) (Nat.le_refl _))⟩
  case round =>
    obtain ⟨k, A1, c1, L, hk, rfl, rfl, rfl, HLk, HL, HBC, HTW⟩ := hrel
    by_cases hlt : k < l.length
    · obtain ⟨x, hx⟩ : ∃ x, l[k]? = some x := ⟨_, List.getElem?_eq_getElem hlt⟩
      obtain ⟨b, off, hAA, hpl, c0, c1'⟩ := rowCo HR.out hx HTW.out.below HB.out
      subst hAA
      have HX := Lib.hid hx
      have hlt' : (k : Int) < l.length := by omega
      have HA1 : Hid (Below wr.heap.size wr (wr.alloc (oCo x))) := Lib.hid (below_box _ _)
      have HT1 := Lib.hid (HTW.out.of HA1.out)
      have HZ0 := Lib.hid (heap_alloc_new wr (oCo x))
      have HC := Lib.hid (HD.out (wr.alloc (oCo x)) HT1.out.below x)
      have HI := Lib.hid (HR.out.inner hx)
      have HBX : Hid ((x.bk.length : Int) ≤ 1000) := Lib.hid (by have := HBK.out x (List.mem_of_getElem? hx); omega)
      have HL2 : Hid (∀ y : Co, L.length + [y].length ≤ 1000000) := Lib.hid (fun y => by have := HLk.out; simp; omega)
      obtain ⟨y, hy⟩ : ∃ y, P x = y := ⟨_, rfl⟩
      have HY := Lib.hid hy
      rw [hy] at HC
      clear hx hy
      cases y with
      | true =>
        go_wp2_with (first
          | ((with_reducible refine HC.out.mono ?_); rintro e w2 ⟨rfl, hB2⟩; have HB2 := Lib.hid hB2; have HT2 := Lib.hid (HT1.out.of hB2); have y0 := blk_cell HZ0.out hB2 (by simp); have ly : wr.heap.size < w2.heap.size := Nat.lt_of_lt_of_le (by simp) hB2.size; have HF := Lib.hid (fresh_any (c := x.bc) x.id rfl HBX.out (HI.out.below HT2.out.below HB.out) (Nat.le_trans HB.out HT2.out.top)); clear hB2)
          | ((with_reducible refine HF.out.mono ?_); rintro e w3 ⟨A3, c3, lm, rfl, hlm, hO, hB3⟩; have HT3 := Lib.hid (HT2.out.of hB3.out); have HA4 := Lib.hid (below_box w3 (.cells #[.int .i64 x.id, .slice A3 lm.length c3] 35)); have HT4 := Lib.hid (HT3.out.of HA4.out); have HRW : Hid (RW co (w3.alloc (.cells #[.int .i64 x.id, .slice A3 lm.length c3] 35)) (w3.heap.size + 1) (some ⟨w3.heap.size, 0, none⟩) [⟨x.id, A3, lm, c3⟩]) := Lib.hid (rw_at co _ _ _ _ _ rfl rfl rfl))
          | (at_builtin; refine wpList_app co rfl 22 rfl (.tmp 17) (.tmp 23) rfl w.heap.size (w3.heap.size + 1) (.slice A1 L.length c1) L [⟨x.id, A3, lm, c3⟩] (some ⟨w3.heap.size, 0, none⟩) 1 1 rfl rfl rfl HT4.out.a.own HRW.out (HL2.out _) HT4.out.top ?_; intro A4 c4 w4 lm4 HM4 HO4 HS4 HB4))
        go_roundg (l.length - (k + 1))
        case measure => omega
        case rel => exact ⟨k + 1, A4, c4, lm4, by omega, rfl, by go_num, rfl, Lib.hid (by have := HLk.out; rw [HM4.out]; simp; omega), Lib.hid (by rw [HM4.out]; exact fl_next HL.out HX.out HY.out _ _ hlm.out), Lib.hid (bc_next HBC.out (y := ⟨x.id, A3, lm, c3⟩) hO.out.cap HM4.out), Lib.hid (HT4.out.more ((OW.pw hO.out).of HA4.out) (fun q hq => (HT2.out.a.own.lt hq).2) HT2.out.top HM4.out HS4.out HO4.out HB4.out)⟩
      | false =>
        go_wp2_with (first
          | ((with_reducible refine HC.out.mono ?_); rintro e w2 ⟨rfl, hB2⟩; have HT2 := Lib.hid (HT1.out.of hB2); clear hB2))
        go_roundg (l.length - (k + 1))
        case measure => omega
        case rel => exact ⟨k + 1, A1, c1, L, by omega, rfl, by go_num, rfl, Lib.hid (by have := HLk.out; omega), Lib.hid (fl_skip HL.out HX.out HY.out), HBC, HT2⟩
    · have hlt' : decide ((k : Int) < l.length) = false := by simp; omega
      have hkn : k = l.length := by omega
      subst hkn
      go_wp2
      go_ret
      exact ⟨A1, c1, L, rfl, Lib.hid (by rw [HL.out, List.take_length]), Lib.hid HTW.out.a, HBC, Lib.hid HTW.out.below⟩

theorem other_any (x : Co) (id : Int) (p : Nat) (w : World) (hp : w.cell? ⟨p, 0, none⟩ = some (.int .i64 id)) :
    Calls Try.prog 33 #[cov x, pt p] w fun e w' => e = .returned (.bool (decide (x.id ≠ id))) ∧ Below w.heap.size w w' := by
  have hb := below_box w (oCo x)
  have hpl := World.block_lt_of_cell? w _ hp
  simp only at hpl
  go_enter Try.func33, Try.ntmps33
  go_wp2
  go_ret
  exact ⟨ret_bool (by rw [Bool.eq_iff_iff]; simp), hb⟩
theorem yes_any (x : Co) (w : World) : Calls Try.prog 37 #[cov x] w fun e w' => e = .returned (.bool true) ∧ Below w.heap.size w w' := by
  have hb := below_box w (oCo x)
  go_enter Try.func37, Try.ntmps37
  go_wp2
  go_ret
  exact ⟨rfl, hb⟩
theorem copyOf_any {w : World} {B : Nat} {A : Option Addr} {l : List Co} {n cp : Nat} (hn : l.length = n) (hl : (n : Int) ≤ 100000) (hbk : ∀ x ∈ l, x.bk.length ≤ 1000) (hr : KRc w B A l) (hB : B ≤ w.heap.size) :
    Calls Try.prog 23 #[.slice A n cp] w (CkO w (l.map Co.pl)) := by
  have h := those_cp (cp := cp) (fun _ => true) hn hl hbk hr hB (fun V _ x => yes_any x V)
  rw [List.filter_eq_self.2 (fun _ _ => rfl)] at h
  have HI := Lib.hid h
  clear h
  go_enter Try.func23, Try.ntmps23
  go_wp2_with ((with_reducible refine HI.out.mono ?_); rintro e w1 ⟨A3, c3, M, rfl, hM, hK, hC, hBv⟩)
  go_ret
  exact ⟨A3, c3, M, rfl, hM, hK, hC, hBv⟩
theorem rs_pl (l : List Co) (id : Int) : (l.filter (fun x => decide (x.id ≠ id))).map Co.pl = rsI (l.map Co.pl) id := by
  unfold rsI
  rw [List.filter_map]; rfl
theorem reset_any {w : World} {B : Nat} {A : Option Addr} {l : List Co} {n cp : Nat} (id : Int) (hn : l.length = n) (hl : (n : Int) ≤ 100000) (hbk : ∀ x ∈ l, x.bk.length ≤ 1000) (hr : KRc w B A l) (hB : B ≤ w.heap.size) :
    Calls Try.prog 13 #[.slice A n cp, .int .i64 id] w (CkO w (rsI (l.map Co.pl) id)) := by
  have hb := below_box w (.cells #[.int .i64 id] 3)
  have hn1 := heap_alloc_new w (.cells #[.int .i64 id] 3)
  have hsz : w.heap.size < (w.alloc (.cells #[.int .i64 id] 3)).heap.size := by simp
  have h := those_rs (cp := cp) (p := w.heap.size) (w := w.alloc (.cells #[.int .i64 id] 3)) (fun x => decide (x.id ≠ id)) hn hl hbk (hr.below hb hB) (Nat.le_trans hB hb.size) (fun V hV x => other_any x id w.heap.size V (blk_cell hn1 hV hsz 0))
  rw [rs_pl] at h
  have HI := Lib.hid h; have HBx := Lib.hid hb
  clear h hn1 hsz hb
  go_enter Try.func13, Try.ntmps13
  go_wp2_with ((with_reducible refine HI.out.mono ?_); rintro e w1 ⟨A3, c3, M, rfl, hM, hK, hC, hBv⟩)
  go_ret
  exact ⟨A3, c3, M, rfl, hM, Lib.hid (hK.out.mono HBx.out.size), hC, Lib.hid (HBx.out.trans (hBv.out.mono HBx.out.size))⟩
end Go.Proofs.Ytmdnjkiciaidiaa.Con
