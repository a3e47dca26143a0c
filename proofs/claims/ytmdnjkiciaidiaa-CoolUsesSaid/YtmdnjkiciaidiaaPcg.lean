/-
  Contract of put of package cool: a right row with that Back of the ability.
-/
import Derived.Test.YtmdnjkiciaidiaaPcf
import Derived.Deep.RegionHeld3
namespace Go.Proofs.Ytmdnjkiciaidiaa.Con
open Go.RowKit Go.Maps

/-! ### plain -/
theorem put_none {id : Int} {P : List Int} (hP : P.length = 0) : ∀ {l : List Cp}, RtC l → putI l id P = rsI l id
  | [], _ => by
    show oneI id P = []
    unfold oneI; rw [if_pos hP]
  | x :: r, h => by
    have ih := put_none (id := id) hP (rt_tail h)
    have hx := List.pairwise_cons.1 h.2
    have hr : id ≤ x.1 → rsI r id = r := fun g => List.filter_eq_self.2 (fun y hy => by have := hx.1 y hy; simp; omega)
    show (if x.1 < id then x :: putI r id P else oneI id P ++ (if x.1 = id then r else x :: r)) = List.filter _ (x :: r)
    by_cases e : x.1 < id
    · rw [if_pos e, List.filter_cons_of_pos (by simp; omega), ih]; rfl
    · rw [if_neg e]
      have ho : oneI id P = [] := by unfold oneI; rw [if_pos hP]
      rw [ho, List.nil_append]
      by_cases f : x.1 = id
      · rw [if_pos f, List.filter_cons_of_neg (by simpa using f)]; exact (hr (by omega)).symm
      · rw [if_neg f, List.filter_cons_of_pos (by simpa using f)]; exact congrArg _ (hr (by omega)).symm
theorem put_split {id : Int} {P : List Int} (hP : P.length ≠ 0) : ∀ {l : List Cp} {m : Nat}, RtC l → m ≤ (rsI l id).length → (∀ t x, t < m → (rsI l id)[t]? = some x → x.1 ≤ id) → (∀ t x, m ≤ t → (rsI l id)[t]? = some x → id < x.1) → putI l id P = (rsI l id).take m ++ (id, P) :: (rsI l id).drop m
  | [], m, _, hm, _, _ => by
    have : m = 0 := by simpa [rsI] using hm
    subst this
    show oneI id P = _
    unfold oneI; rw [if_neg hP]; rfl
  | x :: r, m, h, hm, h1, h2 => by
    have hx := List.pairwise_cons.1 h.2
    have hr : id ≤ x.1 → rsI r id = r := fun g => List.filter_eq_self.2 (fun y hy => by have := hx.1 y hy; simp; omega)
    have ho : oneI id P = [(id, P)] := by unfold oneI; rw [if_neg hP]
    show (if x.1 < id then x :: putI r id P else oneI id P ++ (if x.1 = id then r else x :: r)) = _
    by_cases f : x.1 = id
    · have e0 : rsI (x :: r) id = r := by
        show List.filter _ (x :: r) = r
        rw [List.filter_cons_of_neg (by simpa using f)]; exact hr (by omega)
      rw [e0] at hm h1 h2 ⊢
      have hm0 : m = 0 := by
        cases m with
        | zero => rfl
        | succ m =>
          obtain ⟨y, hy⟩ : ∃ y, r[0]? = some y := ⟨_, List.getElem?_eq_getElem (by omega)⟩
          have a1 := h1 0 y (by omega) hy
          have a2 := hx.1 y (List.mem_of_getElem? hy)
          omega
      subst hm0
      rw [if_neg (by omega), if_pos f, ho]; rfl
    · have e0 : rsI (x :: r) id = x :: rsI r id := by
        show List.filter _ (x :: r) = _
        rw [List.filter_cons_of_pos (by simpa using f)]; rfl
      rw [e0] at hm h1 h2 ⊢
      by_cases e : x.1 < id
      · cases m with
        | zero => have := h2 0 x (by omega) rfl; omega
        | succ m =>
          have ih := put_split hP (m := m) (rt_tail h) (by simpa using hm) (fun t y ht hy => h1 (t + 1) y (by omega) (by simpa using hy)) (fun t y ht hy => h2 (t + 1) y (by omega) (by simpa using hy))
          rw [if_pos e, ih]; rfl
      · have hm0 : m = 0 := by
          cases m with
          | zero => rfl
          | succ m => have := h1 0 x (by omega) rfl; omega
        subst hm0
        rw [if_neg e, if_neg f, ho, hr (by omega)]; rfl
theorem rs_sorted {l : List Cp} (h : RtC l) (id : Int) : (rsI l id).Pairwise (fun x y => x.1 < y.1) := h.2.filter _
theorem ins_sub {l : List Co} {x : Co} {m : Nat} : ∀ y ∈ l.take m ++ x :: l.drop m, y ∈ l ∨ y = x := by
  intro y hy
  rcases List.mem_append.1 hy with hy | hy
  · exact .inl (List.mem_of_mem_take hy)
  · rcases List.mem_cons.1 hy with rfl | hy
    · exact .inr rfl
    · exact .inl (List.mem_of_mem_drop hy)
theorem box_cell1 {w : World} {b : Nat} {v : Value} {t : TypeId} (h : w.heap[b]? = some (.cells #[v] t (0, 0))) : w.cell? ⟨b, 0, none⟩ = some v := cell_of_row w b 0 _ _ (0, 0) h
theorem box_lt {w : World} {b : Nat} {o : Obj} (h : w.heap[b]? = some o) : b < w.heap.size := (Array.getElem?_eq_some_iff.1 h).1
/-- Behind an insertion of one with a row that lies apart. -/
theorem KO.ins {α β : Type} {E : El α} {G : El β} {ad : α → Option Addr} {ro : α → List β} {w w' : World} {base : Nat} {v v' : Value} {l l' : List α} {x : α} (h : KO E G ad ro w base v l) (hx : PW G w base (ad x) (ro x)) (hne : ro x ≠ [] → ∀ k, v.ownBlock = some k → blk (ad x) ≠ some k) (hg : w.grownBy w' v.ownBlock) (ho : OW E w' base v' l') (hs : ∀ y ∈ l', y ∈ l ∨ y = x) (hw : v'.ownBlock = v.ownBlock ∨ v'.ownBlock = some w.heap.size) : KO E G ad ro w' base v' l' := by
  have hp : ∀ y ∈ l', PW G w base (ad y) (ro y) ∧ (ro y ≠ [] → ∀ k, v.ownBlock = some k → blk (ad y) ≠ some k) := by
    intro y hy
    rcases hs y hy with hy | rfl
    · exact ⟨h.inn y hy, h.ne y hy⟩
    · exact ⟨hx, hne⟩
  refine ⟨ho, fun y hy => (hp y hy).1.grown hg (hp y hy).2, fun y hy hr k hk e => ?_⟩
  rcases hw with f | f
  · exact (hp y hy).2 hr k (by rw [← f]; exact hk) e
  · obtain ⟨b, hb, _, hlt⟩ := (hp y hy).1.lt' hr
    rw [f] at hk; injection hk with hk
    rw [hb] at e; injection e with e
    omega

set_option maxRecDepth 20000 in
set_option maxHeartbeats 4000000 in
theorem search_put {w : World} {p q n : Nat} (hn : (n : Int) ≤ 1000000) (P : Nat → Bool) (hm : ∀ a b, a ≤ b → b < n → P a = true → P b = true)
    (hd : ∀ V, Below w.heap.size w V → ∀ i : Nat, i < n → Calls Try.prog 42 #[.int .i64 i, pt p, pt q] V fun e w' => e = .returned (.bool (P i)) ∧ Below V.heap.size V w') :
    Calls Try.prog 38 #[.int .i64 n, .func (.func 42) #[] #[pt p, pt q]] w (ScO w n P) := by
  have HD := Lib.hid hd; have HM := Lib.hid hm
  clear hd hm
  go_enter Try.func38, Try.ntmps38
  go_wp2
  go_loopg [5, 6] n (fun gh s5 s6 wr => ∃ lo hi : Nat, s5 = .int .i64 lo ∧ s6 = .int .i64 hi ∧ lo ≤ hi ∧ hi ≤ n ∧ hi - lo ≤ gh ∧ Hid (Below w.heap.size w wr) ∧ Hid ((∀ t, t < lo → P t = false) ∧ (∀ t, hi ≤ t → t < n → P t = true)))
  case atStart => exact ⟨0, n, rfl, rfl, Nat.zero_le _, Nat.le_refl _, by omega, Lib.hid (Below.refl _ _), Lib.hid ⟨fun t ht => absurd ht (Nat.not_lt_zero _), fun t h1 h2 => by omega⟩⟩
  case round =>
    obtain ⟨lo, hi, rfl, rfl, hlh, hin, hg, HW, HI⟩ := hrel
    by_cases hlt : lo < hi
    · have hc := HD.out wr HW.out ((lo + hi) / 2) (by omega)
      rw [show (((lo + hi) / 2 : Nat) : Int) = ((lo : Int) + (hi : Int)) / 2 by omega] at hc
      obtain ⟨y, hy⟩ : ∃ y, P ((lo + hi) / 2) = y := ⟨_, rfl⟩
      rw [hy] at hc
      have HY := Lib.hid hy; have HC := Lib.hid hc
      clear hy hc
      cases y with
      | false =>
        go_wp2_with ((with_reducible refine HC.out.mono ?_); rintro e w1 ⟨rfl, hB1⟩)
        go_roundg (hi - ((lo + hi) / 2 + 1))
        case measure => omega
        case rel =>
          exact ⟨(lo + hi) / 2 + 1, hi, by rw [show ((lo : Int) + (hi : Int)) / 2 + 1 = (((lo + hi) / 2 + 1 : Nat) : Int) by omega], rfl, by omega, hin, Nat.le_refl _, Lib.hid (HW.out.trans (hB1.mono HW.out.size)), Lib.hid ⟨fun t ht => (by
            cases h : P t with
            | false => rfl
            | true => have := HM.out t ((lo + hi) / 2) (by omega) (by omega) h; rw [HY.out] at this; cases this), HI.out.2⟩⟩
      | true =>
        go_wp2_with ((with_reducible refine HC.out.mono ?_); rintro e w1 ⟨rfl, hB1⟩)
        go_roundg ((lo + hi) / 2 - lo)
        case measure => omega
        case rel =>
          exact ⟨lo, (lo + hi) / 2, rfl, by rw [show ((lo : Int) + (hi : Int)) / 2 = (((lo + hi) / 2 : Nat) : Int) by omega], by omega, by omega, Nat.le_refl _, Lib.hid (HW.out.trans (hB1.mono HW.out.size)), Lib.hid ⟨HI.out.1, fun t ht htn => HM.out ((lo + hi) / 2) t ht htn HY.out⟩⟩
    · obtain rfl : hi = lo := by omega
      go_wp2
      go_ret
      exact ⟨hi, rfl, Lib.hid ⟨hin, HI.out.1, HI.out.2⟩, HW⟩

/-! ### put -/
theorem put1_any {w : World} {p q B : Nat} {A : Option Addr} {l : List Co} {n c i : Nat} {x : Co} (id : Int) (hn : l.length = n) (hr : RW co w B A l) (hB : B ≤ w.heap.size) (hi : l[i]? = some x) (hp : w.cell? ⟨p, 0, none⟩ = some (.slice A n c)) (hq : w.cell? ⟨q, 0, none⟩ = some (.int .i64 id)) :
    Calls Try.prog 42 #[.int .i64 i, pt p, pt q] w fun e w' => e = .returned (.bool (decide (id < x.id))) ∧ Below w.heap.size w w' := by
  obtain ⟨b2, off2, hA2, hp2, hc⟩ := hr.at' hi
  obtain ⟨f0, f1⟩ := cellsCo (o := off2 + i * 2) hc
  have hp3 : b2 < w.heap.size := Nat.lt_of_lt_of_le hp2 hB
  subst hA2
  have hin : i < n := by rw [← hn]; exact (List.getElem?_eq_some_iff.1 hi).1
  have hin' : (i : Int) < n := by omega
  have hpl := World.block_lt_of_cell? w _ hp
  have hql := World.block_lt_of_cell? w _ hq
  simp only at hpl hql
  clear hr hi hn hc f1 hp2
  go_enter Try.func42, Try.ntmps42
  go_wp2
  go_quiet (fail)
  go_wp2
  go_ret
  exact ⟨rfl, below_drewN (Below.refl _ _) _⟩
theorem id_mono {M : List Co} (h : (M.map Co.pl).Pairwise (fun x y => x.1 < y.1)) (id : Int) : ∀ a b, a ≤ b → b < M.length → decide (id < (M[a]?.map Co.id).getD 0) = true → decide (id < (M[b]?.map Co.id).getD 0) = true := by
  intro a b hab hb h1
  rw [List.getElem?_eq_getElem (by omega)] at h1
  rw [List.getElem?_eq_getElem hb]
  simp only [Option.map_some, Option.getD_some, decide_eq_true_eq] at h1 ⊢
  rcases Nat.lt_or_eq_of_le hab with h2 | rfl
  · have h3 := List.pairwise_iff_getElem.1 (List.pairwise_map.1 h) a b (by omega) hb h2
    have h4 : M[a].id < M[b].id := h3
    omega
  · exact h1

set_option maxRecDepth 20000 in
set_option maxHeartbeats 4000000 in
theorem put_any {w : World} {B Bp : Nat} {A Ap : Option Addr} {l : List Co} {P : List Int} {n cp np cb : Nat} (id : Int) (hn : l.length = n) (hl : (n : Int) ≤ 1000) (hbk : ∀ x ∈ l, x.bk.length ≤ 1000) (hr : KRc w B A l) (hB : B ≤ w.heap.size) (hrt : RtC (l.map Co.pl)) (hpn : P.length = np) (hp1 : (np : Int) ≤ 1000) (hrp : RW nu w Bp Ap P) (hBp : Bp ≤ w.heap.size) :
    Calls Try.prog 28 #[.slice A n cp, .int .i64 id, .slice Ap np cb] w (CkO w (putI (l.map Co.pl) id P)) := by
  have hb := below_box w (.cells #[.int .i64 id] 3)
  have HRE := Lib.hid (reset_any (w := w.alloc (.cells #[.int .i64 id] 3)) (cp := cp) id hn (by omega) hbk (hr.below hb hB) (Nat.le_trans hB hb.size))
  have HN1 := Lib.hid (heap_alloc_new w (.cells #[.int .i64 id] 3))
  have HSZ1 : Hid ((w.alloc (.cells #[.int .i64 id] 3)).heap.size = w.heap.size + 1) := Lib.hid (by simp)
  have HB1 := Lib.hid hb
  have HRT := Lib.hid hrt; have HPN := Lib.hid hpn; have HP1 := Lib.hid hp1; have HRP := Lib.hid hrp; have HBP := Lib.hid hBp; have HLn := Lib.hid hn; have HNl := Lib.hid hl
  have HMLn : Hid ((rsI (l.map Co.pl) id).length ≤ n) := Lib.hid (by have h9 := List.length_filter_le (fun x : Cp => decide (x.1 ≠ id)) (l.map Co.pl); rw [List.length_map] at h9; rw [← hn]; exact h9)
  clear hb hr hB hrt hpn hp1 hrp hBp hbk hn hl
  go_enter Try.func28, Try.ntmps28
  rcases Nat.eq_zero_or_pos np with h0 | h0
  · subst h0
    go_wp2_with ((with_reducible refine HRE.out.mono ?_); rintro e w1 ⟨A3, c3, M, rfl, hM, hK, hC, hBv⟩; have HA2 := Lib.hid (below_box w1 (.cells #[.slice A3 M.length c3] 22)); have y0 := box_cell1 (heap_alloc_new w1 (.cells #[.slice A3 M.length c3] 22)))
    go_ret
    exact ⟨A3, c3, M, rfl, Lib.hid (by rw [hM.out]; exact (put_none HPN.out HRT.out).symm), Lib.hid ((hK.out.of HA2.out).mono HB1.out.size), hC, Lib.hid ((HB1.out.trans (hBv.out.mono HB1.out.size)).trans (HA2.out.mono (Nat.le_trans HB1.out.size hBv.out.size)))⟩
  · have hnp : ((np : Int) == 0) = false := beq_eq_false_iff_ne.2 (by omega)
    go_wp2_with (first
      | ((with_reducible refine HRE.out.mono ?_); rintro e w1 ⟨A3, c3, M, rfl, hM, hK, hC, hBv⟩; have HA2 := Lib.hid (below_box w1 (.cells #[.slice A3 M.length c3] 22)); have HQ2 := Lib.hid (heap_alloc_new w1 (.cells #[.slice A3 M.length c3] 22)); have y0 := box_cell1 HQ2.out; have hK2 := Lib.hid (hK.out.of HA2.out); have HW2 := Lib.hid ((HB1.out.trans (hBv.out.mono HB1.out.size)).trans (HA2.out.mono (Nat.le_trans HB1.out.size hBv.out.size))); have HN2 := Lib.hid ((HA2.out.block w.heap.size (Nat.lt_of_lt_of_le (by rw [HSZ1.out]; exact Nat.lt_succ_self _) hBv.out.size)).trans ((hBv.out.block w.heap.size (by rw [HSZ1.out]; exact Nat.lt_succ_self _)).trans HN1.out)); have HML : Hid (M.length = (rsI (l.map Co.pl) id).length) := Lib.hid (by rw [← hM.out, List.length_map]); have HM1 : Hid ((M.length : Int) ≤ 1000) := Lib.hid (by rw [HML.out]; have := HMLn.out; have := HNl.out; omega); have HSR := Lib.hid (search_put (w := w1.alloc (.cells #[.slice A3 M.length c3] 22)) (p := w1.heap.size) (q := w.heap.size) (n := M.length) (by have := HM1.out; omega) (fun t => decide (id < (M[t]?.map Co.id).getD 0)) (id_mono (by rw [hM.out]; exact rs_sorted HRT.out id) id) (fun V hV i hi => by
          obtain ⟨x, hx⟩ : ∃ x, M[i]? = some x := ⟨_, List.getElem?_eq_getElem hi⟩
          have e : decide (id < (M[i]?.map Co.id).getD 0) = decide (id < x.id) := by rw [hx]; rfl
          show Calls _ _ _ V fun e w' => e = .returned (.bool (decide (id < (M[i]?.map Co.id).getD 0))) ∧ _
          rw [e]
          have hk9 := (hK2.out.of hV).kr
          exact put1_any id rfl hk9.1 (Nat.le_refl _) hx (blk_cell HQ2.out hV (by simp) 0) (blk_cell HN2.out hV (box_lt HN2.out) 0))); have HN1w : Hid (w.heap.size + 1 ≤ w1.heap.size) := Lib.hid (by rw [← HSZ1.out]; exact hBv.out.size))
      | ((with_reducible refine HSR.out.mono ?_); rintro e w3 ⟨m, rfl, hm, hB3⟩; have HW3 := Lib.hid (HW2.out.trans (hB3.out.mono HW2.out.size)); have HQ3 := Lib.hid ((hB3.out.block w1.heap.size (box_lt HQ2.out)).trans HQ2.out); have HN3 := Lib.hid ((hB3.out.block w.heap.size (box_lt HN2.out)).trans HN2.out); have hK3 := Lib.hid ((hK2.out.of hB3.out).mono (Nat.le_of_eq HSZ1.out.symm))))
    have hmM := hm.out.1
    have HNEQ : Hid (∀ r, (Value.slice A3 M.length c3).ownBlock = some r → r ≠ w1.heap.size) := Lib.hid (fun r hr e => by have := (hK.out.own.lt hr).2; omega)
    have HW31 : Hid (w.heap.size + 1 ≤ w3.heap.size) := Lib.hid (Nat.le_trans HN1w.out (Nat.le_trans HA2.out.size hB3.out.size))
    have hD0 : Below w3.heap.size w3 w3.drew := (Below.refl _ _).drew
    have hS0 : w3.drew.heap[w1.heap.size]? = some (.cells #[.slice A3 M.length c3] 22) ∧ w3.drew.heap[w.heap.size]? = some (.cells #[.int .i64 id] 3) := ⟨HQ3.out, HN3.out⟩
    have hO0 := hK3.out.of hD0
    generalize w1.heap.size = q at *
    refine wp_region_noPanic ?_
    refine wp_region_held_drew (S := fun w' => w'.heap[q]? = some (.cells #[.slice A3 M.length c3] 22) ∧ w'.heap[w.heap.size]? = some (.cells #[.int .i64 id] 3)) (by kernel_rfl) hS0 (fun _ => ?_)
    generalize w3.drew = v0 at hD0 hS0 hO0 ⊢
    refine wpAnyH_take (i := 0) (oi := ⟨some 20, Op.load 22 (Operand.tmp 7), 22, _, _, none⟩) (v := ?va0) rfl (by kernel_rfl) (by kernel_rfl) (by kernel_rfl) (fun _ _ _ h => h) (Or.inl ⟨by rfl, ?ha0⟩) hS0 ?ra0
    case ha0 => (intro wz hSw; have z0 := box_cell1 hSw.1; have z1 := box_cell1 hSw.2; have z2 := box_lt hSw.1; have z3 := box_lt hSw.2; go_simp <;> with_reducible rfl)
    (try simp only [Act.put, List.setIfInBounds_toArray, List.set_cons_zero, List.set_cons_succ])
    refine wpAnyH_take (i := 1) (oi := ⟨some 21, Op.move (Operand.tmp 8), 3, _, _, none⟩) (v := ?va1) rfl (by kernel_rfl) (by kernel_rfl) (by kernel_rfl) (fun _ _ _ h => h) (Or.inl ⟨by rfl, ?ha1⟩) hS0 ?ra1
    case ha1 => (intro wz hSw; go_simp <;> with_reducible rfl)
    (try simp only [Act.put, List.setIfInBounds_toArray, List.set_cons_zero, List.set_cons_succ])
    refine wpAnyH_take (i := 2) (oi := ⟨some 22, Op.load 3 (Operand.tmp 4), 3, _, _, none⟩) (v := ?va2) rfl (by kernel_rfl) (by kernel_rfl) (by kernel_rfl) (fun _ _ _ h => h) (Or.inl ⟨by rfl, ?ha2⟩) hS0 ?ra2
    case ha2 => (intro wz hSw; have z0 := box_cell1 hSw.1; have z1 := box_cell1 hSw.2; have z2 := box_lt hSw.1; have z3 := box_lt hSw.2; go_simp <;> with_reducible rfl)
    (try simp only [Act.put, List.setIfInBounds_toArray, List.set_cons_zero, List.set_cons_succ])
    refine wpAnyH_take (i := 3) (oi := ⟨some 23, Op.move (Operand.tmp 2), 33, _, _, none⟩) (v := ?va3) rfl (by kernel_rfl) (by kernel_rfl) (by kernel_rfl) (fun _ _ _ h => h) (Or.inl ⟨by rfl, ?ha3⟩) hS0 ?ra3
    case ha3 => (intro wz hSw; go_simp <;> with_reducible rfl)
    (try simp only [Act.put, List.setIfInBounds_toArray, List.set_cons_zero, List.set_cons_succ])
    refine wpAnyH_ready (rs := [4]) (by kernel_rfl) (by simp) ?_
    refine AllReadyH.cons (o := ⟨some 24, Op.call { callee := Callee.value (Operand.func 44), args := #[Operand.tmp 22, Operand.tmp 23], argTypes := #[3, 33] }, 35, _, _, none⟩) rfl (fun K hK => ?_) AllReadyH.nil
    go_simp
    (with_reducible refine (fresh_any (c := cb) id HPN.out HP1.out (HRP.out.below (HW3.out.trans (hD0.mono HW3.out.size)) HBP.out) (Nat.le_trans HBP.out (Nat.le_trans HW3.out.size hD0.size))).mono ?_); rintro e v1 ⟨A4, c4, lm, rfl, hlm, hOf, hBf⟩; have hK1 : v1.heap[q]? = some (.cells #[.slice A3 M.length c3] 22) ∧ v1.heap[w.heap.size]? = some (.cells #[.int .i64 id] 3) := ⟨(hBf.out.block _ (Array.getElem?_eq_some_iff.1 hS0.1).1).trans hS0.1, (hBf.out.block _ (Array.getElem?_eq_some_iff.1 hS0.2).1).trans hS0.2⟩; have hO1 := hO0.of hBf.out
    refine hK.out _ _ hK1 (fun _ => ?_)
    clear hK K
    (try simp only [Act.put, List.setIfInBounds_toArray, List.set_cons_zero, List.set_cons_succ])
    refine wpAnyH_ready (rs := [5]) (by kernel_rfl) (by simp) ?_
    refine AllReadyH.cons (o := ⟨some 25, Op.buildSlice 22 1 #[(0, Operand.tmp 24)], 22, _, _, none⟩) rfl (fun K hK => ?_) AllReadyH.nil
    go_simp
    have hA2 := below_box v1 (.cells #[.int .i64 id, .slice A4 lm.length c4] 35); have hK2 : (v1.alloc (.cells #[.int .i64 id, .slice A4 lm.length c4] 35)).heap[q]? = some (.cells #[.slice A3 M.length c3] 22) ∧ (v1.alloc (.cells #[.int .i64 id, .slice A4 lm.length c4] 35)).heap[w.heap.size]? = some (.cells #[.int .i64 id] 3) := ⟨(hA2.block _ (Array.getElem?_eq_some_iff.1 hK1.1).1).trans hK1.1, (hA2.block _ (Array.getElem?_eq_some_iff.1 hK1.2).1).trans hK1.2⟩; have hO2 := hO1.of hA2; have hX2 : (v1.alloc (.cells #[.int .i64 id, .slice A4 lm.length c4] 35)).heap[v1.heap.size]? = some (oCo ⟨id, A4, lm, c4⟩) := heap_alloc_new v1 _; have hne2 : (Value.slice A3 M.length c3).ownBlock ≠ some v1.heap.size := (fun e => by have := (hO1.own.lt e).2; omega); have hbs2 : w.heap.size ≤ (v1.alloc (.cells #[.int .i64 id, .slice A4 lm.length c4] 35)).heap.size := Nat.le_trans HW3.out.size (Nat.le_trans hD0.size (Nat.le_trans hBf.out.size hA2.size))
    refine hK.out _ _ hK2 (fun _ => ?_)
    clear hK K
    (try simp only [Act.put, List.setIfInBounds_toArray, List.set_cons_zero, List.set_cons_succ])
    refine wpAnyH_ready (rs := [6]) (by kernel_rfl) (by simp) ?_
    refine AllReadyH.cons (o := ⟨some 26, Op.call { callee := Callee.value (Operand.func 43), args := #[Operand.tmp 20, Operand.tmp 21, Operand.tmp 25], argTypes := #[22, 3, 22] }, 22, _, _, none⟩) rfl (fun K hK => ?_) AllReadyH.nil
    go_simp
    (with_reducible refine (insert_any (base := w.heap.size + 1) ⟨id, A4, lm, c4⟩ rfl hmM HM1.out hO2.own hX2 hne2 (by have := hbs2; have := hA2.size; have := HW31.out; have := hD0.size; have := hBf.out.size; omega)).mono ?_); rintro e v3 ⟨A5, c5, M5, rfl, hM5, hO5, hg5, hw5⟩; have hq5 : ∀ r, (Value.slice A3 M.length c3).ownBlock = some r → r ≠ q ∧ w.heap.size + 1 ≤ r := (fun r hr => ⟨HNEQ.out r hr, (hO2.own.lt hr).1⟩); have hK3 : v3.heap[q]? = some (.cells #[.slice A3 M.length c3] 22) ∧ v3.heap[w.heap.size]? = some (.cells #[.int .i64 id] 3) := ⟨(hg5.out.block _ (Array.getElem?_eq_some_iff.1 hK2.1).1 (fun e => (hq5 _ e.symm).1 rfl)).trans hK2.1, (hg5.out.block _ (Array.getElem?_eq_some_iff.1 hK2.2).1 (fun e => by have := (hq5 _ e.symm).2; omega)).trans hK2.2⟩; have HFIN : Hid (KOc v3 (w.heap.size + 1) (.slice A5 M5.length c5) M5) := Lib.hid (hO2.ins (x := ⟨id, A4, lm, c4⟩) (((OW.pw hOf.out).of hA2).mono (by have := HW31.out; have := hD0.size; omega)) (fun _ r hr e => by obtain ⟨b9, hb9, hb9n, _⟩ := (OW.pw hOf.out).lt' (by assumption); have e2 : blk A4 = some r := e; rw [hb9] at e2; injection e2 with e2; have := (hO0.own.lt hr).2; omega) hg5.out hO5.out (by rw [hM5.out]; exact ins_sub) hw5.out); have HBFIN : Hid (Below w.heap.size w v3) := Lib.hid (((HW3.out.trans (hD0.mono HW3.out.size)).trans ((hBf.out.trans (hA2.mono hBf.out.size)).mono (Nat.le_trans HW3.out.size hD0.size))).grown hg5.out (Nat.le_trans (Nat.le_trans HW3.out.size hD0.size) (Nat.le_trans hBf.out.size hA2.size)) (fun r hr => by have := (hq5 r hr).2; omega)); have HM5 := Lib.hid (hM5.out); have HLM := Lib.hid (hlm.out); have HCB := Lib.hid hOf.out.cap
    refine hK.out _ _ hK3 (fun _ => ?_)
    clear hK K
    (try simp only [Act.put, List.setIfInBounds_toArray, List.set_cons_zero, List.set_cons_succ])
    refine wpAnyH_take (i := 7) (oi := ⟨some 6, Op.assign (Operand.tmp 26), 22, _, _, none⟩) (v := ?va7) rfl (by kernel_rfl) (by kernel_rfl) (by kernel_rfl) (fun _ _ _ h => h) (Or.inl ⟨by rfl, ?ha7⟩) hK3 ?ra7
    case ha7 => (intro wz hSw; go_simp <;> with_reducible rfl)
    (try simp only [Act.put, List.setIfInBounds_toArray, List.set_cons_zero, List.set_cons_succ])
    refine wpAnyH_done (by kernel_rfl) ?_ _
    refine NoPanic.normal ?_
    clear hlm hOf hBf hK1 hO1 hA2 hK2 hO2 hX2 hne2 hbs2 hM5 hO5 hg5 hw5 hq5 hK3 hS0 hD0 hO0
    go_wp2
    go_ret
    refine ⟨A5, c5, M5, rfl, Lib.hid ?_, Lib.hid (HFIN.out.mono (Nat.le_succ _)), Lib.hid ?_, HBFIN⟩
    · have e := put_split (P := P) (id := id) (by rw [HPN.out]; omega) (m := m) HRT.out (by rw [← HML.out]; exact hmM) (fun t x ht hx => by
        rw [← hM.out, List.getElem?_map] at hx
        have := hm.out.2.1 t ht
        cases hy : M[t]? with
        | none => rw [hy] at hx; cases hx
        | some y =>
          rw [hy] at hx this
          injection hx with hx
          rw [← hx]
          simp at this
          exact this) (fun t x ht hx => by
        rw [← hM.out, List.getElem?_map] at hx
        cases hy : M[t]? with
        | none => rw [hy] at hx; cases hx
        | some y =>
          have := hm.out.2.2 t ht (List.getElem?_eq_some_iff.1 hy).1
          rw [hy] at hx this
          injection hx with hx
          rw [← hx]
          simp at this
          exact this)
      rw [e, HM5.out, List.map_append, List.map_cons, List.map_take, List.map_drop, hM.out]
      show _ ++ (id, lm) :: _ = _
      rw [HLM.out]
    · intro y hy
      rw [HM5.out] at hy
      rcases ins_sub y hy with hy | rfl
      · exact hC.out y hy
      · exact HCB.out
end Go.Proofs.Ytmdnjkiciaidiaa.Con
