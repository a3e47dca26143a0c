/-
  Contracts of away, last, fresh, backOf, Ready and Next of package cool.
-/
import Derived.Test.YtmdnjkiciaidiaaCda
import Derived.Test.YtmdnjkiciaidiaaBmx
namespace Go.Proofs.Ytmdnjkiciaidiaa.Con
open Go.RowKit Go.Maps

abbrev pt (b : Nat) : Value := .pointer (some ⟨b, 0, none⟩)
theorem ret_bool {a b : Bool} (h : a = b) : Ending.returned (.bool a) = .returned (.bool b) := by rw [h]
theorem blk_cell {w w' : World} {b B : Nat} {cs : Array Value} {t : TypeId} {f : Nat × Nat} (h : w.heap[b]? = some (.cells cs t f)) (hb : Below B w w') (hB : b < B) (o : Nat) : w'.cell? ⟨b, o, none⟩ = cs[o]? := by
  rw [World.cell?_of_block (w := w) (hb.block b hB)]
  simp [World.cell?, h]
theorem rd_mx0 {ch : Int} (hc : Fits ch) (n : Nat) : mx 0 (held (ch - n)) = rdI ch n := by
  unfold rdI held mx
  unfold Fits at hc
  repeat' split <;> omega

set_option maxRecDepth 20000 in
set_option maxHeartbeats 4000000 in
theorem away_any {w : World} {B : Nat} {A : Option Addr} {l : List Int} {n c : Nat} (now : Int) (hn : l.length = n) (hl : (n : Int) ≤ 1000) (hr : RW nu w B A l) (hB : B ≤ w.heap.size) :
    Calls Try.prog 31 #[.slice A n c, .int .i64 now] w (NuO w (awI l now)) := by
  subst hn
  have HR := Lib.hid hr; have HB := Lib.hid hB
  clear hr hB
  go_enter Try.func31, Try.ntmps31
  go_wp2
  go_loopg [5, 10] l.length (fun gh s5 s10 wr => ∃ (j : Nat) (A1 : Option Addr) (c1 : Nat) (L : List Int), j ≤ l.length ∧ gh = l.length - j ∧ s10 = .int .i64 j ∧ s5 = .slice A1 L.length c1 ∧ Hid (L = awI (l.take j) now) ∧ Hid (OW nu wr w.heap.size (.slice A1 L.length c1) L) ∧ Hid (Below w.heap.size w wr))
  case atStart => exact ⟨0, none, 0, [], by omega, rfl, rfl, rfl, Lib.hid rfl, Lib.hid (OW.nil nu w w.heap.size), Lib.hid (Below.refl _ _)⟩
  case round =>
    obtain ⟨j, A1, c1, L, hj, rfl, rfl, rfl, HL, HO, HV⟩ := hrel
    by_cases hjt : j < l.length
    · obtain ⟨y, hy⟩ : ∃ y, l[j]? = some y := ⟨_, List.getElem?_eq_getElem hjt⟩
      obtain ⟨b2, off2, hA2, hp2, f0⟩ := rowNu HR.out hy HV.out HB.out
      subst hA2
      have hjt' : (j : Int) < l.length := by omega
      have HYj := Lib.hid (aw_next (now := now) hy)
      have HLb : Hid (L.length + [y].length ≤ 1000000) := Lib.hid (by have := aw_take_le l now j; rw [← HL.out] at this; simp; omega)
      clear hy
      by_cases hu : now < y
      · have HT3 := Lib.hid (HO.out.of (below_box wr (.cells #[.int .i64 y] 3)))
        have HV3 := Lib.hid ((HV.out.trans ((below_box wr (.cells #[.int .i64 y] 3)).mono HV.out.size)))
        have HRW : Hid (RW nu (wr.alloc (.cells #[.int .i64 y] 3)) (wr.heap.size + 1) (some ⟨wr.heap.size, 0, none⟩) [y]) := Lib.hid (rw_at nu _ _ _ _ _ rfl rfl rfl)
        go_wp2_with (at_builtin; refine wpList_app nu rfl 33 rfl (.tmp 17) (.tmp 19) rfl w.heap.size (wr.heap.size + 1) (.slice A1 L.length c1) L [y] (some ⟨wr.heap.size, 0, none⟩) 1 1 rfl rfl rfl HT3.out HRW.out HLb.out HV3.out.size ?_; intro A3 c3 w3 lm HLM HO3 HS3 HB3)
        go_roundg (l.length - (j + 1))
        case measure => omega
        case rel => exact ⟨j + 1, A3, c3, lm, by omega, rfl, by go_num, rfl, Lib.hid (by rw [HLM.out, HYj.out, if_pos hu, HL.out]), HO3, Lib.hid (below_app HV3.out HS3.out (fun q hq => (HT3.out.lt hq).1))⟩
      · have hu' : decide (now < y) = false := by simpa using hu
        go_wp2
        go_roundg (l.length - (j + 1))
        case measure => omega
        case rel => exact ⟨j + 1, A1, c1, L, by omega, rfl, by go_num, rfl, Lib.hid (by rw [HYj.out, if_neg (by omega), HL.out]), HO, HV⟩
    · have hjt' : decide ((j : Int) < l.length) = false := by simp; omega
      have hjn : j = l.length := by omega
      subst hjn
      go_wp2
      go_ret
      exact ⟨A1, c1, L, rfl, Lib.hid (by rw [HL.out, List.take_length]), HO, HV⟩

set_option maxRecDepth 20000 in
theorem last_any {w : World} {B : Nat} {A : Option Addr} {l : List Int} {n c : Nat} (now : Int) (hn : l.length = n) (hl : (n : Int) ≤ 1000) (hr : RW nu w B A l) (hB : B ≤ w.heap.size) :
    Calls Try.prog 27 #[.slice A n c, .int .i64 now] w fun e w' => e = .returned (.int .i64 (l.getLastD now)) ∧ w' = w := by
  rcases Nat.eq_zero_or_pos n with h0 | h0
  · have hl0 : l = [] := List.eq_nil_of_length_eq_zero (by omega)
    subst hl0
    subst h0
    go_enter Try.func27, Try.ntmps27
    go_wp2
    go_ret
    exact ⟨rfl, rfl⟩
  · obtain ⟨y, hy⟩ : ∃ y, l[n - 1]? = some y := ⟨_, List.getElem?_eq_getElem (by omega)⟩
    obtain ⟨b2, off2, hA2, hp2, f0⟩ := rowNu hr hy (Below.refl _ _) hB
    subst hA2
    have HY : Hid (l.getLastD now = y) := Lib.hid (by rw [List.getLastD_eq_getLast?, List.getLast?_eq_getElem?, hn, hy]; rfl)
    have hmi : IntKind.i64.wrap ((n : Int) - 1) = ((n - 1 : Nat) : Int) := by rw [IntWalk.i64_in _ (by omega)]; omega
    have hmi2 : (n : Int) - 1 = ((n - 1 : Nat) : Int) := by omega
    have hn0 : ((n : Int) == 0) = false := beq_eq_false_iff_ne.2 (by omega)
    have hlt : ((n - 1 : Nat) : Int) < n := by omega
    clear hy hr hn
    go_enter Try.func27, Try.ntmps27
    go_wp2
    go_ret
    exact ⟨ret_int HY.out.symm, rfl⟩

/-! ### a Cool in new memory -/
def FrO (w : World) (id : Int) (L : List Int) (e : Ending) (w' : World) : Prop := ∃ A c M, e = .returned (.agg #[.int .i64 id, .slice A (List.length M) c]) ∧ Hid (M = L) ∧ Hid (OW nu w' w.heap.size (.slice A M.length c) M) ∧ Hid (Below w.heap.size w w')

set_option maxRecDepth 20000 in
set_option maxHeartbeats 4000000 in
theorem fresh_any {w : World} {B : Nat} {A : Option Addr} {l : List Int} {n c : Nat} (id : Int) (hn : l.length = n) (hl : (n : Int) ≤ 1000) (hr : RW nu w B A l) (hB : B ≤ w.heap.size) :
    Calls Try.prog 44 #[.int .i64 id, .slice A n c] w (FrO w id l) := by
  subst hn
  have HB1 := Lib.hid (below_box w (.cells #[.int .i64 0, .slice none 0 0] 35))
  have HR := Lib.hid (hr.below HB1.out hB)
  have HO := Lib.hid (OW.nil nu (w.alloc (.cells #[.int .i64 0, .slice none 0 0] 35)) (w.heap.size + 1))
  have HLb : Hid (([] : List Int).length + l.length ≤ 1000000) := Lib.hid (by simp; omega)
  have HS : Hid (w.heap.size + 1 ≤ (w.alloc (.cells #[.int .i64 0, .slice none 0 0] 35)).heap.size) := Lib.hid (by simp)
  have HN := Lib.hid (heap_alloc_new w (.cells #[.int .i64 0, .slice none 0 0] 35))
  clear hr
  go_enter Try.func44, Try.ntmps44
  go_wp2_with (at_builtin; refine wpList_app nu rfl 33 rfl (.const (.slice none 0 0)) (.tmp 6) rfl (w.heap.size + 1) B (.slice none 0 0) [] l A c l.length rfl rfl rfl HO.out HR.out HLb.out HS.out ?_; intro A3 c3 w3 lm HLM HO3 HS3 HB3; have HB3' : Hid (Below (w.heap.size + 1) (w.alloc (.cells #[.int .i64 0, .slice none 0 0] 35)) w3) := Lib.hid ((Below.refl _ _).grown HS3.out HS.out (fun q hq => (HO.out.lt hq).1)); have HN3 := Lib.hid ((HB3'.out.block w.heap.size (Nat.lt_succ_self _)).trans HN.out); have z1 := blk_cell HN.out HB3'.out (Nat.lt_succ_self _); have hs1 : w.heap.size < w3.heap.size := (Array.getElem?_eq_some_iff.1 HN3.out).1; have y1 : ∀ o, w3.frozen? ⟨w.heap.size, o, none⟩ = false := fun o => by simp [World.frozen?, HN3.out])
  have x0 : (w3.setCell ⟨w.heap.size, 0, none⟩ (.int .i64 id)).cell? ⟨w.heap.size, 0, none⟩ = some (.int .i64 id) := World.cell?_setCell_same _ _ _ (z1 0)
  have x1 : ((w3.setCell ⟨w.heap.size, 0, none⟩ (.int .i64 id)).setCell ⟨w.heap.size, 1, none⟩ (.slice A3 lm.length c3)).cell? ⟨w.heap.size, 0, none⟩ = some (.int .i64 id) := by rw [World.cell?_setCell_other _ _ _ _ (by simp)]; exact x0
  have x2 : ((w3.setCell ⟨w.heap.size, 0, none⟩ (.int .i64 id)).setCell ⟨w.heap.size, 1, none⟩ (.slice A3 lm.length c3)).cell? ⟨w.heap.size, 1, none⟩ = some (.slice A3 lm.length c3) := World.cell?_setCell_same _ _ _ ((World.cell?_setCell_other _ _ _ _ (by simp)).trans (z1 1))
  refine bodyPost_ret (by simp [results, Try.results44, go_sem, x1, x2]; try rfl) rfl ?_
  have hb3 : Below w.heap.size w w3 := HB1.out.trans (HB3'.out.mono (Nat.le_succ _))
  have hk : ∀ k, (Value.slice A3 lm.length c3).ownBlock = some k → ((w3.setCell ⟨w.heap.size, 0, none⟩ (.int .i64 id)).setCell ⟨w.heap.size, 1, none⟩ (.slice A3 lm.length c3)).heap[k]? = w3.heap[k]? := fun k hk =>
    (Below.heap_setCell _ _ _ _ (fun e => by have := (HO3.out.lt hk).1; have e' : k = w.heap.size := e; omega)).trans (Below.heap_setCell _ _ _ _ (fun e => by have := (HO3.out.lt hk).1; have e' : k = w.heap.size := e; omega))
  exact ⟨A3, c3, lm, rfl, Lib.hid (by have := HLM.out; simpa using this), Lib.hid ((HO3.out.keep hk).mono (Nat.le_succ _)), Lib.hid ((hb3.setCell (Nat.le_refl _) _).setCell (Nat.le_refl _) _)⟩

/-! ### the Back of the first one of that Id -/
theorem isAb_any (x : Co) (id : Int) (p : Nat) (w : World) (hp : w.cell? ⟨p, 0, none⟩ = some (.int .i64 id)) :
    Calls Try.prog 41 #[cov x, pt p] w fun e w' => e = .returned (.bool (decide (x.id = id))) ∧ Below w.heap.size w w' := by
  have hb := below_box w (oCo x)
  have hpl := World.block_lt_of_cell? w _ hp
  simp only at hpl
  by_cases h1 : x.id = id
  · have h1' : (x.id == id) = true := by simpa using h1
    have HE : Hid (decide (x.id = id) = true) := Lib.hid (by simpa using h1)
    clear h1
    go_enter Try.func41, Try.ntmps41
    go_wp2
    go_ret
    exact ⟨ret_bool HE.out.symm, hb⟩
  · have h1' : (x.id == id) = false := by simpa using h1
    have HE : Hid (decide (x.id = id) = false) := Lib.hid (by simpa using h1)
    clear h1
    go_enter Try.func41, Try.ntmps41
    go_wp2
    go_ret
    exact ⟨ret_bool HE.out.symm, hb⟩
def ixI (id : Int) : List Co → Int
  | [] => -1
  | x :: r => if x.id = id then 0 else if ixI id r = -1 then -1 else ixI id r + 1
theorem ix_not {id : Int} : ∀ {l : List Co}, (∀ y ∈ l, y.id ≠ id) → ixI id l = -1
  | [], _ => rfl
  | x :: r, h => by
    unfold ixI
    rw [if_neg (h x (by simp)), if_pos (ix_not (fun y hy => h y (by simp [hy])))]
theorem ix_at {id : Int} : ∀ {l : List Co} {k : Nat} {x : Co}, (∀ y ∈ l.take k, y.id ≠ id) → l[k]? = some x → x.id = id → ixI id l = k
  | [], k, x, _, h, _ => by simp at h
  | y :: r, 0, x, _, h, e => by
    simp at h; subst h
    unfold ixI
    rw [if_pos e]; rfl
  | y :: r, k + 1, x, hn, h, e => by
    unfold ixI
    have ih := ix_at (l := r) (k := k) (fun z hz => hn z (by simp [hz])) (by simpa using h) e
    rw [if_neg (hn y (by simp)), ih, if_neg (by omega)]
    omega

set_option maxRecDepth 100000 in
set_option maxHeartbeats 4000000 in
theorem idx_co {w : World} {B p : Nat} {A : Option Addr} {l : List Co} {n c : Nat} (id : Int) (hn : l.length = n) (hl : (n : Int) ≤ 1000000) (hr : KRc w B A l) (hB : B ≤ w.heap.size) (hp : w.cell? ⟨p, 0, none⟩ = some (.int .i64 id)) :
    Calls Try.prog 40 #[.slice A n c, .func (.func 41) #[] #[pt p]] w fun e w' => e = .returned (.int .i64 (ixI id l)) ∧ Below w.heap.size w w' := by
  have hpl := World.block_lt_of_cell? w _ hp
  simp only at hpl
  have HD : Hid (∀ V, Below w.heap.size w V → ∀ x, Calls Try.prog 41 #[cov x, pt p] V fun e w' => e = .returned (.bool (decide (x.id = id))) ∧ Below V.heap.size V w') := Lib.hid (fun V hV x => isAb_any x id p V ((hV.cell (p := ⟨p, 0, none⟩) hpl).trans hp))
  have HRT := Lib.hid hr; have HK := Lib.hid hn
  clear hr hn hp hpl
  go_enter Try.func40, Try.ntmps40
  go_wp2
  go_loopg [8] n (fun m s8 wr => ∃ (k : Nat), k ≤ n ∧ m = n - k ∧ s8 = .int .i64 (k : Int) ∧ Hid (∀ y ∈ l.take k, y.id ≠ id) ∧ Hid (Below w.heap.size w wr))
  case atStart => exact ⟨0, by omega, rfl, rfl, Lib.hid (by simp), Lib.hid (Below.refl _ _)⟩
  case round =>
    obtain ⟨k, hk, rfl, rfl, HF, HW⟩ := hrel
    by_cases hkl : k < n
    · have hkl' : (k : Int) < n := by omega
      obtain ⟨x, hx⟩ : ∃ x, l[k]? = some x := ⟨_, List.getElem?_eq_getElem (by rw [HK.out]; exact hkl)⟩
      obtain ⟨b, off, hA, hpl, c0, c1⟩ := rowCo HRT.out hx HW.out hB
      subst hA
      have HDQ := Lib.hid (HD.out wr HW.out x)
      have HX := Lib.hid hx
      clear hx
      obtain ⟨y, hy⟩ : ∃ y, decide (x.id = id) = y := ⟨_, rfl⟩
      have HY := Lib.hid hy
      rw [hy] at HDQ
      clear hy
      cases y with
      | true =>
        go_wp2_with (first | ((with_reducible refine HDQ.out.mono ?_); rintro e w1 ⟨rfl, hB1⟩))
        go_ret
        exact ⟨ret_int (ix_at HF.out HX.out (of_decide_eq_true HY.out)).symm, HW.out.trans (hB1.mono HW.out.size)⟩
      | false =>
        have HF2 := Lib.hid (take_not HF.out HX.out (of_decide_eq_false HY.out))
        go_wp2_with (first | ((with_reducible refine HDQ.out.mono ?_); rintro e w1 ⟨rfl, hB1⟩))
        go_roundg (n - (k + 1))
        case rel => exact ⟨k + 1, by omega, rfl, by go_num, HF2, Lib.hid (HW.out.trans (hB1.mono HW.out.size))⟩
        case measure => omega
    · have hkl' : decide ((k : Int) < n) = false := by simp; omega
      go_wp2
      go_ret
      exact ⟨ret_int (ix_not (by have h := HF.out; rwa [List.take_of_length_le (by have := HK.out; omega)] at h)).symm, HW.out⟩

/-- A Back that is told: it reads in memory that was there. -/
def BkO (w : World) (B : Nat) (L : List Int) (e : Ending) (w' : World) : Prop := ∃ A c M, e = .returned (.slice A (List.length M) c) ∧ Hid (M = L) ∧ Hid (RW nu w B A M) ∧ Hid (M.length ≤ c) ∧ Hid (Below w.heap.size w w')
theorem ix_split (id : Int) (l : List Co) : (ixI id l = -1 ∧ bkI (l.map Co.pl) id = []) ∨ ∃ (k : Nat) (x : Co), l[k]? = some x ∧ ixI id l = k ∧ bkI (l.map Co.pl) id = x.bk := by
  induction l with
  | nil => exact .inl ⟨rfl, rfl⟩
  | cons y r ih =>
    by_cases e : y.id = id
    · exact .inr ⟨0, y, rfl, by unfold ixI; rw [if_pos e]; rfl, by show (if y.id = id then y.bk else _) = _; rw [if_pos e]⟩
    · have e2 : bkI ((y :: r).map Co.pl) id = bkI (r.map Co.pl) id := by show (if y.id = id then y.bk else _) = _; rw [if_neg e]
      rcases ih with ⟨h1, h2⟩ | ⟨k, x, h1, h2, h3⟩
      · exact .inl ⟨by unfold ixI; rw [if_neg e, if_pos h1], e2.trans h2⟩
      · exact .inr ⟨k + 1, x, by simpa using h1, by unfold ixI; rw [if_neg e, h2, if_neg (by omega)]; omega, e2.trans h3⟩

set_option maxRecDepth 20000 in
set_option maxHeartbeats 4000000 in
theorem backOf_any {w : World} {B : Nat} {A : Option Addr} {l : List Co} {n c : Nat} (id : Int) (hn : l.length = n) (hl : (n : Int) ≤ 1000000) (hr : KRc w B A l) (hB : B ≤ w.heap.size) (hc : ∀ x ∈ l, x.bk.length ≤ x.bc) :
    Calls Try.prog 25 #[.slice A n c, .int .i64 id] w (BkO w B (bkI (l.map Co.pl) id)) := by
  have hb := below_box w (.cells #[.int .i64 id] 3)
  have hn1 := heap_alloc_new w (.cells #[.int .i64 id] 3)
  have HI := Lib.hid (idx_co (w := w.alloc (.cells #[.int .i64 id] 3)) (p := w.heap.size) (c := c) id hn hl (hr.below hb hB) (Nat.le_trans hB hb.size) (blk_cell hn1 (Below.refl ((w.alloc (.cells #[.int .i64 id] 3)).heap.size) _) (by simp) 0))
  have HB1 := Lib.hid hb
  clear hn1 hb
  rcases ix_split id l with ⟨h1, h2⟩ | ⟨k, x, h1, h2, h3⟩
  · rw [h1] at HI
    have HE := Lib.hid h2
    clear h1 h2 hr
    go_enter Try.func25, Try.ntmps25
    go_wp2_with ((with_reducible refine HI.out.mono ?_); rintro e w1 ⟨rfl, hB1⟩)
    go_ret
    exact ⟨none, 0, [], rfl, Lib.hid HE.out.symm, Lib.hid (.inl rfl), Lib.hid (Nat.le_refl _), Lib.hid (HB1.out.trans (hB1.mono HB1.out.size))⟩
  · rw [h2] at HI
    have HE := Lib.hid h3
    have HR := Lib.hid hr; have HX := Lib.hid h1
    have HC := Lib.hid (hc x (List.mem_of_getElem? h1))
    have hkn : k < n := by rw [← hn]; exact (List.getElem?_eq_some_iff.1 h1).1
    have hkn' : (k : Int) < n := by omega
    have hk0 : decide ((k : Int) < 0) = false := by simp
    clear h1 h2 h3 hr hc
    go_enter Try.func25, Try.ntmps25
    go_wp2_with ((with_reducible refine HI.out.mono ?_); rintro e w1 ⟨rfl, hB1⟩; have HV := Lib.hid (HB1.out.trans (hB1.mono HB1.out.size)); have hco := rowCo HR.out HX.out HV.out hB; obtain ⟨b, off, hA, hpl, c0, c1⟩ := hco; subst hA)
    go_ret
    exact ⟨x.ba, x.bc, x.bk, rfl, Lib.hid HE.out.symm, Lib.hid (HR.out.inner HX.out), HC, HV⟩
end Go.Proofs.Ytmdnjkiciaidiaa.Con
