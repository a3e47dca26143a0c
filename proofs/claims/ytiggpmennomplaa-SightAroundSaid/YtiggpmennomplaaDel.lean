/-
  The contracts of slices.IndexFunc and slices.DeleteFunc at a row of tiles of the call's own and a closure over two boxes that answers by a rule: the row that is left, in place.
-/
import Derived.Test.YtiggpmennomplaaRse
import Derived.Lib.SliceRun
namespace Go.Proofs.Ytiggpmennomplaa.Con
open Go.RowKit Go.Shelf Lin Arn

/-- The closure answers by the rule d, in whatever world lies like w below B. -/
def ByRule (w : World) (B s t : Nat) (l : List Tile) (d : Tile → Bool) : Prop :=
  ∀ V : World, Below B w V → B ≤ V.heap.size → ∀ q, q ∈ l → Calls Try.prog 34 #[pv q.1.1 q.1.2, pt s, pt t] V fun e w' => e = .returned (.bool (d q)) ∧ Below V.heap.size V w'

/-- The first number that the rule takes, or -1. -/
def FI (d : Tile → Bool) (l : List Tile) (i : Int) : Prop := (i = -1 ∧ ∀ q, q ∈ l → d q = false) ∨ ∃ (j : Nat) (q : Tile), i = (j : Int) ∧ l[j]? = some q ∧ d q = true ∧ ∀ p, p ∈ l.take j → d p = false

set_option maxRecDepth 100000 in
set_option maxHeartbeats 4000000 in
theorem idx_any {w : World} {B s t : Nat} {A : Option Addr} {l : List Tile} {k1 c : Nat} {d : Tile → Bool} (hk1 : l.length = k1) (hl : (k1 : Int) ≤ 70000) (hrt : RT w w.heap.size A l) (hB : B ≤ w.heap.size) (hd : ByRule w B s t l d) :
    Calls Try.prog 49 #[.slice A k1 c, .func (.func 34) #[] #[pt s, pt t]] w fun e w' => (∃ i, e = .returned (.int .i64 i) ∧ FI d l i) ∧ Below w.heap.size w w' := by
  have HD := Lib.hid hd; have HRT := Lib.hid hrt; have HK := Lib.hid hk1
  clear hd hrt hk1
  go_enter Try.func49, Try.ntmps49
  go_wp2
  go_loopg [8] k1 (fun m s8 wr => ∃ (k : Nat), k ≤ k1 ∧ m = k1 - k ∧ s8 = .int .i64 (k : Int) ∧ Hid (∀ p, p ∈ l.take k → d p = false) ∧ Hid (Below w.heap.size w wr))
  case atStart => exact ⟨0, by omega, rfl, rfl, Lib.hid (by simp), Lib.hid (Below.refl _ _)⟩
  case round =>
    obtain ⟨k, hk, rfl, rfl, HF, HW⟩ := hrel
    by_cases hkl : k < k1
    · have hkl' : (k : Int) < k1 := by omega
      obtain ⟨q, hq⟩ : ∃ q, l[k]? = some q := ⟨_, List.getElem?_eq_getElem (by rw [HK.out]; exact hkl)⟩
      obtain ⟨b0, hA, hqc⟩ := HRT.out.cells hq
      subst hA
      obtain ⟨q0, q1⟩ := hqc _ HW.out
      have hdq := HD.out wr (HW.out.mono hB) (Nat.le_trans hB HW.out.size) q (List.mem_of_getElem? hq)
      have HQ := Lib.hid hq
      clear hqc hq
      cases hdb : d q with
      | true =>
        rw [hdb] at hdq
        have HDQ := Lib.hid hdq
        clear hdq
        go_wp2_with (first | ((with_reducible refine HDQ.out.mono ?_); rintro e w1 ⟨rfl, hB1⟩))
        go_ret
        exact ⟨⟨_, rfl, .inr ⟨k, q, rfl, HQ.out, hdb, HF.out⟩⟩, HW.out.trans (hB1.mono HW.out.size)⟩
      | false =>
        rw [hdb] at hdq
        have HDQ := Lib.hid hdq
        have HF2 : Hid (∀ p, p ∈ l.take (k + 1) → d p = false) := Lib.hid (fun p hp => by
          rw [List.take_add_one, HQ.out, List.mem_append] at hp
          rcases hp with hp | hp
          · exact HF.out p hp
          · simp at hp; subst hp; exact hdb)
        clear hdq hdb
        go_wp2_with (first | ((with_reducible refine HDQ.out.mono ?_); rintro e w1 ⟨rfl, hB1⟩))
        go_roundg (k1 - (k + 1))
        · exact ⟨k + 1, by omega, rfl, by go_num, HF2, Lib.hid (HW.out.trans (hB1.mono HW.out.size))⟩
        · omega
    · have hkk : k = k1 := by omega
      have hkl' : decide ((k : Int) < k1) = false := by simp; omega
      have HE : Hid (∀ q, q ∈ l → d q = false) := Lib.hid (fun q hq => HF.out q (by rw [hkk, ← HK.out, List.take_length]; exact hq))
      clear hkk
      go_wp2
      go_ret
      exact ⟨⟨_, rfl, .inl ⟨rfl, HE.out⟩⟩, HW.out⟩

/-! ### the row while tiles are moved down -/
/-- A block that begins with the tiles. -/
def RowT (V : World) (b c : Nat) (m : List Tile) : Prop := ∃ cur, V.heap[b]? = some (.cells cur 26 (0, 0)) ∧ cur.size = c * 2 ∧ c ≤ maxLen ∧ m.length ≤ c ∧ cur.toList.take (m.length * 2) = flat m
theorem RowT.of {V V' : World} {b c : Nat} {m : List Tile} (h : RowT V b c m) (hb : Below V.heap.size V V') : RowT V' b c m := by
  obtain ⟨cur, h1, h2⟩ := h; exact ⟨cur, (hb.block _ (Array.getElem?_eq_some_iff.1 h1).1).trans h1, h2⟩
theorem RowT.lt {V : World} {b c : Nat} {m : List Tile} (h : RowT V b c m) : b < V.heap.size := by obtain ⟨cur, h1, _⟩ := h; exact (Array.getElem?_eq_some_iff.1 h1).1
theorem RowT.own {V : World} {B b c : Nat} {m : List Tile} (h : RowT V b c m) (hb : B ≤ b) : OwnT V B (.slice (some ⟨b, 0, none⟩) m.length c) m := by
  obtain ⟨cur, h1, h2, h3, h4, h5⟩ := h
  exact ⟨flat_len m, .inr ⟨b, c, cur, rfl, hb, h1, h4, h3, h2, h5⟩⟩
theorem RowT.cells {V : World} {b c : Nat} {m : List Tile} (h : RowT V b c m) {k : Nat} {q : Tile} (hq : m[k]? = some q) : (V.cell? ⟨b, k * 2, none⟩ = some (.int .i64 q.1.1) ∧ V.cell? ⟨b, k * 2 + 1, none⟩ = some (.int .i64 q.1.2)) ∧ V.frozen? ⟨b, k * 2, none⟩ = false ∧ V.frozen? ⟨b, k * 2 + 1, none⟩ = false := by
  obtain ⟨cur, h1, h2, h3, h4, h5⟩ := h
  have hlt := (List.getElem?_eq_some_iff.1 hq).1
  obtain ⟨f1, f2⟩ := flat_get hq
  rw [← h5] at f1 f2
  rw [List.getElem?_take_of_lt (by omega), Array.getElem?_toList] at f1 f2
  exact ⟨⟨by simp [World.cell?, h1, f1], by simp [World.cell?, h1, f2]⟩, by simp [World.frozen?, h1], by simp [World.frozen?, h1]⟩
theorem RowT.set {V : World} {b c : Nat} {m : List Tile} (h : RowT V b c m) (k : Nat) (q : Tile) : RowT ((V.setCell ⟨b, k * 2, none⟩ (.int .i64 q.1.1)).setCell ⟨b, k * 2 + 1, none⟩ (.int .i64 q.1.2)) b c (m.set k q) := by
  obtain ⟨cur, h1, h2, h3, h4, h5⟩ := h
  have g1 := set_same h1 (k * 2) (.int .i64 q.1.1)
  have g2 := set_same g1 (k * 2 + 1) (.int .i64 q.1.2)
  refine ⟨_, g2, by simpa using h2, h3, by simpa using h4, ?_⟩
  rw [flat_set, List.length_set, ← h5]
  simp only [Array.toList_setIfInBounds, List.take_set]
theorem RowT.take {V : World} {b c : Nat} {m : List Tile} (h : RowT V b c m) (n : Nat) (hn : n ≤ m.length) : RowT V b c (m.take n) := by
  obtain ⟨cur, h1, h2, h3, h4, h5⟩ := h
  refine ⟨cur, h1, h2, h3, by rw [List.length_take]; omega, ?_⟩
  rw [← flat_take, ← h5, List.take_take, List.length_take]
  congr 1
  omega
theorem clear_row (b : Nat) : ∀ (vs : List Value) (o : Nat) (V : World) (cur : Array Value), V.heap[b]? = some (.cells cur 26 (0, 0)) → ∃ cur', (V.setCells b o vs).heap[b]? = some (.cells cur' 26 (0, 0)) ∧ cur'.size = cur.size ∧ cur'.toList.take o = cur.toList.take o
  | [], _, _, cur, h => ⟨cur, h, rfl, rfl⟩
  | v :: r, o, V, cur, h => by
    have h1 := set_same h o v
    obtain ⟨cur', k1, k2, k3⟩ := clear_row b r (o + 1) _ _ h1
    refine ⟨cur', k1, by rw [k2]; simp, ?_⟩
    have k4 : (cur'.toList.take (o + 1)).take o = cur'.toList.take o := by rw [List.take_take]; congr 1; omega
    rw [← k4, k3, List.take_take, Array.toList_setIfInBounds, List.take_set]
    rw [List.set_eq_of_length_le (by rw [List.length_take]; omega)]
    congr 1
    omega
theorem clear_below {B b : Nat} {a : World} (hb : B ≤ b) : ∀ (vs : List Value) (o : Nat) (V : World), Below B a V → Below B a (V.setCells b o vs)
  | [], _, _, h => h
  | v :: r, o, _, h => clear_below hb r (o + 1) _ (h.setCell (p := ⟨b, o, none⟩) hb v)
theorem RowT.clear {V : World} {b c : Nat} {m : List Tile} (h : RowT V b c m) (o : Nat) (vs : List Value) (ho : m.length * 2 ≤ o) : RowT (V.setCells b o vs) b c m := by
  obtain ⟨cur, h1, h2, h3, h4, h5⟩ := h
  obtain ⟨cur', k1, k2, k3⟩ := clear_row b vs o V cur h1
  refine ⟨cur', k1, k2.trans h2, h3, h4, ?_⟩
  rw [← h5]
  have e : ∀ l : List Value, (l.take o).take (m.length * 2) = l.take (m.length * 2) := fun l => by rw [List.take_take]; congr 1; omega
  rw [← e, k3, e]
theorem RowT.room {V : World} {b c : Nat} {m : List Tile} (h : RowT V b c m) {x : Nat} (hx : x < c * 2) : (V.cell? ⟨b, x, none⟩).isSome = true ∧ V.frozen? ⟨b, x, none⟩ = false := by
  obtain ⟨cur, h1, h2, _⟩ := h
  have hlt : x < cur.size := by omega
  exact ⟨by simp [World.cell?, h1, hlt], by simp [World.frozen?, h1]⟩
theorem zeros (n : Nat) : (Builtin.zeroCells (Value.agg #[.int .i64 0, .int .i64 0]).cells n).toList = List.replicate (n * 2) (.int .i64 0) := by
  have e : (Value.agg #[.int .i64 0, .int .i64 0]).cells = #[.int .i64 0, .int .i64 0] := rfl
  rw [e]
  simp [Builtin.zeroCells]
  apply List.ext_getElem
  · simp
  · intro i h1 h2
    simp
    have : i % 2 = 0 ∨ i % 2 = 1 := by omega
    rcases this with h | h <;> simp [h]
theorem run_clear2 (w : World) (ty : TypeId) (b o n c : Nat) (hn : 0 < n) (hc : ∀ j, j < n * 2 → (w.cell? ⟨b, o + j, none⟩).isSome = true) (hf : ∀ j, j < n * 2 → w.frozen? ⟨b, o + j, none⟩ = false) :
    (Builtin.clear_ #[32] ty #[.slice (some ⟨b, o, none⟩) n c]).run Try.prog w = .ok (.tuple #[]) (w.setCells b o (List.replicate (n * 2) (.int .i64 0))) := by
  have hst := run_storeCells_cells (P := Try.prog) b o (List.replicate (n * 2) (.int .i64 0)) 0 w (by simpa using hc) (by simpa using hf) (by intro v hv'; rw [List.eq_of_mem_replicate hv']; rfl)
  simp only [Nat.add_zero] at hst
  obtain ⟨m, rfl⟩ : ∃ m, n = m + 1 := ⟨n - 1, by omega⟩
  simp [Builtin.clear_, run_underlying Try.underlying32, zeros, hst]

theorem fi_exists (d : Tile → Bool) : ∀ l : List Tile, ∃ i, FI d l i
  | [] => ⟨-1, .inl ⟨rfl, fun q hq => by cases hq⟩⟩
  | q :: r => by
    cases h : d q with
    | true => exact ⟨0, .inr ⟨0, q, rfl, rfl, h, fun p hp => by simp at hp⟩⟩
    | false =>
      obtain ⟨i, hi⟩ := fi_exists d r
      rcases hi with ⟨rfl, hi⟩ | ⟨j, p, rfl, h1, h2, h3⟩
      · refine ⟨-1, .inl ⟨rfl, fun p hp => ?_⟩⟩
        rcases List.mem_cons.1 hp with rfl | hp
        · exact h
        · exact hi p hp
      · refine ⟨((j + 1 : Nat) : Int), .inr ⟨j + 1, p, rfl, by simpa using h1, h2, fun u hu => ?_⟩⟩
        rw [List.take_succ_cons] at hu
        rcases List.mem_cons.1 hu with rfl | hu
        · exact h
        · exact h3 u hu
theorem mem_take {l : List Tile} {j k : Nat} {q : Tile} (hq : l[j]? = some q) (h : j < k) : q ∈ l.take k := by
  refine List.mem_of_getElem? (i := j) ?_
  rw [List.getElem?_take_of_lt h]
  exact hq
theorem FI.uniq {d : Tile → Bool} {l : List Tile} {i i' : Int} (h : FI d l i) (h' : FI d l i') : i = i' := by
  rcases h with ⟨rfl, h⟩ | ⟨j, q, rfl, h1, h2, h3⟩ <;> rcases h' with ⟨rfl, h'⟩ | ⟨j', q', rfl, k1, k2, k3⟩
  · rfl
  · have := h q' (List.mem_of_getElem? k1); rw [k2] at this; cases this
  · have := h' q (List.mem_of_getElem? h1); rw [h2] at this; cases this
  · rcases Nat.lt_trichotomy j j' with hlt | hlt | hlt
    · have := k3 q (mem_take h1 hlt); rw [h2] at this; cases this
    · rw [hlt]
    · have := h3 q' (mem_take k1 hlt); rw [k2] at this; cases this

/-- What holds at the head of a round: the tiles ahead of i are those that are left of the first j. -/
structure DI (d : Tile → Bool) (l m : List Tile) (i j : Nat) : Prop where
  len : m.length = l.length
  lt : i < j
  le : j ≤ l.length
  left : m.take i = (l.take j).filter (fun q => !d q)
  rest : m.drop j = l.drop j
theorem DI.start {d : Tile → Bool} {l : List Tile} {j : Nat} {q : Tile} (hq : l[j]? = some q) (h2 : d q = true) (h3 : ∀ p, p ∈ l.take j → d p = false) : DI d l l j (j + 1) := by
  have hlt := (List.getElem?_eq_some_iff.1 hq).1
  refine ⟨rfl, by omega, by omega, ?_, rfl⟩
  rw [List.take_add_one, hq, List.filter_append]
  simp [h2]
  symm
  rw [List.filter_eq_self]
  intro p hp
  rw [h3 p hp]; rfl
theorem DI.at' {d : Tile → Bool} {l m : List Tile} {i j : Nat} (h : DI d l m i j) {q : Tile} (hq : l[j]? = some q) : m[j]? = some q := by
  have := congrArg (fun x : List Tile => x[0]?) h.rest
  simpa [List.getElem?_drop, hq] using this
theorem DI.drop {d : Tile → Bool} {l m : List Tile} {i j : Nat} (h : DI d l m i j) {q : Tile} (hq : l[j]? = some q) (hd : d q = true) : DI d l m i (j + 1) := by
  have hlt := (List.getElem?_eq_some_iff.1 hq).1
  have h0 := h.lt
  refine ⟨h.len, by omega, by omega, ?_, ?_⟩
  · rw [h.left, List.take_add_one, hq, List.filter_append]; simp [hd]
  · have := congrArg (fun x : List Tile => x.drop 1) h.rest
    simpa [List.drop_drop] using this
theorem DI.move {d : Tile → Bool} {l m : List Tile} {i j : Nat} (h : DI d l m i j) {q : Tile} (hq : l[j]? = some q) (hd : d q = false) : DI d l (m.set i q) (i + 1) (j + 1) := by
  have hlt := (List.getElem?_eq_some_iff.1 hq).1
  have h0 := h.lt
  have h1 := h.len
  refine ⟨by rw [List.length_set]; exact h.len, by omega, by omega, ?_, ?_⟩
  · rw [List.take_add_one, List.take_set, List.set_eq_of_length_le (by rw [List.length_take]; omega), List.getElem?_set_self (by omega), h.left, List.take_add_one, hq, List.filter_append]
    simp [hd]
  · rw [List.drop_set_of_lt (by omega)]
    have := congrArg (fun x : List Tile => x.drop 1) h.rest
    simpa [List.drop_drop] using this
theorem DI.done {d : Tile → Bool} {l m : List Tile} {i j : Nat} (h : DI d l m i j) (hj : j = l.length) : m.take i = l.filter (fun q => !d q) := by
  rw [h.left, hj, List.take_length]

set_option maxRecDepth 100000 in
set_option maxHeartbeats 8000000 in
theorem del_any {w : World} {B s t : Nat} {v : Value} {l : List Tile} {d : Tile → Bool} (hl : (l.length : Int) ≤ 70000) (hrow : OwnT w B v l) (hB : B ≤ w.heap.size) (hd : ByRule w B s t l d) :
    Calls Try.prog 32 #[v, .func (.func 34) #[] #[pt s, pt t]] w fun e w' => (∃ v', e = .returned v' ∧ OwnT w' B v' (l.filter (fun q => !d q))) ∧ Below B w w' := by
  obtain ⟨A, c, rfl, hrt, hcase⟩ := hrow.shape
  obtain ⟨k1, hk1⟩ : ∃ k1, l.length = k1 := ⟨_, rfl⟩
  obtain ⟨i, hi⟩ := fi_exists d l
  have hix : Calls Try.prog 49 #[.slice A k1 c, .func (.func 34) #[] #[pt s, pt t]] w fun e w' => e = .returned (.int .i64 i) ∧ Below w.heap.size w w' :=
    (idx_any (c := c) hk1 (by omega) hrt hB hd).mono fun e w' h => by
      obtain ⟨⟨i', he, h'⟩, hb⟩ := h
      exact ⟨by rw [he, hi.uniq h'], hb⟩
  have HIX := Lib.hid hix
  have hrow2 := hrow
  have HRW := Lib.hid hrow2
  have HK := Lib.hid hk1
  rw [hk1] at HRW hl ⊢
  clear hix hrow hrow2 hrt
  rcases hi with ⟨rfl, hall⟩ | ⟨j0, q0, rfl, hq0, hd0, hpre⟩
  · have HALL := Lib.hid hall
    clear hall hcase
    go_enter Try.func32, Try.ntmps32
    go_wp2_with (first | ((with_reducible refine HIX.out.mono ?_); rintro e w1 ⟨rfl, hB1⟩))
    go_ret
    have e : l.filter (fun q => !d q) = l := by rw [List.filter_eq_self]; intro q hq; rw [HALL.out q hq]; rfl
    rw [e]
    exact ⟨⟨_, rfl, HRW.out.of hB1⟩, hB1.mono hB⟩
  · rcases hcase with ⟨_, e, _⟩ | ⟨b, cur, rfl, hbb, hlc, hhp, hsz, hmx, htk⟩
    · rw [e] at hq0; cases hq0
    have hR0 : RowT w b c l := ⟨cur, hhp, hsz, hmx, hlc, htk⟩
    have HR0 := Lib.hid hR0
    have HDI0 := Lib.hid (DI.start hq0 hd0 hpre)
    have hj0 : j0 < k1 := by have := (List.getElem?_eq_some_iff.1 hq0).1; omega
    have hlc2 : k1 ≤ c := by omega
    have HD := Lib.hid hd
    clear hhp hsz htk hq0 hd0 hpre hR0 hd hk1 hlc
    have hj0' : ((j0 : Int) == -1) = false := by simp
    go_enter Try.func32, Try.ntmps32
    go_wp2_with (first | ((with_reducible refine HIX.out.mono ?_); rintro e w1 ⟨rfl, hB1⟩))
    go_loopg [5, 6] (k1 - (j0 + 1)) (fun m s5 s6 wr => ∃ (i j : Nat) (ml : List Tile), j ≤ k1 ∧ i < j ∧ m = k1 - j ∧ s5 = .int .i64 (i : Int) ∧ s6 = .int .i64 (j : Int) ∧ Hid (DI d l ml i j) ∧ Hid (RowT wr b c ml) ∧ Hid (Below B w wr) ∧ Hid (B ≤ wr.heap.size))
    case atStart => exact ⟨j0, j0 + 1, l, by omega, by omega, rfl, rfl, by go_num, HDI0, Lib.hid (HR0.out.of hB1), Lib.hid (hB1.mono hB), Lib.hid (Nat.le_trans hB hB1.size)⟩
    case round =>
      obtain ⟨i, j, ml, hj, hij, rfl, rfl, rfl, HDI, HR, HW, HS⟩ := hrel
      by_cases hjl : j < k1
      · have hjl' : (j : Int) < k1 := by omega
        have hil' : (i : Int) < k1 := by omega
        obtain ⟨q, hq⟩ : ∃ q, l[j]? = some q := ⟨_, List.getElem?_eq_getElem (by rw [HK.out]; exact hjl)⟩
        have hqm := HDI.out.at' hq
        obtain ⟨⟨q0', q1'⟩, _, _⟩ := HR.out.cells hqm
        obtain ⟨p, hp⟩ : ∃ p, ml[i]? = some p := ⟨_, List.getElem?_eq_getElem (by rw [HDI.out.len, HK.out]; omega)⟩
        have HQ := Lib.hid hq; have HP := Lib.hid hp
        have hbl := HR.out.lt
        have hal := below_alloc wr (.cells #[.int .i64 q.1.1, .int .i64 q.1.2] 26)
        have hdq := HD.out (wr.alloc (.cells #[.int .i64 q.1.1, .int .i64 q.1.2] 26)) (HW.out.trans (hal.mono HS.out)) (Nat.le_trans HS.out hal.size) q (List.mem_of_getElem? hq)
        have HRa := Lib.hid (HR.out.of hal)
        have HWa := Lib.hid (HW.out.trans (hal.mono HS.out))
        have HSa := Lib.hid (Nat.le_trans HS.out hal.size)
        clear hqm hq hp hal
        cases hdb : d q with
        | true =>
          rw [hdb] at hdq
          have HDQ := Lib.hid hdq
          have HDI2 := Lib.hid (HDI.out.drop HQ.out hdb)
          clear hdq hdb
          go_wp2_with (first | ((with_reducible refine HDQ.out.mono ?_); rintro e w4 ⟨rfl, hB4⟩))
          go_roundg (k1 - (j + 1))
          · exact ⟨i, j + 1, ml, by omega, by omega, rfl, rfl, by go_num, HDI2, Lib.hid (HRa.out.of hB4), Lib.hid (HWa.out.trans (hB4.mono HSa.out)), Lib.hid (Nat.le_trans HSa.out hB4.size)⟩
          · omega
        | false =>
          rw [hdb] at hdq
          have HDQ := Lib.hid hdq
          have HDI2 := Lib.hid (HDI.out.move HQ.out hdb)
          clear hdq hdb
          go_wp2_with (first | ((with_reducible refine HDQ.out.mono ?_); rintro e w4 ⟨rfl, hB4⟩; have HR4 := Lib.hid (HRa.out.of hB4); have HW4 := Lib.hid (HWa.out.trans (hB4.mono HSa.out)); have HS4 := Lib.hid (Nat.le_trans HSa.out hB4.size); (have hbx := BoxP.kept (BoxP.new wr q.1.1 q.1.2) (hB4.block _ (by simp))); have u0 := hbx.cell0; have u1 := hbx.cell1; obtain ⟨⟨s0, s1⟩, s2, s3⟩ := HR4.out.cells HP.out; clear hB4 hbx))
          go_roundg (k1 - (j + 1))
          · exact ⟨i + 1, j + 1, ml.set i q, by omega, by omega, rfl, by go_num, by go_num, HDI2, Lib.hid (HR4.out.set i q), Lib.hid ((HW4.out.setCell (p := ⟨b, i * 2, none⟩) hbb _).setCell (p := ⟨b, i * 2 + 1, none⟩) hbb _), Lib.hid (by simpa using HS4.out)⟩
          · omega
      · have hjk : j = k1 := by omega
        have hjl' : decide ((j : Int) < k1) = false := by simp; omega
        have hik : (i : Int) < k1 := by omega
        have HE := Lib.hid (HDI.out.done (by rw [HK.out]; exact hjk))
        have hci : ¬ c = i := by omega
        have hclr := run_clear2 wr 0 b (i * 2) (k1 - i) (c - i) (by omega) (fun x hx => (HR.out.room (x := i * 2 + x) (by omega)).1) (fun x hx => (HR.out.room (x := i * 2 + x) (by omega)).2)
        have hlen : (ml.take i).length = i := by rw [List.length_take, HDI.out.len, HK.out]; omega
        have HO := ((HR.out.take i (by rw [HDI.out.len, HK.out]; omega)).clear (i * 2) (List.replicate ((k1 - i) * 2) (.int .i64 0)) (by rw [hlen]; exact Nat.le_refl _)).own hbb
        rw [hlen, HE.out] at HO
        have HO2 := Lib.hid HO
        have HB2 := Lib.hid (clear_below (B := B) hbb (List.replicate ((k1 - i) * 2) (.int .i64 0)) (i * 2) wr HW.out)
        clear HO hlen HE
        go_wp2
        go_ret
        exact ⟨⟨_, rfl, HO2.out⟩, HB2.out⟩
end Go.Proofs.Ytiggpmennomplaa.Con
