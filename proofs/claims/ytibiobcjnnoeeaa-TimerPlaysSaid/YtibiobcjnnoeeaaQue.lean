/-
  Contracts of a queue: take, Next, Len, Add, Cancel.
-/
import Derived.Test.YtibiobcjnnoeeaaHep
namespace Go.Proofs.Ytibiobcjnnoeeaa.Con
open Go.RowKit Tmr Go.Maps

theorem apart {l' l : List Tm} {t : Tm} (hp : (l' ++ [t]).Perm l) (hne : l.Pairwise (fun a b => a.id ≠ b.id)) : hasId l' t.id = false := by
  have h := perm_ne hp hne
  rw [Bool.eq_false_iff]
  intro e
  obtain ⟨u, hu, e⟩ := hasId_iff.1 e
  exact (List.pairwise_append.1 h).2.2 u hu t (by simp) e
theorem del_last {l' : List Tm} {t : Tm} (h : hasId l' t.id = false) : del (l' ++ [t]) t.id = l' := by
  have e := del_none h
  unfold del at e ⊢
  rw [List.filter_append, e]
  simp

section
variable {w : World} {base q mb : Nat} {A : Option Addr} {c : Nat} {l : List Tm} {last : Int}
/-- What take leaves. -/
def Taken (w : World) (base q mb : Nat) (A : Option Addr) (c : Nat) (l : List Tm) (last : Int) (t : Tm) (w' : World) : Prop :=
  ∃ l', Hid (Qs w' base q mb A c l' last) ∧ Hid ((l' ++ [t]).Perm l) ∧ Hid (Heap l'.length l') ∧ Hid (Off w w' (bls q mb A))
theorem taken_s {w w1 w2 : World} {l' : List Tm} {t : Tm} {n : Nat} {D : DataW Unit} (h : Qs w base q mb A c l last) (hq : Que w1 base q mb A c l' (l' ++ [t]) last) (hp : (l' ++ [t]).Perm l) (hh : Heap l'.length l') (ho : Off w w1 (bls q mb A)) (hD : Places D (l' ++ [t])) (hm : w2.ownsMap Try.prog 3 (plainElem Try.prog 3) mb n (D.del (key t.id))) (ht : w1.mapTurned w2 mb) : Taken w base q mb A c l last t w2 := by
  have o2 : Off w1 w2 [mb] := Off.of_grown ht.grown (fun k e => by injection e with e; simp [e])
  have hl' : ∀ u ∈ l', u ∈ l := fun u hu => hp.mem_iff.1 (List.mem_append_left _ hu)
  refine ⟨l', Lib.hid ⟨⟨(o2.block q hq.lt (by simp; exact hq.qm)).trans hq.st, hq.own.keep (fun k hk => o2.block k (hq.own.lt k hk).2 (by simp; exact hq.rm hk)), ⟨_, tight hm, hD.drop (apart hp h.ne)⟩, hq.bq, hq.bm⟩, ?_, fun u hu => h.ids u (hl' u hu), ?_⟩, Lib.hid hp, Lib.hid hh, Lib.hid (ho.trans o2 (fun x hx => by simp at hx; subst hx; exact .inl (by simp [bls])))⟩
  · exact (List.pairwise_append.1 (perm_ne hp h.ne)).1
  · have := hp.length_eq
    have := h.len
    simp at *
    omega
set_option maxHeartbeats 2000000 in
theorem take_s (h : Qs w base q mb A c l last) (hh : Heap l.length l) (i : Nat) (hi : i < l.length) (t : Tm) (ht : g l i = t) :
    Calls Try.prog 24 #[.pointer (some ⟨q, 0, none⟩), .int .i64 i] w fun e w' => e = .returned (.tuple #[]) ∧ Taken w base q mb A c l last t w' := by
  have hlen := h.len
  have hi' : (i : Int) < l.length := by omega
  have hw := h.ids t (by rw [← ht]; exact g_mem hi)
  have hc0 := h.que.cell0
  obtain ⟨b, rfl, _, e1, e2, e3⟩ := h.que.own.rt.at' hi
  rw [ht] at e1 e2 e3
  have HQ := Lib.hid h; have HH := Lib.hid hh
  clear h hh
  have hk : keyOf Try.prog 3 (.int .i64 t.id) = some (key t.id) := keyOf_int_mk Try.underlying3 (WalkArith.wf_i64 (by omega))
  go_enter Try.func24, Try.ntmps24
  go_wp2_with (first
    | ((with_reducible refine (hremove HQ.out HH.out i hi t ht).mono ?_); rintro e w1 ⟨⟨v, rfl⟩, l', HQ1, HP1, HH1, HO1⟩; have hc1 := HQ1.out.cell1; obtain ⟨D, hM, hP⟩ := HQ1.out.map; have HM := Lib.hid hM; have HPl := Lib.hid hP; clear hM hP)
    | (at_delete; refine wpList_delete_own _ rfl _ _ 49 3 rfl 3 law Try.underlying49 _ mb _ D rfl HM.out _ _ rfl hk ?_; intro w2 hM2 ht2))
  go_end0
  exact ⟨rfl, taken_s HQ.out HQ1.out HP1.out HH1.out HO1.out HPl.out hM2 ht2⟩
end

/-- A queue that holds the timers S, its last number told: its row lies at r. -/
structure TQ (w : World) (base q mb : Nat) (A : Option Addr) (c : Nat) (l S : List Tm) (last : Int) : Prop where
  qs : Qs w base q mb A c l last
  heap : Heap l.length l
  perm : l.Perm S
  good : Tmr.Good S last
  lo : 0 ≤ last
  hi : last ≤ 100000
section
variable {w w' : World} {base q mb : Nat} {A : Option Addr} {c : Nat} {l S : List Tm} {last : Int}
theorem TQ.step (h : TQ w base q mb A c l S last) (hb : Below w.heap.size w w') : TQ w' base q mb A c l S last := ⟨h.qs.step hb, h.heap, h.perm, h.good, h.lo, h.hi⟩
theorem TQ.len (h : TQ w base q mb A c l S last) : l.length = S.length := h.perm.length_eq
theorem TQ.off {bs : List Nat} (h : TQ w base q mb A c l S last) (ho : Off w w' bs) (hq : ∀ k ∈ bls q mb A, k ∉ bs) : TQ w' base q mb A c l S last := ⟨⟨h.qs.que.off ho hq, h.qs.ne, h.qs.ids, h.qs.len⟩, h.heap, h.perm, h.good, h.lo, h.hi⟩
theorem TQ.taken (h : TQ w base q mb A c l S last) {t : Tm} (k : Taken w base q mb A c l last t w') : ∃ l', TQ w' base q mb A c l' (del S t.id) last ∧ Off w w' (bls q mb A) := by
  obtain ⟨l', h1, h2, h3, h4⟩ := k
  have e := del_last (apart h2.out h.qs.ne)
  refine ⟨l', ⟨h1.out, h3.out, ?_, h.good.filter _, h.lo, h.hi⟩, h4.out⟩
  have := del_perm (h2.out.trans h.perm) t.id
  rw [e] at this
  exact this
theorem TQ.top (h : TQ w base q mb A c l S last) {t : Tm} (ht : first S = some t) : 0 < l.length ∧ g l 0 = t := by
  have h0 : 0 < l.length := by
    rw [h.len]
    rcases S with _ | ⟨x, r⟩
    · cases ht
    · simp
  have := first_top h.good h.perm h.heap h0
  rw [ht] at this
  injection this with this
  exact ⟨h0, this.symm⟩

theorem qlen_s (h : TQ w base q mb A c l S last) (n : Nat) (hn : S.length = n) : Calls Try.prog 11 #[.pointer (some ⟨q, 0, none⟩)] w fun e w' => e = .returned (.int .i64 n) ∧ w = w' := by
  have e := h.len
  rw [hn] at e
  subst e
  exact qlen_any h.qs.que.cell0

/-- A timer as a value. -/
def tval (t : Tm) : Value := .agg #[.int .i64 t.due, .int .i64 t.tag, .int .i64 t.id]
set_option maxHeartbeats 2000000 in
theorem next_none (h : TQ w base q mb A c l S last) (hS : first S = none) : Calls Try.prog 9 #[.pointer (some ⟨q, 0, none⟩)] w fun e w' => e = .returned (.tuple #[.agg #[.int .i64 0, .int .i64 0, .int .i64 0], .bool false]) ∧ Below w.heap.size w w' := by
  have hn : S.length = 0 := by rw [first_none] at hS; subst hS; rfl
  have HT := Lib.hid h; have HN := Lib.hid hn
  clear h hS hn
  have HB : Hid (∀ o v1 v2 v3, Below w.heap.size w ((((w.alloc o).setCell ⟨w.heap.size, 0, none⟩ v1).setCell ⟨w.heap.size, 1, none⟩ v2).setCell ⟨w.heap.size, 2, none⟩ v3)) := Lib.hid (by
    intro o v1 v2 v3
    go_grown)
  go_enter Try.func9, Try.ntmps9
  go_wp2_with ((with_reducible refine (qlen_s (HT.out.step (by go_grown)) 0 HN.out).mono ?_); rintro e w2 ⟨rfl, rfl⟩)
  go_returns
  exact ⟨rfl, by go_grown⟩
set_option maxHeartbeats 2000000 in
theorem next_some (h : TQ w base q mb A c l S last) (t : Tm) (ht : first S = some t) : Calls Try.prog 9 #[.pointer (some ⟨q, 0, none⟩)] w fun e w' => e = .returned (.tuple #[.agg #[.int .i64 t.due, .int .i64 t.tag, .int .i64 t.id], .bool true]) ∧ Below w.heap.size w w' := by
  obtain ⟨h0, hg⟩ := h.top ht
  obtain ⟨n, hn⟩ : ∃ n, l.length = n + 1 := ⟨l.length - 1, by omega⟩
  have hlen := h.qs.len
  have HSn : Hid (S.length = n + 1) := Lib.hid (h.len.symm.trans hn)
  have hc0 := h.qs.que.cell0
  obtain ⟨b, rfl, hbl, e1, e2, e3⟩ := h.qs.que.own.rt.at' h0
  rw [hg] at e1 e2 e3
  rw [Nat.zero_mul] at e1 e2 e3
  rw [hn] at hc0 hlen
  have hlen' : (n : Int) ≤ 1999 := by omega
  have hlt := h.qs.que.lt
  have HT := Lib.hid h
  clear h ht h0 hg hn hlen
  go_enter Try.func9, Try.ntmps9
  go_wp2_with ((with_reducible refine (qlen_s (HT.out.step (by go_grown)) (n + 1) HSn.out).mono ?_); rintro e w2 ⟨rfl, rfl⟩)
  go_returns
  exact ⟨rfl, by go_grown⟩

/-! ### Add -/
theorem add_full (h : TQ w base q mb A c l S last) (hS : S.length = 1024) (due tag : Int) : Calls Try.prog 12 #[.pointer (some ⟨q, 0, none⟩), .int .i64 due, .int .i64 tag] w fun e w' => e = .returned (.tuple #[.int .i64 0, .int .i64 4]) ∧ w = w' := by
  have HT := Lib.hid h; have HS := Lib.hid hS
  clear h hS
  go_enter Try.func12, Try.ntmps12
  go_wp2_with ((with_reducible refine (qlen_s HT.out 1024 HS.out).mono ?_); rintro e w2 ⟨rfl, rfl⟩)
  go_ret2
  exact ⟨rfl, rfl⟩
theorem Que.lst {w : World} {base q mb : Nat} {A : Option Addr} {c : Nat} {l lm : List Tm} {last : Int} (h : Que w base q mb A c l lm last) (m : Int) : Que (w.setCell ⟨q, 2, none⟩ (.int .i64 m)) base q mb A c l lm m := by
  refine ⟨?_, h.own.keep (fun k hk => Below.heap_setCell _ _ _ _ (h.rq hk)), h.map.keep (Below.heap_setCell _ _ _ _ (fun e => h.qm e.symm)), h.bq, h.bm⟩
  simp [World.setCell, Array.getElem?_modify, h.st]
theorem Qs.lst (h : Qs w base q mb A c l last) (m : Int) : Hid (Qs (w.setCell ⟨q, 2, none⟩ (.int .i64 m)) base q mb A c l m) ∧ Hid (Off w (w.setCell ⟨q, 2, none⟩ (.int .i64 m)) (bls q mb A)) :=
  ⟨Lib.hid ⟨h.que.lst m, h.ne, h.ids, h.len⟩, Lib.hid ((Off.refl w _).setCell (by simp [bls]) _)⟩
theorem Qs.drew (h : Qs w base q mb A c l last) : Qs w.drew base q mb A c l last := ⟨h.que.drew, h.ne, h.ids, h.len⟩
/-- What Add leaves. -/
def Added (w : World) (base q mb : Nat) (A : Option Addr) (S' : List Tm) (last' : Int) (w' : World) : Prop :=
  ∃ A' c' l', Hid (TQ w' base q mb A' c' l' S' last') ∧ Hid (Off w w' (bls q mb A)) ∧ Hid (∀ k ∈ bls q mb A', k ∈ bls q mb A ∨ w.heap.size ≤ k)
theorem added {w1 w2 : World} {t : Tm} (h : TQ w base q mb A c l S last) (ho : Off w w1 (bls q mb A)) (hp : Pushed w1 base q mb A l t.id t w2) (ht : t.id = last + 1) (hb : t.id ≤ 100000) : Added w base q mb A (S ++ [t]) t.id w2 := by
  obtain ⟨A', c', l', h1, h2, h3, h4, h5⟩ := hp
  refine ⟨A', c', l', Lib.hid ⟨h1.out, h2.out, h3.out.trans (h.perm.append_right _), ?_, by have := h.lo; omega, hb⟩, Lib.hid (ho.same h4.out), Lib.hid (fun k hk => ?_)⟩
  · have := h.good.add h.lo t.due t.tag
    rw [← ht] at this
    exact this
  · rcases h5.out k hk with h | h
    · exact .inl h
    · exact .inr (by have := ho.size; omega)
theorem good_new {S l : List Tm} {last m : Int} (h : Tmr.Good S last) (hp : l.Perm S) (hm : m = last + 1) : hasId l m = false := by
  rw [Bool.eq_false_iff]
  intro e
  obtain ⟨u, hu, e⟩ := hasId_iff.1 e
  have := (h.2 u (hp.mem_iff.1 hu)).2
  omega
set_option maxHeartbeats 4000000 in
theorem add_any (h : TQ w base q mb A c l S last) (n : Nat) (hS : S.length = n) (hn : (n : Int) < 1024) (due tag m : Int) (hm : last + 1 = m) (hmb : m ≤ 100000) : Calls Try.prog 12 #[.pointer (some ⟨q, 0, none⟩), .int .i64 due, .int .i64 tag] w fun e w' => e = .returned (.tuple #[.int .i64 m, .int .i64 0]) ∧ Added w base q mb A (S ++ [⟨due, tag, m⟩]) m w' := by
  have hc2 := h.qs.que.cell2
  have hf2 := h.qs.que.fz 2
  have hlo := h.lo
  have hhi := h.hi
  obtain ⟨HQ1, HO1⟩ := h.qs.lst m
  have HNew := Lib.hid (good_new h.good h.perm hm.symm)
  have hln := h.len
  rw [hS] at hln
  have hd : decide ((n : Int) ≥ 1024) = false := by simp; omega
  have HT := Lib.hid h; have HS := Lib.hid hS; have HLn := Lib.hid hln; have HNb := Lib.hid hn
  clear h hS hln hn
  go_enter Try.func12, Try.ntmps12
  go_wp2_with ((with_reducible refine (qlen_s HT.out n HS.out).mono ?_); rintro e w2 ⟨rfl, rfl⟩)
  generalize w.setCell ⟨q, 2, none⟩ (.int .i64 m) = w1 at HQ1 HO1 ⊢
  have hc1 := HQ1.out.que.cell2
  go_still_tail 12, (by kernel_rfl)
  change wpList _ _ _ _ _ w1.drew
  go_wp2_with ((with_reducible refine (hpush HQ1.out.drew (by rw [HLn.out]; have := HT.out.heap; rw [HLn.out] at this; exact this) ⟨due, tag, m⟩ HNew.out ⟨by simp only; omega, by simp only; omega⟩ (by rw [HLn.out]; have := HNb.out; omega)).mono ?_); rintro e w3 ⟨rfl, HP⟩; have HP1 := Lib.hid HP; obtain ⟨A', c', l', HQ3, _⟩ := HP; have hc3 := HQ3.out.que.cell2)
  go_ret2
  exact ⟨rfl, added (t := ⟨due, tag, m⟩) HT.out (HO1.out.drew) HP1.out hm.symm hmb⟩

/-! ### Cancel -/
/-- What Cancel leaves. -/
def Left (w : World) (base q mb : Nat) (A : Option Addr) (c : Nat) (S' : List Tm) (last : Int) (w' : World) : Prop :=
  ∃ l', Hid (TQ w' base q mb A c l' S' last) ∧ Hid (Off w w' (bls q mb A))
theorem at_place {l : List Tm} {D : DataW Unit} (hP : Places D l) {i : Nat} (hi : i < l.length) {id x : Int} (hid : (g l i).id = id) (h : D.atKey (key id) (.lit (.int .i64 0)) = .lit (.int .i64 x)) : x = i := by
  have e := hP.at' i _ (g_at hi)
  rw [hid, h] at e
  injection e with e
  injection e
theorem has_idx {l : List Tm} {id : Int} (h : hasId l id = true) : ∃ i, i < l.length ∧ (g l i).id = id := by
  obtain ⟨t, ht, e⟩ := hasId_iff.1 h
  obtain ⟨i, hi, e2⟩ := List.mem_iff_getElem.1 ht
  exact ⟨i, hi, by simp [g, hi, e2, e]⟩
set_option maxHeartbeats 2000000 in
theorem cancel_no (h : TQ w base q mb A c l S last) (id : Int) (hw : -9223372036854775808 ≤ id ∧ id ≤ 9223372036854775807) (hx : hasId S id = false) : Calls Try.prog 14 #[.pointer (some ⟨q, 0, none⟩), .int .i64 id] w fun e w' => e = .returned (.bool false) ∧ w = w' := by
  have hc1 := h.qs.que.cell1
  obtain ⟨D, hM, hP⟩ := h.qs.que.map
  have hhas : Maps.has D (key id) = false := by rw [hP.is, hasId_perm h.perm, hx]
  have hk : keyOf Try.prog 3 (.int .i64 id) = some (key id) := keyOf_int_mk Try.underlying3 (WalkArith.wf_i64 (by omega))
  have HM := Lib.hid hM
  clear h hx hP hM
  go_enter Try.func14, Try.ntmps14
  go_wp2_with (at_lookup; refine wpList_lookup_own_ok_int _ rfl _ _ 49 rfl 3 3 .i64 law Try.underlying49 Try.underlying3 (zeroE _) mb _ D rfl HM.out _ _ rfl hk ?_; intro x hat hwc)
  go_ret
  exact ⟨rfl, rfl⟩
set_option maxHeartbeats 2000000 in
theorem cancel_yes (h : TQ w base q mb A c l S last) (id : Int) (hw : -9223372036854775808 ≤ id ∧ id ≤ 9223372036854775807) (hx : hasId S id = true) : Calls Try.prog 14 #[.pointer (some ⟨q, 0, none⟩), .int .i64 id] w fun e w' => e = .returned (.bool true) ∧ Left w base q mb A c (del S id) last w' := by
  have hc1 := h.qs.que.cell1
  have hl : hasId l id = true := by rw [hasId_perm h.perm, hx]
  obtain ⟨i, hi, hid⟩ := has_idx hl
  obtain ⟨D, hM, hP⟩ := h.qs.que.map
  have hhas : Maps.has D (key id) = true := by rw [hP.is, hl]
  have hk : keyOf Try.prog 3 (.int .i64 id) = some (key id) := keyOf_int_mk Try.underlying3 (WalkArith.wf_i64 (by omega))
  have HM := Lib.hid hM; have HPl := Lib.hid hP; have HT := Lib.hid h; have HI := Lib.hid hid
  clear h hx hP hM hl hid
  go_enter Try.func14, Try.ntmps14
  go_wp2_with (first
    | (at_lookup; refine wpList_lookup_own_ok_int _ rfl _ _ 49 rfl 3 3 .i64 law Try.underlying49 Try.underlying3 (zeroE _) mb _ D rfl HM.out _ _ rfl hk ?_; intro x hat hwc; (have hx := at_place HPl.out hi HI.out hat); subst hx; clear hat hwc)
    | ((with_reducible refine (take_s HT.out.qs HT.out.heap i hi _ rfl).mono ?_); rintro e w1 ⟨rfl, HTk⟩))
  go_ret
  obtain ⟨l', h1, h2⟩ := HT.out.taken HTk
  rw [HI.out] at h1
  exact ⟨rfl, l', Lib.hid h1, Lib.hid h2⟩
end

/-! ### New -/
set_option maxHeartbeats 2000000 in
theorem new_any (w : World) (base : Nat) (hb : base ≤ w.heap.size) : Calls Try.prog 7 #[] w fun e w' => e = .returned (.pointer (some ⟨w.heap.size + 1, 0, none⟩)) ∧ Hid (TQ w' base (w.heap.size + 1) w.heap.size none 0 [] [] 0) ∧ Hid (Below w.heap.size w w') := by
  have hmm := @run_makeMap Try.prog
  go_enter Try.func7, Try.ntmps7
  go_wp2
  go_ret
  refine ⟨rfl, Lib.hid ⟨⟨⟨?_, Own.nil _ _, ⟨.map [], ?_, Places.nil⟩, by omega, hb⟩, List.Pairwise.nil, by simp, by simp⟩, fun c h1 h2 => by simp at h2, List.Perm.refl _, Tmr.Good.nil, by omega, by omega⟩, Lib.hid (by go_grown)⟩
  · have := heap_alloc_new (w.alloc (.map #[] 0)) (.cells #[.slice none 0 0, .map (some w.heap.size), .int .i64 0] 53)
    rw [World.size_alloc] at this
    exact this
  · obtain ⟨es, clock, h1, r⟩ := World.ownsMap_made w Try.prog 3 (plainElem (H := Unit) Try.prog 3)
    exact ⟨es, clock, (Below.heap_alloc _ _ _ (by rw [World.size_alloc]; omega)).trans h1, r⟩
end Go.Proofs.Ytibiobcjnnoeeaa.Con
