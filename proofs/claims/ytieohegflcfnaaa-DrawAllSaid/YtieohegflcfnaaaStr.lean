/-
  Contracts of a stream's methods New, Left, drop, Feed and Below.
-/
import Derived.Test.YtieohegflcfnaaaApp
import Derived.Test.YtieohegflcfnaaaShelf
namespace Go.Proofs.Ytieohegflcfnaaa.Con
open Go.RowKit Mth Mem

theorem setCells_block {g : Nat} {t : TypeId} {fr : Nat × Nat} : ∀ (xs : List Value) (o : Nat) (w : World) (cur : Array Value), w.heap[g]? = some (.cells cur t fr) → o + xs.length ≤ cur.size →
    ∃ cur', (w.setCells g o xs).heap[g]? = some (.cells cur' t fr) ∧ cur'.size = cur.size ∧ ∀ j, cur'[j]? = if o ≤ j ∧ j < o + xs.length then xs[j - o]? else cur[j]?
  | [], o, w, cur, h, _ => ⟨cur, h, rfl, fun j => by rw [if_neg (by simp)]⟩
  | x :: r, o, w, cur, h, hl => by
    simp only [List.length_cons] at hl
    have h1 : (w.setCell ⟨g, o, none⟩ x).heap[g]? = some (.cells (cur.setIfInBounds o x) t fr) := by
      simp [World.setCell, Array.getElem?_modify, h]
    obtain ⟨cur', h2, h3, h4⟩ := setCells_block r (o + 1) (w.setCell ⟨g, o, none⟩ x) _ h1 (by simp; omega)
    refine ⟨cur', h2, by simpa using h3, fun j => ?_⟩
    rw [h4 j]
    simp only [List.length_cons]
    by_cases hj : j = o
    · subst hj
      rw [if_neg (by omega), if_pos (by omega), Array.getElem?_setIfInBounds_self_of_lt (by omega)]
      simp
    · by_cases hj2 : o ≤ j ∧ j < o + (r.length + 1)
      · rw [if_pos (by omega), if_pos hj2, show j - o = (j - (o + 1)) + 1 by omega]
        simp
      · rw [if_neg (by omega), if_neg hj2, Array.getElem?_setIfInBounds_ne (by omega)]

theorem tape_setCells (g : Nat) : ∀ (xs : List Value) (o : Nat) (w : World), (w.setCells g o xs).tape = w.tape
  | [], _, _ => rfl
  | x :: r, o, w => tape_setCells g r (o + 1) (w.setCell ⟨g, o, none⟩ x)
theorem size_setCells (g : Nat) : ∀ (xs : List Value) (o : Nat) (w : World), (w.setCells g o xs).heap.size = w.heap.size
  | [], _, _ => rfl
  | x :: r, o, w => (size_setCells g r (o + 1) (w.setCell ⟨g, o, none⟩ x)).trans (by simp [World.setCell])
theorem other_setCells (g k : Nat) (h : k ≠ g) : ∀ (xs : List Value) (o : Nat) (w : World), (w.setCells g o xs).heap[k]? = w.heap[k]?
  | [], _, _ => rfl
  | x :: r, o, w => (other_setCells g k h r (o + 1) (w.setCell ⟨g, o, none⟩ x)).trans (Below.heap_setCell w ⟨g, o, none⟩ x k h)

/-- What a row of the call's own is, once its first cells are written anew. -/
theorem own_set {w : World} {base g c : Nat} {l l2 : List Int} {xs : List Value} (h : w.ownsRow base 3 1 (.slice (some ⟨g, 0, none⟩) l.length c) l.length (vs l)) (hx : xs.length = l.length) (hl : l2.length ≤ l.length) (ht : xs.take l2.length = vs l2) (q : Nat) :
    ((w.drewN q).setCells g 0 xs).ownsRow base 3 1 (.slice (some ⟨g, 0, none⟩) l2.length c) l2.length (vs l2) ∧ w.grownBy ((w.drewN q).setCells g 0 xs) (some g) := by
  rcases h.2 with ⟨hv, _⟩ | ⟨g', cap, cur, hv, hb, hg, hn, hm, hs, htk⟩
  · cases hv
  · injection hv with h1 h2 h3
    injection h1 with h1
    injection h1 with h1 _ _
    subst h1; subst h3
    have hg' : (w.drewN q).heap[g]? = some (.cells cur 3 (0, 0)) := hg
    obtain ⟨cur', k1, k2, k3⟩ := setCells_block xs 0 (w.drewN q) cur hg' (by omega)
    refine ⟨⟨by simp [vs_length], .inr ⟨g, c, cur', rfl, hb, k1, by omega, hm, by omega, ?_⟩⟩, ?_⟩
    · rw [← ht]
      apply List.ext_getElem?
      intro j
      rw [List.getElem?_take, List.getElem?_take, Nat.mul_one]
      by_cases hj : j < l2.length
      · rw [if_pos hj, if_pos hj, Array.getElem?_toList, k3 j, if_pos (by omega)]; simp
      · rw [if_neg hj, if_neg hj]
    · have hkb := World.keptBut_setCells g (may := fun _ => True) xs 0 (w.drewN q) (fun _ _ => trivial)
      refine ⟨hkb.1, ?_, hkb.2.1, ?_, fun k hk hne => ?_⟩
      · exact tape_setCells g xs 0 (w.drewN q)
      · exact Nat.le_of_eq (size_setCells g xs 0 (w.drewN q)).symm
      · exact other_setCells g k (fun e => hne (by rw [e])) xs 0 (w.drewN q)

/-- slices.Delete(s, 0, u) of a row of the call's own: what stands from u on, in the same row. -/
theorem del_any (w : World) (base : Nat) (A : Option Addr) (c : Nat) (l : List Int) (u : Nat) (hown : w.ownsRow base 3 1 (.slice A l.length c) l.length (vs l)) (hu : u ≤ l.length) :
    Calls Try.prog 27 #[.slice A l.length c, .int .i64 0, .int .i64 u] w fun e w' => ∃ l2, Hid (l2 = l.drop u) ∧ e = .returned (.slice A l2.length c) ∧ w'.ownsRow base 3 1 (.slice A l2.length c) l2.length (vs l2) ∧ w.grownBy w' (Value.slice A l.length c).ownBlock := by
  rcases hown.2 with ⟨hv, hn⟩ | ⟨g, cap, cur, hv, hb, hg, hn, hm, hs, htk⟩
  · have hl : l = [] := List.eq_nil_of_length_eq_zero hn
    subst hl
    obtain rfl : u = 0 := by simpa using hu
    refine (del_empty A c w).mono ?_
    rintro e w' ⟨rfl, rfl⟩
    exact ⟨[], rfl, rfl, hown, World.grownBy.refl _ _⟩
  · injection hv with h1 h2 h3
    subst h1; subst h3
    have hr := Rd.of_own hown
    have hc : ∀ j, j < l.length → w.cell? ⟨g, 0 + j, none⟩ = some (.int .i64 (l.getD j 0)) := by
      intro j hj
      rcases hr with rfl | ⟨b, off, hA, _, hcc⟩
      · simp at hj
      · injection hA with hA
        injection hA with ha hb
        subst ha; subst hb
        rw [hcc j _ (List.getElem?_eq_getElem hj)]
        simp [List.getD, hj]
    have hf : ∀ j, j < l.length → w.frozen? ⟨g, 0 + j, none⟩ = false := fun j _ => by simp [World.frozen?, hg]
    refine (del_cells g 0 l.length c 0 u l w (Nat.le_refl _) hn (by unfold maxLen at hm; exact hm) (Nat.zero_le _) hu hc hf).mono ?_
    rintro e w' ⟨rfl, q, rfl⟩
    have hd : (l.drop u).length = l.length - u := List.length_drop
    have := own_set (l2 := l.drop u) (xs := ((l.take l.length).take 0 ++ (l.take l.length).drop u ++ List.replicate (u - 0) 0).map (Value.int .i64)) hown (by simp; omega) (by omega) (by simp [vs, hd]) q
    refine ⟨l.drop u, rfl, by rw [hd]; simp, this.1, this.2⟩

theorem new_any (w : World) : Calls Try.prog 11 #[] w fun e w' => e = .returned (.pointer (some ⟨w.heap.size, 0, none⟩)) ∧ w' = w.alloc (.cells #[.slice none 0 0] 50) := by
  go_enter Try.func11, Try.ntmps11
  go_wp2
  go_ret
  exact ⟨rfl, rfl⟩

theorem left_any (w : World) (base g : Nat) (r : Option Nat) (l : List Int) (h : Str w base 50 g r l) : Calls Try.prog 21 #[.pointer (some ⟨g, 0, none⟩)] w fun e w' => e = .returned (.int .i64 l.length) ∧ w = w' := by
  obtain ⟨A, c, hb, _, ho, _⟩ := h
  have hc := hb.cell
  clear ho hb
  go_enter Try.func21, Try.ntmps21
  go_wp2
  go_ret
  exact ⟨rfl, rfl⟩

theorem ob (A : Option Addr) (n c n' c' : Nat) : (Value.slice A n c).ownBlock = (Value.slice A n' c').ownBlock := by cases A <;> rfl

theorem drop_any (w : World) (base g : Nat) (r : Option Nat) (l : List Int) (u : Nat) (h : Str w base 50 g r l) (hu : u ≤ l.length) :
    Calls Try.prog 24 #[.pointer (some ⟨g, 0, none⟩), .int .i64 u] w fun e w' => e = .returned (.tuple #[]) ∧ Went w w' base 50 g r (l.drop u) := by
  obtain ⟨A, c, hb, hbg, ho, hr⟩ := h
  have hne : (Value.slice A l.length c).ownBlock ≠ some g := Str.ne ⟨A, c, hb, hbg, ho, rfl⟩ hb (by decide)
  have hc := hb.cell
  have hf := hb.frozen
  have HB := Lib.hid hb; have HO := Lib.hid ho; have HR := Lib.hid hr; have HN := Lib.hid hne
  clear hb ho hr hne
  go_enter Try.func24, Try.ntmps24
  go_wp2_with ((with_reducible refine (del_any _ base A c l u HO.out hu).mono ?_); rintro e w1 ⟨l2, hl2, rfl, ho1, hg1⟩; have hb1 : Blk w1 g 50 (.slice A l.length c) := (hg1.block g HB.out.lt (fun e => HN.out e.symm)).trans HB.out; have hc1 := hb1.cell; have hf1 := hb1.frozen; have HO1 := Lib.hid ho1; have HG1 := Lib.hid hg1; have HB1 := Lib.hid hb1; clear ho1 hg1 hb1)
  go_end0
  refine ⟨rfl, (Value.slice A l2.length c).ownBlock, ?_, ?_, .inl ?_⟩
  · rw [← hl2.out]
    refine ⟨A, c, HB1.out.set _, hbg, own_far HO1.out (fun k hk => Below.heap_setCell _ _ _ _ ?_), rfl⟩
    rintro rfl
    exact HN.out ((ob A _ c _ c).trans hk)
  · rw [← HR.out]
    exact (Turn.of_grown HG1.out).setCell _
  · exact (ob A _ c _ c).trans HR.out

theorem Went.same {w : World} {base : Nat} {t : TypeId} {g : Nat} {r : Option Nat} {l : List Int} (h : Str w base t g r l) : Went w w base t g r l := ⟨r, h, Turn.refl _ _ _, .inl rfl⟩

/-- Behind an append that is stored back into the struct. -/
theorem went_app {w w1 : World} {base : Nat} {t : TypeId} {g : Nat} {r : Option Nat} {l lm : List Int} {A A' : Option Addr} {c c' : Nat} (hb : Blk w g t (.slice A l.length c)) (hbg : base ≤ g) (hr : (Value.slice A l.length c).ownBlock = r) (hne : r ≠ some g)
    (ho1 : w1.ownsRow base 3 1 (.slice A' lm.length c') lm.length (vs lm)) (hg1 : w.grownBy w1 (Value.slice A l.length c).ownBlock)
    (hob : (Value.slice A' lm.length c').ownBlock = (Value.slice A l.length c).ownBlock ∨ (Value.slice A' lm.length c').ownBlock = some w.heap.size) :
    Went w (w1.setCell ⟨g, 0, none⟩ (.slice A' lm.length c')) base t g r lm := by
  subst hr
  have hb1 : Blk w1 g t (.slice A l.length c) := (hg1.block g hb.lt (fun e => hne e.symm)).trans hb
  refine ⟨(Value.slice A' lm.length c').ownBlock, ⟨A', c', hb1.set _, hbg, own_far ho1 (fun k hk => Below.heap_setCell _ _ _ _ ?_), rfl⟩, (Turn.of_grown hg1).setCell _, ?_⟩
  · rintro rfl
    rcases hob with e | e
    · exact hne (e.symm.trans hk)
    · have := hk.symm.trans e
      injection this with this
      have := hb.lt
      omega
  · rcases hob with e | e
    · exact .inl e
    · exact .inr ⟨_, e, Nat.le_refl _⟩

theorem has_yes (B : Nat) (A : Option Addr) (c : Nat) (l : List Int) (w : World) (hr : Rd w B A l) (hl : l.length ≤ 9223372036854775807) (h : bad l = true) :
    Calls Try.prog 23 #[.slice A l.length c, .func (.func 22) #[] #[]] w fun e w' => e = .returned (.bool true) ∧ w = w' := by
  have := has_any B A c l w hr hl; rw [h] at this; exact this
theorem has_no (B : Nat) (A : Option Addr) (c : Nat) (l : List Int) (w : World) (hr : Rd w B A l) (hl : l.length ≤ 9223372036854775807) (h : bad l = false) :
    Calls Try.prog 23 #[.slice A l.length c, .func (.func 22) #[] #[]] w fun e w' => e = .returned (.bool false) ∧ w = w' := by
  have := has_any B A c l w hr hl; rw [h] at this; exact this

theorem ret_int {a b : Int} (h : a = b) : Ending.returned (.int .i64 a) = .returned (.int .i64 b) := by rw [h]

set_option maxHeartbeats 400000 in
theorem feed_any (w : World) (base g : Nat) (r : Option Nat) (l m : List Int) (B : Nat) (A : Option Addr) (c : Nat) (h : Str w base 50 g r l) (hr : Rd w B A m) (hl : l.length ≤ 4096) (hm : m.length ≤ 9223372036854770000) (hbase : base ≤ w.heap.size) :
    Calls Try.prog 12 #[.pointer (some ⟨g, 0, none⟩), .slice A m.length c] w fun e w' => e = .returned (.int .i64 (feedE l m)) ∧ Went w w' base 50 g r (feedL l m) := by
  cases hbad : bad m with
  | true =>
    have hf := feed_bad (l := l) hbad
    have HB := Lib.hid hbad; have HF := Lib.hid hf; have HS := Lib.hid h; have HR := Lib.hid hr
    clear hbad hf h hr
    go_enter Try.func12, Try.ntmps12
    go_wp2_with ((with_reducible refine (has_yes B A c m _ HR.out (by omega) HB.out).mono ?_); rintro e w' ⟨rfl, rfl⟩)
    go_ret
    exact ⟨ret_int HF.out.1.symm, by rw [HF.out.2]; exact Went.same HS.out⟩
  | false =>
    obtain ⟨A1, c1, hb, hbg, ho, hrr⟩ := h
    have hne : r ≠ some g := Str.ne ⟨A1, c1, hb, hbg, ho, hrr⟩ hb (by decide)
    have hc := hb.cell
    have hfz := hb.frozen
    by_cases hfull : 4096 < l.length + m.length
    · have hf := feed_full (l := l) hbad hfull
      have hfull' : (4096 : Int) < l.length + m.length := by omega
      have HB := Lib.hid hbad; have HF := Lib.hid hf; have HS := Lib.hid (⟨A1, c1, hb, hbg, ho, hrr⟩ : Str w base 50 g r l); have HR := Lib.hid hr
      clear hbad hf hb ho hrr hr hne
      go_enter Try.func12, Try.ntmps12
      go_wp2_with ((with_reducible refine (has_no B A c m _ HR.out (by omega) HB.out).mono ?_); rintro e w' ⟨rfl, rfl⟩)
      go_ret
      exact ⟨ret_int HF.out.1.symm, by rw [HF.out.2]; exact Went.same HS.out⟩
    · have hf := feed_ok (l := l) hbad (by omega)
      have hfull' : (l.length : Int) + m.length ≤ 4096 := by omega
      have HB := Lib.hid hbad; have HF := Lib.hid hf; have HBl := Lib.hid hb; have HO := Lib.hid ho; have HRR := Lib.hid hrr; have HR := Lib.hid hr; have HN := Lib.hid hne
      clear hbad hf hb ho hrr hr hne
      go_enter Try.func12, Try.ntmps12
      go_wp2_with (first
        | ((with_reducible refine (has_no B A c m _ HR.out (by omega) HB.out).mono ?_); rintro e w' ⟨rfl, rfl⟩)
        | (at_builtin; refine wpList_app rfl (.tmp 20) (.tmp 21) rfl base B _ l m A c rfl rfl HO.out HR.out (by omega) hbase ?_; intro A2 c2 w1 lm hlm ho1 hg1 hob; have hb1 : Blk w1 g 50 (.slice A1 l.length c1) := (hg1.block g HBl.out.lt (fun e => HN.out (HRR.out.symm.trans e.symm))).trans HBl.out; have hc1 := hb1.cell; have hf1 := hb1.frozen; have HW := Lib.hid (went_app HBl.out hbg HRR.out HN.out ho1 hg1 hob); clear ho1 hg1 hb1 hob))
      go_ret
      exact ⟨ret_int HF.out.1.symm, by rw [HF.out.2, ← hlm.out]; exact HW.out⟩

/-- Below: the fair draw; the words that it uses do not wait any more. -/
theorem below_any (w : World) (base g : Nat) (r : Option Nat) (l : List Int) (n : Int) (h : Str w base 50 g r l) (hl : l.length ≤ 4096) :
    Calls Try.prog 14 #[.pointer (some ⟨g, 0, none⟩), .int .i64 n] w fun e w' => e = .returned (.tuple #[.int .i64 (dr (fair l n)), .bool (ok (fair l n))]) ∧ Went w w' base 50 g r (l.drop (us (fair l n))) := by
  have hu := us_le l n
  obtain ⟨A, c, hb, hbg, ho, hrr⟩ := id h
  have hc := hb.cell
  have HR := Lib.hid (Rd.of_own ho)
  have HS := Lib.hid h
  clear h hb ho hrr
  go_enter Try.func14, Try.ntmps14
  go_wp2_with (first
    | ((with_reducible refine (fair_any _ A c l n _ HR.out (by omega)).mono ?_); rintro e w' ⟨rfl, rfl⟩)
    | ((with_reducible refine (drop_any _ base g r l _ HS.out hu).mono ?_); rintro e w' ⟨rfl, hw⟩))
  go_ret2
  exact ⟨rfl, hw⟩
end Go.Proofs.Ytieohegflcfnaaa.Con
