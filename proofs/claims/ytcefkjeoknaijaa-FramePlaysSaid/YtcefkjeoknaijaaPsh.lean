/-
  The contract of a feed's Push: the loads that came whole, in new memory, and what waits; a dead feed stays as it is.
-/
import Derived.Test.YtcefkjeoknaijaaFed
namespace Go.Proofs.Ytcefkjeoknaijaa.Con
open Go.RowKit Mth Mem

theorem push_dead {w : World} {base g : Nat} {r : Option Nat} {l : List Int} (h : Feed w base g r l true) (A : Option Addr) (n c : Nat) :
    Calls Try.prog 10 #[.pointer (some ⟨g, 0, none⟩), .slice A n c] w fun e w' => e = .returned (.tuple #[.slice none 0 0, .int .i64 14]) ∧ w = w' := by
  obtain ⟨A0, c0, hd, _, ho, _⟩ := h
  have hc := hd.cell1
  clear ho hd
  go_enter Try.func10, Try.ntmps10
  go_wp2
  go_step3
  go_wp2
  (try rw [Exit.noGoto_ret])
  go_ret2
  exact ⟨rfl, rfl⟩

/-- What Push leaves of a feed that is not dead. -/
def Came (w : World) (base g : Nat) (r : Option Nat) (L : List (List Int)) (z : List Int) (x : Int) (e : Ending) (w' : World) : Prop :=
  ∃ A c r', e = .returned (.tuple #[.slice A L.length c, .int .i64 x]) ∧ Hid (Feed w' base g r' z (x != 0)) ∧ Hid (Rows w' w.heap.size r' A c L) ∧ Hid (Turn w w' g r) ∧ Hid (r' = r ∨ ∀ k, r' = some k → w.heap.size ≤ k)

theorem parse_step {l : List Int} {a s n q : Nat} {L : List (List Int)} {x : List Int} (hb : Byt l) (h : st (l.drop a) = .load s n) (hq : a + s + n = q) (hx : x = ((l.drop a).drop s).take n) (he : parse l = (L ++ (parse (l.drop a)).1, (parse (l.drop a)).2)) {L' : List (List Int)} (hL : L' = L ++ [x]) : parse l = (L' ++ (parse (l.drop q)).1, (parse (l.drop q)).2) := by
  have e : (l.drop a).drop (s + n) = l.drop q := by rw [List.drop_drop, ← Nat.add_assoc, hq]
  rw [he, parse_load (hb.drop a) h, e, ← hx, hL]
  simp
theorem parse_fin {l l' : List Int} {a : Nat} {L L' : List (List Int)} {z : List Int} {x : Int} {y : List Int × Int} (hl : l' = l) (hp : parse l = (L, z, x)) (he : parse l' = (L' ++ (parse (l'.drop a)).1, (parse (l'.drop a)).2)) (hs : parse (l'.drop a) = ([], y)) : L' = L ∧ y.1 = z ∧ y.2 = x := by
  subst hl
  rw [hs, hp] at he
  simp only [List.append_nil, Prod.mk.injEq] at he
  obtain ⟨h1, h2⟩ := he
  subst h1
  subst h2
  exact ⟨rfl, rfl, rfl⟩

section
variable {w w1 wr : World} {base g : Nat} {r : Option Nat} {l0 l1 : List Int} {A0 A1 LA : Option Addr} {c0 c1 Lc : Nat} {L : List (List Int)} {d : Bool}
  (hd : Duo w g 41 (.slice A0 l0.length c0) (.bool d)) (hbg : base ≤ g) (ho0 : Own w base .u8 5 A0 c0 l0) (hrr : blk A0 = r) (ho1 : Own w1 base .u8 5 A1 c1 l1) (hs1 : Step w w1 (blk A0) A1) (hb : Below w1.heap.size w1 wr) (hrows : Rows wr w1.heap.size none LA Lc L)
include hd hbg ho0 hrr ho1 hs1 hb hrows

omit hbg hrr ho1 hb hrows in
theorem duo_w1 : Duo w1 g 41 (.slice A0 l0.length c0) (.bool d) := hd.keep (hs1.grown.block g hd.lt (fun e => hd.ne ho0 (by decide) e.symm))
omit hbg hrr ho1 hrows in
theorem duo_wr : Duo wr g 41 (.slice A0 l0.length c0) (.bool d) := (duo_w1 hd ho0 hs1).below hb (Nat.le_refl _)
omit hd ho0 hbg ho1 hrows in
theorem turn_wr : Turn w wr g r := by
  subst hrr
  exact (Turn.of_grown hs1.grown).trans (Turn.of_below hb)

theorem fin_pos {w' : World} {x : List Int} {A2 : Option Addr} {c2 : Nat} (hd' : Duo w' g 41 (.slice A2 x.length c2) (.bool false)) (ho' : Own w' wr.heap.size .u8 5 A2 c2 x) (ht : Turn wr w' g none) :
    Came w base g r L x 0 (.returned (.tuple #[.slice LA L.length Lc, .int .i64 0])) w' := by
  have e1 := hs1.grown.size
  have e2 := hb.size
  have e3 := hd.lt
  have e4 := (Own.lt ho1)
  have hw := (duo_wr hd ho0 hs1 hb).lt
  have hbw : base ≤ wr.heap.size := by omega
  refine ⟨LA, Lc, blk A2, rfl, ⟨A2, c2, hd', hbg, own_base ho' hbw, rfl⟩, ?_, (turn_wr hrr hs1 hb).trans ht.none_some, .inr (fun k hk => ?_)⟩
  · refine ((hrows.other (f' := blk A2) (fun k _ hk _ e => ?_)).keep (fun k h1 h2 _ => ht.block k h2 (by omega) (by simp))).more e1
    have := (Own.lt ho' k e.symm).1
    omega
  · have := (Own.lt ho' k hk).1
    omega

theorem fin_zero (hdf : d = false) : Came w base g r L l1 0 (.returned (.tuple #[.slice LA L.length Lc, .int .i64 0])) (wr.setCell ⟨g, 0, none⟩ (.slice A1 l1.length c1)) := by
  subst hdf
  have e1 := hs1.grown.size
  have e2 := hb.size
  have e3 := hd.lt
  have h1 := duo_w1 hd ho0 hs1
  have hr := duo_wr hd ho0 hs1 hb
  refine ⟨LA, Lc, blk A1, rfl, ⟨A1, c1, hr.set0 _, hbg, own_far (ho1.below hb (Nat.le_refl _)) (fun k hk => Below.heap_setCell _ _ _ _ ?_), rfl⟩, ?_, (turn_wr hrr hs1 hb).setCell _, ?_⟩
  · rintro rfl
    exact h1.ne ho1 (by decide) ((blk_own A1 l1.length c1).symm.trans hk)
  · refine ((hrows.other (f' := blk A1) (fun k h1 _ _ e => ?_)).keep (fun k h1 h2 _ => Below.heap_setCell _ _ _ _ (by simp only; omega))).more e1
    have := (Own.lt ho1 k e.symm).2
    omega
  · rcases hs1.lies with e | ⟨k, e, hk⟩
    · exact .inl (e.trans hrr)
    · refine .inr (fun j hj => ?_)
      rw [e] at hj
      injection hj with hj
      omega

omit ho1 in
theorem fin_bad {x : Int} (hx : x ≠ 0) : Came w base g r L [] x (.returned (.tuple #[.slice LA L.length Lc, .int .i64 x])) ((wr.setCell ⟨g, 0, none⟩ (.slice none 0 0)).setCell ⟨g, 1, none⟩ (.bool true)) := by
  have e1 := hs1.grown.size
  have e3 := hd.lt
  have hr := duo_wr hd ho0 hs1 hb
  have hx' : (x != 0) = true := by simpa using hx
  refine ⟨LA, Lc, none, rfl, ?_, ?_, ((turn_wr hrr hs1 hb).setCell _).setCell _, .inr (fun k hk => by cases hk)⟩
  · rw [hx']
    exact ⟨none, 0, (hr.set0 _).set1 _, hbg, World.ownsRow_nil _ _ 5 1, rfl⟩
  · exact (hrows.keep (fun k h1 h2 _ => (Below.heap_setCell _ _ _ _ (by simp only; omega)).trans (Below.heap_setCell _ _ _ _ (by simp only; omega)))).more e1
end

theorem rows_step {w1 wr w2 w3 : World} {LA LA' : Option Addr} {Lc : Nat} {L : List (List Int)} {o : Obj} (hb : Below w1.heap.size w1 wr) (hb2 : Below wr.heap.size wr w2) (hrows : Rows wr w1.heap.size none LA Lc L) (hs : Step (w2.alloc o) w3 (blk LA) LA') : Below w1.heap.size w1 w3 := by
  obtain ⟨xs, h1, _, _⟩ := hrows
  have e2 := hb.size
  have e3 := hb2.size
  refine below_step ((hb.trans (hb2.mono e2)).alloc (by omega) o) hs (fun k hk => ?_) (by simp; omega)
  exact (h1.lt k ((blk_own LA L.length Lc).trans hk)).1

theorem rfo_wait0 {A : Option Addr} {c : Nat} {l : List Int} (hsh : (A = none ∧ l = [] ∧ c = 0) ∨ ∃ g, A = some ⟨g, 0, none⟩ ∧ l.length ≤ c) {w : World} {B : Nat} (hr : Rd .u8 w B A l) (hB : B ≤ w.heap.size) (hl : (l.length : Int) ≤ 90000) (hb : Byt l) (h : st (l.drop 0) = .wait) : Calls Try.prog 17 #[.slice A l.length c, .int .i64 0] w fun e w' => e = .returned (.tuple #[.slice none 0 0, .int .i64 0, .int .i64 8]) ∧ Below w.heap.size w w' :=
  rfo_wait (a := 0) hsh hr hB hl hb (Nat.zero_le _) h

set_option maxHeartbeats 2000000 in
theorem push_any (w : World) (base g : Nat) (r : Option Nat) (l b : List Int) (B : Nat) (A : Option Addr) (c : Nat) (h : Feed w base g r l false) (hr : Rd .u8 w B A b) (hl : (l.length : Int) ≤ 4104) (hm : (b.length : Int) ≤ 20000) (hby : Byt (l ++ b)) (hbase : base ≤ w.heap.size) (L : List (List Int)) (z : List Int) (x : Int) (hp : parse (l ++ b) = (L, z, x)) :
    Calls Try.prog 10 #[.pointer (some ⟨g, 0, none⟩), .slice A b.length c] w (Came w base g r L z x) := by
  obtain ⟨A0, c0, hd, hbg, ho, hrr⟩ := h
  have hc := hd.cell0
  have hc' := hd.cell1
  have HD := Lib.hid hd; have HO := Lib.hid ho; have HRR := Lib.hid hrr; have HR := Lib.hid hr; have HBy := Lib.hid hby; have HP := Lib.hid hp
  clear hd ho hrr hr hby hp
  go_enter Try.func10, Try.ntmps10
  go_wp2
  go_step3
  go_wp2_with (at_builtin; refine wpList_app (K := .u8) (t := 23) (e := 5) Try.underlying23 byte_info rfl (by omega) rfl (.tmp 19) (.tmp 20) rfl base B A0 c0 l b A c rfl rfl HO.out HR.out (by omega) hbase ?_; intro A1 c1 w1 l1 HL1 HO1 HS1)
  go_step3
  go_wp2
  have hl1 : (l1.length : Int) ≤ 24104 := by rw [HL1.out, List.length_append]; omega
  have HB1 : Hid (Byt l1) := Lib.hid (by rw [HL1.out]; exact HBy.out)
  have HSH := Lib.hid (own_cases HO1.out)
  have HR1 := Lib.hid (Rd.of_own HO1.out)
  go_loopg [7, 8] l1.length (fun m s7 s8 wr => ∃ (a : Nat) (L1 : List (List Int)) (LA : Option Addr) (Lc : Nat), a ≤ l1.length ∧ (L1.length : Int) ≤ a ∧ m = l1.length - a ∧ s7 = .slice LA L1.length Lc ∧ s8 = .int .i64 (a : Int) ∧ Hid (Rows wr w1.heap.size none LA Lc L1) ∧ Hid (Below w1.heap.size w1 wr) ∧ Hid (parse l1 = (L1 ++ (parse (l1.drop a)).1, (parse (l1.drop a)).2)))
  case atStart => exact ⟨0, [], none, 0, by omega, by simp, rfl, rfl, rfl, Lib.hid (Rows.nil _ _ _), Lib.hid (Below.refl _ _), Lib.hid (by simp)⟩
  case round =>
    obtain ⟨a, L1, LA, Lc, ha, hLa, rfl, rfl, rfl, HRows, HB, HE⟩ := hrel
    have hwr := HB.out.size
    have HRr := Lib.hid (HR1.out.below HB.out (Nat.le_refl _))
    rcases hst : st (l1.drop a) with _ | y | ⟨s, n⟩
    · have HST := Lib.hid hst
      have HF := Lib.hid (parse_fin (a := a) HL1.out HP.out HE.out (parse_wait hst))
      clear hst
      by_cases ha0 : 0 < a
      · have ha0' : (0 : Int) < a := by omega
        go_wp2_with (first
          | ((with_reducible refine (rfo_wait HSH.out HRr.out (by omega) (by omega) HB1.out ha HST.out).mono ?_); rintro e w2 ⟨rfl, hb2⟩; have HB2 := Lib.hid (HB.out.trans (hb2.mono hwr)); have HRows2 := Lib.hid (HRows.out.below hb2 (Nat.le_refl _)); have HD2 := Lib.hid (duo_wr HD.out HO.out HS1.out HB2.out); have HO2 := Lib.hid (HO1.out.below HB2.out (Nat.le_refl _)); clear hb2)
          | ((with_reducible refine (keep_pos HD2.out A1 c1 l1 a HO2.out ha0 ha (by omega)).mono ?_); rintro e w3 ⟨x3, A3, c3, HX3, rfl, HD3, HO3, HT3⟩))
        rw [Exit.noGoto_ret]
        go_ret2
        obtain ⟨f1, f2, f3⟩ := HF.out
        subst f1; subst f3
        rw [← f2, ← HX3.out]
        exact fin_pos HD.out hbg HO.out HRR.out HO1.out HS1.out HB2.out HRows2.out HD3.out HO3.out HT3.out
      · obtain rfl : a = 0 := by omega
        go_wp2_with (first
          | ((with_reducible refine (rfo_wait0 HSH.out HRr.out (by omega) (by omega) HB1.out HST.out).mono ?_); rintro e w2 ⟨rfl, hb2⟩; have HB2 := Lib.hid (HB.out.trans (hb2.mono hwr)); have HRows2 := Lib.hid (HRows.out.below hb2 (Nat.le_refl _)); have HD2 := Lib.hid (duo_wr HD.out HO.out HS1.out HB2.out); clear hb2)
          | ((with_reducible refine (keep_zero HD2.out A1 l1.length c1).mono ?_); rintro e w3 ⟨rfl, rfl⟩))
        rw [Exit.noGoto_ret]
        go_ret2
        obtain ⟨f1, f2, f3⟩ := HF.out
        subst f1; subst f3
        rw [← f2]
        exact fin_zero HD.out hbg HO.out HRR.out HO1.out HS1.out HB2.out HRows2.out rfl
    · have hy := st_bad hst
      have HST := Lib.hid hst
      have HF := Lib.hid (parse_fin (a := a) HL1.out HP.out HE.out (parse_bad hst))
      clear hst
      have hy0 : (y == 0) = false := by simp; omega
      have hy8 : (y == 8) = false := by simp; omega
      go_wp2_with (first
        | ((with_reducible refine (rfo_bad HSH.out HRr.out (by omega) (by omega) HB1.out ha HST.out).mono ?_); rintro e w2 ⟨rfl, hb2⟩; have HB2 := Lib.hid (HB.out.trans (hb2.mono hwr)); have HRows2 := Lib.hid (HRows.out.below hb2 (Nat.le_refl _)); have HD2 := Lib.hid (duo_wr HD.out HO.out HS1.out HB2.out); clear hb2)
        | ((with_reducible refine (die_any HD2.out).mono ?_); rintro e w3 ⟨rfl, rfl⟩))
      rw [Exit.noGoto_ret]
      go_ret2
      obtain ⟨f1, f2, f3⟩ := HF.out
      subst f1; subst f3
      rw [← f2]
      exact fin_bad HD.out hbg HO.out HRR.out HS1.out HB2.out HRows2.out (by omega)
    · obtain ⟨k1, k2, k3, k4⟩ := st_load (HB1.out.drop a) hst
      rw [List.length_drop] at k3
      obtain ⟨q, hq⟩ : ∃ q : Nat, a + s + n = q := ⟨_, rfl⟩
      have HST := Lib.hid hst
      have hql : q ≤ l1.length := by omega
      have haq : a + 1 ≤ q := by omega
      have HQ := Lib.hid hq
      clear hst k1 k2 k3 k4 hq
      go_wp2_with (first
        | ((with_reducible refine (rfo_load HSH.out HRr.out (by omega) (by omega) HB1.out ha HST.out q HQ.out).mono ?_); rintro e w2 ⟨x2, A2, c2, HX2, rfl, HO2, HB2⟩)
        | (at_builtin; refine wpList_appL rfl (.tmp 32) (.tmp 34) rfl w1.heap.size none LA Lc L1 [x2] [.slice A2 x2.length c2] _ _ _ rfl rfl rfl ((HRows.out.below HB2.out (Nat.le_refl _)).below ((Below.refl _ _).alloc (Nat.le_refl _) _) (Nat.le_refl _)) (rdv_new _ _ _ _ rfl) (LoadsAt.one (own_base (HO2.out.alloc _) hwr) (fun j _ => by simp)) (by simp; omega) (by have := HB2.out.size; simp; omega) (fun k hk => by cases hk) ?_; intro A3 c3 w3 L3 HL3 HR3 HS3))
      go_roundg (l1.length - q)
      case measure => omega
      case rel => exact ⟨q, L3, A3, c3, hql, by rw [HL3.out, List.length_append]; simp only [List.length_cons, List.length_nil]; omega, rfl, rfl, rfl, HR3, Lib.hid (rows_step HB.out HB2.out HRows.out HS3.out), Lib.hid (parse_step HB1.out HST.out HQ.out HX2.out HE.out HL3.out)⟩
end Go.Proofs.Ytcefkjeoknaijaa.Con
