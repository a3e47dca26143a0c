/-
  DrawDeals: for every two slices of numbers and every number the law DrawDeals answers true, and what was handed in reads as before; no condition.
-/
import Derived.Test.YtieohegflcfnaaaOne
import Derived.WalkKit
import Derived.ProofKit
import Derived.OpenShut
namespace Go.Proofs.Ytieohegflcfnaaa.drawDeals
open Go.ChangeShapes Go.WideShapes Go.ChangeAt Go.RowKit
set_option linter.unusedVariables false

theorem own : ownKnob Try.prog.godebug = none := by kernel_rfl

open Con Mth Mem

theorem one_grown {base : Nat} {w0 w w' : World} {g : Nat} {l : List Int} (h : One base w0 w g l) (hg : w.grownBy w' none) : One base w0 w' g l := by
  obtain ⟨r, hs, hb⟩ := h
  have hlt := hs.lt
  have hk : ∀ k, k < w.heap.size → w'.heap[k]? = w.heap[k]? := fun k hk => hg.block k hk (by simp)
  exact ⟨r, hs.keep (hk _ hlt.2.1) (fun k h => hk k (hlt.2.2 k h).2), hb.grown hg (by omega) (fun k h => by cases h)⟩

theorem one_size {base : Nat} {w0 w : World} {g : Nat} {l : List Int} (h : One base w0 w g l) : base ≤ w.heap.size := by
  obtain ⟨r, hs, hb⟩ := h
  have := hs.lt
  omega

set_option maxHeartbeats 4000000 in
set_option maxRecDepth 100000 in
/-- Deal answers none: then Pick is asked of the words as they were. -/
theorem tail_no (w : World) (A : Option Addr) (c : Nat) (l : List Int) (hr0 : Rd w w.heap.size A l) (A2 : Option Addr) (c2 : Nat) (ws : List Int) (hr2 : Rd w w.heap.size A2 ws) (hbig : l.length ≤ 4096) (hbig2 : ws.length ≤ 300) (hbad : bad l = false) (n : Int) (hn : n ≠ 0)
    (hD : ∀ W g, One w.heap.size w W g l → Calls Try.prog 18 #[.pointer (some ⟨g, 0, none⟩), .int .i64 n] W fun e w' => e = .returned (.tuple #[.slice none 0 0, .bool false]) ∧ One w.heap.size w w' g l) :
    Calls Try.prog 6 #[.slice A l.length c, .int .i64 n, .slice A2 ws.length c2] w fun e w' => e = .returned (.bool true) ∧ Below w.heap.size w w' := by
  obtain ⟨i0, hi0, hz0, hz1, hz2⟩ := info_parts bool_info
  have hb1 : (l.length : Int) ≤ 4096 := by omega
  have hb2 : (ws.length : Int) ≤ 300 := by omega
  have HR := Lib.hid hr0; have HB := Lib.hid hbad
  have hn' : (n == 0) = false := by simpa using hn
  have HD := Lib.hid hD
  clear hr0 hbad hD hn
  rcases hp : pick l ws with _ | ⟨p, u⟩
  · have HPK := Lib.hid hp; have HR2 := Lib.hid hr2
    clear hp hr2
    go_enter Try.func6, Try.ntmps6
    go_wp2_with (first
      | ((with_reducible refine (small_any _).mono ?_); rintro e w1 ⟨rfl, hb⟩; have HP0 := Lib.hid (one_new w.heap.size hb hb.size); clear hb)
      | ((with_reducible refine (new_any _).mono ?_); rintro e w' ⟨rfl, rfl⟩)
      | ((with_reducible refine (o_feed_ok HP0.out l w.heap.size A c (HR.out.below HP0.out.below) (by simp; omega) HB.out l (by simp)).mono ?_); rintro e w2 ⟨rfl, hp⟩; have HP1 := Lib.hid hp; clear hp)
      | ((with_reducible refine (HD.out _ _ HP1.out).mono ?_); rintro e w3 ⟨rfl, hp⟩; have HP2 := Lib.hid hp; clear hp)
      | (at_make; refine wpList_make_full _ rfl (.tmp 64) (.tmp 64) 45 rfl w.heap.size 4 i0 (.bool false) 1 Try.underlying45 hi0 hz0 hz1 _ _ _ _ 0 rfl rfl rfl rfl (by rw [hz2]; omega) (by unfold maxLen; omega) (one_size HP2.out) ?_; intro w4 ho4 hg4; have HP3 := Lib.hid (one_grown HP2.out hg4); clear ho4 hg4))
    refine wp_loop_rounds 1 ?_
    rw [rounds_succ]
    go_wp2_with ((with_reducible refine (o_pick_none HP3.out hbig ws A2 c2 (HR2.out.below HP3.out.below) (by omega) HPK.out).mono ?_); rintro e w5 ⟨rfl, hp⟩)
    go_ret
    exact ⟨rfl, hp.below⟩
  · obtain ⟨hk1, _, x, hx, hx0⟩ := pick_lt hp
    have HPK := Lib.hid hp; have HR2 := Lib.hid hr2
    obtain ⟨b, off, x', rfl, hbl, hx', hc0⟩ := hr2.at' hk1
    obtain rfl : x = x' := by rw [hx] at hx'; exact Option.some.inj hx'
    have HC := Lib.hid hc0
    have hk2 : (p : Int) < ws.length := by omega
    clear hp hr2 hx hx' hc0
    go_enter Try.func6, Try.ntmps6
    go_wp2_with (first
      | ((with_reducible refine (small_any _).mono ?_); rintro e w1 ⟨rfl, hb⟩; have HP0 := Lib.hid (one_new w.heap.size hb hb.size); clear hb)
      | ((with_reducible refine (new_any _).mono ?_); rintro e w' ⟨rfl, rfl⟩)
      | ((with_reducible refine (o_feed_ok HP0.out l w.heap.size A c (HR.out.below HP0.out.below) (by simp; omega) HB.out l (by simp)).mono ?_); rintro e w2 ⟨rfl, hp⟩; have HP1 := Lib.hid hp; clear hp)
      | ((with_reducible refine (HD.out _ _ HP1.out).mono ?_); rintro e w3 ⟨rfl, hp⟩; have HP2 := Lib.hid hp; clear hp)
      | (at_make; refine wpList_make_full _ rfl (.tmp 64) (.tmp 64) 45 rfl w.heap.size 4 i0 (.bool false) 1 Try.underlying45 hi0 hz0 hz1 _ _ _ _ 0 rfl rfl rfl rfl (by rw [hz2]; omega) (by unfold maxLen; omega) (one_size HP2.out) ?_; intro w4 ho4 hg4; have HP3 := Lib.hid (one_grown HP2.out hg4); clear ho4 hg4))
    refine wp_loop_rounds 1 ?_
    rw [rounds_succ]
    go_wp2_with ((with_reducible refine (o_pick_some HP3.out hbig ws _ c2 (HR2.out.below HP3.out.below) (by omega) p u HPK.out _ rfl).mono ?_); rintro e w5 ⟨rfl, hp⟩; have hc5 := (hp.below.cell (p := ⟨b, off + p, none⟩) hbl).trans HC.out; have HP4 := Lib.hid hp; clear hp)
    go_ret
    exact ⟨rfl, HP4.out.below⟩

theorem o_deal_some' {base : Nat} {w0 w : World} {g : Nat} {l : List Int} (h : One base w0 w g l) (n : Nat) (hl : l.length ≤ 4096) (hn : n ≤ 256) (p : List Int) (t : Nat) (hd : deal l n = some (p, t)) (l' : List Int) (hl' : l.drop t = l') (hp : p.length = n) :
    Calls Try.prog 18 #[.pointer (some ⟨g, 0, none⟩), .int .i64 n] w fun e w' => ∃ gd, e = .returned (.tuple #[.slice (some ⟨gd, 0, none⟩) n n, .bool true]) ∧ One base w0 w' g l' ∧ Arr w' gd p := by
  have := o_deal_some h n hl hn p t hd l' hl'
  rw [hp] at this
  exact this
theorem seeing_start {base : Nat} {w0 w w' : World} {g : Nat} {l : List Int} {gd n : Nat} {p : List Int} (h : One base w0 w g l) (ha : Arr w gd p) (hp : p.length = n) (hg : w.grownBy w' none) (ho : w'.ownsRow base 4 1 (.slice (some ⟨w.heap.size, 0, none⟩) n n) n (madeCells (Value.bool false).cells (n * 1)).toList) :
    Seeing base w0 w' g l gd p w.heap.size (List.replicate n false) 0 := by
  subst hp
  rw [madeB] at ho
  exact Seeing.start h ha hg ho
set_option maxHeartbeats 4000000 in
set_option maxRecDepth 100000 in
/-- Deal(0) answers no number. -/
theorem tail_zero (w : World) (A : Option Addr) (c : Nat) (l : List Int) (hr0 : Rd w w.heap.size A l) (A2 : Option Addr) (c2 : Nat) (ws : List Int) (hr2 : Rd w w.heap.size A2 ws) (hbig : l.length ≤ 4096) (hbig2 : ws.length ≤ 300) (hbad : bad l = false)
    (hD : ∀ W g, One w.heap.size w W g l → Calls Try.prog 18 #[.pointer (some ⟨g, 0, none⟩), .int .i64 0] W fun e w' => ∃ gd, e = .returned (.tuple #[.slice (some ⟨gd, 0, none⟩) 0 0, .bool true]) ∧ One w.heap.size w w' g l) :
    Calls Try.prog 6 #[.slice A l.length c, .int .i64 0, .slice A2 ws.length c2] w fun e w' => e = .returned (.bool true) ∧ Below w.heap.size w w' := by
  obtain ⟨i0, hi0, hz0, hz1, hz2⟩ := info_parts bool_info
  have hb1 : (l.length : Int) ≤ 4096 := by omega
  have hb2 : (ws.length : Int) ≤ 300 := by omega
  have HR := Lib.hid hr0; have HB := Lib.hid hbad
  have HD := Lib.hid hD
  clear hr0 hbad hD
  rcases hp : pick l ws with _ | ⟨p, u⟩
  · have HPK := Lib.hid hp; have HR2 := Lib.hid hr2
    clear hp hr2
    go_enter Try.func6, Try.ntmps6
    go_wp2_with (first
      | ((with_reducible refine (small_any _).mono ?_); rintro e w1 ⟨rfl, hb⟩; have HP0 := Lib.hid (one_new w.heap.size hb hb.size); clear hb)
      | ((with_reducible refine (new_any _).mono ?_); rintro e w' ⟨rfl, rfl⟩)
      | ((with_reducible refine (o_feed_ok HP0.out l w.heap.size A c (HR.out.below HP0.out.below) (by simp; omega) HB.out l (by simp)).mono ?_); rintro e w2 ⟨rfl, hp⟩; have HP1 := Lib.hid hp; clear hp)
      | ((with_reducible refine (HD.out _ _ HP1.out).mono ?_); rintro e w3 ⟨gd, rfl, hp⟩; have HP2 := Lib.hid hp; clear hp)
      | (at_make; refine wpList_make_full _ rfl (.tmp 64) (.tmp 64) 45 rfl w.heap.size 4 i0 (.bool false) 1 Try.underlying45 hi0 hz0 hz1 _ _ _ _ 0 rfl rfl rfl rfl (by rw [hz2]; omega) (by unfold maxLen; omega) (one_size HP2.out) ?_; intro w4 ho4 hg4; have HP3 := Lib.hid (one_grown HP2.out hg4); clear ho4 hg4))
    refine wp_loop_rounds 1 ?_
    rw [rounds_succ]
    go_wp2_with ((with_reducible refine (o_pick_none HP3.out hbig ws A2 c2 (HR2.out.below HP3.out.below) (by omega) HPK.out).mono ?_); rintro e w5 ⟨rfl, hp⟩)
    go_ret
    exact ⟨rfl, hp.below⟩
  · obtain ⟨hk1, _, x, hx, hx0⟩ := pick_lt hp
    have HPK := Lib.hid hp; have HR2 := Lib.hid hr2
    obtain ⟨b, off, x', rfl, hbl, hx', hc0⟩ := hr2.at' hk1
    obtain rfl : x = x' := by rw [hx] at hx'; exact Option.some.inj hx'
    have HC := Lib.hid hc0
    have hk2 : (p : Int) < ws.length := by omega
    clear hp hr2 hx hx' hc0
    go_enter Try.func6, Try.ntmps6
    go_wp2_with (first
      | ((with_reducible refine (small_any _).mono ?_); rintro e w1 ⟨rfl, hb⟩; have HP0 := Lib.hid (one_new w.heap.size hb hb.size); clear hb)
      | ((with_reducible refine (new_any _).mono ?_); rintro e w' ⟨rfl, rfl⟩)
      | ((with_reducible refine (o_feed_ok HP0.out l w.heap.size A c (HR.out.below HP0.out.below) (by simp; omega) HB.out l (by simp)).mono ?_); rintro e w2 ⟨rfl, hp⟩; have HP1 := Lib.hid hp; clear hp)
      | ((with_reducible refine (HD.out _ _ HP1.out).mono ?_); rintro e w3 ⟨gd, rfl, hp⟩; have HP2 := Lib.hid hp; clear hp)
      | (at_make; refine wpList_make_full _ rfl (.tmp 64) (.tmp 64) 45 rfl w.heap.size 4 i0 (.bool false) 1 Try.underlying45 hi0 hz0 hz1 _ _ _ _ 0 rfl rfl rfl rfl (by rw [hz2]; omega) (by unfold maxLen; omega) (one_size HP2.out) ?_; intro w4 ho4 hg4; have HP3 := Lib.hid (one_grown HP2.out hg4); clear ho4 hg4))
    refine wp_loop_rounds 1 ?_
    rw [rounds_succ]
    go_wp2_with ((with_reducible refine (o_pick_some HP3.out hbig ws _ c2 (HR2.out.below HP3.out.below) (by omega) p u HPK.out _ rfl).mono ?_); rintro e w5 ⟨rfl, hp⟩; have hc5 := (hp.below.cell (p := ⟨b, off + p, none⟩) hbl).trans HC.out; have HP4 := Lib.hid hp; clear hp)
    go_ret
    exact ⟨rfl, HP4.out.below⟩

set_option maxHeartbeats 4000000 in
set_option maxRecDepth 100000 in
/-- Deal answers each number once; then Pick is asked of the words that are left. -/
theorem tail_some (w : World) (A : Option Addr) (c : Nat) (l : List Int) (hr0 : Rd w w.heap.size A l) (A2 : Option Addr) (c2 : Nat) (ws : List Int) (hr2 : Rd w w.heap.size A2 ws) (hbig : l.length ≤ 4096) (hbig2 : ws.length ≤ 300) (hbad : bad l = false) (n : Nat) (hpos : 0 < n) (hn : n ≤ 256) (q : List Int) (t : Nat) (hd : deal l n = some (q, t)) :
    Calls Try.prog 6 #[.slice A l.length c, .int .i64 n, .slice A2 ws.length c2] w fun e w' => e = .returned (.bool true) ∧ Below w.heap.size w w' := by
  obtain ⟨i0, hi0, hz0, hz1, hz2⟩ := info_parts bool_info
  have hb1 : (l.length : Int) ≤ 4096 := by omega
  have hb2 : (ws.length : Int) ≤ 300 := by omega
  have HR := Lib.hid hr0; have HB := Lib.hid hbad
  obtain ⟨hE, hql, htl⟩ := deal_each hd
  have HE := Lib.hid hE; have HQL := Lib.hid hql; have HD := Lib.hid hd
  obtain ⟨l', hl'⟩ : ∃ l', l.drop t = l' := ⟨_, rfl⟩
  have hl4 : l'.length ≤ 4096 := by rw [← hl', List.length_drop]; omega
  have HL' := Lib.hid hl'
  have hn1 : (n : Int) ≤ 256 := by omega
  have hn0 : (0 : Int) ≤ n := by omega
  have hnp : (0 : Int) < n := by omega
  clear hr0 hbad hE hql hd hl' htl
  rcases hp : pick l' ws with _ | ⟨p, u⟩
  · have HPK := Lib.hid hp; have HR2 := Lib.hid hr2
    clear hp hr2
    go_enter Try.func6, Try.ntmps6
    go_wp2_with (first
      | ((with_reducible refine (small_any _).mono ?_); rintro e w1 ⟨rfl, hb⟩; have HP0 := Lib.hid (one_new w.heap.size hb hb.size); clear hb)
      | ((with_reducible refine (new_any _).mono ?_); rintro e w' ⟨rfl, rfl⟩)
      | ((with_reducible refine (o_feed_ok HP0.out l w.heap.size A c (HR.out.below HP0.out.below) (by simp; omega) HB.out l (by simp)).mono ?_); rintro e w2 ⟨rfl, hp⟩; have HP1 := Lib.hid hp; clear hp)
      | ((with_reducible refine (o_deal_some' HP1.out n hbig hn q t HD.out l' HL'.out HQL.out).mono ?_); rintro e w3 ⟨gd, rfl, hp, ha⟩; have HP2 := Lib.hid hp; have HA := Lib.hid ha; clear hp ha)
      | (at_make; refine wpList_make_full _ rfl (.tmp 64) (.tmp 64) 45 rfl w.heap.size 4 i0 (.bool false) 1 Try.underlying45 hi0 hz0 hz1 _ _ _ _ n rfl rfl rfl rfl (by rw [hz2]; omega) (by unfold maxLen; omega) (one_size HP2.out) ?_; intro w4 ho4 hg4; have HS4 := Lib.hid (seeing_start HP2.out HA.out HQL.out hg4 ho4); clear ho4 hg4))
    go_loopg [12] n (fun gh s12 wr => ∃ (i : Nat) (bs : List Bool), i ≤ n ∧ gh = n - i ∧ s12 = .int .i64 i ∧ Hid (Seeing w.heap.size w wr w1.heap.size l' gd q w3.heap.size bs i))
    case atStart => exact ⟨0, _, by omega, rfl, rfl, HS4.out⟩
    case round =>
      obtain ⟨i, bs, hi, rfl, rfl, HSS⟩ := hrel
      clear HS4
      by_cases hlt : i < n
      · obtain ⟨y, hy⟩ : ∃ y, q[i]? = some y := ⟨_, List.getElem?_eq_getElem (by have := HQL.out; omega)⟩
        have hyb := HE.out.2 i y hy
        have hql := HQL.out
        obtain ⟨e, rfl⟩ : ∃ e : Nat, y = (e : Int) := ⟨y.toNat, by omega⟩
        have hc1 := HSS.out.arr.cell hy
        have hc2 := HSS.out.fresh HE.out hy
        have hf2 := HSS.out.arrb.frozen e
        have he1 : (e : Int) < n := by omega
        have he2 : decide (n ≤ e) = false := by simp; omega
        have HY := Lib.hid hy
        clear hy hyb hql
        go_wp2
        go_roundg (n - (i + 1))
        case measure => omega
        case rel => exact ⟨i + 1, _, by omega, rfl, by go_num, HSS.out.set HY.out⟩
      · have HP3 := Lib.hid HSS.out.toOne
        go_wp2_with ((with_reducible refine (o_pick_none HP3.out hl4 ws A2 c2 (HR2.out.below HP3.out.below) (by omega) HPK.out).mono ?_); rintro e w5 ⟨rfl, hp⟩)
        go_ret
        exact ⟨rfl, hp.below⟩
  · obtain ⟨hk1, _, x, hx, hx0⟩ := pick_lt hp
    have HPK := Lib.hid hp; have HR2 := Lib.hid hr2
    obtain ⟨b, off, x', rfl, hbl, hx', hc0⟩ := hr2.at' hk1
    obtain rfl : x = x' := by rw [hx] at hx'; exact Option.some.inj hx'
    have HC := Lib.hid hc0
    have hk2 : (p : Int) < ws.length := by omega
    clear hp hr2 hx hx' hc0
    go_enter Try.func6, Try.ntmps6
    go_wp2_with (first
      | ((with_reducible refine (small_any _).mono ?_); rintro e w1 ⟨rfl, hb⟩; have HP0 := Lib.hid (one_new w.heap.size hb hb.size); clear hb)
      | ((with_reducible refine (new_any _).mono ?_); rintro e w' ⟨rfl, rfl⟩)
      | ((with_reducible refine (o_feed_ok HP0.out l w.heap.size A c (HR.out.below HP0.out.below) (by simp; omega) HB.out l (by simp)).mono ?_); rintro e w2 ⟨rfl, hp⟩; have HP1 := Lib.hid hp; clear hp)
      | ((with_reducible refine (o_deal_some' HP1.out n hbig hn q t HD.out l' HL'.out HQL.out).mono ?_); rintro e w3 ⟨gd, rfl, hp, ha⟩; have HP2 := Lib.hid hp; have HA := Lib.hid ha; clear hp ha)
      | (at_make; refine wpList_make_full _ rfl (.tmp 64) (.tmp 64) 45 rfl w.heap.size 4 i0 (.bool false) 1 Try.underlying45 hi0 hz0 hz1 _ _ _ _ n rfl rfl rfl rfl (by rw [hz2]; omega) (by unfold maxLen; omega) (one_size HP2.out) ?_; intro w4 ho4 hg4; have HS4 := Lib.hid (seeing_start HP2.out HA.out HQL.out hg4 ho4); clear ho4 hg4))
    go_loopg [12] n (fun gh s12 wr => ∃ (i : Nat) (bs : List Bool), i ≤ n ∧ gh = n - i ∧ s12 = .int .i64 i ∧ Hid (Seeing w.heap.size w wr w1.heap.size l' gd q w3.heap.size bs i))
    case atStart => exact ⟨0, _, by omega, rfl, rfl, HS4.out⟩
    case round =>
      obtain ⟨i, bs, hi, rfl, rfl, HSS⟩ := hrel
      clear HS4
      by_cases hlt : i < n
      · obtain ⟨y, hy⟩ : ∃ y, q[i]? = some y := ⟨_, List.getElem?_eq_getElem (by have := HQL.out; omega)⟩
        have hyb := HE.out.2 i y hy
        have hql := HQL.out
        obtain ⟨e, rfl⟩ : ∃ e : Nat, y = (e : Int) := ⟨y.toNat, by omega⟩
        have hc1 := HSS.out.arr.cell hy
        have hc2 := HSS.out.fresh HE.out hy
        have hf2 := HSS.out.arrb.frozen e
        have he1 : (e : Int) < n := by omega
        have he2 : decide (n ≤ e) = false := by simp; omega
        have HY := Lib.hid hy
        clear hy hyb hql
        go_wp2
        go_roundg (n - (i + 1))
        case measure => omega
        case rel => exact ⟨i + 1, _, by omega, rfl, by go_num, HSS.out.set HY.out⟩
      · have HP3 := Lib.hid HSS.out.toOne
        go_wp2_with ((with_reducible refine (o_pick_some HP3.out hl4 ws _ c2 (HR2.out.below HP3.out.below) (by omega) p u HPK.out _ rfl).mono ?_); rintro e w5 ⟨rfl, hp⟩; have hc5 := (hp.below.cell (p := ⟨b, off + p, none⟩) hbl).trans HC.out; have HP4 := Lib.hid hp; clear hp)
        go_ret
        exact ⟨rfl, HP4.out.below⟩

theorem deal_zero (l : List Int) : deal l 0 = some ([], 0) := rfl

set_option maxRecDepth 100000 in
theorem walk (w : World) (A : Option Addr) (c : Nat) (l : List Int) (hr0 : Rd w w.heap.size A l) (hlc : l.length ≤ c) (hl : l.length ≤ 9223372036854775807) (hx : ∀ x ∈ l, -9223372036854775808 ≤ x ∧ x ≤ 9223372036854775807) (n : Int) (hn : -9223372036854775808 ≤ n ∧ n ≤ 9223372036854775807)
    (A2 : Option Addr) (c2 : Nat) (ws : List Int) (hr2 : Rd w w.heap.size A2 ws) (hlc2 : ws.length ≤ c2) (hl2 : ws.length ≤ 9223372036854775807) (hx2 : ∀ x ∈ ws, -9223372036854775808 ≤ x ∧ x ≤ 9223372036854775807) :
    Calls Try.prog 6 #[.slice A l.length c, .int .i64 n, .slice A2 ws.length c2] w fun e w' => e = .returned (.bool true) ∧ Below w.heap.size w w' := by
  clear hx hx2
  by_cases hbig : 4096 < l.length
  · have hb1 : (4096 : Int) < l.length := by omega
    clear hr0 hr2
    go_enter Try.func6, Try.ntmps6
    go_wp2_with (first
      | ((with_reducible refine (small_any _).mono ?_); rintro e w1 ⟨rfl, hb⟩; have HB := Lib.hid hb; clear hb)
      | ((with_reducible refine (new_any _).mono ?_); rintro e w' ⟨rfl, rfl⟩))
    go_ret
    exact ⟨rfl, HB.out.alloc HB.out.size _⟩
  · have hb1 : decide ((4096 : Int) < l.length) = false := by simp; omega
    by_cases hbig2 : 300 < ws.length
    · have hb2 : (300 : Int) < ws.length := by omega
      clear hr0 hr2
      go_enter Try.func6, Try.ntmps6
      go_wp2_with (first
        | ((with_reducible refine (small_any _).mono ?_); rintro e w1 ⟨rfl, hb⟩; have HB := Lib.hid hb; clear hb)
        | ((with_reducible refine (new_any _).mono ?_); rintro e w' ⟨rfl, rfl⟩))
      go_ret
      exact ⟨rfl, HB.out.alloc HB.out.size _⟩
    · clear hb1
      cases hbad : bad l with
      | true =>
        have hb1 : (l.length : Int) ≤ 4096 := by omega
        have hb2 : (ws.length : Int) ≤ 300 := by omega
        have HR := Lib.hid hr0; have HBAD := Lib.hid hbad
        clear hr0 hr2 hbad
        go_enter Try.func6, Try.ntmps6
        go_wp2_with (first
          | ((with_reducible refine (small_any _).mono ?_); rintro e w1 ⟨rfl, hb⟩; have HP0 := Lib.hid (one_new w.heap.size hb hb.size); clear hb)
          | ((with_reducible refine (new_any _).mono ?_); rintro e w' ⟨rfl, rfl⟩)
          | ((with_reducible refine (o_feed_bad HP0.out l w.heap.size A c (HR.out.below HP0.out.below) (by simp) (by omega) HBAD.out).mono ?_); rintro e w2 ⟨rfl, hp⟩))
        go_ret
        exact ⟨rfl, hp.below⟩
      | false =>
        by_cases ho : n < 0 ∨ 256 < n
        · exact tail_no w A c l hr0 A2 c2 ws hr2 (by omega) (by omega) hbad n (by omega) (fun W g h => o_deal_out h n ho)
        · obtain ⟨m, rfl⟩ : ∃ m : Nat, n = (m : Int) := ⟨n.toNat, by omega⟩
          rcases hd : deal l m with _ | ⟨q, t⟩
          · refine tail_no w A c l hr0 A2 c2 ws hr2 (by omega) (by omega) hbad m ?_ (fun W g h => o_deal_none h m (by omega) (by omega) hd)
            rintro h0
            obtain rfl : m = 0 := by omega
            rw [deal_zero] at hd
            cases hd
          · by_cases hm : m = 0
            · subst hm
              refine tail_zero w A c l hr0 A2 c2 ws hr2 (by omega) (by omega) hbad (fun W g h => ?_)
              exact (o_deal_some h 0 (by omega) (by omega) [] 0 (deal_zero l) l rfl).mono fun e w' ⟨gd, he, h1, _⟩ => ⟨gd, he, h1⟩
            · exact tail_some w A c l hr0 A2 c2 ws hr2 (by omega) (by omega) hbad m (by omega) (by omega) q t hd


set_option maxRecDepth 100000 in
theorem lifted (os : Os) (started : os.Started) (H : Type) (enc : TypeId × Value → H) :
    ReturnsInHanded {} Try.checked os 6 .any (Rows.drawDealsSpec.pre6 enc Try.prog Try.f6 Rows.drawDealsRow.domain false) (Rows.drawDealsSpec.post enc Try.prog Try.f6 false true false false) := by
  refine returnsInHanded_of_change (C := Try.checked) own started (by kernel_rfl) Try.func6
    (ChangeSpec.witness6 (enc := enc) (C := Try.checked) false ⟨#[], #[.slice none 0 0, .int .i64 0, .slice none 0 0], []⟩ 8 (by kernel_rfl) (by kernel_rfl) (by kernel_rfl) (by kernel_rfl)) ?_
  intro W base args ds gs before hval0 hW hcnd _
  have hval : ∀ (j : Nat) t v, Try.f6.params[j]? = some t → args[j]? = some v → Value.okWide Try.prog W .any base t v := hval0
  have hW' := hW
  obtain ⟨p, q, hA0, hV, rfl, hfz, hnd⟩ := hW
  have hA : DataW.TrodAll enc Try.prog W 0 (fun _ => true) true Try.f6.params.toList args.toList ds p := hA0
  rw [Try.params6] at hA hval
  obtain ⟨v0, vs0, d0, ds0, p0, q0, hargs, rfl, rfl, h0, r0⟩ := trodAll_cons hA
  obtain ⟨v1, vs1, d1, ds1, p1, q1, rfl, rfl, rfl, h1, r1⟩ := trodAll_cons r0
  obtain ⟨v2, vs2, d2, ds2, p2, q2, rfl, rfl, rfl, h2, r2⟩ := trodAll_cons r1
  obtain ⟨rfl, rfl, rfl⟩ := trodAll_nil r2
  obtain rfl : args = #[v0, v1, v2] := by cases args; simp_all
  obtain ⟨rfl, rfl⟩ := trodVars_none hV
  clear hA0 hval0
  have hlt0 : ∀ x ∈ p0, x.block < W.heap.size := fun x hx => hW'.lt x (by simp [hx])
  have hk0 := h0
  obtain ⟨A0, c0, l0, rfl, hr0, hc0, hl0, hx0⟩ := Open.view (hval 0 22 v0 rfl rfl) h0 hlt0
  obtain ⟨a1, rfl, rfl, rfl, w1⟩ := open_int Try.underlying3 (hval 1 3 v1 rfl rfl) h1
  have hlt2 : ∀ x ∈ p2, x.block < W.heap.size := fun x hx => hW'.lt x (by simp [hx])
  have hk2 := h2
  obtain ⟨A2, c2, l2, rfl, hr2, hc2, hl2, hx2⟩ := Open.view (hval 2 22 v2 rfl rfl) h2 hlt2
  simp only [List.append_nil] at hW'
  refine (walk W A0 c0 l0 hr0 hc0 hl0 hx0 a1 (Open.fits_of w1) A2 c2 l2 hr2 hc2 hl2 hx2).mono fun e W' ⟨he, hg⟩ => ?_
  subst he
  exact ⟨_, rfl, _, _, _, [], _, [], hW', (trodAll_cons_mk (shut_bool Try.underlying4 _) trodAll_mk0), (trodAll_cons_mk (Below.trod Open.laidOut (by kernel_rfl) (of_decide_eq_true (by kernel_rfl)) hk0 hg hlt0) (trodAll_cons_mk (shut_int Try.underlying3 w1) (trodAll_cons_mk (Below.trod Open.laidOut (by kernel_rfl) (of_decide_eq_true (by kernel_rfl)) hk2 hg hlt2) trodAll_mk0))), rfl, hg.frame _, fun h => by cases h⟩

theorem over : Rows.drawDealsRow.holds Try.pinned (OpenSpec.ofChange Rows.drawDealsSpec) :=
  OpenClaim.holds_of_wide 6 Try.f6 rfl rfl rfl rfl rfl rfl rfl ⟨rfl, rfl, rfl, rfl, rfl⟩ rfl rfl rfl rfl rfl (by kernel_rfl) Try.func6 (by kernel_rfl)
    (of_decide_eq_true (by kernel_rfl)) (by unfold Func.isWrapper; first | (rw [if_pos (by decide +kernel)]; kernel_rfl) | (rw [if_neg (by decide +kernel)]; exact ⟨rfl, rfl⟩))
    (fun os started H enc _ => lifted os started H enc)

/-- The given statement. -/
theorem proved : Rows.DrawDealsSaid :=
  over
#print axioms proved
end Go.Proofs.Ytieohegflcfnaaa.drawDeals
