/-
  Contracts of the calls that only read: isNoWord, Fair, the document's own Fair, IndexFunc and ContainsFunc of isNoWord.
-/
import Derived.Test.YtieohegflcfnaaaMem
import Derived.Test.YtieohegflcfnaaaRows
import Derived.Deep.LoopGhost
import Derived.Deep.QuietTactic
import Derived.BigQuiet
namespace Go.Proofs.Ytieohegflcfnaaa.Con
open Go.RowKit Mth Mem

theorem ret_bool {a b : Bool} (h : a = b) : Ending.returned (.bool a) = .returned (.bool b) := by rw [h]

theorem nw_any (x : Int) (w : World) : Calls Try.prog 22 #[.int .i64 x] w fun e w' => e = .returned (.bool (noWord x)) ∧ w = w' := by
  by_cases h0 : x < 0
  · go_enter Try.func22, Try.ntmps22
    go_wp2
    go_ret
    exact ⟨ret_bool (noWord_true (.inl h0)).symm, rfl⟩
  · have h0' : decide (x < 0) = false := by simpa using h0
    by_cases h1 : 4294967296 ≤ x
    · go_enter Try.func22, Try.ntmps22
      go_wp2
      go_ret
      exact ⟨ret_bool (noWord_true (.inr h1)).symm, rfl⟩
    · have h1' : decide (4294967296 ≤ x) = false := by simpa using h1
      go_enter Try.func22, Try.ntmps22
      go_wp2
      go_ret
      exact ⟨ret_bool (noWord_false (by omega) (by omega)).symm, rfl⟩
theorem nw_yes (x : Int) (w : World) (h : noWord x = true) : Calls Try.prog 22 #[.int .i64 x] w fun e w' => e = .returned (.bool true) ∧ w = w' := by
  have := nw_any x w; rw [h] at this; exact this
theorem nw_no (x : Int) (w : World) (h : noWord x = false) : Calls Try.prog 22 #[.int .i64 x] w fun e w' => e = .returned (.bool false) ∧ w = w' := by
  have := nw_any x w; rw [h] at this; exact this

/-- What Fair answers, as values. -/
def fv (o : Option (Int × Nat)) : Value := .tuple #[.int .i64 (dr o), .int .i64 (us o), .bool (ok o)]

theorem lim_in {n : Int} (h0 : 1 ≤ n) (h1 : n ≤ 4294967296) : 0 ≤ 4294967296 % n ∧ 4294967296 % n < 4294967296 := by
  have a := Int.emod_nonneg 4294967296 (show n ≠ 0 by omega)
  have b := Int.emod_lt_of_pos 4294967296 (show 0 < n by omega)
  omega

theorem fair_bad (A : Option Addr) (c : Nat) (l : List Int) (n : Int) (w : World) (hn : n < 1 ∨ 4294967296 < n) :
    Calls Try.prog 9 #[.slice A l.length c, .int .i64 n] w fun e w' => e = .returned (.tuple #[.int .i64 0, .int .i64 0, .bool false]) ∧ w = w' := by
  by_cases h0 : n < 1
  · go_enter Try.func9, Try.ntmps9
    go_wp2
    go_step3
    go_wp2
    (try rw [Exit.noGoto_ret])
    go_ret3
    exact ⟨rfl, rfl⟩
  · have h0' : decide (n < 1) = false := by simpa using h0
    have h1 : 4294967296 < n := by omega
    go_enter Try.func9, Try.ntmps9
    go_wp2
    go_step3
    go_wp2
    (try rw [Exit.noGoto_ret])
    go_ret3
    exact ⟨rfl, rfl⟩

set_option maxHeartbeats 400000 in
theorem fair_good (B : Nat) (A : Option Addr) (c : Nat) (l : List Int) (n : Int) (w : World) (hr : Rd w B A l) (hl : l.length ≤ 9223372036854775807) (h0 : 1 ≤ n) (h1 : n ≤ 4294967296) :
    Calls Try.prog 9 #[.slice A l.length c, .int .i64 n] w fun e w' => e = .returned (fv (seek n (4294967296 - 4294967296 % n) l 0)) ∧ w = w' := by
  have hb := lim_in h0 h1
  go_enter Try.func9, Try.ntmps9
  go_wp2
  go_step3
  go_wp2
  go_step3
  go_wp2
  go_loopg [21] l.length (fun g s21 wr => ∃ k : Nat, k ≤ l.length ∧ g = l.length - k ∧ s21 = .int .i64 k ∧ w = wr ∧ Hid (seek n (4294967296 - 4294967296 % n) l 0 = seek n (4294967296 - 4294967296 % n) (l.drop k) k))
  case atStart => exact ⟨0, by omega, rfl, rfl, rfl, rfl⟩
  case round =>
    obtain ⟨k, hk, rfl, rfl, rfl, hs⟩ := hrel
    by_cases hlt : k < l.length
    · obtain ⟨b, off, x, rfl, _, hx, hc⟩ := hr.at' hlt
      have HX := Lib.hid hx; clear hx hr
      cases hnw : noWord x with
      | true =>
        have HN := Lib.hid hnw; clear hnw
        go_wp2_with ((with_reducible refine (nw_yes x _ HN.out).mono ?_); rintro e w' ⟨rfl, rfl⟩)
        (try rw [Exit.noGoto_ret])
        go_ret3
        exact ⟨by rw [hs.out, seek_no HX.out HN.out]; rfl, rfl⟩
      | false =>
        have HN := Lib.hid hnw; clear hnw
        have hbx := of_noWord_false HN.out
        by_cases hq : x < 4294967296 - 4294967296 % n
        · go_wp2_with ((with_reducible refine (nw_no x _ HN.out).mono ?_); rintro e w' ⟨rfl, rfl⟩)
          (try rw [Exit.noGoto_ret])
          go_ret3
          exact ⟨by rw [hs.out, seek_hit HX.out HN.out hq]; rfl, rfl⟩
        · go_wp2_with ((with_reducible refine (nw_no x _ HN.out).mono ?_); rintro e w' ⟨rfl, rfl⟩)
          go_roundg (l.length - (k + 1))
          case measure => omega
          case rel => exact ⟨k + 1, by omega, rfl, by go_num, rfl, hs.out.trans (seek_next HX.out HN.out (by omega))⟩
    · go_wp2
      (try rw [Exit.noGoto_ret])
      go_ret3
      exact ⟨by rw [hs.out, seek_end (by omega)]; rfl, rfl⟩

/-- Fair answers the fair draw, whatever words it is handed and whatever n. -/
theorem fair_any (B : Nat) (A : Option Addr) (c : Nat) (l : List Int) (n : Int) (w : World) (hr : Rd w B A l) (hl : l.length ≤ 9223372036854775807) :
    Calls Try.prog 9 #[.slice A l.length c, .int .i64 n] w fun e w' => e = .returned (.tuple #[.int .i64 (dr (fair l n)), .int .i64 (us (fair l n)), .bool (ok (fair l n))]) ∧ w = w' := by
  by_cases h : n < 1 ∨ 4294967296 < n
  · have e : fair l n = none := by unfold fair; rw [if_pos h]
    rw [e]
    exact fair_bad A c l n w h
  · have e : fair l n = seek n (4294967296 - 4294967296 % n) l 0 := by unfold fair; rw [if_neg h]
    rw [e]
    exact fair_good B A c l n w hr hl (by omega) (by omega)

theorem rfair_bad (A : Option Addr) (c : Nat) (l : List Int) (n : Int) (w : World) (hn : n < 1 ∨ 4294967296 < n) :
    Calls Try.prog 10 #[.slice A l.length c, .int .i64 n] w fun e w' => e = .returned (.tuple #[.int .i64 0, .int .i64 0, .bool false]) ∧ w = w' := by
  by_cases h0 : n < 1
  · go_enter Try.func10, Try.ntmps10
    go_wp2
    go_ret3
    exact ⟨rfl, rfl⟩
  · have h0' : decide (n < 1) = false := by simpa using h0
    have h1 : 4294967296 < n := by omega
    go_enter Try.func10, Try.ntmps10
    go_wp2
    go_ret3
    exact ⟨rfl, rfl⟩

set_option maxHeartbeats 400000 in
theorem rfair_good (B : Nat) (A : Option Addr) (c : Nat) (l : List Int) (n : Int) (w : World) (hr : Rd w B A l) (hl : l.length ≤ 9223372036854775807) (h0 : 1 ≤ n) (h1 : n ≤ 4294967296) :
    Calls Try.prog 10 #[.slice A l.length c, .int .i64 n] w fun e w' => e = .returned (fv (seek n (4294967296 - 4294967296 % n) l 0)) ∧ ∃ q, w' = w.drewN q := by
  have hb := lim_in h0 h1
  go_enter Try.func10, Try.ntmps10
  go_wp2
  go_loopg [7] l.length (fun g s7 wr => ∃ k q : Nat, k ≤ l.length ∧ g = l.length - k ∧ s7 = .int .i64 k ∧ wr = w.drewN q ∧ Hid (seek n (4294967296 - 4294967296 % n) l 0 = seek n (4294967296 - 4294967296 % n) (l.drop k) k))
  case atStart => exact ⟨0, 0, by omega, rfl, rfl, rfl, rfl⟩
  case round =>
    obtain ⟨k, q, hk, rfl, rfl, rfl, hs⟩ := hrel
    by_cases hlt : k < l.length
    · obtain ⟨b, off, x, rfl, _, hx, hc⟩ := hr.at' hlt
      have HX := Lib.hid hx; clear hx hr
      by_cases hx0 : x < 0
      · have HN := Lib.hid (noWord_true (.inl hx0))
        go_wp2
        go_ret3
        exact ⟨by rw [hs.out, seek_no HX.out HN.out]; rfl, q, rfl⟩
      · have hx0' : decide (x < 0) = false := by simpa using hx0
        by_cases hx1 : 4294967296 ≤ x
        · have HN := Lib.hid (noWord_true (.inr hx1))
          go_wp2
          go_ret3
          exact ⟨by rw [hs.out, seek_no HX.out HN.out]; rfl, q, rfl⟩
        · have hx1' : decide (4294967296 ≤ x) = false := by simpa using hx1
          have HN := Lib.hid (noWord_false (x := x) (by omega) (by omega))
          have e0 : (0 : Int) ≤ k := by omega
          have e1 : (k : Int) < l.length := by omega
          have e2 : IntKind.i64.wrap (Int.tmod 4294967296 n) = 4294967296 % n := by
            rw [Int.tmod_eq_emod_of_nonneg (by omega)]; exact IntWalk.i64_in _ (by omega)
          have e3 : IntKind.i64.wrap (4294967296 - 4294967296 % n) = 4294967296 - 4294967296 % n := IntWalk.i64_in _ (by omega)
          by_cases hq : x < 4294967296 - 4294967296 % n
          · go_wp2
            go_quiet (fail)
            clear e2 e3
            go_wp2
            go_ret3
            exact ⟨by rw [hs.out, seek_hit HX.out HN.out hq]; rfl, _, rfl⟩
          · go_wp2
            go_quiet (fail)
            clear e2 e3
            go_wp2
            go_roundg (l.length - (k + 1))
            case measure => omega
            case rel => exact ⟨k + 1, _, by omega, rfl, by go_num, rfl, hs.out.trans (seek_next HX.out HN.out (by omega))⟩
    · go_wp2
      go_ret3
      exact ⟨by rw [hs.out, seek_end (by omega)]; rfl, q, rfl⟩

theorem rfair_any (B : Nat) (A : Option Addr) (c : Nat) (l : List Int) (n : Int) (w : World) (hr : Rd w B A l) (hl : l.length ≤ 9223372036854775807) :
    Calls Try.prog 10 #[.slice A l.length c, .int .i64 n] w fun e w' => e = .returned (.tuple #[.int .i64 (dr (fair l n)), .int .i64 (us (fair l n)), .bool (ok (fair l n))]) ∧ ∃ q, w' = w.drewN q := by
  by_cases h : n < 1 ∨ 4294967296 < n
  · have e : fair l n = none := by unfold fair; rw [if_pos h]
    rw [e]
    exact (rfair_bad A c l n w h).mono fun _ _ ⟨h1, h2⟩ => ⟨h1, 0, h2.symm⟩
  · have e : fair l n = seek n (4294967296 - 4294967296 % n) l 0 := by unfold fair; rw [if_neg h]
    rw [e]
    exact rfair_good B A c l n w hr hl (by omega) (by omega)

set_option maxHeartbeats 400000 in
theorem ix_any (B : Nat) (A : Option Addr) (c : Nat) (l : List Int) (w : World) (hr : Rd w B A l) (hl : l.length ≤ 9223372036854775807) :
    Calls Try.prog 26 #[.slice A l.length c, .func (.func 22) #[] #[]] w fun e w' => e = .returned (.int .i64 (ix l 0)) ∧ w = w' := by
  go_enter Try.func26, Try.ntmps26
  go_wp2
  go_loopg [8] l.length (fun g s8 wr => ∃ k : Nat, k ≤ l.length ∧ g = l.length - k ∧ s8 = .int .i64 k ∧ w = wr ∧ Hid (ix l 0 = ix (l.drop k) k))
  case atStart => exact ⟨0, by omega, rfl, rfl, rfl, rfl⟩
  case round =>
    obtain ⟨k, hk, rfl, rfl, rfl, hs⟩ := hrel
    by_cases hlt : k < l.length
    · obtain ⟨b, off, x, rfl, _, hx, hc⟩ := hr.at' hlt
      have HX := Lib.hid hx; clear hx hr
      cases hnw : noWord x with
      | true =>
        have HN := Lib.hid hnw; clear hnw
        go_wp2_with ((with_reducible refine (nw_yes x _ HN.out).mono ?_); rintro e w' ⟨rfl, rfl⟩)
        go_ret
        exact ⟨by rw [hs.out, ix_hit HX.out HN.out]; rfl, rfl⟩
      | false =>
        have HN := Lib.hid hnw; clear hnw
        go_wp2_with ((with_reducible refine (nw_no x _ HN.out).mono ?_); rintro e w' ⟨rfl, rfl⟩)
        go_roundg (l.length - (k + 1))
        case measure => omega
        case rel => exact ⟨k + 1, by omega, rfl, by go_num, rfl, hs.out.trans (ix_next HX.out HN.out)⟩
    · go_wp2
      go_ret
      exact ⟨by rw [hs.out, ix_end (by omega)]; rfl, rfl⟩

theorem has_any (B : Nat) (A : Option Addr) (c : Nat) (l : List Int) (w : World) (hr : Rd w B A l) (hl : l.length ≤ 9223372036854775807) :
    Calls Try.prog 23 #[.slice A l.length c, .func (.func 22) #[] #[]] w fun e w' => e = .returned (.bool (bad l)) ∧ w = w' := by
  go_enter Try.func23, Try.ntmps23
  go_wp2_with ((with_reducible refine (ix_any B A c l _ hr hl).mono ?_); rintro e w' ⟨rfl, rfl⟩)
  go_ret
  exact ⟨ret_bool (ix_bad l 0), rfl⟩
end Go.Proofs.Ytieohegflcfnaaa.Con
