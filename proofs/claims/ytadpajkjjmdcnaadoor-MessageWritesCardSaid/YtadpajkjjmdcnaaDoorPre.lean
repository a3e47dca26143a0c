/-
  Contracts of the calls that read a number of 64 bits out of bytes: the program's readDigits and the document's own read.
-/
import Derived.Test.YtadpajkjjmdcnaaDoorPbi
namespace Go.Proofs.YtadpajkjjmdcnaaDoor.Pk
open Go.RowKit Mth Pm

def vv : Option (Int × Nat) → Int
  | some (v, _) => v
  | none => 0
def ss : Option (Int × Nat) → Nat
  | some (_, s) => s
  | none => 0

theorem pow_cast (k : Nat) : ((2 ^ k : Nat) : Int) = (2 : Int) ^ k := by simp
theorem pow_room {k : Nat} (h : k ≤ 8) : (1 : Int) ≤ 2 ^ (7 * k) ∧ (2 : Int) ^ (7 * k) ≤ 72057594037927936 := by
  have h1 : (2 : Nat) ^ (7 * k) ≤ 2 ^ 56 := Nat.pow_le_pow_right (by omega) (by omega)
  have h2 : 0 < (2 : Nat) ^ (7 * k) := Nat.pow_pos (by omega)
  have h3 := pow_cast (7 * k)
  omega

theorem or_end {acc x : Int} {k : Nat} (h0 : 0 ≤ acc) (h1 : acc < 2 ^ (7 * k)) (hx : 0 ≤ x) (hs : (x + 1) * 2 ^ (7 * k) ≤ 18446744073709551616) : bits BinOp.or IntKind.u64 acc (IntKind.u64.wrap (x * 2 ^ (7 * k))) = acc + x * 2 ^ (7 * k) := by
  have e : (x + 1) * (2 : Int) ^ (7 * k) = x * 2 ^ (7 * k) + 2 ^ (7 * k) := by rw [Int.add_mul, Int.one_mul]
  rw [e] at hs
  have hp : (0 : Int) < 2 ^ (7 * k) := Int.pow_pos (by omega)
  have hm : 0 ≤ x * (2 : Int) ^ (7 * k) := Int.mul_nonneg hx (by omega)
  have e2 : IntKind.u64.wrap (x * 2 ^ (7 * k)) = x * 2 ^ (7 * k) := by rw [IntKind.wrap_u64]; omega
  rw [e2]
  exact or_join h0 h1 hx hs
theorem room_low {x : Int} {k : Nat} (hk : k ≤ 8) (h0 : 0 ≤ x) (h1 : x < 128) : (x + 1) * 2 ^ (7 * k) ≤ 18446744073709551616 := by
  obtain ⟨hp0, hp1⟩ := pow_room hk
  have : (x + 1) * (2 : Int) ^ (7 * k) ≤ 128 * 72057594037927936 := Int.mul_le_mul (by omega) hp1 (by omega) (by omega)
  omega
theorem room_last {x : Int} {k : Nat} (hk : k = 9) (h0 : 0 ≤ x) (h1 : x ≤ 1) : (x + 1) * 2 ^ (7 * k) ≤ 18446744073709551616 := by
  subst hk
  have e : (2 : Int) ^ (7 * 9) = 9223372036854775808 := by decide
  rw [e]
  omega
theorem acc_next {acc x : Int} {k : Nat} (h0 : 0 ≤ acc) (h1 : acc < 2 ^ (7 * k)) (hx : 0 ≤ x) (hx1 : x < 128) : 0 ≤ acc + x * 2 ^ (7 * k) ∧ acc + x * 2 ^ (7 * k) < 2 ^ (7 * (k + 1)) := by
  have e : (2 : Int) ^ (7 * (k + 1)) = 128 * 2 ^ (7 * k) := by rw [show 7 * (k + 1) = 7 + 7 * k by omega, Int.pow_add]; rfl
  have hp : (0 : Int) < 2 ^ (7 * k) := Int.pow_pos (by omega)
  have hm : 0 ≤ x * (2 : Int) ^ (7 * k) := Int.mul_nonneg hx (by omega)
  have hm2 : x * (2 : Int) ^ (7 * k) ≤ 127 * 2 ^ (7 * k) := Int.mul_le_mul_of_nonneg_right (by omega) (by omega)
  rw [e]
  omega

/-- The end of readDigits' answers. -/
theorem rdig_none {o : Option (Int × Nat)} (h : o = none) : Ending.returned (.tuple #[.int .u64 0, .int .i64 0]) = .returned (.tuple #[.int .u64 (vv o), .int .i64 (ss o)]) := by subst h; rfl
theorem rdig_some {o : Option (Int × Nat)} {v v' k : Int} {s : Nat} (h : o = some (v, s)) (hv : v' = v) (hk : k = s) : Ending.returned (.tuple #[.int .u64 v', .int .i64 k]) = .returned (.tuple #[.int .u64 (vv o), .int .i64 (ss o)]) := by subst h; subst hv; subst hk; rfl

theorem rdig_neg (A : Option Addr) (c : Nat) (l : List Int) (a : Int) (w : World) (ha : a < 0) :
    Calls Tryd.prog 37 #[.slice A l.length c, .int .i64 a] w fun e w' => e = .returned (.tuple #[.int .u64 0, .int .i64 0]) ∧ w = w' := by
  go_enter Tryd.func37, Tryd.ntmps37
  go_wp2
  go_ret2
  exact ⟨rfl, rfl⟩

set_option maxHeartbeats 800000 in
theorem rdig_nat (A : Option Addr) (c : Nat) (l : List Int) (a : Nat) (w : World) (B : Nat) (hr : Rd .u8 w B A l) (hl : (l.length : Int) ≤ 10000000) (hb : Byt l) (ha : (a : Int) ≤ 9223372036854775807) :
    Calls Tryd.prog 37 #[.slice A l.length c, .int .i64 a] w fun e w' => e = .returned (.tuple #[.int .u64 (vv (gt 0 (l.drop a))), .int .i64 (ss (gt 0 (l.drop a)))]) ∧ w = w' := by
  have HR := Lib.hid hr; clear hr
  have HBy := Lib.hid hb; clear hb
  have ha0 : decide ((a : Int) < 0) = false := by simp
  go_enter Tryd.func37, Tryd.ntmps37
  go_wp2
  go_loopg [6, 15] l.length (fun g s6 s15 wr => ∃ (k : Nat) (acc : Int), k ≤ 9 ∧ g = l.length - k ∧ 0 ≤ acc ∧ acc < 2 ^ (7 * k) ∧ s6 = .int .u64 acc ∧ s15 = .int .i64 (k : Int) ∧ w = wr ∧ Hid (gt 0 (l.drop a) = comb k acc (gt k ((l.drop a).drop k))))
  case atStart => exact ⟨0, 0, by omega, rfl, by omega, by simp, rfl, rfl, rfl, Lib.hid (comb_zero _).symm⟩
  case round =>
    obtain ⟨k, acc, hk, rfl, hacc, hacc2, rfl, rfl, rfl, HE⟩ := hrel
    by_cases hlt : a + k < l.length
    · have hlt' : (k : Int) < l.length - a := by omega
      obtain ⟨b, off, x, rfl, _, hx, hc⟩ := HR.out.at' hlt
      obtain ⟨hx0, hx1⟩ := HBy.out.at hx
      have HX : Hid ((l.drop a)[k]? = some x) := Lib.hid (by rw [List.getElem?_drop]; exact hx)
      clear hx
      by_cases h9 : k = 9
      · have h9' : ((k : Int) == 9) = true := by simp; omega
        have hk0 : (0 : Int) < k := by omega
        have H9 := Lib.hid h9; clear h9
        by_cases h1 : 1 < x
        · go_wp2
          go_ret2
          have H1 : gt 0 (l.drop a) = none := by
            rw [HE.out]
            obtain rfl := H9.out
            exact comb_big HX.out h1
          exact ⟨rdig_none H1, rfl⟩
        · have h1' : decide (1 < x) = false := by simpa using h1
          have h128 : decide (128 ≤ x) = false := by simp; omega
          by_cases hz : x = 0
          · have hz' : (x == 0) = true := by simpa using hz
            have HZ := Lib.hid hz; clear hz
            go_wp2
            go_ret2
            have H1 : gt 0 (l.drop a) = none := by
              rw [HE.out]
              exact comb_zero_end (HZ.out ▸ HX.out) (by omega)
            exact ⟨rdig_none H1, rfl⟩
          · have hz' : (x == 0) = false := by simpa using hz
            go_wp2
            go_ret2
            have H1 := HE.out.trans (comb_end HX.out (by omega) (by omega) (by omega))
            have H2 := or_end hacc hacc2 hx0 (room_last H9.out hx0 (by omega))
            exact ⟨rdig_some H1 H2 (by omega), rfl⟩
      · have h9' : ((k : Int) == 9) = false := by simp; omega
        by_cases h128 : 128 ≤ x
        · go_wp2
          go_roundg (l.length - (k + 1))
          case measure => omega
          case rel =>
            have e := or_end (x := x - 128) hacc hacc2 (by omega) (room_low (by omega) (by omega) (by omega))
            have en := acc_next (x := x - 128) hacc hacc2 (by omega) (by omega)
            exact ⟨k + 1, acc + (x - 128) * 2 ^ (7 * k), by omega, rfl, en.1, en.2, by rw [e], by go_num, rfl, Lib.hid (HE.out.trans (comb_more HX.out h128 h9))⟩
        · have h128' : decide (128 ≤ x) = false := by simpa using h128
          have H2 := Lib.hid (or_end hacc hacc2 hx0 (room_low (by omega) hx0 (by omega)))
          by_cases hz : x = 0
          · have hz' : (x == 0) = true := by simpa using hz
            have HZ := Lib.hid hz; clear hz
            by_cases hk0 : 0 < k
            · have hk0' : (0 : Int) < k := by omega
              go_wp2
              go_ret2
              have H1 : gt 0 (l.drop a) = none := by
                rw [HE.out]
                exact comb_zero_end (HZ.out ▸ HX.out) (by omega)
              exact ⟨rdig_none H1, rfl⟩
            · have hk0' : decide ((0 : Int) < k) = false := by simp; omega
              have hk0'' : decide (0 < k) = false := by simp; omega
              have H1 := Lib.hid (HE.out.trans (comb_end HX.out (by omega) (by omega) (by omega)))
              clear h9
              go_wp2
              go_ret2
              exact ⟨rdig_some H1.out H2.out (by omega), rfl⟩
          · have hz' : (x == 0) = false := by simpa using hz
            have H1 := Lib.hid (HE.out.trans (comb_end HX.out (by omega) (by omega) (by omega)))
            go_wp2
            go_ret2
            exact ⟨rdig_some H1.out H2.out (by omega), rfl⟩
    · have hlt' : decide ((k : Int) < l.length - a) = false := by simp; omega
      go_wp2
      go_ret2
      exact ⟨rdig_none (by rw [HE.out]; exact comb_nil (by rw [List.length_drop]; omega)), rfl⟩

/-- readDigits: what is written from a place on. -/
theorem rdig_any (A : Option Addr) (c : Nat) (l : List Int) (a : Int) (w : World) (B : Nat) (hr : Rd .u8 w B A l) (hl : (l.length : Int) ≤ 10000000) (hb : Byt l) (ha : a ≤ 9223372036854775807) :
    Calls Tryd.prog 37 #[.slice A l.length c, .int .i64 a] w fun e w' => e = .returned (.tuple #[.int .u64 (vv (rd l a)), .int .i64 (ss (rd l a))]) ∧ w = w' := by
  by_cases h : a < 0
  · rw [rd_neg h]
    exact rdig_neg A c l a w h
  · obtain ⟨n, rfl⟩ := Int.eq_ofNat_of_zero_le (show 0 ≤ a by omega)
    rw [rd_pos (by omega)]
    exact rdig_nat A c l n w B hr hl hb ha
end Go.Proofs.YtadpajkjjmdcnaaDoor.Pk
