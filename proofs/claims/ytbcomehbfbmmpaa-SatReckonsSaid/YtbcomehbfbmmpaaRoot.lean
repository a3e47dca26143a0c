/-
  The contract of sat.Root: for every 64-bit number n it answers the greatest number whose square is at most n, and 0 where n is below 1; the world is left alone.
-/
import Derived.Test.YtbcomehbfbmmpaaCon
namespace Go.Proofs.Ytbcomehbfbmmpaa.Con
open Go.RowKit

/-- r is the root of n: 0, if n is below 1. -/
def IsRoot (n r : Int) : Prop := (n < 1 ∧ r = 0) ∨ (1 ≤ n ∧ 0 ≤ r ∧ r * r ≤ n ∧ n < (r + 1) * (r + 1))

theorem root_one {n r s : Int} (hr : IsRoot n r) (hs : IsRoot n s) : r = s := by
  rcases hr with ⟨h1, h2⟩ | ⟨h1, h2, h3, h4⟩ <;> rcases hs with ⟨g1, g2⟩ | ⟨g1, g2, g3, g4⟩
  · omega
  · omega
  · omega
  · by_cases a : r < s
    · have : (r + 1) * (r + 1) ≤ s * s := Int.mul_le_mul (by omega) (by omega) (by omega) (by omega)
      omega
    · by_cases b : s < r
      · have : (s + 1) * (s + 1) ≤ r * r := Int.mul_le_mul (by omega) (by omega) (by omega) (by omega)
        omega
      · omega

theorem root_le {n r : Int} (h : IsRoot n r) (hn : n ≤ 9223372036854775807) : 0 ≤ r ∧ r ≤ 3037000499 := by
  rcases h with ⟨h1, h2⟩ | ⟨h1, h2, h3, h4⟩
  · omega
  · refine ⟨h2, ?_⟩
    by_cases a : 3037000500 ≤ r
    · have : (3037000500 : Int) * 3037000500 ≤ r * r := Int.mul_le_mul a a (by omega) h2
      omega
    · omega

def SomeRoot (n : Int) (w : World) (e : Ending) (w' : World) : Prop := ∃ r : Int, IsRoot n r ∧ e = .returned (.int .i64 r) ∧ w = w'

theorem two_pow (k : Nat) (hk : k < 32) : (2 : Int) ^ (32 - k) = 2 * 2 ^ (31 - k) ∧ 1 ≤ (2 : Int) ^ (31 - k) ∧ (2 : Int) ^ (31 - k) ≤ 2147483648 := by
  have h : 32 - k = (31 - k) + 1 := by omega
  refine ⟨by rw [h, Int.pow_succ, Int.mul_comm], ?_, ?_⟩
  · have := Int.pow_pos (n := 2) (m := 31 - k) (by omega); omega
  · have h2 : (2 : Nat) ^ (31 - k) ≤ 2 ^ 31 := Nat.pow_le_pow_right (by omega) (by omega)
    have h3 : ((2 ^ (31 - k) : Nat) : Int) = (2 : Int) ^ (31 - k) := by simp
    omega

theorem root_pos (n : Int) (w : World) (h1 : 1 ≤ n) (h2 : n ≤ 9223372036854775807) :
    Calls Try.prog 19 #[.int .i64 n] w (SomeRoot n w) := by
  go_enter Try.func19, Try.ntmps19
  go_wp2
  go_loop [3, 6] (fun r i => ∃ (k : Nat) (x : Int), k ≤ 32 ∧ i = .int .i64 k ∧ r = .int .i64 x ∧ 0 ≤ x ∧ x ≤ 4294967296 - 2 ^ (32 - k) ∧ x * x ≤ n ∧ n < (x + 2 ^ (32 - k)) * (x + 2 ^ (32 - k))) (fun _ i => 32 - (intOf i).toNat)
  case atStart => exact ⟨0, 0, by omega, rfl, rfl, by omega, by decide, by omega, by simp; omega⟩
  case round =>
    obtain ⟨k, x, hk, rfl, rfl, hx, hx2, hx3, hx4⟩ := hrel
    by_cases hlt : k < 32
    · obtain ⟨p1, p2, p3⟩ := two_pow k hlt
      rw [p1] at hx2 hx4
      clear p1
      have HX4 := Lib.hid hx4; clear hx4
      have hiff := Int.le_ediv_iff_mul_le (a := x + 2 ^ (31 - k)) (b := n) (c := x + 2 ^ (31 - k)) (by omega)
      by_cases ht : x + 2 ^ (31 - k) ≤ n / (x + 2 ^ (31 - k))
      · have hsq := Lib.hid (hiff.1 ht)
        clear hiff
        go_wp2
        go_round
        case rel => 
          have e31 : 32 - (k + 1) = 31 - k := by omega
          refine ⟨k + 1, x + 2 ^ (31 - k), by omega, by go_num, rfl, by omega, by rw [e31]; omega, hsq.out, ?_⟩
          rw [e31, Int.add_assoc, ← Int.two_mul]; exact HX4.out
        case measure => simp [intOf]; omega
      · have hsq := Lib.hid (mt hiff.2 ht)
        clear hiff
        have ht' : decide (x + 2 ^ (31 - k) ≤ n / (x + 2 ^ (31 - k))) = false := by simpa using ht
        go_wp2
        go_round
        case rel => 
          have e31 : 32 - (k + 1) = 31 - k := by omega
          refine ⟨k + 1, x, by omega, by go_num, rfl, by omega, by rw [e31]; omega, hx3, ?_⟩
          rw [e31]; have := hsq.out; omega
        case measure => simp [intOf]; omega
    · obtain rfl : k = 32 := by omega
      have HX4 := Lib.hid hx4; clear hx4
      go_wp2
      go_ret
      exact ⟨x, Or.inr ⟨h1, hx, hx3, by simpa using HX4.out⟩, rfl, rfl⟩

theorem root_neg (n : Int) (w : World) (h1 : n < 1) (h2 : -9223372036854775808 ≤ n) :
    Calls Try.prog 19 #[.int .i64 n] w (SomeRoot n w) := by
  go_enter Try.func19, Try.ntmps19
  go_wp2
  go_loop [3, 6] (fun r i => ∃ (k : Nat), k ≤ 32 ∧ i = .int .i64 k ∧ r = .int .i64 0) (fun _ i => 32 - (intOf i).toNat)
  case atStart => exact ⟨0, by omega, rfl, rfl⟩
  case round =>
    obtain ⟨k, hk, rfl, rfl⟩ := hrel
    by_cases hlt : k < 32
    · obtain ⟨p1, p2, p3⟩ := two_pow k hlt
      clear p1
      have hq : n.tdiv (2 ^ (31 - k)) ≤ 0 := by
        have : 0 ≤ (-n).tdiv (2 ^ (31 - k)) := Int.tdiv_nonneg (by omega) (by omega)
        rw [Int.neg_tdiv] at this; omega
      have ht' : decide (2 ^ (31 - k) ≤ n.tdiv (2 ^ (31 - k))) = false := by simp; omega
      go_wp2
      go_round
      case rel => exact ⟨k + 1, by omega, by go_num, rfl⟩
      case measure => simp [intOf]; omega
    · go_wp2
      go_ret
      exact ⟨0, Or.inl ⟨h1, rfl⟩, rfl, rfl⟩

theorem root_any (n : Int) (w : World) (hn : Fits n) : Calls Try.prog 19 #[.int .i64 n] w (SomeRoot n w) := by
  by_cases h : 1 ≤ n
  · exact root_pos n w h hn.2
  · exact root_neg n w (by omega) hn.1
end Go.Proofs.Ytbcomehbfbmmpaa.Con
