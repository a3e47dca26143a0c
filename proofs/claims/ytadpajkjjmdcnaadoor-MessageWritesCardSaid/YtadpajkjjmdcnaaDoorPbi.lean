/-
  Bits: how xor, or and shifts reckon with numbers; the contracts of fold, unfold and the document's own sign.
-/
import Derived.Test.YtadpajkjjmdcnaaDoorPme
import Derived.Laws.BitsAllLaws
import Derived.Deep.LoopGhost
import Derived.Deep.QuietTactic
import Derived.BigQuiet
import Derived.Outline
namespace Go.Proofs.YtadpajkjjmdcnaaDoor.Pk
open Go.RowKit Mth Pm

theorem ret_int {k : IntKind} {a b : Int} (h : a = b) : Ending.returned (.int k a) = .returned (.int k b) := by rw [h]
theorem ret_bool {a b : Bool} (h : a = b) : Ending.returned (.bool a) = .returned (.bool b) := by rw [h]

theorem xor_ones (a : Nat) (h : a < 18446744073709551616) : a ^^^ 18446744073709551615 = 18446744073709551615 - a := by
  have h1 : (BitVec.ofNat 64 a ^^^ BitVec.allOnes 64).toNat = (~~~ (BitVec.ofNat 64 a)).toNat := by rw [BitVec.xor_allOnes]
  rw [BitVec.toNat_xor, BitVec.toNat_not, BitVec.toNat_allOnes, BitVec.toNat_ofNat, Nat.mod_eq_of_lt (by omega)] at h1
  exact h1

theorem fold_bits_neg {n : Int} (h0 : -9223372036854775808 ≤ n) (h1 : n < 0) : bits BinOp.xor IntKind.u64 (IntKind.u64.wrap (IntKind.u64.wrap n * 2)) (IntKind.u64.wrap (n / 9223372036854775808)) = sg n := by
  have e1 : n / 9223372036854775808 = -1 := by omega
  have e2 : IntKind.u64.wrap (IntKind.u64.wrap n * 2) = 2 * n + 18446744073709551616 := by rw [IntKind.wrap_u64, IntKind.wrap_u64]; omega
  have e3 : IntKind.u64.wrap (-1) = 18446744073709551615 := by rw [IntKind.wrap_u64]; omega
  rw [e1, e2, e3, u64_xor _ _ (by omega) (by omega) (by omega) (by omega)]
  rw [show ((18446744073709551615 : Int).toNat) = 18446744073709551615 from rfl, xor_ones _ (by omega)]
  unfold sg
  rw [if_pos h1]
  omega
theorem fold_bits_pos {n : Int} (h0 : 0 ≤ n) (h1 : n ≤ 9223372036854775807) : bits BinOp.xor IntKind.u64 (n * 2) (n / 9223372036854775808) = sg n := by
  have e1 : n / 9223372036854775808 = 0 := by omega
  rw [e1, u64_xor _ _ (by omega) (by omega) (by omega) (by omega)]
  unfold sg
  rw [if_neg (by omega)]
  simp only [Int.toNat_zero, Nat.xor_zero]
  omega
theorem xor_i64_zero {a : Int} (h0 : 0 ≤ a) (h1 : a ≤ 9223372036854775807) : bits BinOp.xor IntKind.i64 a 0 = a := by
  show IntKind.i64.wrap ((BitVec.ofInt 64 a ^^^ BitVec.ofInt 64 0).toNat : Int) = _
  obtain ⟨A, rfl⟩ := Int.eq_ofNat_of_zero_le h0
  rw [BitVec.toNat_xor, ofInt_u64 A (by omega), show (BitVec.ofInt 64 0).toNat = 0 from rfl, Nat.xor_zero, IntKind.wrap_i64]
  omega
theorem xor_i64_ones {a : Int} (h0 : 0 ≤ a) (h1 : a ≤ 9223372036854775807) : bits BinOp.xor IntKind.i64 a (-1) = -a - 1 := by
  show IntKind.i64.wrap ((BitVec.ofInt 64 a ^^^ BitVec.ofInt 64 (-1)).toNat : Int) = _
  obtain ⟨A, rfl⟩ := Int.eq_ofNat_of_zero_le h0
  rw [BitVec.toNat_xor, ofInt_u64 A (by omega), show (BitVec.ofInt 64 (-1)).toNat = 18446744073709551615 from by decide, xor_ones _ (by omega), IntKind.wrap_i64]
  omega
theorem and_one {n : Int} (h0 : 0 ≤ n) (h1 : n < 18446744073709551616) : bits BinOp.and IntKind.u64 n 1 = n % 2 := by
  rw [u64_and _ _ h0 h1 (by omega) (by omega), show ((1 : Int).toNat) = 1 from rfl, nat_mask1]
  omega
theorem unfold_bits {n : Int} (h0 : 0 ≤ n) (h1 : n < 18446744073709551616) : bits BinOp.xor IntKind.i64 (n / 2) (wrap64 (-wrap64 (bits BinOp.and IntKind.u64 n 1))) = ug n := by
  rw [and_one h0 h1]
  unfold ug
  by_cases h : n % 2 = 1
  · rw [if_pos h, h]
    rw [show wrap64 (-wrap64 1) = -1 from by kernel_rfl, xor_i64_ones (by omega) (by omega)]
  · rw [if_neg h, show n % 2 = 0 by omega]
    rw [show wrap64 (-wrap64 0) = 0 from by kernel_rfl, xor_i64_zero (by omega) (by omega)]
theorem or_join {a d : Int} {k : Nat} (h0 : 0 ≤ a) (h1 : a < 2 ^ k) (hd : 0 ≤ d) (hs : d * 2 ^ k + 2 ^ k ≤ 18446744073709551616) : bits BinOp.or IntKind.u64 a (d * 2 ^ k) = a + d * 2 ^ k := by
  have hp : (0 : Int) < 2 ^ k := Int.pow_pos (by omega)
  have hm : 0 ≤ d * 2 ^ k := Int.mul_nonneg hd (by omega)
  rw [u64_or _ _ h0 (by omega) hm (by omega)]
  obtain ⟨A, rfl⟩ := Int.eq_ofNat_of_zero_le h0
  obtain ⟨D, rfl⟩ := Int.eq_ofNat_of_zero_le hd
  have e : ((D : Int) * 2 ^ k).toNat = D * 2 ^ k := by
    rw [show (D : Int) * 2 ^ k = ((D * 2 ^ k : Nat) : Int) by simp]
    exact Int.toNat_natCast _
  have hA : A < 2 ^ k := by
    have : ((2 ^ k : Nat) : Int) = (2 : Int) ^ k := by simp
    omega
  rw [e, Int.toNat_natCast, Nat.or_comm, nat_join k (D * 2 ^ k) A (Nat.mul_mod_left _ _) hA]
  simp only [Int.natCast_add, Int.natCast_mul, Int.natCast_pow, Int.cast_ofNat_Int]
  omega
theorem or128 (m : Nat) : bits BinOp.or IntKind.u8 (IntKind.u8.wrap (m : Int)) 128 = ((m % 128 + 128 : Nat) : Int) := by
  rw [IntKind.wrap_u8', u8_or _ _ (by omega) (by omega) (by omega) (by omega), show ((128 : Int).toNat) = 128 from rfl]
  have hd : ∀ a : Fin 256, (a.val ||| 128) = a.val % 128 + 128 := by decide +kernel
  have := hd ⟨((m : Int) % 256).toNat, by omega⟩
  simp only at this
  rw [this]
  omega

theorem fold_any (n : Int) (w : World) (h0 : -9223372036854775808 ≤ n) (h1 : n ≤ 9223372036854775807) : Calls Tryd.prog 29 #[.int .i64 n] w fun e w' => e = .returned (.int .u64 (sg n)) ∧ w = w' := by
  by_cases h : n < 0
  · go_enter Tryd.func29, Tryd.ntmps29
    go_wp2
    go_ret
    exact ⟨ret_int (fold_bits_neg h0 h), rfl⟩
  · have h2 : 0 ≤ n := by omega
    clear h h0
    go_enter Tryd.func29, Tryd.ntmps29
    go_wp2
    go_ret
    exact ⟨ret_int (fold_bits_pos h2 h1), rfl⟩
theorem unfold_any (n : Int) (w : World) (h0 : 0 ≤ n) (h1 : n < 18446744073709551616) : Calls Tryd.prog 38 #[.int .u64 n] w fun e w' => e = .returned (.int .i64 (ug n)) ∧ w = w' := by
  go_enter Tryd.func38, Tryd.ntmps38
  go_wp2
  go_ret
  exact ⟨ret_int (unfold_bits h0 h1), rfl⟩
theorem signed_any (n : Int) (w : World) (h0 : -9223372036854775808 ≤ n) (h1 : n ≤ 9223372036854775807) : Calls Tryd.prog 32 #[.int .i64 n] w fun e w' => e = .returned (.int .u64 (sg n)) ∧ w = w' := by
  by_cases h : n < 0
  · have e : sg n = 2 * -(n + 1) + 1 := by unfold sg; rw [if_pos h]; omega
    have E := Lib.hid e; clear e
    go_enter Tryd.func32, Tryd.ntmps32
    go_wp2
    go_ret
    exact ⟨ret_int E.out.symm, rfl⟩
  · have e : sg n = 2 * n := by unfold sg; rw [if_neg h]
    have E := Lib.hid e; clear e
    have h2 : 0 ≤ n := by omega
    clear h h0
    go_enter Tryd.func32, Tryd.ntmps32
    go_wp2
    go_ret
    exact ⟨ret_int E.out.symm, rfl⟩
end Go.Proofs.YtadpajkjjmdcnaaDoor.Pk
