/-
  Contracts of Uint, Int, Text and Ints, the program's and the document's own: what they answer is new memory, and nothing else has turned.
-/
import Derived.Test.YtcefkjeoknaijaaDig
namespace Go.Proofs.Ytcefkjeoknaijaa.Con
open Go.RowKit Mth Mem

theorem new_step {w w1 w2 : World} {l : List Int} {A A1 : Option Addr} {c1 : Nat} (hb1 : Below w.heap.size w w1) (ho1 : Own w1 w.heap.size .u8 5 A1 c1 l) (hs : Step w1 w2 (blk A1) A) : Below w.heap.size w w2 :=
  below_step hb1 hs (fun k hk => (ho1.lt k hk).1) hb1.size

theorem room_of {l m : List Int} {k : Int} (h : m = l) (hl : (l.length : Int) ≤ k) : (m.length : Int) ≤ k := by rw [h]; exact hl

set_option maxHeartbeats 400000 in
theorem uint_any (A : Option Addr) (c : Nat) (l : List Int) (n : Int) (w : World) (B : Nat) (hr : Rd .u8 w B A l) (hB : B ≤ w.heap.size) (hl : (l.length : Int) ≤ 90000) (h0 : -9223372036854775808 ≤ n) (h1 : n ≤ 9223372036854775807) :
    Calls Try.prog 21 #[.slice A l.length c, .int .i64 n] w (New w (l ++ dg n.toNat)) := by
  have HR := Lib.hid hr; clear hr
  by_cases hn : n < 0
  · have e : n.toNat = (0 : Int).toNat := by omega
    rw [e]; clear e
    go_enter Try.func21, Try.ntmps21
    go_wp2_with (first
      | ((with_reducible refine (copy_any A c l 10 _ B HR.out hB (by omega) (by omega) (by omega)).mono ?_); rintro e w1 ⟨l1, A1, c1, HL1, rfl, HO1, HB1⟩)
      | ((with_reducible refine (wd_any _ _ w.heap.size A1 c1 l1 (by omega) (by omega) HO1.out (by have := room_of HL1.out hl; omega) HB1.out.size).mono ?_); rintro e w2 ⟨l2, A2, c2, HL2, rfl, HO2, HS2⟩))
    go_ret
    exact ⟨l2, A2, c2, by rw [← HL1.out]; exact HL2, rfl, HO2, new_step HB1.out HO1.out HS2.out⟩
  · have hn' : decide (n < 0) = false := by simpa using hn
    have hp : 0 ≤ n := by omega
    clear h0
    go_enter Try.func21, Try.ntmps21
    go_wp2_with (first
      | ((with_reducible refine (copy_any A c l 10 _ B HR.out hB (by omega) (by omega) (by omega)).mono ?_); rintro e w1 ⟨l1, A1, c1, HL1, rfl, HO1, HB1⟩)
      | ((with_reducible refine (wd_any _ _ w.heap.size A1 c1 l1 (by omega) (by omega) HO1.out (by have := room_of HL1.out hl; omega) HB1.out.size).mono ?_); rintro e w2 ⟨l2, A2, c2, HL2, rfl, HO2, HS2⟩))
    go_ret
    exact ⟨l2, A2, c2, by rw [← HL1.out]; exact HL2, rfl, HO2, new_step HB1.out HO1.out HS2.out⟩

set_option maxHeartbeats 400000 in
theorem ruint_any (A : Option Addr) (c : Nat) (l : List Int) (n : Int) (w : World) (B : Nat) (hr : Rd .u8 w B A l) (hB : B ≤ w.heap.size) (hl : (l.length : Int) ≤ 90000) (h0 : -9223372036854775808 ≤ n) (h1 : n ≤ 9223372036854775807) :
    Calls Try.prog 22 #[.slice A l.length c, .int .i64 n] w (New w (l ++ dg n.toNat)) := by
  have HR := Lib.hid hr; clear hr
  by_cases hn : n < 0
  · have e : n.toNat = (0 : Int).toNat := by omega
    rw [e]; clear e
    go_enter Try.func22, Try.ntmps22
    go_wp2_with (first
      | ((with_reducible refine (front_any A c l _ B HR.out hB (by omega)).mono ?_); rintro e w1 ⟨l1, A1, c1, HL1, rfl, HO1, HB1⟩)
      | ((with_reducible refine (dd_any _ _ w.heap.size A1 c1 l1 (by omega) (by omega) HO1.out (by have := room_of HL1.out hl; omega) HB1.out.size).mono ?_); rintro e w2 ⟨l2, A2, c2, HL2, rfl, HO2, HS2⟩))
    go_ret
    exact ⟨l2, A2, c2, by rw [← HL1.out]; exact HL2, rfl, HO2, new_step HB1.out HO1.out HS2.out⟩
  · have hn' : decide (n < 0) = false := by simpa using hn
    have hp : 0 ≤ n := by omega
    clear h0
    go_enter Try.func22, Try.ntmps22
    go_wp2_with (first
      | ((with_reducible refine (front_any A c l _ B HR.out hB (by omega)).mono ?_); rintro e w1 ⟨l1, A1, c1, HL1, rfl, HO1, HB1⟩)
      | ((with_reducible refine (dd_any _ _ w.heap.size A1 c1 l1 (by omega) (by omega) HO1.out (by have := room_of HL1.out hl; omega) HB1.out.size).mono ?_); rintro e w2 ⟨l2, A2, c2, HL2, rfl, HO2, HS2⟩))
    go_ret
    exact ⟨l2, A2, c2, by rw [← HL1.out]; exact HL2, rfl, HO2, new_step HB1.out HO1.out HS2.out⟩

end Go.Proofs.Ytcefkjeoknaijaa.Con
