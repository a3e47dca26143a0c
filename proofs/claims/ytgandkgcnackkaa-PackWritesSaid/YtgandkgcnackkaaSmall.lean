/-
  The small case that each law begins with comes out right; it makes only new memory.
-/
import Derived.Test.YtgandkgcnackkaaNum
import Derived.Test.YtgandkgcnackkaaWri
namespace Go.Proofs.Ytgandkgcnackkaa.Con
open Go.RowKit Mth Mem

theorem byt_of {l : List Int} (h : l.all (fun x => decide (0 ≤ x) && decide (x < 256)) = true) : Byt l := by
  intro x hx
  have := List.all_eq_true.1 h x hx
  simpa using this

theorem s_ru1 (w : World) : Calls Try.prog 18 #[.slice (some ⟨w.heap.size, 0, none⟩) 3 3, .int .i64 1] (w.alloc (.cells #[.int .u8 9, .int .u8 172, .int .u8 2] 5)) fun e w' => e = .returned (.tuple #[.int .i64 300, .int .i64 3, .int .i64 0]) ∧ w.alloc (.cells #[.int .u8 9, .int .u8 172, .int .u8 2] 5) = w' :=
  ru_yes _ 3 [9, 172, 2] 1 _ (w.heap.size + 1) (rd_new w [9, 172, 2] #[.int .u8 9, .int .u8 172, .int .u8 2] 5 rfl) (by simp) (byt_of (by decide)) (by omega) (by decide)
theorem s_ru2 (w : World) (g : Nat) (hg : w.heap.size = g) : Calls Try.prog 18 #[.slice (some ⟨g, 0, none⟩) 2 2, .int .i64 0] (w.alloc (.cells #[.int .u8 128, .int .u8 0] 5)) fun e w' => e = .returned (.tuple #[.int .i64 0, .int .i64 0, .int .i64 2]) ∧ w.alloc (.cells #[.int .u8 128, .int .u8 0] 5) = w' := by
  subst hg
  exact ru_no _ 2 [128, 0] 0 _ (w.heap.size + 1) (rd_new w [128, 0] #[.int .u8 128, .int .u8 0] 5 rfl) (by simp) (byt_of (by decide)) (by omega) (by decide)

theorem uint_nil (n : Int) (w : World) (h0 : -9223372036854775808 ≤ n) (h1 : n ≤ 9223372036854775807) : Calls Try.prog 9 #[.slice none 0 0, .int .i64 n] w (New w (dg n.toNat)) :=
  uint_any none 0 [] n w 0 Rd.nil (Nat.zero_le _) (by simp) h0 h1
theorem int_nil (n : Int) (w : World) (h0 : -9223372036854775808 ≤ n) (h1 : n ≤ 9223372036854775807) : Calls Try.prog 10 #[.slice none 0 0, .int .i64 n] w (New w (dg (sg n).toNat)) :=
  int_any none 0 [] n w 0 Rd.nil (Nat.zero_le _) (by simp) h0 h1
theorem text_nil (s : ByteArray) (w : World) (hs : (s.size : Int) ≤ 90000) : Calls Try.prog 11 #[.slice none 0 0, .string s] w (New w (dg s.size ++ sb s)) :=
  text_any none 0 [] s w 0 Rd.nil (Nat.zero_le _) (by simp) hs

theorem s300 : dg 300 = [172, 2] := by rw [dg_ge (by omega), dg_lt (by omega)]; rfl
theorem s1 : dg 1 = [1] := by rw [dg_lt (by omega)]; rfl
theorem s2 : dg 2 = [2] := by rw [dg_lt (by omega)]; rfl
theorem st : dg (ByteArray.size ⟨#[97, 98]⟩) ++ sb ⟨#[97, 98]⟩ = [2, 97, 98] := by
  show dg 2 ++ [97, 98] = _
  rw [s2]; rfl
theorem eq_text {l m : List Int} (h : l = m) (s : List UInt8) (hs : (strOfNums m).toList = s) : ((strOfNums l).toList == s) = true := by subst h; subst hs; simp

set_option maxHeartbeats 1000000 in
theorem small_any (w : World) : Calls Try.prog 7 #[] w fun e w' => e = .returned (.bool true) ∧ Below w.heap.size w w' := by
  go_enter Try.func7, Try.ntmps7
  go_wp2_with (first
    | ((with_reducible refine (s_ru1 _).mono ?_); rintro e w' ⟨rfl, rfl⟩)
    | ((with_reducible refine (s_ru2 _ _ (by simp)).mono ?_); rintro e w' ⟨rfl, rfl⟩)
    | ((with_reducible refine (uint_nil 300 _ (by omega) (by omega)).mono ?_); rintro e w1 ⟨l1, A1, c1, HL1, rfl, HO1, HB1⟩; have hc1 := conv c1 (Rd.of_own HO1.out); have he1 := eq_text (HL1.out.trans s300) [172, 2] (by kernel_rfl))
    | ((with_reducible refine (int_nil (-1) _ (by omega) (by omega)).mono ?_); rintro e w2 ⟨l2, A2, c2, HL2, rfl, HO2, HB2⟩; have hc2 := conv c2 (Rd.of_own HO2.out); have he2 := eq_text (HL2.out.trans s1) [1] (by kernel_rfl))
    | ((with_reducible refine (int_nil 1 _ (by omega) (by omega)).mono ?_); rintro e w3 ⟨l3, A3, c3, HL3, rfl, HO3, HB3⟩; have hc3 := conv c3 (Rd.of_own HO3.out); have he3 := eq_text (HL3.out.trans s2) [2] (by kernel_rfl))
    | ((with_reducible refine (text_nil ⟨#[97, 98]⟩ _ (by decide)).mono ?_); rintro e w4 ⟨l4, A4, c4, HL4, rfl, HO4, HB4⟩; have hc4 := conv c4 (Rd.of_own HO4.out); have he4 := eq_text (HL4.out.trans st) [2, 97, 98] (by kernel_rfl)))
  go_ret
  refine ⟨rfl, ?_⟩
  have k1 := ((Below.refl w.heap.size w).alloc (Nat.le_refl _) (.cells #[.int .u8 9, .int .u8 172, .int .u8 2] 5)).alloc (by simp) (.cells #[.int .u8 128, .int .u8 0] 5)
  have k2 := k1.trans (HB1.out.mono (by simp; omega))
  have k3 := k2.trans (HB2.out.mono k2.size)
  have k4 := k3.trans (HB3.out.mono k3.size)
  exact k4.trans (HB4.out.mono k4.size)
end Go.Proofs.Ytgandkgcnackkaa.Con
