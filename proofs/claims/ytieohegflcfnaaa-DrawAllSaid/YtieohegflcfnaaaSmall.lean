/-
  The small case that each law begins with comes out right; it makes only new memory.
-/
import Derived.Test.YtieohegflcfnaaaPik
namespace Go.Proofs.Ytieohegflcfnaaa.Con
open Go.RowKit Mth Mem

theorem Went.get {w w' : World} {base : Nat} {t : TypeId} {g : Nat} {r : Option Nat} {l l' : List Int} (h : Went w w' base t g r l') (hs : Str w base t g r l) : ∃ r', Str w' base t g r' l' ∧ Below base w w' ∧ w.heap.size ≤ w'.heap.size :=
  let ⟨r', h1, h2, _⟩ := h
  ⟨r', h1, Went.below h hs, h2.size⟩

theorem far_new {w : World} {base : Nat} {t : TypeId} {g : Nat} {r : Option Nat} {l : List Int} (h : Str w base t g r l) : ∀ b off, (some ⟨w.heap.size, 0, none⟩ : Option Addr) = some ⟨b, off, none⟩ → b ≠ g ∧ some b ≠ r := by
  intro b off e
  injection e with e
  injection e with e1 _
  subst e1
  have := h.lt
  refine ⟨by omega, fun e => ?_⟩
  have := (this.2.2 _ e.symm).2
  omega

set_option maxHeartbeats 1000000 in
theorem small_any (w : World) : Calls Try.prog 8 #[] w fun e w' => e = .returned (.bool true) ∧ Below w.heap.size w w' := by
  have HS0 := Lib.hid (Str.alloc (str_new w w.heap.size 50 (Nat.le_refl _)) (.cells #[.int .i64 7, .int .i64 8, .int .i64 5] 3))
  have HR0 := Lib.hid (rd_new (w.alloc (.cells #[.slice none 0 0] 50)) [7, 8, 5] #[.int .i64 7, .int .i64 8, .int .i64 5] rfl)
  go_enter Try.func8, Try.ntmps8
  go_wp2_with (first
    | ((with_reducible refine (new_any _).mono ?_); rintro e w' ⟨rfl, rfl⟩)
    | ((with_reducible refine (s_feed _ w.heap.size w.heap.size _ _ HS0.out (by simpa using HR0.out) (by simp; omega)).mono ?_); rintro e w1 ⟨rfl, hw⟩; obtain ⟨r1, hs1, hb1, hz1⟩ := Went.get hw HS0.out; have HS1 := Lib.hid hs1; have HB1 := Lib.hid hb1; clear hs1 hb1 hw)
    | ((with_reducible refine (s_b5 _ w.heap.size w.heap.size r1 HS1.out).mono ?_); rintro e w2 ⟨rfl, hw⟩; obtain ⟨r2, hs2, hb2, hz2⟩ := Went.get hw HS1.out; have HS2 := Lib.hid hs2; have HB2 := Lib.hid hb2; clear hs2 hb2 hw)
    | ((with_reducible refine (s_left _ w.heap.size w.heap.size r2 HS2.out).mono ?_); rintro e w' ⟨rfl, rfl⟩)
    | ((with_reducible refine (s_fair _ _ _ (rd_new w2 [4294967295, 1] #[.int .i64 4294967295, .int .i64 1] rfl)).mono ?_); rintro e w' ⟨rfl, rfl⟩; have HS2' := Lib.hid (Str.alloc HS2.out (.cells #[.int .i64 4294967295, .int .i64 1] 3)))
    | ((with_reducible refine (s_b9 _ w.heap.size w.heap.size r2 HS2'.out).mono ?_); rintro e w3 ⟨rfl, hw⟩; obtain ⟨r3, hs3, hb3, hz3⟩ := Went.get hw HS2'.out; have HS3 := Lib.hid hs3; have HB3 := Lib.hid hb3; have HS3' := Lib.hid (Str.alloc hs3 (.cells #[.int .i64 0, .int .i64 4, .int .i64 3] 3)); clear hs3 hb3 hw)
    | ((with_reducible refine (s_pick _ w.heap.size w.heap.size r3 _ _ HS3'.out (rd_new w3 [0, 4, 3] #[.int .i64 0, .int .i64 4, .int .i64 3] rfl) (by simp) (far_new HS3.out)).mono ?_); rintro e w4 ⟨rfl, hw⟩; obtain ⟨r4, hs4, hb4, hz4⟩ := Went.get hw HS3'.out; have HS4 := Lib.hid hs4; have HB4 := Lib.hid hb4; have HS4' := Lib.hid (Str.alloc hs4 (.cells #[.int .i64 (-1)] 3)); clear hs4 hb4 hw)
    | ((with_reducible refine (s_bad _ w.heap.size w.heap.size r4 [] _ _ HS4'.out (rd_new w4 [-1] #[.int .i64 (-1)] rfl) (by decide) (Nat.le_of_lt HS4'.out.lt.2.1)).mono ?_); rintro e w5 ⟨rfl, hw⟩; obtain ⟨r5, hs5, hb5, hz5⟩ := Went.get hw HS4'.out; have HB5 := Lib.hid hb5; clear hs5 hb5 hw))
  go_ret
  refine ⟨rfl, ?_⟩
  have k1 := (((Below.refl w.heap.size w).alloc (Nat.le_refl _) (.cells #[.slice none 0 0] 50)).alloc (by simp) (.cells #[.int .i64 7, .int .i64 8, .int .i64 5] 3)).trans HB1.out
  have k2 := ((k1.trans HB2.out).alloc (Nat.le_of_lt HS2.out.lt.2.1) (.cells #[.int .i64 4294967295, .int .i64 1] 3)).trans HB3.out
  have k3 := (k2.alloc (Nat.le_of_lt HS3.out.lt.2.1) (.cells #[.int .i64 0, .int .i64 4, .int .i64 3] 3)).trans HB4.out
  exact (k3.alloc (Nat.le_of_lt HS4.out.lt.2.1) (.cells #[.int .i64 (-1)] 3)).trans HB5.out
end Go.Proofs.Ytieohegflcfnaaa.Con
