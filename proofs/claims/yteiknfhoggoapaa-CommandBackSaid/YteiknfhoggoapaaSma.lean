/-
  The laws' small case comes out right.
-/
import Derived.Test.YteiknfhoggoapaaCmg
namespace Go.Proofs.Yteiknfhoggoapaa.Con
open Go.RowKit Pm Mth
set_option linter.unusedVariables false

theorem bytes_new (w : World) (l : List Int) (cs : Array Value) (n : Nat) (h : cs.toList = vs .u8 l) : Rd .u8 (w.alloc (.cells cs 5)) (w.heap.size + 1) (some ⟨w.heap.size, 0, none⟩) l := rd_new w l cs 5 h
theorem m3_load : rtB ⟨2, [], 3, -1⟩ = true ∧ enL ⟨2, [], 3, -1⟩ = [2, 6, 1] ∧ enE ⟨2, [], 3, -1⟩ = 0 := by
  have h : rtB ⟨2, [], 3, -1⟩ = true := by decide
  refine ⟨h, ?_, ?_⟩
  · rw [enL, if_pos h]
    simp only [ld, tl, List.nil_append]
    rw [show twoB 2 = true from rfl, if_pos rfl, show (sg 3).toNat = 6 from rfl, show (sg (-1)).toNat = 1 from rfl, dg_lt (by omega), dg_lt (by omega)]
    rfl
  · rw [enE, if_pos h]
theorem ab_load : deC [1, 97, 98] = ⟨1, [97, 98], 0, 0⟩ ∧ deE [1, 97, 98] = 0 := by
  have hs : say [1, 97, 98] = ⟨1, [97, 98], 0, 0⟩ := by simp [say, twoB]
  have h1 : rtB (say [1, 97, 98]) = true := by rw [hs]; decide
  have h2 : ld (say [1, 97, 98]) = [1, 97, 98] := by rw [hs]; simp [ld, tl, twoB]
  rw [← hs]
  exact de_good h1 h2
theorem st_load : deC [4, 0] = zC ∧ deE [4, 0] = 2 := by
  have hs : say [4, 0] = ⟨4, [], 0, 0⟩ := by simp [say, twoB]
  exact de_other (by rw [hs]; simp [ld, tl, twoB])
set_option maxRecDepth 20000 in
set_option maxHeartbeats 2000000 in
theorem small_any (w : World) : Calls Try.prog 6 #[] w fun e w' => e = .returned (.bool true) ∧ Below w.heap.size w w' := by
  have HE : Hid (Calls Try.prog 7 #[.agg #[.int .i64 2, .string { data := #[] }, .int .i64 3, .int .i64 (-1)]] w (EA w ⟨2, [], 3, -1⟩)) := Lib.hid (encode_any ⟨2, [], 3, -1⟩ ⟨by simp, Byt.nil, by simp, by simp⟩ (by simp) w)
  go_enter Try.func6, Try.ntmps6
  go_wp2_with (fail)
  (with_reducible refine HE.out.mono ?_); rintro e w1 ⟨l1, A1, c1, HL1, rfl, HO1, HB1⟩
  rw [m3_load.2.1] at HL1
  rw [m3_load.2.2]
  obtain rfl := HL1.out
  have HR2 := Lib.hid (bytes_new w1 [1, 97, 98] #[.int .u8 1, .int .u8 97, .int .u8 98] 0 rfl)
  have hd2 := decode_any (some ⟨w1.heap.size, 0, none⟩) 3 [1, 97, 98] (w1.alloc (.cells #[.int .u8 1, .int .u8 97, .int .u8 98] 5)) (w1.heap.size + 1) HR2.out (by simp) (by simp) (by intro x hx; simp at hx; omega) (by simp)
  rw [ab_load.1, ab_load.2] at hd2
  have HD2 : Hid (Calls Try.prog 13 #[.slice (some ⟨w1.heap.size, 0, none⟩) 3 3] (w1.alloc (.cells #[.int .u8 1, .int .u8 97, .int .u8 98] 5)) fun e w' => e = .returned (.tuple #[.agg #[.int .i64 1, .string (strOfNums [97, 98]), .int .i64 0, .int .i64 0], .int .i64 0]) ∧ Below (w1.alloc (.cells #[.int .u8 1, .int .u8 97, .int .u8 98] 5)).heap.size (w1.alloc (.cells #[.int .u8 1, .int .u8 97, .int .u8 98] 5)) w') := Lib.hid hd2
  have HV2 : Hid (Below w1.heap.size w1 (w1.alloc (.cells #[.int .u8 1, .int .u8 97, .int .u8 98] 5))) := Lib.hid (by go_grown)
  clear hd2
  go_wp2_with (fail)
  generalize w1.alloc (.cells #[.int .u8 1, .int .u8 97, .int .u8 98] 5) = w2 at *
  (with_reducible refine HD2.out.mono ?_); rintro e w3 ⟨rfl, hB3⟩
  have HV3 : Hid (Below w1.heap.size w1 w3) := Lib.hid (HV2.out.trans (hB3.mono HV2.out.size))
  have HV4 : Hid (Below w1.heap.size w1 (w3.alloc (oC ⟨1, [97, 98], 0, 0⟩))) := Lib.hid (HV3.out.alloc HV3.out.size _)
  have HX4 : Hid (Bx (w3.alloc (oC ⟨1, [97, 98], 0, 0⟩)) w3.heap.size ⟨1, [97, 98], 0, 0⟩) := Lib.hid (heap_alloc_new w3 _)
  have HX5 := Lib.hid (HX4.out.alloc (.cells #[.int .u8 4, .int .u8 0] 5))
  have HV5 := Lib.hid (HV4.out.alloc HV4.out.size (.cells #[.int .u8 4, .int .u8 0] 5))
  have hsz4 : (w3.alloc (oC ⟨1, [97, 98], 0, 0⟩)).heap.size = w3.heap.size + 1 := by simp
  have hr5 := bytes_new (w3.alloc (oC ⟨1, [97, 98], 0, 0⟩)) [4, 0] #[.int .u8 4, .int .u8 0] 0 rfl
  rw [hsz4] at hr5
  have hd5 := decode_any (some ⟨w3.heap.size + 1, 0, none⟩) 2 [4, 0] ((w3.alloc (oC ⟨1, [97, 98], 0, 0⟩)).alloc (.cells #[.int .u8 4, .int .u8 0] 5)) (w3.heap.size + 2) hr5 (by simp) (by simp) (by intro x hx; simp at hx; omega) (by simp)
  rw [st_load.1, st_load.2] at hd5
  have HD5 : Hid (Calls Try.prog 13 #[.slice (some ⟨w3.heap.size + 1, 0, none⟩) 2 2] ((w3.alloc (oC ⟨1, [97, 98], 0, 0⟩)).alloc (.cells #[.int .u8 4, .int .u8 0] 5)) fun e w' => e = .returned (.tuple #[.agg #[.int .i64 0, .string { data := #[] }, .int .i64 0, .int .i64 0], .int .i64 2]) ∧ Below ((w3.alloc (oC ⟨1, [97, 98], 0, 0⟩)).alloc (.cells #[.int .u8 4, .int .u8 0] 5)).heap.size ((w3.alloc (oC ⟨1, [97, 98], 0, 0⟩)).alloc (.cells #[.int .u8 4, .int .u8 0] 5)) w') := Lib.hid hd5
  clear hd5 hr5 hsz4 hB3
  go_wp2_with (fail)
  generalize (w3.alloc (.cells #[.int .i64 1, .string (strOfNums [97, 98]), .int .i64 0, .int .i64 0] 23)).alloc (.cells #[.int .u8 4, .int .u8 0] 5) = w5 at *
  have hq5 : w3.heap.size < w5.heap.size := lt_of_block HX5.out
  (with_reducible refine HD5.out.mono ?_); rintro e w6 ⟨rfl, hB6⟩
  have HX6 := Lib.hid (HX5.out.of hB6 hq5)
  have HV6 : Hid (Below w1.heap.size w1 w6) := Lib.hid (HV5.out.trans (hB6.mono HV5.out.size))
  have hq6 : w3.heap.size < w6.heap.size := lt_of_block HX6.out
  have HV7 := Lib.hid (HV6.out.alloc HV6.out.size (.cells #[.int .i64 0, .string { data := #[] }, .int .i64 0, .int .i64 0] 23))
  obtain ⟨z0, z1, z2, z3⟩ := HX6.out.at
  simp only at z0 z1 z2 z3
  rw [show strOfNums [97, 98] = { data := #[97, 98] } from rfl] at z1
  have hcv := conv c1 (own_rd (HO1.out.below HV7.out (Nat.le_refl _)))
  rw [show strOfNums [2, 6, 1] = { data := #[2, 6, 1] } from rfl] at hcv
  simp only [List.length_cons, List.length_nil] at hcv
  have HN1 : Hid (∀ V, Calls Try.prog 11 #[.string { data := #[97, 45, 66, 57] }] V fun e w' => e = .returned (.bool true) ∧ V = w') := Lib.hid (fun V => name_any [97, 45, 66, 57] (by intro x hx; simp at hx; omega) (by simp) V)
  have HN2 : Hid (∀ V, Calls Try.prog 11 #[.string { data := #[97, 32, 98] }] V fun e w' => e = .returned (.bool false) ∧ V = w') := Lib.hid (fun V => name_any [97, 32, 98] (by intro x hx; simp at hx; omega) (by simp) V)
  clear hB6
  go_wp2_with (first
    | ((with_reducible refine (HN1.out _).mono ?_); rintro e w8 ⟨rfl, rfl⟩)
    | ((with_reducible refine (HN2.out _).mono ?_); rintro e w8 ⟨rfl, rfl⟩))
  go_ret
  exact ⟨rfl, below_more HB1.out HV7.out⟩
end Go.Proofs.Yteiknfhoggoapaa.Con
