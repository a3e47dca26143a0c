/-
  The laws' small case comes out right.
-/
import Derived.Test.YtadpajkjjmdcnaaDoorMsf
namespace Go.Proofs.YtadpajkjjmdcnaaDoor.Con
open Go.RowKit Pm Mth
set_option linter.unusedVariables false

theorem bytes_new (w : World) (l : List Int) (cs : Array Value) (h : cs.toList = vs .u8 l) : Rd .u8 (w.alloc (.cells cs 5)) (w.heap.size + 1) (some ⟨w.heap.size, 0, none⟩) l := rd_new w l cs 5 h
theorem field_load : rtM ⟨6, [7, 2, -1], []⟩ = true ∧ enL ⟨6, [7, 2, -1], []⟩ = [6, 14, 4, 1] ∧ enE ⟨6, [7, 2, -1], []⟩ = 0 := by
  have h : rtM ⟨6, [7, 2, -1], []⟩ = true := by decide
  refine ⟨h, ?_, (en_yes h).2⟩
  rw [(en_yes h).1]
  simp only [ldM, wl]
  rw [show (sg 7).toNat = 14 from rfl, show (sg 2).toNat = 4 from rfl, show (sg (-1)).toNat = 1 from rfl, dg_lt (by omega), dg_lt (by omega), dg_lt (by omega)]
  rfl
theorem fm_field : FM ⟨6, [7, 2, -1], []⟩ := ⟨by simp, by intro x hx; simp at hx; omega, Byt.nil⟩
theorem fm_reset : FM ⟨3, [], []⟩ := ⟨by simp, Fit.nil, Byt.nil⟩
theorem reset_load : deO [3] = some ⟨3, [], []⟩ := de_ld (m := ⟨3, [], []⟩) fm_reset (by decide)
theorem long_load : deO [3, 97] = none := by
  have hs : say [3, 97] = some ⟨3, [], [97]⟩ := by rfl
  exact de_bad hs (by decide)
theorem reset_dec : deC [3] = ⟨3, [], []⟩ ∧ deE [3] = 0 := ⟨(de_some reset_load).1.symm, (de_some reset_load).2.symm⟩
theorem long_dec : deC [3, 97] = zM ∧ deE [3, 97] = 2 := ⟨(de_zero long_load).1.symm, (de_zero long_load).2.symm⟩
theorem own_cap {w : World} {base : Nat} {K : IntKind} {e : TypeId} {A : Option Addr} {c : Nat} {l : List Int} (h : Own w base K e A c l) : l.length ≤ c := by
  rcases h.2 with ⟨hv, h0⟩ | ⟨g, cap, cur, hv, _, _, hn, _⟩
  · injection hv with _ h1 h2; omega
  · injection hv with _ h1 h2; omega
set_option maxRecDepth 20000 in
set_option maxHeartbeats 2000000 in
theorem small_any (w : World) (hS : Sz w) : Calls Tryd.prog 6 #[] w fun e w' => e = .returned (.bool true) ∧ Below w.heap.size w w' := by
  have HV1 : Hid (Below w.heap.size w (w.alloc (.cells #[.int .i64 7, .int .i64 2, .int .i64 (-1)] 3))) := Lib.hid (by go_grown)
  have HS1 := Lib.hid (hS.keep HV1.out hS.pos)
  have hr1 : Rd .i64 (w.alloc (.cells #[.int .i64 7, .int .i64 2, .int .i64 (-1)] 3)) (w.heap.size + 1) (some ⟨w.heap.size, 0, none⟩) [7, 2, -1] := rd_new w [7, 2, -1] _ 3 rfl
  have HE : Hid (Calls Tryd.prog 8 #[.agg #[.int .i64 6, .slice (some ⟨w.heap.size, 0, none⟩) 3 3, .string { data := #[] }]] (w.alloc (.cells #[.int .i64 7, .int .i64 2, .int .i64 (-1)] 3)) (EA (w.alloc (.cells #[.int .i64 7, .int .i64 2, .int .i64 (-1)] 3)) ⟨6, [7, 2, -1], []⟩)) := Lib.hid (encode_any ⟨6, [7, 2, -1], []⟩ (some ⟨w.heap.size, 0, none⟩) 3 _ _ hr1 (by simp) fm_field (by simp) (by simp) HS1.out)
  clear hr1 hS
  go_enter Tryd.func6, Tryd.ntmps6
  go_wp2_with (fail)
  generalize w.alloc (.cells #[.int .i64 7, .int .i64 2, .int .i64 (-1)] 3) = w1 at *
  (with_reducible refine HE.out.mono ?_); rintro e w2 ⟨l1, A1, c1, HL1, rfl, HO1, HB2⟩
  rw [field_load.2.1] at HL1
  rw [field_load.2.2]
  obtain rfl := HL1.out
  have HS2 := Lib.hid (HS1.out.keep HB2.out HS1.out.pos)
  have HV2 : Hid (Below w.heap.size w w2) := Lib.hid (below_more HV1.out HB2.out)
  have HV3 : Hid (Below w2.heap.size w2 (w2.alloc (.cells #[.int .u8 3] 5))) := Lib.hid (by go_grown)
  have hd3 := decode_any (some ⟨w2.heap.size, 0, none⟩) 1 [3] (w2.alloc (.cells #[.int .u8 3] 5)) (w2.heap.size + 1) (bytes_new w2 [3] #[.int .u8 3] rfl) (by simp) (by simp) (by intro x hx; simp at hx; omega) (by simp) (HS2.out.keep HV3.out HS2.out.pos)
  have HD3 : Hid (Calls Tryd.prog 17 #[.slice (some ⟨w2.heap.size, 0, none⟩) 1 1] (w2.alloc (.cells #[.int .u8 3] 5)) (DA (w2.alloc (.cells #[.int .u8 3] 5)) [3])) := Lib.hid hd3
  have HO3 := Lib.hid (HO1.out.below HV3.out (Nat.le_refl _))
  have HS3 := Lib.hid (HS2.out.keep HV3.out HS2.out.pos)
  clear hd3
  go_wp2_with (fail)
  generalize w2.alloc (.cells #[.int .u8 3] 5) = w3 at *
  (with_reducible refine HD3.out.mono ?_); rintro e w4 ⟨A4, c4, m4, e4, HD4, rfl, HO4, HB4⟩
  have hd4 := HD4.out
  rw [reset_dec.1, reset_dec.2] at hd4
  obtain ⟨rfl, rfl⟩ := hd4
  have HV4 : Hid (Below w.heap.size w w4) := Lib.hid (below_more (below_more HV2.out HV3.out) HB4.out)
  have HQ4 := Lib.hid (HO3.out.below HB4.out (Nat.le_refl _))
  have HS4 := Lib.hid (HS3.out.keep HB4.out HS3.out.pos)
  have HX5 : Hid (Bx (w4.alloc (oM ⟨3, [], []⟩ A4 c4)) w4.heap.size ⟨3, [], []⟩ A4 c4) := Lib.hid (heap_alloc_new w4 _)
  have HB5 : Hid (Below w4.heap.size w4 (w4.alloc (oM ⟨3, [], []⟩ A4 c4))) := Lib.hid (by go_grown)
  have hs5 : (w4.alloc (oM ⟨3, [], []⟩ A4 c4)).heap.size = w4.heap.size + 1 := by simp
  have HB6 : Hid (Below w4.heap.size w4 ((w4.alloc (oM ⟨3, [], []⟩ A4 c4)).alloc (.cells #[.int .u8 3, .int .u8 97] 5))) := Lib.hid (by go_grown)
  have HX6 := Lib.hid (HX5.out.alloc (.cells #[.int .u8 3, .int .u8 97] 5))
  have hr6 := bytes_new (w4.alloc (oM ⟨3, [], []⟩ A4 c4)) [3, 97] #[.int .u8 3, .int .u8 97] rfl
  rw [hs5] at hr6
  have hd6 := decode_any (some ⟨w4.heap.size + 1, 0, none⟩) 2 [3, 97] ((w4.alloc (oM ⟨3, [], []⟩ A4 c4)).alloc (.cells #[.int .u8 3, .int .u8 97] 5)) (w4.heap.size + 2) hr6 (by simp) (by simp) (by intro x hx; simp at hx; omega) (by simp) (HS4.out.keep HB6.out HS4.out.pos)
  have HD6 : Hid (Calls Tryd.prog 17 #[.slice (some ⟨w4.heap.size + 1, 0, none⟩) 2 2] ((w4.alloc (.cells #[.int .i64 3, .slice A4 0 c4, .string (strOfNums [])] 24)).alloc (.cells #[.int .u8 3, .int .u8 97] 5)) (DA ((w4.alloc (.cells #[.int .i64 3, .slice A4 0 c4, .string (strOfNums [])] 24)).alloc (.cells #[.int .u8 3, .int .u8 97] 5)) [3, 97])) := Lib.hid hd6
  clear hd6 hr6 hs5
  go_wp2_with (fail)
  generalize (w4.alloc (.cells #[.int .i64 3, .slice A4 0 c4, .string (strOfNums [])] 24)).alloc (.cells #[.int .u8 3, .int .u8 97] 5) = w6 at *
  (with_reducible refine HD6.out.mono ?_); rintro e w7 ⟨A7, c7, m7, e7, HD7, rfl, HO7, HB7⟩
  have hd7 := HD7.out
  rw [long_dec.1, long_dec.2] at hd7
  obtain ⟨rfl, rfl⟩ := hd7
  have HV8 : Hid (Below w7.heap.size w7 (w7.alloc (oM zM A7 c7))) := Lib.hid (by go_grown)
  have HB47 : Hid (Below w4.heap.size w4 (w7.alloc (oM zM A7 c7))) := Lib.hid (below_more (below_more HB6.out HB7.out) HV8.out)
  have HX8 := Lib.hid ((HX6.out.of HB7.out HX6.out.lt).alloc (oM zM A7 c7))
  have HS8 := Lib.hid (HS4.out.keep HB47.out HS4.out.pos)
  have hcv := conv c1 (own_rd (HQ4.out.below HB47.out (Nat.le_refl _)))
  rw [show strOfNums [6, 14, 4, 1] = { data := #[6, 14, 4, 1] } from rfl] at hcv
  simp only [List.length_cons, List.length_nil] at hcv
  obtain ⟨z0, z1, z2⟩ := HX8.out.at
  simp only at z0 z1 z2
  have HSz : Hid (Calls Tryd.prog 10 #[.int .i64 4] (w7.alloc (oM zM A7 c7)) fun e w' => e = .returned (.tuple #[.int .i64 10, .bool true]) ∧ (w7.alloc (oM zM A7 c7)) = w') := Lib.hid (size_any 4 _ HS8.out (by omega) (by omega))
  have HSm : Hid (Calls Tryd.prog 14 #[.agg #[.int .i64 3, .slice A4 0 c4, .string (strOfNums [])], .agg #[.int .i64 3, .slice none 0 0, .string { data := #[] }]] (w7.alloc (oM zM A7 c7)) fun e w' => e = .returned (.bool true) ∧ Below (w7.alloc (oM zM A7 c7)).heap.size (w7.alloc (oM zM A7 c7)) w') := Lib.hid (same_any ⟨3, [], []⟩ ⟨3, [], []⟩ A4 c4 none 0 _ 0 Rd.nil Rd.nil (Nat.zero_le _) fm_reset fm_reset (by simp) true (by simp))
  go_wp2_with (first
    | ((with_reducible refine HSz.out.mono ?_); rintro e w8 ⟨rfl, rfl⟩)
    | ((with_reducible refine HSm.out.mono ?_); rintro e w8 ⟨rfl, hB8⟩; have HB8 := Lib.hid hB8; clear hB8))
  go_ret
  exact ⟨rfl, below_more (below_more HV4.out HB47.out) HB8.out⟩
end Go.Proofs.YtadpajkjjmdcnaaDoor.Con
