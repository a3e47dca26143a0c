/-
  Contracts of bytes.Equal, of the program's read and Decode, and of the document's Decode.
-/
import Derived.Test.YteiknfhoggoapaaCme
import Derived.Test.YteiknfhoggoapaaPnu
namespace Go.Proofs.Yteiknfhoggoapaa.Con
open Go.RowKit Pm Mth
set_option linter.unusedVariables false

theorem ri_say (A : Option Addr) (c : Nat) (l : List Int) (a : Int) (w : World) (B : Nat) (hr : Rd .u8 w B A l) (hl : (l.length : Int) ≤ 10000000) (hb : Byt l) (h1 : a ≤ 9223372036854775807) :
    Calls Try.prog 29 #[.slice A l.length c, .int .i64 a] w fun e w' => ∃ er, e = .returned (.tuple #[.int .i64 (riV (ri l a)), .int .i64 (riK a (ri l a)), .int .i64 er]) ∧ w = w' :=
  (Pk.ri_any A c l a w B hr hl hb h1).mono (by
    rintro e w' ⟨rfl, rfl⟩
    rcases ri l a with _ | ⟨v, k⟩
    · exact ⟨2, rfl, rfl⟩
    · exact ⟨0, rfl, rfl⟩)
theorem rri_say (A : Option Addr) (c : Nat) (l : List Int) (a : Int) (w : World) (B : Nat) (hr : Rd .u8 w B A l) (hl : (l.length : Int) ≤ 10000000) (hb : Byt l) (h1 : a ≤ 9223372036854775807) :
    Calls Try.prog 22 #[.slice A l.length c, .int .i64 a] w fun e w' => ∃ er, e = .returned (.tuple #[.int .i64 (riV (ri l a)), .int .i64 (riK a (ri l a)), .int .i64 er]) ∧ w = w' :=
  (Pk.rri_any A c l a w B hr hl hb h1).mono (by
    rintro e w' ⟨rfl, rfl⟩
    rcases ri l a with _ | ⟨v, k⟩
    · exact ⟨2, rfl, rfl⟩
    · exact ⟨0, rfl, rfl⟩)
set_option maxHeartbeats 1000000 in
theorem equal_any (A A' : Option Addr) (c c' : Nat) (l m : List Int) (w : World) (B B' : Nat) (hr : Rd .u8 w B A l) (hr' : Rd .u8 w B' A' m) (hl : Byt l) (hm : Byt m) (x : Bool) (hx : x = true ↔ l = m) :
    Calls Try.prog 21 #[.slice A l.length c, .slice A' m.length c'] w fun e w' => e = .returned (.bool x) ∧ w = w' := by
  have h1 := conv c hr; have h2 := conv c' hr'
  have h3 := beq_str hl hm x hx
  have H3 := Lib.hid h3
  clear hr hr' hl hm hx h3
  go_enter Try.func21, Try.ntmps21
  go_wp2
  go_ret
  exact ⟨Pk.ret_bool H3.out, rfl⟩

theorem say_at {l : List Int} {d : Int} (h : l[0]? = some d) : say l = ⟨d, if d = 1 then l.drop 1 else [], if twoB d then riV (ri l 1) else 0, if twoB d then riV (ri l (riK 1 (ri l 1))) else 0⟩ := by
  cases l with
  | nil => simp at h
  | cons x r => simp at h; subst h; rfl
theorem say_name {l : List Int} (h : l[0]? = some 1) : say l = ⟨1, l.drop 1, 0, 0⟩ := by rw [say_at h]; simp [twoB]
theorem say_two {l : List Int} {d : Int} (h : l[0]? = some d) (h2 : twoB d = true) : say l = ⟨d, [], riV (ri l 1), riV (ri l (riK 1 (ri l 1)))⟩ := by rw [say_at h]; simp [h2, two_one h2]
theorem say_else {l : List Int} {d : Int} (h : l[0]? = some d) (h2 : twoB d = false) (h1 : d ≠ 1) : say l = ⟨d, [], 0, 0⟩ := by rw [say_at h]; simp [h2, h1]
theorem Bx.set1 {w : World} {b : Nat} {c : Cm} (h : Bx w b c) (t : List Int) : Bx (w.setCell ⟨b, 1, none⟩ (.string (strOfNums t))) b ⟨c.d, t, c.a, c.b⟩ := by
  unfold Bx at h ⊢
  rw [heap_setCell_same w b 1 _ 23 _ h]; rfl
theorem Bx.set2 {w : World} {b : Nat} {c : Cm} (h : Bx w b c) (x : Int) : Bx (w.setCell ⟨b, 2, none⟩ (.int .i64 x)) b ⟨c.d, c.t, x, c.b⟩ := by
  unfold Bx at h ⊢
  rw [heap_setCell_same w b 2 _ 23 _ h]; rfl
theorem Bx.set3 {w : World} {b : Nat} {c : Cm} (h : Bx w b c) (x : Int) : Bx (w.setCell ⟨b, 3, none⟩ (.int .i64 x)) b ⟨c.d, c.t, c.a, x⟩ := by
  unfold Bx at h ⊢
  rw [heap_setCell_same w b 3 _ 23 _ h]; rfl
theorem Bx.set0 {w : World} {b : Nat} {c : Cm} (h : Bx w b c) (x : Int) : Bx (w.setCell ⟨b, 0, none⟩ (.int .i64 x)) b ⟨x, c.t, c.a, c.b⟩ := by
  unfold Bx at h ⊢
  rw [heap_setCell_same w b 0 _ 23 _ h]; rfl
theorem Bx.alloc {w : World} {b : Nat} {c : Cm} (h : Bx w b c) (o : Obj) : Bx (w.alloc o) b c := (Below.heap_alloc w o b (lt_of_block h)).trans h
theorem Bx.put {w : World} {b : Nat} {c : Cm} (h : Bx w b c) (c' : Cm) : Bx ((((w.setCell ⟨b, 0, none⟩ (.int .i64 c'.d)).setCell ⟨b, 1, none⟩ (.string (strOfNums c'.t))).setCell ⟨b, 2, none⟩ (.int .i64 c'.a)).setCell ⟨b, 3, none⟩ (.int .i64 c'.b)) b c' :=
  (((h.set0 c'.d).set1 c'.t).set2 c'.a).set3 c'.b
theorem below_set {B : Nat} {w0 w : World} (h : Below B w0 w) {b o : Nat} (hb : B ≤ b) (v : Value) : Below B w0 (w.setCell ⟨b, o, none⟩ v) := h.setCell (p := ⟨b, o, none⟩) hb v
theorem below_put {B : Nat} {w0 w : World} (h : Below B w0 w) {b : Nat} (hb : B ≤ b) (v0 v1 v2 v3 : Value) : Below B w0 ((((w.setCell ⟨b, 0, none⟩ v0).setCell ⟨b, 1, none⟩ v1).setCell ⟨b, 2, none⟩ v2).setCell ⟨b, 3, none⟩ v3) :=
  below_set (below_set (below_set (below_set h hb _) hb _) hb _) hb _
set_option maxRecDepth 20000 in
set_option maxHeartbeats 8000000 in
theorem read_any (A : Option Addr) (c : Nat) (l : List Int) (w : World) (B : Nat) (hr : Rd .u8 w B A l) (hB : B ≤ w.heap.size) (hl : (l.length : Int) ≤ 100000) (hb : Byt l) (hc : l.length ≤ c) :
    Calls Try.prog 20 #[.slice A l.length c] w fun e w' => e = .returned (cv (say l)) ∧ Below w.heap.size w w' := by
  have HRa : Hid (∀ V, Below w.heap.size w V → Rd .u8 V B A l) := Lib.hid (fun V hV => hr.below hV hB)
  have HBy := Lib.hid hb; have HBw := Lib.hid hB
  by_cases h0 : l.length = 0
  · have HS : Hid (say l = zC) := Lib.hid (by cases l with
      | nil => rfl
      | cons x r => simp at h0)
    clear hr hB hb
    go_enter Try.func20, Try.ntmps20
    go_wp2
    refine bodyPost_ret (by simp [results, Try.results20, go_sem]; try rfl) rfl ?_
    exact ⟨by rw [HS.out]; rfl, by go_grown⟩
  · have h0' : ((l.length : Int) == 0) = false := by simpa using h0
    have hlt0 : 0 < l.length := by omega
    have hlt0' : (0 : Int) < l.length := by omega
    obtain ⟨b, off, d, rfl, hbB, hd, hcell⟩ := hr.at' hlt0
    have hbw : b < w.heap.size := by omega
    obtain ⟨hd0, hd1⟩ := hb.at hd
    have HD := Lib.hid hd
    have HP := Lib.hid (parts_any d · (by omega) (by omega))
    rw [Nat.add_zero] at hcell
    clear hr hB hb hd h0
    have HX0 : Hid (Bx (w.alloc (.cells #[.int .i64 d, .string { data := #[] }, .int .i64 0, .int .i64 0] 23)) w.heap.size ⟨d, [], 0, 0⟩) := Lib.hid (heap_alloc_new w _)
    have HV0 : Hid (Below w.heap.size w (w.alloc (.cells #[.int .i64 d, .string { data := #[] }, .int .i64 0, .int .i64 0] 23))) := Lib.hid (by go_grown)
    have hsz : (w.alloc (.cells #[.int .i64 d, .string { data := #[] }, .int .i64 0, .int .i64 0] 23)).heap.size = w.heap.size + 1 := by simp
    go_enter Try.func20, Try.ntmps20
    go_wp2_with (fail)
    generalize w.alloc (.cells #[.int .i64 d, .string { data := #[] }, .int .i64 0, .int .i64 0] 23) = w0 at *
    have HSz := Lib.hid hsz; clear hsz
    (with_reducible refine (HP.out _).mono ?_); rintro e w1 ⟨rfl, hB1⟩
    have HX1 := Lib.hid (HX0.out.of hB1 (by have := HSz.out; omega))
    have HV1 : Hid (Below w.heap.size w w1) := Lib.hid (HV0.out.trans (hB1.mono (by have := HSz.out; omega)))
    have hlt : w.heap.size < w1.heap.size := lt_of_block HX1.out
    have HV2 : Hid (Below w.heap.size w (w1.alloc (.cells #[.bool (decide (d = 1)), .bool (twoB d)] 37))) := Lib.hid (HV1.out.alloc (Nat.le_of_lt hlt) _)
    clear hB1
    obtain ⟨z0, z1, z2, z3⟩ := HX1.out.at
    simp only at z0 z1 z2 z3
    have zf := frozOf' HX1.out
    cases h2 : twoB d with
    | true =>
      have hd1' : decide (d = 1) = false := by simpa using two_one h2
      have HS := Lib.hid (say_two HD.out h2)
      rw [hd1', h2] at HV2
      rw [hd1']
      generalize hv1 : riV (ri l 1) = v1 at HS
      generalize hk1 : riK 1 (ri l 1) = k1 at HS
      have hk1b : k1 ≤ 9223372036854775807 := by rw [← hk1]; exact riK_in HBy.out (by omega) (by omega)
      have hv1b : -9223372036854775808 ≤ v1 ∧ v1 ≤ 9223372036854775807 := by rw [← hv1]; exact riV_in HBy.out _
      generalize hv2 : riV (ri l k1) = v2 at HS
      have hv2b : -9223372036854775808 ≤ v2 ∧ v2 ≤ 9223372036854775807 := by rw [← hv2]; exact riV_in HBy.out _
      obtain ⟨hv1l, hv1h⟩ := hv1b
      obtain ⟨hv2l, hv2h⟩ := hv2b
      have HV3 : Hid (Below w.heap.size w ((w1.setCell ⟨w.heap.size, 2, none⟩ (.int .i64 v1)).alloc (.cells #[.bool false, .bool true] 37))) := Lib.hid ((below_set HV1.out (Nat.le_refl _) _).alloc (by simp; omega) _)
      have R1 := Lib.hid (ri_say (some ⟨b, off, none⟩) c l 1 _ B (HRa.out _ HV2.out) (by omega) HBy.out (by omega))
      have R2 := Lib.hid (ri_say (some ⟨b, off, none⟩) c l k1 _ B (HRa.out _ HV3.out) (by omega) HBy.out (by omega))
      rw [hv1, hk1] at R1
      rw [hv2] at R2
      have HX4 : Hid (Bx ((w1.setCell ⟨w.heap.size, 2, none⟩ (.int .i64 v1)).alloc (.cells #[.bool false, .bool true] 37)) w.heap.size ⟨d, [], v1, 0⟩) := Lib.hid ((HX1.out.set2 v1).alloc _)
      clear h2 hv1 hk1 hv2
      go_wp2_with (first
        | ((with_reducible refine R1.out.mono ?_); rintro e w3 ⟨er, rfl, rfl⟩)
        | fail)
      clear z0 z1 z2 z3 zf HX1
      generalize (w1.setCell ⟨w.heap.size, 2, none⟩ (.int .i64 v1)).alloc (.cells #[.bool false, .bool true] 37) = w4 at *
      (with_reducible refine R2.out.mono ?_); rintro e w3 ⟨er2, rfl, rfl⟩
      obtain ⟨z0, z1, z2, z3⟩ := HX4.out.at
      simp only at z0 z1 z2 z3
      have zf := frozOf' HX4.out
      have HB4 : Hid (Bx (((((w4.setCell ⟨w.heap.size, 3, none⟩ (.int .i64 v2)).setCell ⟨w.heap.size, 0, none⟩ (.int .i64 d)).setCell ⟨w.heap.size, 1, none⟩ (.string (strOfNums []))).setCell ⟨w.heap.size, 2, none⟩ (.int .i64 v1)).setCell ⟨w.heap.size, 3, none⟩ (.int .i64 v2)) w.heap.size ⟨d, [], v1, v2⟩) := Lib.hid ((HX4.out.set3 v2).put ⟨d, [], v1, v2⟩)
      go_wp2
      obtain ⟨q0, q1, q2, q3⟩ := HB4.out.at
      simp only at q0 q1 q2 q3
      refine bodyPost_ret (by simp [results, Try.results20, go_sem, q0, q1, q2, q3]; try rfl) rfl ?_
      exact ⟨by rw [HS.out], below_put (below_set HV3.out (Nat.le_refl _) _) (Nat.le_refl _) _ _ _ _⟩
    | false =>
      rw [h2] at HV2
      by_cases h1 : d = 1
      · subst h1
        have HS := Lib.hid (say_name HD.out)
        simp only [decide_true] at HV2 ⊢
        clear h2
        have HX4 : Hid (Bx (w1.alloc (.cells #[.bool true, .bool false] 37)) w.heap.size ⟨1, [], 0, 0⟩) := Lib.hid (HX1.out.alloc _)
        have HPt : Hid ((w1.alloc (.cells #[.bool true, .bool false] 37)).heap[w1.heap.size]? = some (.cells #[.bool true, .bool false] 37)) := Lib.hid (heap_alloc_new w1 _)
        have hlen : (l.drop 1).length = l.length - 1 := List.length_drop
        have hRd := (HRa.out _ HV2.out).cut 1
        generalize l.drop 1 = m at HS hlen hRd
        have HL := Lib.hid hlen
        have HRd := Lib.hid hRd
        clear hlen hRd
        by_cases hc1 : c = 1
        · subst hc1
          have hl1 : l.length = 1 := by omega
          obtain rfl : m = [] := List.eq_nil_of_length_eq_zero (by have := HL.out; omega)
          go_wp2_with (fail)
          clear z0 z1 z2 z3 zf HX1
          generalize w1.alloc (.cells #[.bool true, .bool false] 37) = w4 at *
          have hcv := conv (c := 0) (Rd.nil (K := .u8) (w := w4) (B := B) (A := some ⟨b, off, none⟩))
          simp only [List.length_nil] at hcv
          obtain ⟨z0, z1, z2, z3⟩ := HX4.out.at
          simp only at z0 z1 z2 z3
          have zf := frozOf' HX4.out
          have zp := cellOf' HPt.out 1
          simp at zp
          have HB4 : Hid (Bx (((((w4.setCell ⟨w.heap.size, 1, none⟩ (.string (strOfNums []))).setCell ⟨w.heap.size, 0, none⟩ (.int .i64 1)).setCell ⟨w.heap.size, 1, none⟩ (.string (strOfNums []))).setCell ⟨w.heap.size, 2, none⟩ (.int .i64 0)).setCell ⟨w.heap.size, 3, none⟩ (.int .i64 0)) w.heap.size ⟨1, [], 0, 0⟩) := Lib.hid ((HX4.out.set1 []).put ⟨1, [], 0, 0⟩)
          rw [hcv]
          go_wp2
          obtain ⟨q0, q1, q2, q3⟩ := HB4.out.at
          simp only at q0 q1 q2 q3
          refine bodyPost_ret (by simp [results, Try.results20, go_sem, q0, q1, q2, q3]; try rfl) rfl ?_
          exact ⟨by rw [HS.out], below_put (below_set HV2.out (Nat.le_refl _) _) (Nat.le_refl _) _ _ _ _⟩
        · go_wp2_with (fail)
          clear z0 z1 z2 z3 zf HX1
          generalize w1.alloc (.cells #[.bool true, .bool false] 37) = w4 at *
          have hcv := conv (c := c - 1) HRd.out
          rw [HL.out] at hcv
          obtain ⟨z0, z1, z2, z3⟩ := HX4.out.at
          simp only at z0 z1 z2 z3
          have zf := frozOf' HX4.out
          have zp := cellOf' HPt.out 1
          simp at zp
          have HB4 : Hid (Bx (((((w4.setCell ⟨w.heap.size, 1, none⟩ (.string (strOfNums m))).setCell ⟨w.heap.size, 0, none⟩ (.int .i64 1)).setCell ⟨w.heap.size, 1, none⟩ (.string (strOfNums m))).setCell ⟨w.heap.size, 2, none⟩ (.int .i64 0)).setCell ⟨w.heap.size, 3, none⟩ (.int .i64 0)) w.heap.size ⟨1, m, 0, 0⟩) := Lib.hid ((HX4.out.set1 m).put ⟨1, m, 0, 0⟩)
          rw [hcv]
          go_wp2
          obtain ⟨q0, q1, q2, q3⟩ := HB4.out.at
          simp only at q0 q1 q2 q3
          refine bodyPost_ret (by simp [results, Try.results20, go_sem, q0, q1, q2, q3]; try rfl) rfl ?_
          exact ⟨by rw [HS.out], below_put (below_set HV2.out (Nat.le_refl _) _) (Nat.le_refl _) _ _ _ _⟩
      · have hd1' : decide (d = 1) = false := by simpa using h1
        have HS := Lib.hid (say_else HD.out h2 h1)
        rw [hd1'] at HV2
        rw [hd1']
        clear h2 h1
        have HB4 : Hid (Bx ((((w1.setCell ⟨w.heap.size, 0, none⟩ (.int .i64 d)).setCell ⟨w.heap.size, 1, none⟩ (.string (strOfNums []))).setCell ⟨w.heap.size, 2, none⟩ (.int .i64 0)).setCell ⟨w.heap.size, 3, none⟩ (.int .i64 0) |>.alloc (.cells #[.bool false, .bool false] 37)) w.heap.size ⟨d, [], 0, 0⟩) := Lib.hid ((HX1.out.put ⟨d, [], 0, 0⟩).alloc _)
        go_wp2
        obtain ⟨q0, q1, q2, q3⟩ := HB4.out.at
        simp only at q0 q1 q2 q3
        refine bodyPost_ret (by simp [results, Try.results20, go_sem, q0, q1, q2, q3]; try rfl) rfl ?_
        exact ⟨by rw [HS.out], (below_put HV1.out (Nat.le_refl _) _ _ _ _).alloc (by simp; omega) _⟩
end Go.Proofs.Yteiknfhoggoapaa.Con
