/-
  Contracts of known (content of one aura) and of the small case.
-/
import Derived.Test.YtijobbdgiaiocaaPgd
import Derived.Test.YtijobbdgiaiocaaPge
import Derived.Test.YtijobbdgiaiocaaPgg
import Derived.Test.YtijobbdgiaiocaaDcb
namespace Go.Proofs.Ytijobbdgiaiocaa.Con
open Go.RowKit Go.Maps

/-- Content of one aura. -/
def kn (p q : Nat) (a : Au) : Cn := { aA := none, aC := 0, ab := [], uA := some ⟨p, 0, none⟩, uC := 1, au := [a], fA := none, fC := 0, fo := [], W := 1, H := 1, gA := some ⟨q, 0, none⟩, gC := 1, wl := [false], dx := 0, dy := 0, lx := 0, ly := 0 }
theorem kn_sm (p q : Nat) (a : Au) : Sm (kn p q a) := ⟨by simp [kn], by simp [kn], by simp [kn], by simp [kn], by simp [kn], by simp [kn], by simp [kn]⟩
theorem rb_at (w : World) (l : List Bool) (cs : Array Value) (P : Nat) (h : cs.toList = l.map Value.bool) (hP : w.heap.size = P) : RB (w.alloc (.cells cs 4)) (P + 1) (some ⟨P, 0, none⟩) l := by
  subst hP
  refine .inr ⟨w.heap.size, 0, rfl, by omega, fun k x hx => ?_⟩
  rw [cell_of_row (w.alloc (.cells cs 4)) w.heap.size (0 + k) cs 4 (0, 0) (heap_alloc_new w _), Nat.zero_add, ← Array.getElem?_toList, h, List.getElem?_map, hx]; rfl
set_option maxRecDepth 20000 in
theorem known_any (a : Au) (w : World) : Calls Try.prog 27 #[auv a] w fun e w' => ∃ p q, e = .returned (cnv (kn p q a)) ∧ Hid (RC w' w'.heap.size (kn p q a)) ∧ Below w.heap.size w w' := by
  have hb : Below w.heap.size w ((((w.alloc (oAu a)).alloc (oCn (kn (w.heap.size + 1 + 1) (w.heap.size + 1 + 1 + 1) a))).alloc (oAu a)).alloc (.cells #[.bool false] 4)) := by go_grown
  have HB := Lib.hid hb
  have HRC : Hid (RC ((((w.alloc (oAu a)).alloc (oCn (kn (w.heap.size + 1 + 1) (w.heap.size + 1 + 1 + 1) a))).alloc (oAu a)).alloc (.cells #[.bool false] 4)) (w.heap.size + 1 + 1 + 1 + 1) (kn (w.heap.size + 1 + 1) (w.heap.size + 1 + 1 + 1) a)) := Lib.hid (by
    refine ⟨.inl rfl, ?_, .inl rfl, ?_, by simp [kn], by simp [kn], by simp [kn]⟩
    · have h1 : RW au (((w.alloc (oAu a)).alloc (oCn (kn (w.heap.size + 1 + 1) (w.heap.size + 1 + 1 + 1) a))).alloc (oAu a)) (w.heap.size + 1 + 1 + 1) (some ⟨w.heap.size + 1 + 1, 0, none⟩) [a] := rw_at au _ _ _ _ _ rfl rfl (by simp)
      exact (h1.below (B' := w.heap.size + 1 + 1 + 1) ((Below.refl _ _).alloc (by simp) _) (Nat.le_refl _)).more (by omega)
    · exact rb_at _ [false] _ _ rfl (by simp))
  clear hb
  go_enter Try.func27, Try.ntmps27
  go_wp2
  refine bodyPost_ret (by simp [results, Try.results27, go_sem]; try rfl) rfl ?_
  exact ⟨w.heap.size + 1 + 1, w.heap.size + 1 + 1 + 1, rfl, Lib.hid (HRC.out.more (by simp)), HB.out⟩

/-! ### the small case -/
def sAu : Au := ⟨1, 1, 5, 2, 2, 3, true⟩
def sL1 : List Ac := [⟨1, 7, 1, 15, 12, 0⟩]
def sL2 : List Ac := [⟨1, 7, 2, 16, 12, 0⟩]
def sT2 : List Ac := [⟨1, 7, 2, 16, 14, 0⟩]
theorem s_nau : ∀ a ∈ [sAu], NAu a := by intro a ha; simp at ha; subst ha; refine ⟨⟨?_, ?_⟩, ⟨?_, ?_⟩, ⟨?_, ?_⟩, ⟨?_, ?_⟩⟩ <;> simp [sAu]
theorem s_nac1 : ∀ a ∈ sL1, NAc a := by intro a ha; simp [sL1] at ha; subst ha; refine ⟨⟨?_, ?_⟩, ⟨?_, ?_⟩, ⟨?_, ?_⟩⟩ <;> simp
theorem s_nac2 : ∀ a ∈ sL2, NAc a := by intro a ha; simp [sL2] at ha; subst ha; refine ⟨⟨?_, ?_⟩, ⟨?_, ?_⟩, ⟨?_, ?_⟩⟩ <;> simp
theorem s_ap1 : apL [sAu] [] 1 7 10 = sL1 ∧ apE [sAu] [] 1 7 = 0 := ⟨rfl, rfl⟩
theorem s_ap2 : apL [sAu] sL1 1 7 11 = sL2 ∧ apE [sAu] sL1 1 7 = 0 := ⟨rfl, rfl⟩
theorem s_tk : sL2.map (tkA [sAu] 12) = sT2 ∧ tkD [sAu] 12 sL2 1 = sL2 := ⟨rfl, rfl⟩
theorem s_ex : goS (exP sT2 16) sT2 1 = [] ∧ goS (fun i => !exP sT2 16 i) sT2 1 = sT2 := ⟨rfl, rfl⟩
theorem s_di : goS (diP [sAu] 1 sL2) sL2 1 = [] ∧ goS (fun i => !diP [sAu] 1 sL2 i) sL2 1 = sL2 := ⟨rfl, rfl⟩
theorem s_su : suL [sAu] 1 sL2 = 6 := rfl
theorem s_right (p q : Nat) : RightC (kn p q sAu) := by
  refine ⟨rfl, .inr ⟨?_, rfl⟩, rfl, ?_⟩
  · rintro (h | h | h)
    · cases h
    · simp [sAu] at h
    · exact h ⟨⟨by simp [sAu], by simp [sAu]⟩, ⟨by simp [sAu], by simp [sAu]⟩, .inl ⟨.inl rfl, ⟨by simp [sAu], by simp [sAu]⟩, ⟨by simp [sAu], by simp [sAu]⟩⟩⟩
  · exact ⟨rfl, rfl, rfl⟩
theorem s_rightL : RightL [sAu] sL2 := ⟨by simp [sL2], fun a ha => by simp [sL2] at ha; subst ha; exact ⟨rfl, by simp, by decide, by simp⟩, by simp [sL2, Apart]⟩
theorem known_c (a : Au) (w : World) : Calls Try.prog 27 #[auv a] w fun e w' => ∃ c : Cn, e = .returned (cnv c) ∧ Hid (RC w' w'.heap.size c) ∧ Hid (Sm c) ∧ Hid (c.au = [a]) ∧ Hid (∃ p q, c = kn p q a) ∧ Below w.heap.size w w' :=
  (known_any a w).mono fun _ _ ⟨p, q, h1, h2, h3⟩ => ⟨kn p q a, h1, h2, Lib.hid (kn_sm p q a), Lib.hid rfl, Lib.hid ⟨p, q, rfl⟩, h3⟩
/-- One row of its own, of one. -/
def R1 (V : World) (l : List Ac) (e : Ending) (w' : World) : Prop := ∃ (A' : Option Addr) (c' : Nat), e = .returned (.tuple #[.slice A' 1 c', .int .i64 0]) ∧ Hid (OW ac w' V.heap.size (.slice A' 1 c') l) ∧ Below V.heap.size V w'
/-- Two rows of its own, of n and m. -/
def R2 (V : World) (n m : Nat) (l1 l2 : List Ac) (e : Ending) (w' : World) : Prop := ∃ (A1 : Option Addr) (c1 : Nat) (A2 : Option Addr) (c2 : Nat), e = .returned (.tuple #[.slice A1 n c1, .slice A2 m c2]) ∧ Hid (OW ac w' V.heap.size (.slice A1 n c1) l1) ∧ Hid (OW ac w' V.heap.size (.slice A2 m c2) l2) ∧ Below V.heap.size V w'
theorem R2.of {V : World} {l1 l2 m1 m2 : List Ac} {n m : Nat} {e : Ending} {w' : World} (h : DuA V l1 l2 e w') (h1 : l1 = m1) (h2 : l2 = m2) (hn : m1.length = n) (hm : m2.length = m) : R2 V n m m1 m2 e w' := by
  subst h1; subst h2; subst hn; subst hm
  obtain ⟨A1, c1, A2, c2, h1, h2⟩ := h
  exact ⟨A1, c1, A2, c2, h1, Lib.hid h2.out.a, Lib.hid h2.out.b, h2.out.below⟩
section
variable {V : World} {c : Cn} (hA : AuC c V) (hu : c.au = [sAu])
include hA hu
theorem s1 : Calls Try.prog 9 #[cnv c, .slice none 0 0, .int .i64 1, .int .i64 7, .int .i64 10] V (R1 V sL1) := by
  have h := apply_any (w := V) (B := 0) (A := none) (l := []) (n := 0) (cp := 0) 1 7 10 hA (by rw [hu]; exact s_nau) (by simp) rfl (by omega) (.inl rfl) (by omega) ⟨by omega, by omega⟩
  rw [hu, s_ap1.1, s_ap1.2] at h
  exact h
theorem s2 {A : Option Addr} {cp B : Nat} (hr : RW ac V B A sL1) (hB : B ≤ V.heap.size) : Calls Try.prog 9 #[cnv c, .slice A 1 cp, .int .i64 1, .int .i64 7, .int .i64 11] V (R1 V sL2) := by
  have h := apply_any (w := V) (B := B) (A := A) (l := sL1) (n := 1) (cp := cp) 1 7 11 hA (by rw [hu]; exact s_nau) s_nac1 rfl (by omega) hr hB ⟨by omega, by omega⟩
  rw [hu, s_ap2.1, s_ap2.2] at h
  exact h
theorem s3 {A : Option Addr} {cp B : Nat} (hr : RW ac V B A sL2) (hB : B ≤ V.heap.size) : Calls Try.prog 14 #[cnv c, .slice A 1 cp, .int .i64 12] V (R2 V 1 1 sT2 sL2) := by
  have h := tick_any (w := V) (B := B) (A := A) (l := sL2) (n := 1) (cp := cp) 12 hA (by rw [hu]; exact s_nau) s_nac2 rfl (by omega) hr hB
  rw [hu] at h
  exact h.mono fun _ _ h => R2.of h s_tk.1 s_tk.2 rfl rfl
theorem s5 {A : Option Addr} {cp B : Nat} (hr : RW ac V B A sL2) (hB : B ≤ V.heap.size) : Calls Try.prog 16 #[cnv c, .slice A 1 cp, .int .i64 1] V (R2 V 0 1 [] sL2) := by
  have h := dispel_any (w := V) (B := B) (A := A) (l := sL2) (k := 1) (cp := cp) 1 hA rfl (by omega) hr hB ⟨by omega, by omega⟩
  rw [hu] at h
  exact h.mono fun _ _ h => R2.of h s_di.1 s_di.2 rfl rfl
theorem s8 {A : Option Addr} {cp B : Nat} (hr : RW ac V B A sL2) (hB : B ≤ V.heap.size) : Calls Try.prog 22 #[cnv c, .slice A 1 cp, .int .i64 1] V fun e w' => e = .returned (.int .i64 6) ∧ Below V.heap.size V w' := by
  have h := sum_any (w := V) (B := B) (A := A) (l := sL2) (n := 1) (cp := cp) 1 hA (by rw [hu]; exact s_nau) s_nac2 rfl (by omega) hr hB
  rw [hu, s_su] at h
  exact h
end
theorem s4 {V : World} {A : Option Addr} {cp B : Nat} (hr : RW ac V B A sT2) (hB : B ≤ V.heap.size) : Calls Try.prog 11 #[.slice A 1 cp, .int .i64 16] V (R2 V 0 1 [] sT2) :=
  (expire_any (w := V) (B := B) (A := A) (l := sT2) (n := 1) (c := cp) 16 rfl (by omega) hr hB).mono fun _ _ h => R2.of h s_ex.1 s_ex.2 rfl rfl
theorem s7 {V : World} {c : Cn} {A : Option Addr} {cp B : Nat} (hc : RC V B c) (hs : Sm c) (hk : ∃ p q, c = kn p q sAu) (hr : RW ac V B A sL2) (hB : B ≤ V.heap.size) : Calls Try.prog 18 #[cnv c, .slice A 1 cp] V fun e w' => e = .returned (.bool true) ∧ Below V.heap.size V w' :=
  aright_any (w := V) (B := B) (l := sL2) (n := 1) hc hs rfl (by omega) hr hB true ⟨fun _ => by obtain ⟨p, q, rfl⟩ := hk; exact ⟨s_right p q, s_rightL⟩, fun _ => rfl⟩
abbrev oL1 : Obj := .cells #[.int .i64 1, .int .i64 7, .int .i64 1, .int .i64 15, .int .i64 12, .int .i64 0] 42
abbrev oL2 : Obj := .cells #[.int .i64 1, .int .i64 7, .int .i64 2, .int .i64 16, .int .i64 12, .int .i64 0] 42

theorem known_s (w : World) : Calls Try.prog 27 #[.agg #[.int .i64 1, .int .i64 1, .int .i64 5, .int .i64 2, .int .i64 2, .int .i64 3, .bool true]] w fun e w' => ∃ c : Cn, e = .returned (cnv c) ∧ Hid (RC w' w'.heap.size c) ∧ Hid (Sm c) ∧ Hid (c.au = [sAu]) ∧ Hid (∃ p q, c = kn p q sAu) ∧ Below w.heap.size w w' := known_c sAu w
set_option maxRecDepth 20000 in
set_option maxHeartbeats 4000000 in
theorem small_any (w : World) : Calls Try.prog 7 #[] w fun e w' => e = .returned (.bool true) ∧ Below w.heap.size w w' := by
  have HK := Lib.hid (known_s w)
  go_enter Try.func7, Try.ntmps7
  go_wp2_with (first
    | ((with_reducible refine HK.out.mono ?_); rintro e w1 ⟨c, rfl, HRC, HSm, HAu, HKn, hB1⟩; have HV1 : Hid (Below w.heap.size w (w1.alloc (oCn c))) := Lib.hid (hB1.alloc hB1.size _); have HN1 : Hid ((w1.alloc (oCn c)).heap[w1.heap.size]? = some (oCn c)) := Lib.hid (heap_alloc_new w1 (oCn c)); have HRC1 : Hid (RC (w1.alloc (oCn c)) w1.heap.size c) := Lib.hid (HRC.out.below (below_box w1 _) (Nat.le_refl _)); have HZ1 : Hid (w1.heap.size < (w1.alloc (oCn c)).heap.size) := Lib.hid (by simp); have HA1 := Lib.hid (auC HRC1.out (by simp) HSm.out); have HC := Lib.hid (s1 HA1.out HAu.out))
    | ((with_reducible refine HC.out.mono ?_); rintro e w2 ⟨A2, c2, rfl, HO2, hB2⟩; have HA2 := Lib.hid (HA1.out.of hB2); have HN2 := Lib.hid (hkeep1 hB2 HZ1.out HN1.out); have z2 := cellOf1 HN2.out; have l2 := lt_blk1 HN2.out; have HV2 := Lib.hid (HV1.out.trans (hB2.mono HV1.out.size)); have HR2 := Lib.hid HO2.out.pw.rw'; have HRC2 := Lib.hid (HRC1.out.below hB2 (by simp)); have HD := Lib.hid (s2 HA2.out HAu.out (cp := c2) HR2.out (Nat.le_refl _)); clear hB2)
    | ((with_reducible refine HD.out.mono ?_); rintro e w3 ⟨A3, c3, rfl, HO3, hB3⟩; have HA3 := Lib.hid (HA2.out.of hB3); have HN3 := Lib.hid (hkeep1 hB3 l2 HN2.out); clear z2; have z3 := cellOf1 HN3.out; have l3 := lt_blk1 HN3.out; have HV3 := Lib.hid (HV2.out.trans (hB3.mono HV2.out.size)); have HR3 := Lib.hid HO3.out.pw.rw'; have HP3 := Lib.hid (HR2.out.below hB3 (Nat.le_refl _)); have hz3 := hB3.size; have HRC3 := Lib.hid (HRC2.out.below hB3 (by omega)); have HE := Lib.hid (s3 HA3.out HAu.out (cp := c3) HR3.out (Nat.le_refl _)); clear hB3)
    | ((with_reducible refine HE.out.mono ?_); rintro e w4 ⟨A4, c4, A5, c5, rfl, HO4, HO5, hB4⟩; have HA4 := Lib.hid (HA3.out.of hB4); have HN4 := Lib.hid (hkeep1 hB4 l3 HN3.out); clear z3; have z4 := cellOf1 HN4.out; have l4 := lt_blk1 HN4.out; have HV4 := Lib.hid (HV3.out.trans (hB4.mono HV3.out.size)); have HT4 := Lib.hid HO4.out.pw.rw'; have HU4 := Lib.hid HO5.out.pw.rw'; have hz4 := hB4.size; have HR4 := Lib.hid (HR3.out.below hB4 (Nat.le_refl _)); have HP4 := Lib.hid (HP3.out.below hB4 (by omega)); have HRC4 := Lib.hid (HRC3.out.below hB4 (by omega)); have HF := Lib.hid (s4 (V := w4) (cp := c4) HT4.out (Nat.le_refl _)); clear hB4)
    | ((with_reducible refine HF.out.mono ?_); rintro e w5 ⟨A6, c6, A7, c7, rfl, HO6, HO7, hB5⟩; have HA5 := Lib.hid (HA4.out.of hB5); have HN5 := Lib.hid (hkeep1 hB5 l4 HN4.out); clear z4; have z5 := cellOf1 HN5.out; have l5 := lt_blk1 HN5.out; have HV5 := Lib.hid (HV4.out.trans (hB5.mono HV4.out.size)); have hz5 := hB5.size; have HT5 := Lib.hid (HT4.out.below hB5 (Nat.le_refl _)); have HU5 := Lib.hid (HU4.out.below hB5 (Nat.le_refl _)); have HR5 := Lib.hid (HR4.out.below hB5 (by omega)); have HP5 := Lib.hid (HP4.out.below hB5 (by omega)); have HRC5 := Lib.hid (HRC4.out.below hB5 (by omega)); have HG := Lib.hid (s5 HA5.out HAu.out (cp := c3) HR5.out (by omega)); clear hB5)
    | ((with_reducible refine HG.out.mono ?_); rintro e w6 ⟨A8, c8, A9, c9, rfl, HO8, HO9, hB6⟩; have hz6 := hB6.size; have hC6 : Below w5.heap.size w5 (w6.alloc oL1) := hB6.alloc hz6 _; have hs6 : (w6.alloc oL1).heap.size = w6.heap.size + 1 := (by simp); have HV6 := Lib.hid (HV5.out.trans (hC6.mono HV5.out.size)); have HA6 := Lib.hid (HA5.out.of hC6); have HN6 := Lib.hid (hkeep1 hC6 l5 HN5.out); clear z5; have HT6 := Lib.hid (HT5.out.below hC6 (by omega)); have HU6 := Lib.hid (HU5.out.below hC6 (by omega)); have HR6 := Lib.hid (HR5.out.below hC6 (by omega)); have HP6 := Lib.hid (HP5.out.below hC6 (by omega)); have HRC6 := Lib.hid (HRC5.out.below hC6 (by omega)); have HX6 : Hid (RW ac (w6.alloc oL1) (w6.heap.size + 1) (some ⟨w6.heap.size, 0, none⟩) sL1) := Lib.hid (rw_at ac _ _ _ _ _ rfl rfl rfl); have HS1 := Lib.hid (same_acB w2.heap.size (w6.heap.size + 1) A2 (some ⟨w6.heap.size, 0, none⟩) 1 c2 1 sL1 (w6.alloc oL1) rfl HP6.out HX6.out (by omega)); clear hB6)
    | ((with_reducible refine HS1.out.mono ?_); rintro e w7 ⟨rfl, hB7⟩; have hz7 := hB7.size; have hC7 : Below (w6.alloc oL1).heap.size (w6.alloc oL1) (w7.alloc oL2) := hB7.alloc hz7 _; have hs7 : (w7.alloc oL2).heap.size = w7.heap.size + 1 := (by simp); have HV7 := Lib.hid (HV6.out.trans (hC7.mono HV6.out.size)); have HA7 := Lib.hid (HA6.out.of hC7); have HN7 := Lib.hid (hkeep1 hC7 (by omega) HN6.out); have HT7 := Lib.hid (HT6.out.below hC7 (by omega)); have HU7 := Lib.hid (HU6.out.below hC7 (by omega)); have HR7 := Lib.hid (HR6.out.below hC7 (by omega)); have HRC7 := Lib.hid (HRC6.out.below hC7 (by omega)); have HX7 : Hid (RW ac (w7.alloc oL2) (w7.heap.size + 1) (some ⟨w7.heap.size, 0, none⟩) sL2) := Lib.hid (rw_at ac _ _ _ _ _ rfl rfl rfl); have HS2 := Lib.hid (same_acB w3.heap.size (w7.heap.size + 1) A3 (some ⟨w7.heap.size, 0, none⟩) 1 c3 1 sL2 (w7.alloc oL2) rfl HR7.out HX7.out (by omega)); clear hB7)
    | ((with_reducible refine HS2.out.mono ?_); rintro e w8 ⟨rfl, hB8⟩; have hz8 := hB8.size; have HV8 := Lib.hid (HV7.out.trans (hB8.mono HV7.out.size)); have HA8 := Lib.hid (HA7.out.of hB8); have HN8 := Lib.hid (hkeep1 hB8 (by omega) HN7.out); have HT8 := Lib.hid (HT7.out.below hB8 (by omega)); have HU8 := Lib.hid (HU7.out.below hB8 (by omega)); have HR8 := Lib.hid (HR7.out.below hB8 (by omega)); have HRC8 := Lib.hid (HRC7.out.below hB8 (by omega)); have HS3 := Lib.hid (same_acB w4.heap.size w3.heap.size A5 A3 1 c5 c3 sL2 w8 rfl HU8.out HR8.out (by omega)); clear hB8)
    | ((with_reducible refine HS3.out.mono ?_); rintro e w9 ⟨rfl, hB9⟩; have hz9 := hB9.size; have HV9 := Lib.hid (HV8.out.trans (hB9.mono HV8.out.size)); have HA9 := Lib.hid (HA8.out.of hB9); have HN9 := Lib.hid (hkeep1 hB9 (by omega) HN8.out); have z9 := cellOf1 HN9.out; have l9 := lt_blk1 HN9.out; have HT9 := Lib.hid (HT8.out.below hB9 (by omega)); have HR9 := Lib.hid (HR8.out.below hB9 (by omega)); have HRC9 := Lib.hid (HRC8.out.below hB9 (by omega)); obtain ⟨b4, o4, hA4, _, hc4⟩ := HT9.out.at' (i := 0) (x := ⟨1, 7, 2, 16, 14, 0⟩) rfl; subst hA4; have g4 := (cellsAc (o := o4 + 0 * 6) hc4).2.2.2.2.1; rw [Nat.zero_mul, Nat.add_zero] at g4; have HS4 := Lib.hid (s7 (V := w9) (B := w9.heap.size) (cp := c3) (HRC9.out.more (by omega)) HSm.out HKn.out (HR9.out.more (by omega)) (Nat.le_refl _)); clear hc4 hB9)
    | ((with_reducible refine HS4.out.mono ?_); rintro e w10 ⟨rfl, hB10⟩; have hz10 := hB10.size; have HV10 := Lib.hid (HV9.out.trans (hB10.mono HV9.out.size)); have HA10 := Lib.hid (HA9.out.of hB10); have HN10 := Lib.hid (hkeep1 hB10 l9 HN9.out); clear z9 g4; have z10 := cellOf1 HN10.out; have l10 := lt_blk1 HN10.out; have HR10 := Lib.hid (HR9.out.below hB10 (by omega)); have HS5 := Lib.hid (s8 HA10.out HAu.out (cp := c3) HR10.out (by omega)); clear hB10)
    | ((with_reducible refine HS5.out.mono ?_); rintro e w11 ⟨rfl, hB11⟩))
  go_ret
  exact ⟨rfl, HV10.out.trans (hB11.mono HV10.out.size)⟩
end Go.Proofs.Ytijobbdgiaiocaa.Con
