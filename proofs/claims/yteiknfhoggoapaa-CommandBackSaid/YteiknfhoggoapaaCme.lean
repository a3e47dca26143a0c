/-
  Contracts of the program's Encode and the document's: the load of a right command, in new memory.
-/
import Derived.Test.YteiknfhoggoapaaCmc
import Derived.Deep.RegionHeld3
namespace Go.Proofs.Yteiknfhoggoapaa.Con
open Go.RowKit Pm Mth
set_option linter.unusedVariables false

theorem sb_str {l : List Int} (h : Byt l) : sb (strOfNums l) = l := by
  refine str_inj (sb_byt _) h ?_
  exact sb_back _
theorem own_none (w : World) (b : Nat) : Own w b .u8 5 none 0 [] := ⟨rfl, .inl ⟨rfl, rfl⟩⟩
theorem own_one (w : World) (x : Int) : Own (w.alloc (.cells #[.int .u8 x] 5)) w.heap.size .u8 5 (some ⟨w.heap.size, 0, none⟩) 1 [x] :=
  ⟨rfl, .inr ⟨w.heap.size, 1, #[.int .u8 x], rfl, Nat.le_refl _, heap_alloc_new w _, by simp, by simp [maxLen], rfl, rfl⟩⟩
theorem own_rd {w : World} {base : Nat} {K : IntKind} {e : TypeId} {A : Option Addr} {c : Nat} {l : List Int} (h : Own w base K e A c l) : Rd K w w.heap.size A l := Rd.of_own h
theorem below_drew (w : World) : Below w.heap.size w w.drew := ⟨rfl, rfl, rfl, Nat.le_refl _, fun _ _ => rfl⟩
theorem below_more {w w1 w2 : World} (h : Below w.heap.size w w1) (k : Below w1.heap.size w1 w2) : Below w.heap.size w w2 := h.trans (k.mono h.size)
/-- What Encode answers. -/
def EA (w : World) (c : Cm) (e : Ending) (w' : World) : Prop :=
  ∃ (lm : List Int) (A : Option Addr) (cc : Nat), Hid (lm = enL c) ∧ e = .returned (.tuple #[.slice A lm.length cc, .int .i64 (enE c)]) ∧ Hid (Own w' w.heap.size .u8 5 A cc lm) ∧ Hid (Below w.heap.size w w')
theorem bx_grown {w w' : World} {b : Nat} {c : Cm} {g : Nat} (h : Bx w b c) (hG : w.grownBy w' (blk (some ⟨g, 0, none⟩))) (hb : b < g) : Bx w' b c :=
  (hG.block b (lt_of_block h) (by simp [blk]; omega)).trans h
theorem ld_plain {d : Int} {t : List Int} {a b : Int} (h : twoB d = false) : ld ⟨d, t, a, b⟩ = [d] ++ t := by simp [ld, tl, h]
theorem ld_two {d : Int} {t : List Int} {a b : Int} (h : twoB d = true) : ld ⟨d, t, a, b⟩ = (([d] ++ t) ++ dg (sg a).toNat) ++ dg (sg b).toNat := by simp [ld, tl, h]
set_option maxRecDepth 20000 in
set_option maxHeartbeats 2000000 in
theorem encode_any (c : Cm) (hf : FC c) (hl : (c.t.length : Int) ≤ 100000) (w : World) : Calls Try.prog 7 #[cv c] w (EA w c) := by
  obtain ⟨d, t, a, b⟩ := c
  have HRi := Lib.hid (right_any ⟨d, t, a, b⟩ hf (by simp only at hl ⊢; omega))
  obtain ⟨⟨hd0, hd1⟩, ht, ⟨ha0, ha1⟩, ⟨hb0, hb1⟩⟩ := hf
  simp only at hd0 hd1 ht ha0 ha1 hb0 hb1 hl
  have HT := Lib.hid ht; clear ht
  have HP := Lib.hid (parts_any d · hd0 hd1)
  have HB0 : Hid (Below w.heap.size w (w.alloc (oC ⟨d, t, a, b⟩))) := Lib.hid (by go_grown)
  have HX0 : Hid (Bx (w.alloc (oC ⟨d, t, a, b⟩)) w.heap.size ⟨d, t, a, b⟩) := Lib.hid (heap_alloc_new w _)
  have hsz : (w.alloc (oC ⟨d, t, a, b⟩)).heap.size = w.heap.size + 1 := by simp
  have hz := HX0.out.at
  go_enter Try.func7, Try.ntmps7
  go_wp2_with (fail)
  generalize w.alloc (oC ⟨d, t, a, b⟩) = w0 at *
  have HSz := Lib.hid hsz; clear hsz
  (with_reducible refine (HRi.out _).mono ?_); rintro e w1 ⟨rfl, hB1⟩
  have HX1 := Lib.hid (HX0.out.of hB1 (by have := HSz.out; omega))
  have HV1 : Hid (Below w.heap.size w w1) := Lib.hid (HB0.out.trans (hB1.mono (by have := HSz.out; omega)))
  have hlt : w.heap.size < w1.heap.size := by have := HSz.out; have := hB1.size; omega
  clear hB1 hz
  cases hr : rtB ⟨d, t, a, b⟩ with
  | false =>
    have HN : Hid (enL ⟨d, t, a, b⟩ = [] ∧ enE ⟨d, t, a, b⟩ = 1) := Lib.hid (by simp [enL, enE, hr])
    clear hr
    go_wp2
    go_ret2
    exact ⟨[], none, 0, Lib.hid HN.out.1.symm, by rw [HN.out.2]; rfl, Lib.hid (own_none _ _), HV1⟩
  | true =>
    have HN : Hid (enL ⟨d, t, a, b⟩ = ld ⟨d, t, a, b⟩ ∧ enE ⟨d, t, a, b⟩ = 0) := Lib.hid (by simp [enL, enE, hr])
    obtain ⟨hr1, hr2, _, _⟩ := rt_parts hr
    simp only at hr1 hr2
    have hwr : IntKind.u8.wrap d = d := by rw [IntKind.wrap_u8']; omega
    have hwr' : d % 256 = d := by omega
    obtain ⟨z0, z1, z2, z3⟩ := HX1.out.at
    simp only at z0 z1 z2 z3
    have HO1 := Lib.hid (own_one w1 d)
    have HXa : Hid (Bx (w1.alloc (.cells #[.int .u8 d] 5)) w.heap.size ⟨d, t, a, b⟩) := Lib.hid ((Below.heap_alloc w1 _ _ hlt).trans HX1.out)
    have HVa : Hid (Below w.heap.size w (w1.alloc (.cells #[.int .u8 d] 5))) := Lib.hid (HV1.out.alloc (Nat.le_of_lt hlt) _)
    have hsa : (w1.alloc (.cells #[.int .u8 d] 5)).heap.size = w1.heap.size + 1 := by simp
    have HSa := Lib.hid hsa
    have hts : ((strOfNums t).size : Int) ≤ 100000 := by rw [strOfNums_size]; exact hl
    have HTs := Lib.hid hts
    clear hr hsa hts
    cases h2 : twoB d with
    | false =>
      rw [h2] at HP
      have HLd := Lib.hid (HN.out.1.trans (ld_plain (a := a) (b := b) (t := t) h2))
      clear h2
      go_wp2_with (first
        | (at_builtin; refine Pk.wpList_text rfl (.tmp 13) (.tmp 15) rfl w1.heap.size (some ⟨w1.heap.size, 0, none⟩) 1 [d] (strOfNums t) rfl rfl HO1.out (by simp) (by have := HTs.out; omega) (by have := HSa.out; omega) ?_; intro l2 A2 c2 w2 HL2 HO2 HG2; have HX2 : Hid (Bx w2 w.heap.size ⟨d, t, a, b⟩) := Lib.hid (bx_grown HXa.out HG2.out hlt); have HV2 : Hid (Below w.heap.size w w2) := Lib.hid (HVa.out.grown HG2.out HVa.out.size (fun k hk => by simp [blk] at hk; omega)); have hlt2 : w.heap.size < w2.heap.size := lt_of_block HX2.out; have hz2 := HX2.out.at; obtain ⟨y0, y1, y2, y3⟩ := hz2; simp only at y0 y1 y2 y3)
        | ((with_reducible refine (HP.out _).mono ?_); rintro e w3 ⟨rfl, hB3⟩; have HB3 := Lib.hid (hB3.alloc hB3.size (.cells #[.bool (decide (d = 1)), .bool false] 37)); clear hB3))
      go_ret2
      refine ⟨l2, A2, c2, Lib.hid ?_, by rw [HN.out.2]; rfl, Lib.hid (own_base (HO2.out.below HB3.out (Nat.le_refl _)) (Nat.le_of_lt hlt)), Lib.hid (below_more HV2.out HB3.out)⟩
      rw [HLd.out, HL2.out, sb_str HT.out]
    | true =>
      rw [h2] at HP
      have HLd := Lib.hid (HN.out.1.trans (ld_two (a := a) (b := b) (t := t) h2))
      clear h2
      go_wp2_with (first
        | (at_builtin; refine Pk.wpList_text rfl (.tmp 13) (.tmp 15) rfl w1.heap.size (some ⟨w1.heap.size, 0, none⟩) 1 [d] (strOfNums t) rfl rfl HO1.out (by simp) (by have := HTs.out; omega) (by have := HSa.out; omega) ?_; intro l2 A2 c2 w2 HL2 HO2 HG2; have HX2 : Hid (Bx w2 w.heap.size ⟨d, t, a, b⟩) := Lib.hid (bx_grown HXa.out HG2.out hlt); have HV2 : Hid (Below w.heap.size w w2) := Lib.hid (HVa.out.grown HG2.out HVa.out.size (fun k hk => by simp [blk] at hk; omega)); have hlt2 : w.heap.size < w2.heap.size := lt_of_block HX2.out; have hz2 := HX2.out.at; obtain ⟨y0, y1, y2, y3⟩ := hz2; simp only at y0 y1 y2 y3)
        | ((with_reducible refine (HP.out _).mono ?_); rintro e w3 ⟨rfl, hB3⟩; have HB3 := Lib.hid (hB3.alloc hB3.size (.cells #[.bool (decide (d = 1)), .bool true] 37)); clear hB3))
      have HP5 : Hid (w.heap.size < (w3.alloc (.cells #[.bool (decide (d = 1)), .bool true] 37)).heap.size) := Lib.hid (Nat.lt_of_lt_of_le hlt2 HB3.out.size)
      have HO5 : Hid (Own (w3.alloc (.cells #[.bool (decide (d = 1)), .bool true] 37)).drew w1.heap.size .u8 5 A2 c2 l2) := Lib.hid (HO2.out.below HB3.out.drew (Nat.le_refl _))
      have HX5 : Hid (Bx (w3.alloc (.cells #[.bool (decide (d = 1)), .bool true] 37)).drew w.heap.size ⟨d, t, a, b⟩) := Lib.hid (HX2.out.of HB3.out.drew hlt2)
      have HV5 : Hid (Below w.heap.size w (w3.alloc (.cells #[.bool (decide (d = 1)), .bool true] 37)).drew) := Lib.hid (Below.drew (below_more HV2.out HB3.out))
      have hl2 : (l2.length : Int) ≤ 200000 := by rw [HL2.out, List.length_append, sb_len]; have := HTs.out; simp; omega
      refine wp_region_noPanic ?_
      refine wp_region_held_drew (S := fun w' => Below (w3.alloc (.cells #[.bool (decide (d = 1)), .bool true] 37)).drew.heap.size (w3.alloc (.cells #[.bool (decide (d = 1)), .bool true] 37)).drew w') (by kernel_rfl) (Below.refl _ _) (fun _ => ?_)
      generalize (w3.alloc (.cells #[.bool (decide (d = 1)), .bool true] 37)).drew = w5 at HO5 HX5 HV5 ⊢
      have HR5 := Lib.hid (Rd.of_own HO5.out)
      have HP5 : Hid (w.heap.size < w5.heap.size) := Lib.hid (lt_of_block HX5.out)
      refine wpAnyH_take (i := 0) (oi := ⟨some 25, Op.move (Operand.tmp 4), 25, _, _, none⟩) (v := ?ve0) rfl (by kernel_rfl) (by kernel_rfl) (by kernel_rfl) (fun _ _ _ h => h) (Or.inl ⟨by rfl, ?he0⟩) (Below.refl _ _) ?re0
      case he0 => (intro wz hSw; go_simp <;> with_reducible rfl)
      (try simp only [Act.put, List.setIfInBounds_toArray, List.set_cons_zero, List.set_cons_succ])
      refine wpAnyH_take (i := 1) (oi := ⟨some 26, Op.fieldAddr 23 (Operand.tmp 1) 2, 0, _, _, none⟩) (v := ?ve1) rfl (by kernel_rfl) (by kernel_rfl) (by kernel_rfl) (fun _ _ _ h => h) (Or.inl ⟨by rfl, ?he1⟩) (Below.refl _ _) ?re1
      case he1 => (intro wz hSw; go_simp <;> with_reducible rfl)
      (try simp only [Act.put, List.setIfInBounds_toArray, List.set_cons_zero, List.set_cons_succ])
      refine wpAnyH_take (i := 2) (oi := ⟨some 27, Op.load 3 (Operand.tmp 26), 3, _, _, none⟩) (v := ?ve2) rfl (by kernel_rfl) (by kernel_rfl) (by kernel_rfl) (fun _ _ _ h => h) (Or.inl ⟨by rfl, ?he2⟩) (Below.refl _ _) ?re2
      case he2 => (intro wz hSw; have hc := (HX5.out.of hSw HP5.out).at; obtain ⟨c0, c1, c2, c3⟩ := hc; simp only at c0 c1 c2 c3; go_simp <;> with_reducible rfl)
      (try simp only [Act.put, List.setIfInBounds_toArray, List.set_cons_zero, List.set_cons_succ])
      refine wpAnyH_take (i := 4) (oi := ⟨some 29, Op.fieldAddr 23 (Operand.tmp 1) 3, 0, _, _, none⟩) (v := ?ve4) rfl (by kernel_rfl) (by kernel_rfl) (by kernel_rfl) (fun _ _ _ h => h) (Or.inl ⟨by rfl, ?he4⟩) (Below.refl _ _) ?re4
      case he4 => (intro wz hSw; go_simp <;> with_reducible rfl)
      (try simp only [Act.put, List.setIfInBounds_toArray, List.set_cons_zero, List.set_cons_succ])
      refine wpAnyH_take (i := 5) (oi := ⟨some 30, Op.load 3 (Operand.tmp 29), 3, _, _, none⟩) (v := ?ve5) rfl (by kernel_rfl) (by kernel_rfl) (by kernel_rfl) (fun _ _ _ h => h) (Or.inl ⟨by rfl, ?he5⟩) (Below.refl _ _) ?re5
      case he5 => (intro wz hSw; have hc := (HX5.out.of hSw HP5.out).at; obtain ⟨c0, c1, c2, c3⟩ := hc; simp only at c0 c1 c2 c3; go_simp <;> with_reducible rfl)
      (try simp only [Act.put, List.setIfInBounds_toArray, List.set_cons_zero, List.set_cons_succ])
      refine wpAnyH_ready (rs := [3]) (by kernel_rfl) (by simp) ?_
      refine AllReadyH.cons (o := ⟨some 28, Op.call { callee := Callee.value (Operand.func 16), args := #[Operand.tmp 25, Operand.tmp 27], argTypes := #[25, 3] }, 25, _, _, none⟩) rfl (fun K hK => ?_) AllReadyH.nil
      go_simp
      (with_reducible refine (Pk.int_any A2 c2 l2 a _ w5.heap.size HR5.out (Nat.le_refl _) (by omega) ha0 ha1).mono ?_); rintro e w6 ⟨l6, A6, c6, HL6, rfl, HO6, HB6⟩; have HS6 := Lib.hid (HB6.out); have hl6 : (l6.length : Int) ≤ 1000000 := (by have h1 := dg_len10 (sg_nat ⟨ha0, ha1⟩); rw [HL6.out, List.length_append]; omega)
      refine hK.out _ _ HS6.out (fun _ => ?_)
      clear hK K
      (try simp only [Act.put, List.setIfInBounds_toArray, List.set_cons_zero, List.set_cons_succ])
      refine wpAnyH_ready (rs := [6]) (by kernel_rfl) (by simp) ?_
      refine AllReadyH.cons (o := ⟨some 31, Op.call { callee := Callee.value (Operand.func 16), args := #[Operand.tmp 28, Operand.tmp 30], argTypes := #[25, 3] }, 25, _, _, none⟩) rfl (fun K hK => ?_) AllReadyH.nil
      go_simp
      (with_reducible refine (Pk.int_any A6 c6 l6 b _ w6.heap.size (own_rd HO6.out) (Nat.le_refl _) hl6 hb0 hb1).mono ?_); rintro e w7 ⟨l7, A7, c7, HL7, rfl, HO7, HB7⟩; have HS7 := Lib.hid (below_more HS6.out HB7.out)
      refine hK.out _ _ HS7.out (fun _ => ?_)
      clear hK K
      (try simp only [Act.put, List.setIfInBounds_toArray, List.set_cons_zero, List.set_cons_succ])
      refine wpAnyH_take (i := 7) (oi := ⟨some 4, Op.assign (Operand.tmp 31), 25, _, _, none⟩) (v := ?ve7) rfl (by kernel_rfl) (by kernel_rfl) (by kernel_rfl) (fun _ _ _ h => h) (Or.inl ⟨by rfl, ?he7⟩) HS7.out ?re7
      case he7 => (intro wz hSw; go_simp <;> with_reducible rfl)
      (try simp only [Act.put, List.setIfInBounds_toArray, List.set_cons_zero, List.set_cons_succ])
      refine wpAnyH_done (by kernel_rfl) ?_ _
      refine NoPanic.normal ?_
      go_wp2
      go_ret2
      refine ⟨l7, A7, c7, Lib.hid ?_, by rw [HN.out.2]; rfl, Lib.hid (own_base HO7.out ?_), Lib.hid (below_more HV5.out HS7.out)⟩
      · rw [HLd.out, HL7.out, HL6.out, HL2.out, sb_str HT.out]
      · exact Nat.le_trans HV5.out.size HB6.out.size
set_option maxRecDepth 20000 in
set_option maxHeartbeats 2000000 in
theorem rencode_any (c : Cm) (hf : FC c) (hl : (c.t.length : Int) ≤ 100000) (w : World) : Calls Try.prog 8 #[cv c] w (EA w c) := by
  obtain ⟨d, t, a, b⟩ := c
  have HRi := Lib.hid (rright_any ⟨d, t, a, b⟩ hf (by simp only at hl ⊢; omega))
  obtain ⟨⟨hd0, hd1⟩, ht, ⟨ha0, ha1⟩, ⟨hb0, hb1⟩⟩ := hf
  simp only at hd0 hd1 ht ha0 ha1 hb0 hb1 hl
  have HT := Lib.hid ht; clear ht
  have HP := Lib.hid (two_any d · hd0 hd1)
  have HB0 : Hid (Below w.heap.size w (w.alloc (oC ⟨d, t, a, b⟩))) := Lib.hid (by go_grown)
  have HX0 : Hid (Bx (w.alloc (oC ⟨d, t, a, b⟩)) w.heap.size ⟨d, t, a, b⟩) := Lib.hid (heap_alloc_new w _)
  have hsz : (w.alloc (oC ⟨d, t, a, b⟩)).heap.size = w.heap.size + 1 := by simp
  have hz := HX0.out.at
  go_enter Try.func8, Try.ntmps8
  go_wp2_with (fail)
  generalize w.alloc (oC ⟨d, t, a, b⟩) = w0 at *
  have HSz := Lib.hid hsz; clear hsz
  (with_reducible refine (HRi.out _).mono ?_); rintro e w1 ⟨rfl, hB1⟩
  have HX1 := Lib.hid (HX0.out.of hB1 (by have := HSz.out; omega))
  have HV1 : Hid (Below w.heap.size w w1) := Lib.hid (HB0.out.trans (hB1.mono (by have := HSz.out; omega)))
  have hlt : w.heap.size < w1.heap.size := by have := HSz.out; have := hB1.size; omega
  clear hB1 hz
  cases hr : rtB ⟨d, t, a, b⟩ with
  | false =>
    have HN : Hid (enL ⟨d, t, a, b⟩ = [] ∧ enE ⟨d, t, a, b⟩ = 1) := Lib.hid (by simp [enL, enE, hr])
    clear hr
    go_wp2
    go_ret2
    exact ⟨[], none, 0, Lib.hid HN.out.1.symm, by rw [HN.out.2]; rfl, Lib.hid (own_none _ _), HV1⟩
  | true =>
    have HN : Hid (enL ⟨d, t, a, b⟩ = ld ⟨d, t, a, b⟩ ∧ enE ⟨d, t, a, b⟩ = 0) := Lib.hid (by simp [enL, enE, hr])
    obtain ⟨hr1, hr2, _, _⟩ := rt_parts hr
    simp only at hr1 hr2
    have hwr : IntKind.u8.wrap d = d := by rw [IntKind.wrap_u8']; omega
    have hwr' : d % 256 = d := by omega
    obtain ⟨z0, z1, z2, z3⟩ := HX1.out.at
    simp only at z0 z1 z2 z3
    have HO1 := Lib.hid (own_one w1 d)
    have HXa : Hid (Bx (w1.alloc (.cells #[.int .u8 d] 5)) w.heap.size ⟨d, t, a, b⟩) := Lib.hid ((Below.heap_alloc w1 _ _ hlt).trans HX1.out)
    have HVa : Hid (Below w.heap.size w (w1.alloc (.cells #[.int .u8 d] 5))) := Lib.hid (HV1.out.alloc (Nat.le_of_lt hlt) _)
    have hsa : (w1.alloc (.cells #[.int .u8 d] 5)).heap.size = w1.heap.size + 1 := by simp
    have HSa := Lib.hid hsa
    have hts : ((strOfNums t).size : Int) ≤ 100000 := by rw [strOfNums_size]; exact hl
    have HTs := Lib.hid hts
    clear hr hsa hts
    cases h2 : twoB d with
    | false =>
      rw [h2] at HP
      have HLd := Lib.hid (HN.out.1.trans (ld_plain (a := a) (b := b) (t := t) h2))
      clear h2
      go_wp2_with (first
        | (at_builtin; refine Pk.wpList_text rfl (.tmp 13) (.tmp 15) rfl w1.heap.size (some ⟨w1.heap.size, 0, none⟩) 1 [d] (strOfNums t) rfl rfl HO1.out (by simp) (by have := HTs.out; omega) (by have := HSa.out; omega) ?_; intro l2 A2 c2 w2 HL2 HO2 HG2; have HX2 : Hid (Bx w2 w.heap.size ⟨d, t, a, b⟩) := Lib.hid (bx_grown HXa.out HG2.out hlt); have HV2 : Hid (Below w.heap.size w w2) := Lib.hid (HVa.out.grown HG2.out HVa.out.size (fun k hk => by simp [blk] at hk; omega)); have hlt2 : w.heap.size < w2.heap.size := lt_of_block HX2.out; have hz2 := HX2.out.at; obtain ⟨y0, y1, y2, y3⟩ := hz2; simp only at y0 y1 y2 y3)
        | ((with_reducible refine (HP.out _).mono ?_); rintro e w3 ⟨rfl, rfl⟩))
      go_ret2
      refine ⟨l2, A2, c2, Lib.hid ?_, by rw [HN.out.2]; rfl, Lib.hid (own_base HO2.out (Nat.le_of_lt hlt)), HV2⟩
      rw [HLd.out, HL2.out, sb_str HT.out]
    | true =>
      rw [h2] at HP
      have HLd := Lib.hid (HN.out.1.trans (ld_two (a := a) (b := b) (t := t) h2))
      clear h2
      go_wp2_with (first
        | (at_builtin; refine Pk.wpList_text rfl (.tmp 13) (.tmp 15) rfl w1.heap.size (some ⟨w1.heap.size, 0, none⟩) 1 [d] (strOfNums t) rfl rfl HO1.out (by simp) (by have := HTs.out; omega) (by have := HSa.out; omega) ?_; intro l2 A2 c2 w2 HL2 HO2 HG2; have HX2 : Hid (Bx w2 w.heap.size ⟨d, t, a, b⟩) := Lib.hid (bx_grown HXa.out HG2.out hlt); have HV2 : Hid (Below w.heap.size w w2) := Lib.hid (HVa.out.grown HG2.out HVa.out.size (fun k hk => by simp [blk] at hk; omega)); have hlt2 : w.heap.size < w2.heap.size := lt_of_block HX2.out; have hz2 := HX2.out.at; obtain ⟨y0, y1, y2, y3⟩ := hz2; simp only at y0 y1 y2 y3)
        | ((with_reducible refine (HP.out _).mono ?_); rintro e w3 ⟨rfl, rfl⟩))
      have HP5 : Hid (w.heap.size < w2.heap.size) := Lib.hid hlt2
      have HO5 : Hid (Own w2.drew w1.heap.size .u8 5 A2 c2 l2) := HO2
      have HX5 : Hid (Bx w2.drew w.heap.size ⟨d, t, a, b⟩) := HX2
      have HV5 : Hid (Below w.heap.size w w2.drew) := Lib.hid (Below.drew HV2.out)
      have hl2 : (l2.length : Int) ≤ 200000 := by rw [HL2.out, List.length_append, sb_len]; have := HTs.out; simp; omega
      refine wp_region_noPanic ?_
      refine wp_region_held_drew (S := fun w' => Below w2.drew.heap.size w2.drew w') (by kernel_rfl) (Below.refl _ _) (fun _ => ?_)
      generalize w2.drew = w5 at HO5 HX5 HV5 ⊢
      have HR5 := Lib.hid (Rd.of_own HO5.out)
      have HP5 : Hid (w.heap.size < w5.heap.size) := Lib.hid (lt_of_block HX5.out)
      refine wpAnyH_take (i := 0) (oi := ⟨some 20, Op.move (Operand.tmp 5), 25, _, _, none⟩) (v := ?ve0) rfl (by kernel_rfl) (by kernel_rfl) (by kernel_rfl) (fun _ _ _ h => h) (Or.inl ⟨by rfl, ?he0⟩) (Below.refl _ _) ?re0
      case he0 => (intro wz hSw; go_simp <;> with_reducible rfl)
      (try simp only [Act.put, List.setIfInBounds_toArray, List.set_cons_zero, List.set_cons_succ])
      refine wpAnyH_take (i := 1) (oi := ⟨some 21, Op.fieldAddr 23 (Operand.tmp 1) 2, 0, _, _, none⟩) (v := ?ve1) rfl (by kernel_rfl) (by kernel_rfl) (by kernel_rfl) (fun _ _ _ h => h) (Or.inl ⟨by rfl, ?he1⟩) (Below.refl _ _) ?re1
      case he1 => (intro wz hSw; go_simp <;> with_reducible rfl)
      (try simp only [Act.put, List.setIfInBounds_toArray, List.set_cons_zero, List.set_cons_succ])
      refine wpAnyH_take (i := 2) (oi := ⟨some 22, Op.load 3 (Operand.tmp 21), 3, _, _, none⟩) (v := ?ve2) rfl (by kernel_rfl) (by kernel_rfl) (by kernel_rfl) (fun _ _ _ h => h) (Or.inl ⟨by rfl, ?he2⟩) (Below.refl _ _) ?re2
      case he2 => (intro wz hSw; have hc := (HX5.out.of hSw HP5.out).at; obtain ⟨c0, c1, c2, c3⟩ := hc; simp only at c0 c1 c2 c3; go_simp <;> with_reducible rfl)
      (try simp only [Act.put, List.setIfInBounds_toArray, List.set_cons_zero, List.set_cons_succ])
      refine wpAnyH_take (i := 4) (oi := ⟨some 24, Op.fieldAddr 23 (Operand.tmp 1) 3, 0, _, _, none⟩) (v := ?ve4) rfl (by kernel_rfl) (by kernel_rfl) (by kernel_rfl) (fun _ _ _ h => h) (Or.inl ⟨by rfl, ?he4⟩) (Below.refl _ _) ?re4
      case he4 => (intro wz hSw; go_simp <;> with_reducible rfl)
      (try simp only [Act.put, List.setIfInBounds_toArray, List.set_cons_zero, List.set_cons_succ])
      refine wpAnyH_take (i := 5) (oi := ⟨some 25, Op.load 3 (Operand.tmp 24), 3, _, _, none⟩) (v := ?ve5) rfl (by kernel_rfl) (by kernel_rfl) (by kernel_rfl) (fun _ _ _ h => h) (Or.inl ⟨by rfl, ?he5⟩) (Below.refl _ _) ?re5
      case he5 => (intro wz hSw; have hc := (HX5.out.of hSw HP5.out).at; obtain ⟨c0, c1, c2, c3⟩ := hc; simp only at c0 c1 c2 c3; go_simp <;> with_reducible rfl)
      (try simp only [Act.put, List.setIfInBounds_toArray, List.set_cons_zero, List.set_cons_succ])
      refine wpAnyH_ready (rs := [3]) (by kernel_rfl) (by simp) ?_
      refine AllReadyH.cons (o := ⟨some 23, Op.call { callee := Callee.value (Operand.func 18), args := #[Operand.tmp 20, Operand.tmp 22], argTypes := #[25, 3] }, 25, _, _, none⟩) rfl (fun K hK => ?_) AllReadyH.nil
      go_simp
      (with_reducible refine (Pk.rint_any A2 c2 l2 a _ w5.heap.size HR5.out (Nat.le_refl _) (by omega) ha0 ha1).mono ?_); rintro e w6 ⟨l6, A6, c6, HL6, rfl, HO6, HB6⟩; have HS6 := Lib.hid (HB6.out); have hl6 : (l6.length : Int) ≤ 1000000 := (by have h1 := dg_len10 (sg_nat ⟨ha0, ha1⟩); rw [HL6.out, List.length_append]; omega)
      refine hK.out _ _ HS6.out (fun _ => ?_)
      clear hK K
      (try simp only [Act.put, List.setIfInBounds_toArray, List.set_cons_zero, List.set_cons_succ])
      refine wpAnyH_ready (rs := [6]) (by kernel_rfl) (by simp) ?_
      refine AllReadyH.cons (o := ⟨some 26, Op.call { callee := Callee.value (Operand.func 18), args := #[Operand.tmp 23, Operand.tmp 25], argTypes := #[25, 3] }, 25, _, _, none⟩) rfl (fun K hK => ?_) AllReadyH.nil
      go_simp
      (with_reducible refine (Pk.rint_any A6 c6 l6 b _ w6.heap.size (own_rd HO6.out) (Nat.le_refl _) hl6 hb0 hb1).mono ?_); rintro e w7 ⟨l7, A7, c7, HL7, rfl, HO7, HB7⟩; have HS7 := Lib.hid (below_more HS6.out HB7.out)
      refine hK.out _ _ HS7.out (fun _ => ?_)
      clear hK K
      (try simp only [Act.put, List.setIfInBounds_toArray, List.set_cons_zero, List.set_cons_succ])
      refine wpAnyH_take (i := 7) (oi := ⟨some 5, Op.assign (Operand.tmp 26), 25, _, _, none⟩) (v := ?ve7) rfl (by kernel_rfl) (by kernel_rfl) (by kernel_rfl) (fun _ _ _ h => h) (Or.inl ⟨by rfl, ?he7⟩) HS7.out ?re7
      case he7 => (intro wz hSw; go_simp <;> with_reducible rfl)
      (try simp only [Act.put, List.setIfInBounds_toArray, List.set_cons_zero, List.set_cons_succ])
      refine wpAnyH_done (by kernel_rfl) ?_ _
      refine NoPanic.normal ?_
      go_wp2
      go_ret2
      refine ⟨l7, A7, c7, Lib.hid ?_, by rw [HN.out.2]; rfl, Lib.hid (own_base HO7.out ?_), Lib.hid (below_more HV5.out HS7.out)⟩
      · rw [HLd.out, HL7.out, HL6.out, HL2.out, sb_str HT.out]
      · exact Nat.le_trans HV5.out.size HB6.out.size
end Go.Proofs.Yteiknfhoggoapaa.Con
