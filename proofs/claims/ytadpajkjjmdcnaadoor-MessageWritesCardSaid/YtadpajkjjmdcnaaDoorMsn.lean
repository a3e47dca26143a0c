/-
  Contracts of the program's Encode and the document's: the load of a right message, in new memory.
-/
import Derived.Test.YtadpajkjjmdcnaaDoorMse
namespace Go.Proofs.YtadpajkjjmdcnaaDoor.Con
open Go.RowKit Pm Mth
set_option linter.unusedVariables false

theorem sb_str {l : List Int} (h : Byt l) : sb (strOfNums l) = l := by
  refine str_inj (sb_byt _) h ?_
  exact sb_back _
theorem own_none (K : IntKind) (e : TypeId) (w : World) (b : Nat) : Own w b K e none 0 [] := ⟨rfl, .inl ⟨rfl, rfl⟩⟩
theorem own_one (w : World) (x : Int) : Own (w.alloc (.cells #[.int .u8 x] 5)) w.heap.size .u8 5 (some ⟨w.heap.size, 0, none⟩) 1 [x] :=
  ⟨rfl, .inr ⟨w.heap.size, 1, #[.int .u8 x], rfl, Nat.le_refl _, heap_alloc_new w _, by simp, by simp [maxLen], rfl, rfl⟩⟩
theorem own_rd {w : World} {base : Nat} {K : IntKind} {e : TypeId} {A : Option Addr} {c : Nat} {l : List Int} (h : Own w base K e A c l) : Rd K w w.heap.size A l := Rd.of_own h
theorem below_more {w w1 w2 : World} (h : Below w.heap.size w w1) (k : Below w1.heap.size w1 w2) : Below w.heap.size w w2 := h.trans (k.mono h.size)
/-- What Encode answers. -/
def EA (w : World) (m : Ms) (e : Ending) (w' : World) : Prop :=
  ∃ (lm : List Int) (A : Option Addr) (cc : Nat), Hid (lm = enL m) ∧ e = .returned (.tuple #[.slice A lm.length cc, .int .i64 (enE m)]) ∧ Hid (Own w' w.heap.size .u8 5 A cc lm) ∧ Hid (Below w.heap.size w w')
theorem take_wl {l1 l2 m : List Int} {d : Int} {k : Nat} {x : Int} (hx : m[k]? = some x) (h1 : l1 = [d] ++ wl (m.take k)) (h2 : l2 = l1 ++ dg (sg x).toNat) : l2 = [d] ++ wl (m.take (k + 1)) := by
  obtain ⟨hk, rfl⟩ := List.getElem?_eq_some_iff.1 hx
  rw [h2, h1, List.take_succ_eq_append_getElem hk, wl_app]
  simp [wl]
theorem take_room {l1 m : List Int} {d : Int} {k : Nat} (hm : Fit m) (hl : (m.length : Int) ≤ 10) (h1 : l1 = [d] ++ wl (m.take k)) : (l1.length : Int) ≤ 101 := by
  have b := wl_len (l := m.take k) (fun x hx => hm x (List.mem_of_mem_take hx))
  have d : (m.take k).length ≤ m.length := by rw [List.length_take]; omega
  rw [h1, List.length_append]
  simp only [List.length_singleton]
  omega
theorem take_last {l1 l2 m t : List Int} {d : Int} {k : Nat} (hk : m.length ≤ k) (h1 : l1 = [d] ++ wl (m.take k)) (h2 : l2 = l1 ++ t) : l2 = ldM ⟨d, m, t⟩ := by
  rw [h2, h1, List.take_of_length_le hk]; simp [ldM]
set_option maxRecDepth 20000 in
set_option maxHeartbeats 2000000 in
theorem encode_any (m : Ms) (A : Option Addr) (c : Nat) (w : World) (B : Nat) (hr : Rd .i64 w B A m.l) (hB : B ≤ w.heap.size) (hf : FM m) (hn : (m.l.length : Int) ≤ 100000) (hl : (m.t.length : Int) ≤ 100000) (hS : Sz w) : Calls Tryd.prog 8 #[mv m A c] w (EA w m) := by
  have HRi := Lib.hid (fun V h => right_any m A c hf (by omega) (by omega) V h)
  have HFt := Lib.hid hf.l
  obtain ⟨d, l, t⟩ := m
  obtain ⟨⟨hd0, hd1⟩, _, ht⟩ := hf
  simp only at hd0 hd1 ht hn hl hr HFt
  have HT := Lib.hid ht; clear ht
  have HB0 : Hid (Below w.heap.size w (w.alloc (oM ⟨d, l, t⟩ A c))) := Lib.hid (by go_grown)
  have HX0 : Hid (Bx (w.alloc (oM ⟨d, l, t⟩ A c)) w.heap.size ⟨d, l, t⟩ A c) := Lib.hid (heap_alloc_new w _)
  have HS0 := Lib.hid (hS.keep HB0.out hS.pos)
  have HR0 : Hid (∀ V, Below w.heap.size w V → Rd .i64 V B A l) := Lib.hid (fun V hV => hr.below hV hB)
  clear hr hB hS
  have hz := HX0.out.at
  go_enter Tryd.func8, Tryd.ntmps8
  go_wp2_with (fail)
  generalize w.alloc (oM ⟨d, l, t⟩ A c) = w0 at *
  have HP0 := Lib.hid HX0.out.lt
  (with_reducible refine (HRi.out _ HS0.out).mono ?_); rintro e w1 ⟨rfl, hB1⟩
  have HX1 := Lib.hid (HX0.out.of hB1 HP0.out)
  have HV1 : Hid (Below w.heap.size w w1) := Lib.hid (HB0.out.trans (hB1.mono (Nat.le_of_lt HP0.out)))
  have hlt : w.heap.size < w1.heap.size := HX1.out.lt
  clear hB1 hz
  cases hr : rtM ⟨d, l, t⟩ with
  | false =>
    have HN := Lib.hid (en_no hr)
    clear hr
    go_wp2
    go_ret2
    exact ⟨[], none, 0, Lib.hid HN.out.1.symm, by rw [HN.out.2]; rfl, Lib.hid (own_none _ _ _ _), HV1⟩
  | true =>
    have HN := Lib.hid (en_yes hr)
    obtain ⟨hr1, hr2, hr3, _⟩ := rt_parts hr
    simp only at hr1 hr2 hr3
    have hl10 : (l.length : Int) ≤ 10 := by have := szN_le d; omega
    have hwr : IntKind.u8.wrap d = d := by rw [IntKind.wrap_u8']; omega
    have hwr' : d % 256 = d := by omega
    obtain ⟨z0, z1, z2⟩ := HX1.out.at
    simp only at z0 z1 z2
    have HXa : Hid (Bx (w1.alloc (.cells #[.int .u8 d] 5)) w.heap.size ⟨d, l, t⟩ A c) := Lib.hid ((Below.heap_alloc w1 _ _ hlt).trans HX1.out)
    have HVa : Hid (Below w.heap.size w (w1.alloc (.cells #[.int .u8 d] 5))) := Lib.hid (HV1.out.alloc (Nat.le_of_lt hlt) _)
    have HOa : Hid (Own (w1.alloc (.cells #[.int .u8 d] 5)) w.heap.size .u8 5 (some ⟨w1.heap.size, 0, none⟩) 1 [d]) := Lib.hid (own_base (own_one w1 d) (Nat.le_of_lt hlt))
    have hts : ((strOfNums t).size : Int) ≤ 100000 := by rw [strOfNums_size]; exact hl
    have HTs := Lib.hid hts
    clear hr hts hr3
    have y1 := HXa.out.at.2.1
    simp only at y1
    go_wp2_with (fail)
    generalize w1.alloc (.cells #[.int .u8 d] 5) = wa at *
    generalize hq : w1.heap.size = Q at HOa ⊢
    clear hq z0 z1 z2 y1 HX1 HV1
    go_loopg [4, 17] l.length (fun g s4 s17 wr => ∃ (k : Nat) (l3 : List Int) (A3 : Option Addr) (c3 : Nat), k ≤ l.length ∧ g = l.length - k ∧ s4 = .slice A3 l3.length c3 ∧ s17 = .int .i64 (k : Int) ∧ Hid (Own wr w.heap.size .u8 5 A3 c3 l3) ∧ Hid (Below w.heap.size w wr) ∧ Hid (Bx wr w.heap.size ⟨d, l, t⟩ A c) ∧ Hid (l3 = [d] ++ wl (l.take k)))
    case atStart => exact ⟨0, [d], some ⟨Q, 0, none⟩, 1, by omega, rfl, rfl, rfl, HOa, HVa, HXa, Lib.hid (by simp [wl])⟩
    case round =>
      obtain ⟨k, l3, A3, c3, hk, rfl, rfl, rfl, HO3, HB3, HX3, HE⟩ := hrel
      have hl3 := take_room HFt.out hl10 HE.out
      by_cases hlt2 : k < l.length
      · have hlt3 : (k : Int) < l.length := by omega
        obtain ⟨b, off, x, rfl, _, hx, hc⟩ := (HR0.out _ HB3.out).at' hlt2
        have HX := Lib.hid hx; clear hx
        obtain ⟨hx0, hx1⟩ := HFt.out x (List.mem_of_getElem? HX.out)
        go_wp2_with ((with_reducible refine (Pk.int_any A3 c3 l3 x _ wr.heap.size (own_rd HO3.out) (Nat.le_refl _) (by omega) hx0 hx1).mono ?_); rintro e w4 ⟨l4, A4, c4, HL4, rfl, HO4, HB4⟩)
        go_roundg (l.length - (k + 1))
        case measure => omega
        case rel => exact ⟨k + 1, l4, A4, c4, by omega, rfl, rfl, by go_num, Lib.hid (own_base HO4.out HB3.out.size), Lib.hid (below_more HB3.out HB4.out), Lib.hid (HX3.out.of HB4.out HX3.out.lt), Lib.hid (take_wl HX.out HE.out HL4.out)⟩
      · have hlt3 : decide ((k : Int) < l.length) = false := by simp; omega
        have hlt4 : decide (k < l.length) = false := by simpa using hlt2
        have u2 := HX3.out.at.2.2
        simp only at u2
        go_wp2_with (at_builtin; refine Pk.wpList_text rfl (.tmp 25) (.tmp 27) rfl w.heap.size A3 c3 l3 (strOfNums t) rfl rfl HO3.out (by omega) (by have := HTs.out; omega) HB3.out.size ?_; intro l5 A5 c5 w5 HL5 HO5 HG5)
        go_ret2
        refine ⟨l5, A5, c5, Lib.hid ?_, by rw [HN.out.2]; rfl, HO5, Lib.hid (HB3.out.grown HG5.out HB3.out.size (fun k hk => (HO3.out.lt k hk).1))⟩
        rw [HN.out.1]
        exact take_last (by omega) HE.out (by rw [HL5.out, sb_str HT.out])
set_option maxRecDepth 20000 in
set_option maxHeartbeats 2000000 in
theorem rencode_any (m : Ms) (A : Option Addr) (c : Nat) (w : World) (B : Nat) (hr : Rd .i64 w B A m.l) (hB : B ≤ w.heap.size) (hf : FM m) (hn : (m.l.length : Int) ≤ 100000) (hl : (m.t.length : Int) ≤ 100000) : Calls Tryd.prog 9 #[mv m A c] w (EA w m) := by
  have HRi := Lib.hid (fun V => rright_any m A c hf (by omega) (by omega) V)
  have HFt := Lib.hid hf.l
  obtain ⟨d, l, t⟩ := m
  obtain ⟨⟨hd0, hd1⟩, _, ht⟩ := hf
  simp only at hd0 hd1 ht hn hl hr HFt
  have HT := Lib.hid ht; clear ht
  have HB0 : Hid (Below w.heap.size w (w.alloc (oM ⟨d, l, t⟩ A c))) := Lib.hid (by go_grown)
  have HX0 : Hid (Bx (w.alloc (oM ⟨d, l, t⟩ A c)) w.heap.size ⟨d, l, t⟩ A c) := Lib.hid (heap_alloc_new w _)
  have HR0 : Hid (∀ V, Below w.heap.size w V → Rd .i64 V B A l) := Lib.hid (fun V hV => hr.below hV hB)
  clear hr hB
  have hz := HX0.out.at
  go_enter Tryd.func9, Tryd.ntmps9
  go_wp2_with (fail)
  generalize w.alloc (oM ⟨d, l, t⟩ A c) = w0 at *
  have HP0 := Lib.hid HX0.out.lt
  (with_reducible refine (HRi.out _).mono ?_); rintro e w1 ⟨rfl, hB1⟩
  have HX1 := Lib.hid (HX0.out.of hB1 HP0.out)
  have HV1 : Hid (Below w.heap.size w w1) := Lib.hid (HB0.out.trans (hB1.mono (Nat.le_of_lt HP0.out)))
  have hlt : w.heap.size < w1.heap.size := HX1.out.lt
  clear hB1 hz
  cases hr : rtM ⟨d, l, t⟩ with
  | false =>
    have HN := Lib.hid (en_no hr)
    clear hr
    go_wp2
    go_ret2
    exact ⟨[], none, 0, Lib.hid HN.out.1.symm, by rw [HN.out.2]; rfl, Lib.hid (own_none _ _ _ _), HV1⟩
  | true =>
    have HN := Lib.hid (en_yes hr)
    obtain ⟨hr1, hr2, hr3, _⟩ := rt_parts hr
    simp only at hr1 hr2 hr3
    have hl10 : (l.length : Int) ≤ 10 := by have := szN_le d; omega
    have hwr : IntKind.u8.wrap d = d := by rw [IntKind.wrap_u8']; omega
    have hwr' : d % 256 = d := by omega
    obtain ⟨z0, z1, z2⟩ := HX1.out.at
    simp only at z0 z1 z2
    have HXa : Hid (Bx (w1.alloc (.cells #[.int .u8 d] 5)) w.heap.size ⟨d, l, t⟩ A c) := Lib.hid ((Below.heap_alloc w1 _ _ hlt).trans HX1.out)
    have HVa : Hid (Below w.heap.size w (w1.alloc (.cells #[.int .u8 d] 5))) := Lib.hid (HV1.out.alloc (Nat.le_of_lt hlt) _)
    have HOa : Hid (Own (w1.alloc (.cells #[.int .u8 d] 5)) w.heap.size .u8 5 (some ⟨w1.heap.size, 0, none⟩) 1 [d]) := Lib.hid (own_base (own_one w1 d) (Nat.le_of_lt hlt))
    have hts : ((strOfNums t).size : Int) ≤ 100000 := by rw [strOfNums_size]; exact hl
    have HTs := Lib.hid hts
    clear hr hts hr3
    have y1 := HXa.out.at.2.1
    simp only at y1
    go_wp2_with (fail)
    generalize w1.alloc (.cells #[.int .u8 d] 5) = wa at *
    generalize hq : w1.heap.size = Q at HOa ⊢
    clear hq z0 z1 z2 y1 HX1 HV1
    go_loopg [5, 6] l.length (fun g s4 s17 wr => ∃ (k : Nat) (l3 : List Int) (A3 : Option Addr) (c3 : Nat), k ≤ l.length ∧ g = l.length - k ∧ s4 = .slice A3 l3.length c3 ∧ s17 = .int .i64 (k : Int) ∧ Hid (Own wr w.heap.size .u8 5 A3 c3 l3) ∧ Hid (Below w.heap.size w wr) ∧ Hid (Bx wr w.heap.size ⟨d, l, t⟩ A c) ∧ Hid (l3 = [d] ++ wl (l.take k)))
    case atStart => exact ⟨0, [d], some ⟨Q, 0, none⟩, 1, by omega, rfl, rfl, rfl, HOa, HVa, HXa, Lib.hid (by simp [wl])⟩
    case round =>
      obtain ⟨k, l3, A3, c3, hk, rfl, rfl, rfl, HO3, HB3, HX3, HE⟩ := hrel
      have hl3 := take_room HFt.out hl10 HE.out
      obtain ⟨_, u1, u2⟩ := HX3.out.at
      simp only at u1 u2
      by_cases hlt2 : k < l.length
      · have hlt3 : (k : Int) < l.length := by omega
        obtain ⟨b, off, x, rfl, _, hx, hc⟩ := (HR0.out _ HB3.out).at' hlt2
        have HX := Lib.hid hx; clear hx
        obtain ⟨hx0, hx1⟩ := HFt.out x (List.mem_of_getElem? HX.out)
        go_wp2_with ((with_reducible refine (Pk.rint_any A3 c3 l3 x _ wr.heap.size (own_rd HO3.out) (Nat.le_refl _) (by omega) hx0 hx1).mono ?_); rintro e w4 ⟨l4, A4, c4, HL4, rfl, HO4, HB4⟩)
        go_roundg (l.length - (k + 1))
        case measure => omega
        case rel => exact ⟨k + 1, l4, A4, c4, by omega, rfl, rfl, by go_num, Lib.hid (own_base HO4.out HB3.out.size), Lib.hid (below_more HB3.out HB4.out), Lib.hid (HX3.out.of HB4.out HX3.out.lt), Lib.hid (take_wl HX.out HE.out HL4.out)⟩
      · have hlt3 : decide ((k : Int) < l.length) = false := by simp; omega
        have hlt4 : decide (k < l.length) = false := by simpa using hlt2
        go_wp2_with (at_builtin; refine Pk.wpList_text rfl (.tmp 29) (.tmp 31) rfl w.heap.size A3 c3 l3 (strOfNums t) rfl rfl HO3.out (by omega) (by have := HTs.out; omega) HB3.out.size ?_; intro l5 A5 c5 w5 HL5 HO5 HG5)
        go_ret2
        refine ⟨l5, A5, c5, Lib.hid ?_, by rw [HN.out.2]; rfl, HO5, Lib.hid (HB3.out.grown HG5.out HB3.out.size (fun k hk => (HO3.out.lt k hk).1))⟩
        rw [HN.out.1]
        exact take_last (by omega) HE.out (by rw [HL5.out, sb_str HT.out])
end Go.Proofs.YtadpajkjjmdcnaaDoor.Con
