/-
  The contract of the document's own Seen: for every grid whose walls read as a list, every tile and every number: the tiles of Around to which one sees, in its order, in new memory.
-/
import Derived.Test.YtiggpmennomplaaRar
namespace Go.Proofs.Ytiggpmennomplaa.Con
open Go.RowKit Go.Shelf Lin Arn

set_option maxRecDepth 100000 in
set_option maxHeartbeats 8000000 in
theorem rSeen_any (a : Arn.Ask) (w : World) (h1 : Fits a.px) (h2 : Fits a.py) (h3 : Fits a.r) (hl : RB w w.heap.size a.A a.l) :
    Calls Try.prog 17 #[gv a.W a.H a.A a.l.length a.c, pv a.px a.py, .int .i64 a.r] w fun e w' => (∃ v, e = .returned v ∧ OwnT w' w.heap.size v (seenL a)) ∧ Below w.heap.size w w' := by
  have hfewM := around_few a
  have hra : ∀ V : World, RB V V.heap.size a.A a.l → Calls Try.prog 35 #[gv a.W a.H a.A a.l.length a.c, pv a.px a.py, .int .i64 a.r] V fun e w' => (∃ v, e = .returned v ∧ OwnT w' V.heap.size v (aroundOf a)) ∧ Below V.heap.size V w' := fun V hV => rAround_any a V h1 h2 h3 hV
  unfold seenL
  generalize aroundOf a = M at hra hfewM ⊢
  obtain ⟨W, H, A, l, c, px, py, r⟩ := a
  dsimp only at h1 h2 h3 hl hra ⊢
  obtain ⟨n, hn⟩ : ∃ n, l.length = n := ⟨_, rfl⟩
  obtain ⟨f, hf⟩ : ∃ f : Tile → Bool, (fun q : Tile => seesB W H l px py q.1.1 q.1.2) = f := ⟨_, rfl⟩
  obtain ⟨k1, hk1⟩ : ∃ k1, M.length = k1 := ⟨_, rfl⟩
  rw [hf]
  have hfq : ∀ q : Tile, seesB W H l px py q.1.1 q.1.2 = f q := fun q => by rw [← hf]
  have hse : ∀ (q : Tile) (V : World), Below w.heap.size w V → Calls Try.prog 15 #[gv W H A n c, pv px py, pv q.1.1 q.1.2] V fun e w' => e = .returned (.bool (f q)) ∧ Below V.heap.size V w' := fun q V hV => by
    have := rSees_any W H A l c px py q.1.1 q.1.2 V (rb_later hl hV)
    rwa [hfq, hn] at this
  rw [hn] at hra ⊢
  rw [hk1] at hfewM
  have hb := ga_below W H A n c px py w
  have hg := ga_g2 W H A n c px py w
  have hra2 : Calls Try.prog 35 #[gv W H A n c, pv px py, .int .i64 r] (ga W H A n c px py w) fun e w' => (∃ A1 c1, e = .returned (.slice A1 k1 c1) ∧ RT w' w'.heap.size A1 M) ∧ Below (ga W H A n c px py w).heap.size (ga W H A n c px py w) w' :=
    (hra _ (rb_later hl hb)).mono fun e w' h => by
      obtain ⟨⟨v, he, hrow⟩, hbl⟩ := h
      obtain ⟨A1, c1, hv, hrt, _⟩ := OwnT.shape hrow
      exact ⟨⟨A1, c1, by rw [he, hv, hk1], hrt⟩, hbl⟩
  have HG := Lib.hid hg; have HB0 := Lib.hid hb; have HRA := Lib.hid hra2; have HSEE := Lib.hid hse; have HK := Lib.hid hk1
  obtain ⟨i0, hinf, hz0, hz1, hz2⟩ := info_parts infoPos
  have HINF := Lib.hid hinf; have HZ0 := Lib.hid hz0; have HZ1 := Lib.hid hz1; have HZ2 := Lib.hid hz2
  clear hinf hz0 hz1 hz2 hb hg hra hra2 hse hf hfq hn hk1
  go_enter Try.func17, Try.ntmps17
  go_wp2_with (first
    | ((with_reducible refine HRA.out.mono ?_); rintro e w1 ⟨⟨A1, c1, rfl, hrt⟩, hB1⟩; have HG1 := Lib.hid (HG.out.below hB1 HG.out.a.lt); have HB1 := Lib.hid (HB0.out.trans (hB1.mono HB0.out.size)); have HRT := Lib.hid hrt; clear hB1 hrt))
  have hM0 : LA W H A n c px py w.heap.size w1.heap.size w (.slice none 0 0) [] w1 := ⟨HG1.out, World.ownsRow_nil _ _ _ _, HB1.out, Nat.le_refl _, HG1.out.a.lt, HB1.out.size⟩
  have HM0 := Lib.hid hM0; clear hM0
  obtain ⟨B, hBe⟩ : ∃ B, w1.heap.size = B := ⟨_, rfl⟩
  rw [hBe] at HM0
  have HBE := Lib.hid hBe; clear hBe
  go_loopg [8, 9] k1 (fun m s8 s9 wr => ∃ (k : Nat) (v : Value), k ≤ k1 ∧ m = k1 - k ∧ v = s8 ∧ s9 = .int .i64 (k : Int) ∧ Hid (LA W H A n c px py w.heap.size B w v ((M.take k).filter f) wr) ∧ Hid (Below w1.heap.size w1 wr))
  case atStart => exact ⟨0, _, by omega, rfl, rfl, rfl, Lib.hid (by simpa using HM0.out), Lib.hid (Below.refl _ _)⟩
  case round =>
    obtain ⟨k, v, hk, rfl, rfl, rfl, HM, HW⟩ := hrel
    by_cases hkl : k < k1
    · have hkl' : (k : Int) < k1 := by omega
      obtain ⟨q, hq⟩ : ∃ q, M[k]? = some q := ⟨_, List.getElem?_eq_getElem (by rw [HK.out]; exact hkl)⟩
      obtain ⟨b0, hA, hqc⟩ := HRT.out.cells hq
      subst hA
      have HQ := Lib.hid hqc; have HQk := Lib.hid hq
      have hse := HSEE.out q
      have HBB : Hid (∀ b, v.ownBlock = some b → w1.heap.size ≤ b) := Lib.hid (fun b e => by rw [HBE.out]; exact HM.out.row.base b e)
      have hlen : ((M.take k).filter f).length ≤ 65536 := by have h1 := List.length_filter_le f (M.take k); rw [List.length_take, HK.out] at h1; omega
      clear hqc hq
      cases hfb : f q with
      | false =>
        rw [hfb] at hse
        have HSE := Lib.hid hse
        have HT := Lib.hid hfb
        clear hse hfb
        go_wp2
        have hS0 : Below wr.heap.size wr wr.drew := (Below.refl _ _).drew
        refine wp_region_noPanic ?_
        refine wp_region_held_drew (S := fun w' => Below wr.heap.size wr w') (by kernel_rfl) hS0 (fun _ => ?_)
        refine wpAnyH_take (i := 0) (oi := ⟨some 21, Op.load 24 (Operand.tmp 3), 24, _, _, none⟩) (v := ?va0) rfl (by kernel_rfl) (by kernel_rfl) (by kernel_rfl) (fun _ _ _ h => h) (Or.inl ⟨by rfl, ?ha0⟩) hS0 ?ra0
        case ha0 => (intro wz hSw; obtain ⟨c0, c1, c2, c3, c4⟩ := (HM.out.of hSw).g.cells; obtain ⟨q0, q1⟩ := HQ.out _ (HW.out.trans (hSw.mono HW.out.size)); go_simp <;> with_reducible rfl)
        (try simp only [Act.put, List.setIfInBounds_toArray, List.set_cons_zero, List.set_cons_succ])
        refine wpAnyH_take (i := 1) (oi := ⟨some 22, Op.load 26 (Operand.tmp 4), 26, _, _, none⟩) (v := ?va1) rfl (by kernel_rfl) (by kernel_rfl) (by kernel_rfl) (fun _ _ _ h => h) (Or.inl ⟨by rfl, ?ha1⟩) hS0 ?ra1
        case ha1 => (intro wz hSw; obtain ⟨c0, c1, c2, c3, c4⟩ := (HM.out.of hSw).g.cells; obtain ⟨q0, q1⟩ := HQ.out _ (HW.out.trans (hSw.mono HW.out.size)); go_simp <;> with_reducible rfl)
        (try simp only [Act.put, List.setIfInBounds_toArray, List.set_cons_zero, List.set_cons_succ])
        refine wpAnyH_take (i := 2) (oi := ⟨some 23, Op.move (Operand.tmp 7), 32, _, _, none⟩) (v := ?va2) rfl (by kernel_rfl) (by kernel_rfl) (by kernel_rfl) (fun _ _ _ h => h) (Or.inl ⟨by rfl, ?ha2⟩) hS0 ?ra2
        case ha2 => (intro wz hSw; go_simp <;> with_reducible rfl)
        (try simp only [Act.put, List.setIfInBounds_toArray, List.set_cons_zero, List.set_cons_succ])
        refine wpAnyH_take (i := 3) (oi := ⟨some 24, Op.move (Operand.tmp 9), 3, _, _, none⟩) (v := ?va3) rfl (by kernel_rfl) (by kernel_rfl) (by kernel_rfl) (fun _ _ _ h => h) (Or.inl ⟨by rfl, ?ha3⟩) hS0 ?ra3
        case ha3 => (intro wz hSw; go_simp <;> with_reducible rfl)
        (try simp only [Act.put, List.setIfInBounds_toArray, List.set_cons_zero, List.set_cons_succ])
        refine wpAnyH_take (i := 4) (oi := ⟨some 25, Op.indexAddr 32 (Operand.tmp 23) (Operand.tmp 24), 0, _, _, none⟩) (v := ?va4) rfl (by kernel_rfl) (by kernel_rfl) (by kernel_rfl) (fun _ _ _ h => h) (Or.inl ⟨by rfl, ?ha4⟩) hS0 ?ra4
        case ha4 => (intro wz hSw; go_simp <;> with_reducible rfl)
        (try simp only [Act.put, List.setIfInBounds_toArray, List.set_cons_zero, List.set_cons_succ])
        refine wpAnyH_take (i := 5) (oi := ⟨some 26, Op.load 26 (Operand.tmp 25), 26, _, _, none⟩) (v := ?va5) rfl (by kernel_rfl) (by kernel_rfl) (by kernel_rfl) (fun _ _ _ h => h) (Or.inl ⟨by rfl, ?ha5⟩) hS0 ?ra5
        case ha5 => (intro wz hSw; obtain ⟨c0, c1, c2, c3, c4⟩ := (HM.out.of hSw).g.cells; obtain ⟨q0, q1⟩ := HQ.out _ (HW.out.trans (hSw.mono HW.out.size)); go_simp <;> with_reducible rfl)
        (try simp only [Act.put, List.setIfInBounds_toArray, List.set_cons_zero, List.set_cons_succ])
        refine wpAnyH_ready (rs := [6]) (by kernel_rfl) (by simp) ?_
        refine AllReadyH.cons (o := ⟨some 27, Op.call { callee := Callee.value (Operand.func 15), args := #[Operand.tmp 21, Operand.tmp 22, Operand.tmp 26], argTypes := #[24, 26, 26] }, 4, _, _, none⟩) rfl (fun K hK => ?_) AllReadyH.nil
        go_simp
        (with_reducible refine (HSE.out _ (HM.out.of hS0).below).mono ?_); rintro e v1 ⟨rfl, hB1⟩; have hS1 := hS0.trans (hB1.mono hS0.size)
        refine hK.out _ _ hS1 (fun _ => ?_)
        clear hK K
        (try simp only [Act.put, List.setIfInBounds_toArray, List.set_cons_zero, List.set_cons_succ])
        refine wpAnyH_take (i := 7) (oi := ⟨some 10, Op.assign (Operand.tmp 27), 4, _, _, none⟩) (v := ?va7) rfl (by kernel_rfl) (by kernel_rfl) (by kernel_rfl) (fun _ _ _ h => h) (Or.inl ⟨by rfl, ?ha7⟩) hS1 ?ra7
        case ha7 => (intro wz hSw; go_simp <;> with_reducible rfl)
        (try simp only [Act.put, List.setIfInBounds_toArray, List.set_cons_zero, List.set_cons_succ])
        refine wpAnyH_done (by kernel_rfl) ?_ _
        refine NoPanic.normal ?_
        have h6 := hS1
        generalize hv6 : v1 = v6 at h6 ⊢
        clear hv6
        go_wp2
        go_roundg (k1 - (k + 1))
        · exact ⟨k + 1, _, by omega, rfl, rfl, by go_num, Lib.hid (by rw [take_no HQk.out HT.out]; exact HM.out.of h6), Lib.hid (HW.out.trans (h6.mono HW.out.size))⟩
        · omega
      | true =>
        rw [hfb] at hse
        have HSE := Lib.hid hse
        have HT := Lib.hid hfb
        clear hse hfb
        go_wp2
        have hS0 : Below wr.heap.size wr wr.drew := (Below.refl _ _).drew
        refine wp_region_noPanic ?_
        refine wp_region_held_drew (S := fun w' => Below wr.heap.size wr w') (by kernel_rfl) hS0 (fun _ => ?_)
        refine wpAnyH_take (i := 0) (oi := ⟨some 21, Op.load 24 (Operand.tmp 3), 24, _, _, none⟩) (v := ?vb0) rfl (by kernel_rfl) (by kernel_rfl) (by kernel_rfl) (fun _ _ _ h => h) (Or.inl ⟨by rfl, ?hb0⟩) hS0 ?rb0
        case hb0 => (intro wz hSw; obtain ⟨c0, c1, c2, c3, c4⟩ := (HM.out.of hSw).g.cells; obtain ⟨q0, q1⟩ := HQ.out _ (HW.out.trans (hSw.mono HW.out.size)); go_simp <;> with_reducible rfl)
        (try simp only [Act.put, List.setIfInBounds_toArray, List.set_cons_zero, List.set_cons_succ])
        refine wpAnyH_take (i := 1) (oi := ⟨some 22, Op.load 26 (Operand.tmp 4), 26, _, _, none⟩) (v := ?vb1) rfl (by kernel_rfl) (by kernel_rfl) (by kernel_rfl) (fun _ _ _ h => h) (Or.inl ⟨by rfl, ?hb1⟩) hS0 ?rb1
        case hb1 => (intro wz hSw; obtain ⟨c0, c1, c2, c3, c4⟩ := (HM.out.of hSw).g.cells; obtain ⟨q0, q1⟩ := HQ.out _ (HW.out.trans (hSw.mono HW.out.size)); go_simp <;> with_reducible rfl)
        (try simp only [Act.put, List.setIfInBounds_toArray, List.set_cons_zero, List.set_cons_succ])
        refine wpAnyH_take (i := 2) (oi := ⟨some 23, Op.move (Operand.tmp 7), 32, _, _, none⟩) (v := ?vb2) rfl (by kernel_rfl) (by kernel_rfl) (by kernel_rfl) (fun _ _ _ h => h) (Or.inl ⟨by rfl, ?hb2⟩) hS0 ?rb2
        case hb2 => (intro wz hSw; go_simp <;> with_reducible rfl)
        (try simp only [Act.put, List.setIfInBounds_toArray, List.set_cons_zero, List.set_cons_succ])
        refine wpAnyH_take (i := 3) (oi := ⟨some 24, Op.move (Operand.tmp 9), 3, _, _, none⟩) (v := ?vb3) rfl (by kernel_rfl) (by kernel_rfl) (by kernel_rfl) (fun _ _ _ h => h) (Or.inl ⟨by rfl, ?hb3⟩) hS0 ?rb3
        case hb3 => (intro wz hSw; go_simp <;> with_reducible rfl)
        (try simp only [Act.put, List.setIfInBounds_toArray, List.set_cons_zero, List.set_cons_succ])
        refine wpAnyH_take (i := 4) (oi := ⟨some 25, Op.indexAddr 32 (Operand.tmp 23) (Operand.tmp 24), 0, _, _, none⟩) (v := ?vb4) rfl (by kernel_rfl) (by kernel_rfl) (by kernel_rfl) (fun _ _ _ h => h) (Or.inl ⟨by rfl, ?hb4⟩) hS0 ?rb4
        case hb4 => (intro wz hSw; go_simp <;> with_reducible rfl)
        (try simp only [Act.put, List.setIfInBounds_toArray, List.set_cons_zero, List.set_cons_succ])
        refine wpAnyH_take (i := 5) (oi := ⟨some 26, Op.load 26 (Operand.tmp 25), 26, _, _, none⟩) (v := ?vb5) rfl (by kernel_rfl) (by kernel_rfl) (by kernel_rfl) (fun _ _ _ h => h) (Or.inl ⟨by rfl, ?hb5⟩) hS0 ?rb5
        case hb5 => (intro wz hSw; obtain ⟨c0, c1, c2, c3, c4⟩ := (HM.out.of hSw).g.cells; obtain ⟨q0, q1⟩ := HQ.out _ (HW.out.trans (hSw.mono HW.out.size)); go_simp <;> with_reducible rfl)
        (try simp only [Act.put, List.setIfInBounds_toArray, List.set_cons_zero, List.set_cons_succ])
        refine wpAnyH_ready (rs := [6]) (by kernel_rfl) (by simp) ?_
        refine AllReadyH.cons (o := ⟨some 27, Op.call { callee := Callee.value (Operand.func 15), args := #[Operand.tmp 21, Operand.tmp 22, Operand.tmp 26], argTypes := #[24, 26, 26] }, 4, _, _, none⟩) rfl (fun K hK => ?_) AllReadyH.nil
        go_simp
        (with_reducible refine (HSE.out _ (HM.out.of hS0).below).mono ?_); rintro e v2 ⟨rfl, hB2⟩; have hS2 := hS0.trans (hB2.mono hS0.size)
        refine hK.out _ _ hS2 (fun _ => ?_)
        clear hK K
        (try simp only [Act.put, List.setIfInBounds_toArray, List.set_cons_zero, List.set_cons_succ])
        refine wpAnyH_take (i := 7) (oi := ⟨some 10, Op.assign (Operand.tmp 27), 4, _, _, none⟩) (v := ?vb7) rfl (by kernel_rfl) (by kernel_rfl) (by kernel_rfl) (fun _ _ _ h => h) (Or.inl ⟨by rfl, ?hb7⟩) hS2 ?rb7
        case hb7 => (intro wz hSw; go_simp <;> with_reducible rfl)
        (try simp only [Act.put, List.setIfInBounds_toArray, List.set_cons_zero, List.set_cons_succ])
        refine wpAnyH_done (by kernel_rfl) ?_ _
        refine NoPanic.normal ?_
        have h6 := hS2
        generalize hv6 : v2 = v6 at h6 ⊢
        clear hv6
        have HM6 := Lib.hid (HM.out.of h6)
        have HW6 := Lib.hid (HW.out.trans (h6.mono HW.out.size))
        have hal := below_alloc v6 (.cells #[.int .i64 q.1.1, .int .i64 q.1.2] 26)
        have HMd := Lib.hid (HM6.out.of hal)
        have HWd := Lib.hid (HW6.out.trans (hal.mono HW6.out.size))
        obtain ⟨q0, q1⟩ := HQ.out _ HW6.out
        clear hal
        go_wp2_with (first | (at_builtin; refine wpList_append_lies _ rfl (.tmp 29) (.tmp 34) 32 rfl B 26 i0 _ 2 16 Try.underlying32 HINF.out HZ0.out HZ1.out HZ2.out rfl (by omega) v ((M.take k).filter f).length (flat ((M.take k).filter f)) rfl HMd.out.row ⟨_, 0, none⟩ 1 1 [.int .i64 q.1.1, .int .i64 q.1.2] rfl rfl (World.news_of_block (cs := #[.int .i64 q.1.1, .int .i64 q.1.2]) (t := 26) (fr := (0, 0)) (new_at _ _ (by simp))) (by simp [Value.oneCell']) (by omega) (by unfold maxLen; omega) (by omega) HMd.out.top _ rfl ?_; intro g' cap' w5 hown hgrow _ _; have HM5 := Lib.hid (HMd.out.app (q := q) hgrow hown); have HW5 := Lib.hid (HWd.out.grown hgrow HWd.out.size (fun b e => HBB.out b e)); clear hown hgrow))
        go_roundg (k1 - (k + 1))
        · exact ⟨k + 1, _, by omega, rfl, rfl, by go_num, Lib.hid (by rw [take_yes HQk.out HT.out]; exact HM5.out), HW5⟩
        · omega
    · have hkk : k = k1 := by omega
      have hkl' : decide ((k : Int) < k1) = false := by simp; omega
      have HE : Hid ((M.take k).filter f = M.filter f) := Lib.hid (by rw [hkk, ← HK.out, List.take_length])
      clear hkk
      go_wp2
      go_ret
      have hrow := HM.out.row
      rw [HE.out] at hrow
      exact ⟨⟨v, rfl, row_base hrow HM.out.base.2⟩, HM.out.below⟩
end Go.Proofs.Ytiggpmennomplaa.Con
