/-
  Contracts of the document's queue: Due, CancelTag.
-/
import Derived.Test.YtibiobcjnnoeeaaRca
namespace Go.Proofs.Ytibiobcjnnoeeaa.Con
open Go.RowKit Tmr Go.Maps

section
variable {w w' : World} {base gb : Nat} {A : Option Addr} {c : Nat} {S : List Tm} {last : Int}
/-- What the document's Due leaves: a row in new memory, apart from the queue. -/
def RCame (w : World) (base gb : Nat) (A : Option Addr) (S' : List Tm) (last : Int) (C : List Tm) (e : Ending) (w' : World) : Prop :=
  ∃ Ac cc, e = .returned (.slice Ac C.length cc) ∧ Hid (Own w' w.heap.size Ac cc C) ∧ ∃ A' c', Hid (RQ w' base gb A' c' S' last) ∧ Hid (Off w w' (rbl gb A)) ∧ Hid (∀ k ∈ rbl gb A', k ∈ rbl gb A ∨ w.heap.size ≤ k)
theorem RCame.left {S' C : List Tm} {e : Ending} (h : RCame w base gb A S' last C e w') : ∃ Ac cc, e = .returned (.slice Ac C.length cc) ∧ Hid (Own w' w.heap.size Ac cc C) ∧ RLeft w base gb A S' last w' := by
  obtain ⟨Ac, cc, h1, h2, h3⟩ := h
  exact ⟨Ac, cc, h1, h2, h3⟩
/-- Behind an append onto the row that is answered. -/
theorem app_ro {w1 w3 : World} {base gb B0 : Nat} {A Ac : Option Addr} {c cc n b3 c3 : Nat} {S C : List Tm} {last : Int} {t : Tm} {o o' : Obj} (hd : ∀ k ∈ rbl gb A, k ∉ (blk Ac).toList) (hT : RQ w1 base gb A c S last) (hg : ((w1.alloc o).alloc o').grownBy w3 (Value.slice Ac n cc).ownBlock) (hr : w3.ownsRow B0 33 3 (.slice (some ⟨b3, 0, none⟩) (C.length + 1) c3) (C.length + 1) (tvs C ++ tv t)) (hat : (Value.slice Ac n cc).ownBlock = some b3 ∨ b3 = w1.heap.size + 2) :
    RQ w3 base gb A c S last ∧ Own w3 B0 (some ⟨b3, 0, none⟩) c3 (C ++ [t]) ∧ Off w1 w3 (blk Ac).toList ∧ (∀ k ∈ rbl gb A, k ∉ (blk (some ⟨b3, 0, none⟩)).toList) := by
  have o1 : Off w1 w3 (blk Ac).toList := ((Off.refl w1 _).alloc o |>.alloc o').same (Off.of_grown hg (fun k e => by rw [blk_own] at e; simp [e]))
  refine ⟨hT.off o1 hd, ?_, o1, fun k hk e => ?_⟩
  · have e : tvs C ++ tv t = tvs (C ++ [t]) := tvs_app C [t]
    have el : C.length + 1 = (C ++ [t]).length := by simp
    rw [e, el] at hr
    exact hr
  · simp [blk] at e
    subst e
    rw [blk_own] at hat
    rcases hat with h | h
    · exact hd _ hk (by simp [h])
    · have := (hT.lo' _ hk).2
      omega
theorem new_id {w1 w3 : World} {B0 n : Nat} {Ac : Option Addr} {cc : Nat} {C : List Tm} {t : Tm} (hC : Own w1 B0 Ac cc C) (hg : ((w1.alloc (tob t)).alloc (tob t)).grownBy w3 (Value.slice Ac n cc).ownBlock) : w3.cell? ⟨w1.heap.size, 2, none⟩ = some (.int .i64 t.id) := by
  have h1 : ((w1.alloc (tob t)).alloc (tob t)).cell? ⟨w1.heap.size, 2, none⟩ = some (.int .i64 t.id) :=
    (World.cell?_alloc_lt (w1.alloc (tob t)) (tob t) ⟨w1.heap.size, 2, none⟩ (by simp)).trans ((cell_of_row (w1.alloc (tob t)) w1.heap.size 2 _ 33 (0, 0) (heap_alloc_new w1 (tob t))).trans rfl)
  refine (hg.cell_far ⟨w1.heap.size, 2, none⟩ (by simp; omega) (fun e => ?_)).trans h1
  rw [blk_own] at e
  have := (hC.lt _ e.symm).2
  simp at this
set_option maxHeartbeats 4000000 in
theorem rdue (h : RQ w base gb A c S last) (now : Int) (hS : (S.length : Int) < 1000) (C S' : List Tm) (hC : come S now = C) (hS' : rest S now = S') : Calls Try.prog 21 #[.pointer (some ⟨gb, 0, none⟩), .int .i64 now] w fun e w' => RCame w base gb A S' last C e w' := by
  have hbq : base ≤ w.heap.size := by have := h.bg; have := h.lt; omega
  have HQ := Lib.hid h; have HC := Lib.hid hC; have HS' := Lib.hid hS'; have HSb := Lib.hid hS
  have hl3 : (S.length : Int) ≤ 3000 := by omega
  clear h hC hS' hS
  obtain ⟨i0, hi0, hz0, hz1, hz2⟩ := info_parts info33
  have HI0 := Lib.hid hi0; have HZ0 := Lib.hid hz0; have HZ1 := Lib.hid hz1; have HZ2 := Lib.hid hz2
  clear hi0 hz0 hz1 hz2
  go_enter Try.func21, Try.ntmps21
  go_wp2
  go_loopg [5] S.length (fun m s5 wr => ∃ (Sr Cr : List Tm) (Ar Ac : Option Addr) (cr cc : Nat), m = Sr.length ∧ s5 = .slice Ac Cr.length cc ∧ ((Cr.length + Sr.length : Nat) : Int) ≤ 2000 ∧ Hid ((Sr.length : Int) < 1000) ∧ Hid (RQ wr base gb Ar cr Sr last) ∧ Hid (Own wr w.heap.size Ac cc Cr) ∧ Hid (Off w wr (rbl gb A)) ∧ Hid (∀ k ∈ rbl gb Ar, k ∈ rbl gb A ∨ w.heap.size ≤ k) ∧ Hid (∀ k ∈ rbl gb Ar, k ∉ (blk Ac).toList) ∧ Hid (come S now = Cr ++ come Sr now) ∧ Hid (rest S now = rest Sr now))
  case atStart => exact ⟨S, [], A, none, c, 0, rfl, rfl, by have := HSb.out; simp; omega, HSb, HQ, Lib.hid (Own.nil _ _), Lib.hid (Off.refl _ _), Lib.hid (fun _ hk => .inl hk), Lib.hid (fun k _ hm => by simp [blk] at hm), Lib.hid rfl, Lib.hid rfl⟩
  case round =>
    obtain ⟨Sr, Cr, Ar, Ac, cr, cc, rfl, rfl, hcs, HSl, HQr, HOr, HF, HBl, HAp, HCr, HSr⟩ := hrel
    have HEnd : Hid (∀ w2, Below wr.heap.size wr w2 → Cr = C → Sr = S' → RCame w base gb A S' last C (.returned (.slice Ac Cr.length cc)) w2) := Lib.hid (fun w2 hb e1 e2 => by
      subst e1; subst e2
      exact ⟨Ac, cc, rfl, Lib.hid (HOr.out.keep (fun k hk => hb.block k (HOr.out.lt k hk).2)), Ar, cr, Lib.hid (HQr.out.step hb), Lib.hid (HF.out.same (Off.of_below hb)), HBl⟩)
    rcases hf : first Sr with _ | t
    · obtain ⟨k1, k2⟩ := cms_stop (now := now) (.inl hf)
      have HE : Hid (Cr = C) := Lib.hid (by have := HCr.out; rw [k1, List.append_nil, HC.out] at this; exact this.symm)
      have HE2 : Hid (Sr = S') := Lib.hid (by have := HSr.out; rw [k2, HS'.out] at this; exact this.symm)
      have HFi := Lib.hid hf
      clear hf k1 k2
      go_wp2_with ((with_reducible refine (rnext_none HQr.out HFi.out).mono ?_); rintro e w1 ⟨rfl, hb1⟩; have HB1 := Lib.hid hb1; clear hb1)
      go_ret
      have hb1 := HB1.out
      have hs1 := hb1.size
      exact HEnd.out _ (by go_grown) HE.out HE2.out
    · by_cases hd : now < t.due
      · obtain ⟨k1, k2⟩ := cms_stop (now := now) (.inr ⟨t, hf, hd⟩)
        have HE : Hid (Cr = C) := Lib.hid (by have := HCr.out; rw [k1, List.append_nil, HC.out] at this; exact this.symm)
        have HE2 : Hid (Sr = S') := Lib.hid (by have := HSr.out; rw [k2, HS'.out] at this; exact this.symm)
        have HFi := Lib.hid hf
        clear hf k1 k2
        have hd2 : decide (t.due > now) = true := by simpa using hd
        go_wp2_with ((with_reducible refine (rnext_some HQr.out t HFi.out).mono ?_); rintro e w1 ⟨rfl, hb1⟩; have HB1 := Lib.hid hb1; clear hb1)
        go_ret
        have hb1 := HB1.out
        have hs1 := hb1.size
        exact HEnd.out _ (by go_grown) HE.out HE2.out
      · obtain ⟨k1, k2⟩ := cms_step (now := now) HQr.out.good hf hd
        have hmem := (first_some HQr.out.good.1 hf).1
        have hdl := del_length HQr.out.good.ne hmem
        have HHas : Hid (hasId Sr t.id = true) := Lib.hid (hasId_iff.2 ⟨t, hmem, rfl⟩)
        have HFi := Lib.hid hf; have HK1 := Lib.hid k1; have HK2 := Lib.hid k2; have HDl := Lib.hid hdl
        clear hf k1 k2 hdl hmem
        have hd2 : decide (t.due > now) = false := by simpa using hd
        have hS1 : 1 ≤ Sr.length := by have := HDl.out; omega
        go_wp2_with (first
          | ((with_reducible refine (rnext_some HQr.out t HFi.out).mono ?_); rintro e w1 ⟨rfl, hb1⟩; have HB1 := Lib.hid hb1; have HQ1 := Lib.hid (HQr.out.step hb1); have HO1 := Lib.hid (HOr.out.keep (fun k hk => hb1.block k (HOr.out.lt k hk).2)); have HF1 := Lib.hid (HF.out.same (Off.of_below hb1)); have HOwn := Lib.hid (new_own HO1.out t); have HNw := Lib.hid (new_cells w1 t); have HSz := Lib.hid (new_size w1 t); have HBs : Hid (w.heap.size ≤ ((w1.alloc (tob t)).alloc (tob t)).heap.size) := Lib.hid (by have := HF1.out.size; simp; omega); clear hb1)
          | (at_builtin; refine wpList_append_lies _ rfl (.tmp 22) (.tmp 24) 27 rfl w.heap.size 33 i0 _ 3 24 Try.underlying27 HI0.out HZ0.out HZ1.out HZ2.out rfl (by omega) (.slice Ac Cr.length cc) Cr.length (tvs Cr) rfl HOwn.out ⟨w1.heap.size + 1, 0, none⟩ 1 1 (tv t) rfl rfl HNw.out (tvs_one [t]) (by omega) (by unfold maxLen; omega) (by omega) HBs.out (w1.heap.size + 2) HSz.out ?_; intro b3 c3 w3 hown3 hg3 hat3 hlt3; (have hk3 := app_ro HAp.out HQ1.out hg3 hown3 hat3); have hx6 := new_id HO1.out hg3; obtain ⟨hT3, hO3, hF3, hA3⟩ := hk3; have HT3 := Lib.hid hT3; have HO3 := Lib.hid hO3; have HF3 := Lib.hid hF3; have HA3 := Lib.hid hA3; clear hT3 hO3 hF3 hA3 hown3 hg3 hat3 hlt3)
          | ((with_reducible refine (rcancel HT3.out t.id true HHas.out HSl.out).mono ?_); rintro e w4 ⟨rfl, A4, c4, HQ4, HF4, HB4⟩))
        go_roundg (del Sr t.id).length
        · have o3 : Off w w3 (rbl gb A) := HF1.out.trans HF3.out (fun x hx => .inr (by have := (HO1.out.lt x (by simpa using hx)).1; omega))
          have hw3 := o3.size
          refine ⟨del Sr t.id, Cr ++ [t], A4, some ⟨b3, 0, none⟩, c4, c3, rfl, by simp, by have := HDl.out; simp; omega, Lib.hid (by have := HDl.out; have := HSl.out; omega), HQ4, Lib.hid ?_, Lib.hid (o3.trans HF4.out (fun x hx => ?_)), Lib.hid (fun k hk => ?_), Lib.hid (fun k hk => ?_), Lib.hid ?_, Lib.hid ?_⟩
          · exact HO3.out.keep (fun k hk => HF4.out.block k (HO3.out.lt k hk).2 (fun hm => HA3.out k hm (by simp [hk])))
          · exact HBl.out x hx
          · rcases HB4.out k hk with h | h
            · exact HBl.out k h
            · exact .inr (by omega)
          · rcases HB4.out k hk with h | h
            · exact HA3.out k h
            · intro e
              simp [blk] at e
              have := (HO3.out.lt b3 rfl).2
              omega
          · rw [HCr.out, HK1.out, List.append_assoc]; rfl
          · rw [HSr.out, HK2.out]
        · have := HDl.out; omega
end
end Go.Proofs.Ytibiobcjnnoeeaa.Con
