/-
  Contracts of a queue's Due.
-/
import Derived.Test.YtibiobcjnnoeeaaQue
namespace Go.Proofs.Ytibiobcjnnoeeaa.Con
open Go.RowKit Tmr Go.Maps

section
variable {w w' : World} {base q mb : Nat} {A : Option Addr} {c : Nat} {l S : List Tm} {last : Int}
theorem take_first (h : TQ w base q mb A c l S last) (t : Tm) (ht : first S = some t) : Calls Try.prog 24 #[.pointer (some ⟨q, 0, none⟩), .int .i64 0] w fun e w' => e = .returned (.tuple #[]) ∧ Left w base q mb A c (del S t.id) last w' := by
  obtain ⟨h0, hg⟩ := h.top ht
  refine (take_s h.qs h.heap 0 h0 t hg).mono ?_
  rintro e w' ⟨rfl, hT⟩
  obtain ⟨l', h1, h2⟩ := h.taken hT
  exact ⟨rfl, l', Lib.hid h1, Lib.hid h2⟩
theorem Off.more {w w' : World} {bs : List Nat} {B : Nat} (h : Off w w' bs) (hB : B ≤ w.heap.size) (hb : ∀ k ∈ bs, B ≤ k) : Below B w w' := h.below hB hb

/-- Behind an append onto a row of the call's own, of one timer. -/
theorem app_own {w w1 w3 : World} {base q mb B0 : Nat} {A Ac : Option Addr} {c cc n b3 c3 : Nat} {l S C : List Tm} {last : Int} {t : Tm} {o o' : Obj} (h0 : ∀ k ∈ bls q mb A, k < B0) (hT : TQ w1 base q mb A c l S last) (hC : Own w1 B0 Ac cc C) (ho : Off w w1 (bls q mb A)) (hB : w.heap.size = B0) (hg : ((w1.alloc o).alloc o').grownBy w3 (Value.slice Ac n cc).ownBlock) (hr : w3.ownsRow B0 33 3 (.slice (some ⟨b3, 0, none⟩) (C.length + 1) c3) (C.length + 1) (tvs C ++ tv t)) :
    TQ w3 base q mb A c l S last ∧ Own w3 B0 (some ⟨b3, 0, none⟩) c3 (C ++ [t]) ∧ Off w w3 (bls q mb A) := by
  have o1 : Off w1 w3 (blk Ac).toList := ((Off.refl w1 _).alloc o |>.alloc o').same (Off.of_grown hg (fun k e => by rw [blk_own] at e; simp [e]))
  have hd : ∀ k ∈ bls q mb A, k ∉ (blk Ac).toList := fun k hk hm => by
    have h1 := h0 k hk
    have h2 := (hC.lt k (by simpa using hm)).1
    omega
  refine ⟨hT.off o1 hd, ?_, ho.trans o1 (fun x hx => .inr ?_)⟩
  · have e : tvs C ++ tv t = tvs (C ++ [t]) := tvs_app C [t]
    have el : C.length + 1 = (C ++ [t]).length := by simp
    rw [e, el] at hr
    exact hr
  · have := (hC.lt x (by simpa using hx)).1
    omega
/-- What Due leaves. -/
def Came (w : World) (base q mb : Nat) (A : Option Addr) (c : Nat) (S' : List Tm) (last : Int) (C : List Tm) (e : Ending) (w' : World) : Prop :=
  ∃ Ac cc, e = .returned (.slice Ac C.length cc) ∧ Hid (Own w' w.heap.size Ac cc C) ∧ Left w base q mb A c S' last w'

/-- A timer's block. -/
abbrev tob (t : Tm) : Obj := .cells #[.int .i64 t.due, .int .i64 t.tag, .int .i64 t.id] 33
theorem new_own {w1 : World} {B0 : Nat} {Ac : Option Addr} {cc : Nat} {C : List Tm} (h : Own w1 B0 Ac cc C) (t : Tm) : ((w1.alloc (tob t)).alloc (tob t)).ownsRow B0 33 3 (.slice Ac C.length cc) C.length (tvs C) :=
  h.keep (w' := (w1.alloc (tob t)).alloc (tob t)) (fun k hk => (Below.heap_alloc _ _ k (by have := (h.lt k hk).2; simp; omega)).trans (Below.heap_alloc _ _ k (h.lt k hk).2))
theorem new_cells (w1 : World) (t : Tm) : ∀ j u, (tv t)[j]? = some u → ((w1.alloc (tob t)).alloc (tob t)).cell? ((⟨w1.heap.size + 1, 0, none⟩ : Addr).add j) = some u :=
  World.news_of_block (w := (w1.alloc (tob t)).alloc (tob t)) (by have := heap_alloc_new (w1.alloc (tob t)) (tob t); rw [World.size_alloc] at this; exact this)
theorem new_size (w1 : World) (t : Tm) : ((w1.alloc (tob t)).alloc (tob t)).heap.size = w1.heap.size + 2 := by simp
theorem due_end {w wr w' : World} {lr Sr Cr C S' : List Tm} {Ac : Option Addr} {cc : Nat} (hb : Below wr.heap.size wr w') (hT : TQ wr base q mb A c lr Sr last) (hO : Own wr w.heap.size Ac cc Cr) (hF : Off w wr (bls q mb A)) (h1 : Cr = C) (h2 : Sr = S') : Came w base q mb A c S' last C (.returned (.slice Ac Cr.length cc)) w' := by
  subst h1; subst h2
  exact ⟨Ac, cc, rfl, Lib.hid (hO.keep (fun k hk => hb.block k (hO.lt k hk).2)), lr, Lib.hid (hT.step hb), Lib.hid (hF.same (Off.of_below hb))⟩
set_option maxHeartbeats 4000000 in
theorem due_any (h : TQ w base q mb A c l S last) (now : Int) (C S' : List Tm) (hC : come S now = C) (hS' : rest S now = S') : Calls Try.prog 13 #[.pointer (some ⟨q, 0, none⟩), .int .i64 now] w (Came w base q mb A c S' last C) := by
  have hlen : (S.length : Int) ≤ 2000 := by have := h.qs.len; rw [h.len] at this; exact this
  have HL0 : Hid (∀ k ∈ bls q mb A, k < w.heap.size) := Lib.hid (fun k hk => (h.qs.que.lo k hk).2)
  have hbq : base ≤ w.heap.size := by have := h.qs.que.bq; have := h.qs.que.lt; omega
  have HT := Lib.hid h; have HC := Lib.hid hC; have HS' := Lib.hid hS'
  clear h hC hS'
  obtain ⟨i0, hi0, hz0, hz1, hz2⟩ := info_parts info33
  have HI0 := Lib.hid hi0; have HZ0 := Lib.hid hz0; have HZ1 := Lib.hid hz1; have HZ2 := Lib.hid hz2
  clear hi0 hz0 hz1 hz2
  go_enter Try.func13, Try.ntmps13
  go_wp2
  go_loopg [5] S.length (fun m s5 wr => ∃ (lr Sr Cr : List Tm) (Ac : Option Addr) (cc : Nat), m = Sr.length ∧ s5 = .slice Ac Cr.length cc ∧ ((Cr.length + Sr.length : Nat) : Int) ≤ 2000 ∧ Hid (TQ wr base q mb A c lr Sr last) ∧ Hid (Own wr w.heap.size Ac cc Cr) ∧ Hid (Off w wr (bls q mb A)) ∧ Hid (come S now = Cr ++ come Sr now) ∧ Hid (rest S now = rest Sr now))
  case atStart => exact ⟨l, S, [], none, 0, rfl, rfl, by simpa using hlen, HT, Lib.hid (Own.nil _ _), Lib.hid (Off.refl _ _), Lib.hid rfl, Lib.hid rfl⟩
  case round =>
    obtain ⟨lr, Sr, Cr, Ac, cc, rfl, rfl, hcs, HTr, HOr, HF, HCr, HSr⟩ := hrel
    rcases hf : first Sr with _ | t
    · obtain ⟨k1, k2⟩ := cms_stop (now := now) (.inl hf)
      have HE : Hid (Cr = C) := Lib.hid (by have := HCr.out; rw [k1, List.append_nil, HC.out] at this; exact this.symm)
      have HE2 : Hid (Sr = S') := Lib.hid (by have := HSr.out; rw [k2, HS'.out] at this; exact this.symm)
      have HFi := Lib.hid hf
      clear hf k1 k2
      go_wp2_with ((with_reducible refine (next_none HTr.out HFi.out).mono ?_); rintro e w1 ⟨rfl, hb1⟩; have HB1 := Lib.hid hb1; clear hb1)
      go_ret
      have hb1 := HB1.out
      have hs1 := hb1.size
      exact due_end (by go_grown) HTr.out HOr.out HF.out HE.out HE2.out
    · by_cases hd : now < t.due
      · obtain ⟨k1, k2⟩ := cms_stop (now := now) (.inr ⟨t, hf, hd⟩)
        have HE : Hid (Cr = C) := Lib.hid (by have := HCr.out; rw [k1, List.append_nil, HC.out] at this; exact this.symm)
        have HE2 : Hid (Sr = S') := Lib.hid (by have := HSr.out; rw [k2, HS'.out] at this; exact this.symm)
        have HFi := Lib.hid hf
        clear hf k1 k2
        have hd2 : decide (t.due > now) = true := by simpa using hd
        go_wp2_with ((with_reducible refine (next_some HTr.out t HFi.out).mono ?_); rintro e w1 ⟨rfl, hb1⟩; have HB1 := Lib.hid hb1; clear hb1)
        go_ret
        have hb1 := HB1.out
        have hs1 := hb1.size
        exact due_end (by go_grown) HTr.out HOr.out HF.out HE.out HE2.out
      · obtain ⟨k1, k2⟩ := cms_step (now := now) HTr.out.good hf hd
        have hdl := del_length HTr.out.good.ne (first_some HTr.out.good.1 hf).1
        have HFi := Lib.hid hf; have HK1 := Lib.hid k1; have HK2 := Lib.hid k2; have HDl := Lib.hid hdl
        clear hf k1 k2 hdl
        have hd2 : decide (t.due > now) = false := by simpa using hd
        have hS1 : 1 ≤ Sr.length := by have := HDl.out; omega
        go_wp2_with (first
          | ((with_reducible refine (next_some HTr.out t HFi.out).mono ?_); rintro e w1 ⟨rfl, hb1⟩; have HB1 := Lib.hid hb1; have HT1 := Lib.hid (HTr.out.step hb1); have HO1 := Lib.hid (HOr.out.keep (fun k hk => hb1.block k (HOr.out.lt k hk).2)); have HF1 := Lib.hid (HF.out.same (Off.of_below hb1)); have HOwn := Lib.hid (new_own HO1.out t); have HNw := Lib.hid (new_cells w1 t); have HSz := Lib.hid (new_size w1 t); have HBs : Hid (w.heap.size ≤ ((w1.alloc (tob t)).alloc (tob t)).heap.size) := Lib.hid (by have := HF1.out.size; simp; omega); clear hb1)
          | (at_builtin; refine wpList_append_lies _ rfl (.tmp 22) (.tmp 24) 27 rfl w.heap.size 33 i0 _ 3 24 Try.underlying27 HI0.out HZ0.out HZ1.out HZ2.out rfl (by omega) (.slice Ac Cr.length cc) Cr.length (tvs Cr) rfl HOwn.out ⟨w1.heap.size + 1, 0, none⟩ 1 1 (tv t) rfl rfl HNw.out (tvs_one [t]) (by omega) (by unfold maxLen; omega) (by omega) HBs.out (w1.heap.size + 2) HSz.out ?_; intro b3 c3 w3 hown3 hg3 hat3 hlt3; (have hk3 := app_own HL0.out HT1.out HO1.out HF1.out rfl hg3 hown3); obtain ⟨hT3, hO3, hF3⟩ := hk3; have HT3 := Lib.hid hT3; have HO3 := Lib.hid hO3; have HF3 := Lib.hid hF3; clear hT3 hO3 hF3 hown3 hg3 hat3 hlt3)
          | ((with_reducible refine (take_first HT3.out t HFi.out).mono ?_); rintro e w4 ⟨rfl, l4, HT4, HF4⟩))
        go_roundg (del Sr t.id).length
        · refine ⟨l4, del Sr t.id, Cr ++ [t], some ⟨b3, 0, none⟩, c3, rfl, by simp, by have := HDl.out; simp; omega, HT4, Lib.hid ?_, Lib.hid (HF3.out.same HF4.out), Lib.hid ?_, Lib.hid ?_⟩
          · exact HO3.out.keep (fun k hk => HF4.out.block k (HO3.out.lt k hk).2 (fun hm => by have h1 := HL0.out k hm; have h2 := (HO3.out.lt k hk).1; omega))
          · rw [HCr.out, HK1.out, List.append_assoc]; rfl
          · rw [HSr.out, HK2.out]
        · have := HDl.out; omega
end
end Go.Proofs.Ytibiobcjnnoeeaa.Con
