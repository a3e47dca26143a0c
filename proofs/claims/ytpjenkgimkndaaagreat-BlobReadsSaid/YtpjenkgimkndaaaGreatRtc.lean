/-
  The document's Unflat: which content numbers are.
-/
import Derived.Test.YtpjenkgimkndaaaGreatRtb
import Derived.Deep.RegionHeld3
import Derived.Deep.LoopGhost
namespace Go.Proofs.YtpjenkgimkndaaaGreat.Con
open Go.RowKit Go.Maps Pm Mth

/-- Rows beside the one that grows, and what its elements hold. -/
abbrev Gd := World → (Nat → Prop) → Prop
def StG (G : Gd) : Prop := ∀ w w' av av', G w av → Kp w w' av → (∀ k, k < w.heap.size → av' k → av k) → G w' av'
def FG {α : Type} (G : Gd) (Fr : α → World → (Nat → Prop) → Prop) (l : List α) (w : World) (av : Nat → Prop) : Prop := G w av ∧ ∀ a ∈ l, Fr a w av
def G0 : Gd := fun _ _ => True
def GN {α : Type} (E : El α) (G : Gd) (Fr : α → World → (Nat → Prop) → Prop) (A : Option Addr) (l : List α) : Gd := fun w av => AW E w av A l ∧ FG G Fr l w av
theorem g0_st : StG G0 := fun _ _ _ _ _ _ _ => trivial
theorem fg_stab {α : Type} {G : Gd} {Fr : α → World → (Nat → Prop) → Prop} (hG : StG G) (hF : Stab Fr) : Stab (FG G Fr) := fun _ _ _ _ _ h hk ha => ⟨hG _ _ _ _ h.1 hk ha, fun a hm => hF _ _ _ _ _ (h.2 a hm) hk ha⟩
theorem fg_add {α : Type} {G : Gd} {Fr : α → World → (Nat → Prop) → Prop} (l : List α) (x : α) (w : World) (av : Nat → Prop) (h : FG G Fr l w av) (hx : Fr x w av) : FG G Fr (l ++ [x]) w av :=
  ⟨h.1, fun a ha => by rcases List.mem_append.1 ha with ha | ha; exact h.2 a ha; rw [List.mem_singleton.1 ha]; exact hx⟩
theorem gn_st {α : Type} {E : El α} {G : Gd} {Fr : α → World → (Nat → Prop) → Prop} {A : Option Addr} {l : List α} (hG : StG G) (hF : Stab Fr) : StG (GN E G Fr A l) := fun _ _ _ _ h hk ha => ⟨h.1.kp hk ha, fg_stab hG hF _ _ _ _ _ h.2 hk ha⟩
section
variable {α : Type} {E : El α} {F : List α → World → (Nat → Prop) → Prop} {M Q P : Nat} {cs : Value → List Value} {w w' : World} {A : Option Addr} {c : Nat} {l : List α}
/-- A store into another cell of the box. -/
theorem LX.poke (h : LX E F M Q cs w A c l) (hF : Stab F) {cs' : Value → List Value} (j : Nat) (v : Value) (hcs : ∀ u, cs' u = (cs u).set j v) : LX E F M Q cs' (w.setCell ⟨Q, j, none⟩ v) A c l := by
  refine ⟨h.ph, by simpa using h.pl, fun o u hu => ?_, fun o => by rw [World.frozen?_setCell]; exact h.fz o, h.own.far (fun b hb => h.ne b hb) _, h.ne, hF _ _ _ _ _ h.kept ⟨by simp, fun k hk hn => heap_setCell_other _ _ _ _ (fun e => hn (.inr (.inl e)))⟩ (fun _ _ h => h)⟩
  rw [hcs, List.getElem?_set] at hu
  by_cases e : j = o
  · subst e
    rw [if_pos rfl] at hu
    split at hu
    · next hlt =>
      injection hu with hu
      subst hu
      exact World.cell?_setCell_same _ _ _ (h.box j _ (List.getElem?_eq_getElem hlt))
    · cases hu
  · rw [if_neg e] at hu
    rw [World.cell?_setCell_other _ _ _ _ (fun e' => e (by injection e'))]
    exact h.box o u hu
/-- The next row of the box begins. -/
theorem LX.next {β : Type} {E2 : El β} {G : Gd} {Fr : α → World → (Nat → Prop) → Prop} {Fr2 : β → World → (Nat → Prop) → Prop} (h : LX E (FG G Fr) M Q cs w A c l) (hG : StG G) (hF : Stab Fr) {cs' : Value → List Value} (hcs : cs' (.slice none 0 0) = cs (.slice A l.length c)) : LX E2 (FG (GN E G Fr A l) Fr2) M Q cs' w none 0 [] :=
  ⟨h.ph, h.pl, by rw [show ([] : List β).length = 0 from rfl, hcs]; exact h.box, h.fz, OW.nil E2 _ _, fun b hb => (by cases hb), ⟨h.own.pw.aw (fun j hj _ hA h' => by
    rcases h' with h' | h' | h'
    · omega
    · exact h.ne j (ownB hA) h'
    · cases h'), fg_stab hG hF _ _ _ _ _ h.kept ⟨Nat.le_refl _, fun _ _ _ => rfl⟩ (fun j _ h' => by
    rcases h' with h' | h' | h'
    · exact .inl h'
    · exact .inr (.inl h')
    · cases h')⟩, fun a ha => (by cases ha)⟩
/-- All rows, away from what lies ahead. -/
theorem LX.all {G : Gd} {Fr : α → World → (Nat → Prop) → Prop} (h : LX E (FG G Fr) M Q cs w A c l) (hG : StG G) (hF : Stab Fr) : GN E G Fr A l w (fun b => b < M) :=
  ⟨h.own.pw.aw (fun j hj _ _ h => by omega), fg_stab hG hF _ _ _ _ _ h.kept ⟨Nat.le_refl _, fun _ _ _ => rfl⟩ (fun j _ h' => .inl h')⟩
end
theorem tn_lowb {P B : Nat} {a b w : World} (h : Below B w a) (ht : Tn P a b) (hP : B ≤ P) (hB : B ≤ w.heap.size) : Below B w b := h.trans (tn_below ht hP (Nat.le_trans hB h.size))
theorem Kp.of {w : World} {av : Nat → Prop} (w' : World) (h : Below w.heap.size w w') : Kp w w' av := ⟨h.size, fun k hk _ => h.block k hk⟩
set_option maxRecDepth 100000 in
set_option maxHeartbeats 32000000 in
theorem o_unflat (A : Option Addr) (c : Nat) (L : List Int) (w : World) (B : Nat) (hr : Rd .i64 w B A L) (hB : B ≤ w.heap.size) (hl : (L.length : Int) ≤ 400000) : Calls Tryz.prog 17 #[.slice A L.length c] w (UN w L) := by
  have hb3 : Below w.heap.size w (((w.alloc (.cells #[.slice none 0 0, .slice none 0 0, .slice none 0 0, .int .i64 0, .int .i64 0, .slice none 0 0, .int .i64 0, .int .i64 0, .int .i64 0, .int .i64 0] 31)).alloc (.cells #[.slice A L.length c, .int .i64 0, .bool false] 85)).alloc (.cells #[.slice none 0 0, .slice none 0 0, .slice none 0 0, .int .i64 0, .int .i64 0, .slice none 0 0, .int .i64 0, .int .i64 0, .int .i64 0, .int .i64 0] 31)) := by go_grown
  have HT0 : Hid (TS (((w.alloc (.cells #[.slice none 0 0, .slice none 0 0, .slice none 0 0, .int .i64 0, .int .i64 0, .slice none 0 0, .int .i64 0, .int .i64 0, .int .i64 0, .int .i64 0] 31)).alloc (.cells #[.slice A L.length c, .int .i64 0, .bool false] 85)).alloc (.cells #[.slice none 0 0, .slice none 0 0, .slice none 0 0, .int .i64 0, .int .i64 0, .slice none 0 0, .int .i64 0, .int .i64 0, .int .i64 0, .int .i64 0] 31)) B (w.heap.size + 1) L ⟨L, false⟩) := Lib.hid ⟨A, c, 0, by
    have h1 := heap_alloc_new (w.alloc (.cells #[.slice none 0 0, .slice none 0 0, .slice none 0 0, .int .i64 0, .int .i64 0, .slice none 0 0, .int .i64 0, .int .i64 0, .int .i64 0, .int .i64 0] 31)) (.cells #[.slice A L.length c, .int .i64 0, .bool false] 85)
    rw [Below.heap_alloc _ _ _ (by simp)]
    simpa using h1, hr.below hb3 hB, by omega, by simp, by simp, hl⟩
  have HR0 : Hid ((((w.alloc (.cells #[.slice none 0 0, .slice none 0 0, .slice none 0 0, .int .i64 0, .int .i64 0, .slice none 0 0, .int .i64 0, .int .i64 0, .int .i64 0, .int .i64 0] 31)).alloc (.cells #[.slice A L.length c, .int .i64 0, .bool false] 85)).alloc (.cells #[.slice none 0 0, .slice none 0 0, .slice none 0 0, .int .i64 0, .int .i64 0, .slice none 0 0, .int .i64 0, .int .i64 0, .int .i64 0, .int .i64 0] 31)).heap[w.heap.size]? = some (.cells #[.slice none 0 0, .slice none 0 0, .slice none 0 0, .int .i64 0, .int .i64 0, .slice none 0 0, .int .i64 0, .int .i64 0, .int .i64 0, .int .i64 0] 31)) := Lib.hid (((Below.heap_alloc _ _ _ (by simp; omega)).trans (Below.heap_alloc _ _ _ (by simp))).trans (heap_alloc_new w _))
  have HQ0 : Hid ((((w.alloc (.cells #[.slice none 0 0, .slice none 0 0, .slice none 0 0, .int .i64 0, .int .i64 0, .slice none 0 0, .int .i64 0, .int .i64 0, .int .i64 0, .int .i64 0] 31)).alloc (.cells #[.slice A L.length c, .int .i64 0, .bool false] 85)).alloc (.cells #[.slice none 0 0, .slice none 0 0, .slice none 0 0, .int .i64 0, .int .i64 0, .slice none 0 0, .int .i64 0, .int .i64 0, .int .i64 0, .int .i64 0] 31)).heap[w.heap.size + 1 + 1]? = some (.cells #[.slice none 0 0, .slice none 0 0, .slice none 0 0, .int .i64 0, .int .i64 0, .slice none 0 0, .int .i64 0, .int .i64 0, .int .i64 0, .int .i64 0] 31)) := Lib.hid (by have := heap_alloc_new ((w.alloc (.cells #[.slice none 0 0, .slice none 0 0, .slice none 0 0, .int .i64 0, .int .i64 0, .slice none 0 0, .int .i64 0, .int .i64 0, .int .i64 0, .int .i64 0] 31)).alloc (.cells #[.slice A L.length c, .int .i64 0, .bool false] 85)) (.cells #[.slice none 0 0, .slice none 0 0, .slice none 0 0, .int .i64 0, .int .i64 0, .slice none 0 0, .int .i64 0, .int .i64 0, .int .i64 0, .int .i64 0] 31); simpa using this)
  have HB0 := Lib.hid hb3; have HL := Lib.hid hl
  clear hr hB hl hb3
  go_enter Tryz.func17, Tryz.ntmps17
  go_wp2_with (fail)
  generalize (((w.alloc (.cells #[.slice none 0 0, .slice none 0 0, .slice none 0 0, .int .i64 0, .int .i64 0, .slice none 0 0, .int .i64 0, .int .i64 0, .int .i64 0, .int .i64 0] 31)).alloc (.cells #[.slice A L.length c, .int .i64 0, .bool false] 85)).alloc (.cells #[.slice none 0 0, .slice none 0 0, .slice none 0 0, .int .i64 0, .int .i64 0, .slice none 0 0, .int .i64 0, .int .i64 0, .int .i64 0, .int .i64 0] 31)) = w2 at *
  have HwP : Hid (w.heap.size ≤ w.heap.size + 1) := Lib.hid (by omega)
  have HwP1 : Hid (w.heap.size < w.heap.size + 1) := Lib.hid (by omega)
  have HPQ : Hid (w.heap.size + 1 < w.heap.size + 1 + 1) := Lib.hid (by omega)
  have HwQ : Hid (w.heap.size < w.heap.size + 1 + 1) := Lib.hid (by omega)
  generalize w.heap.size + 1 = P at *
  generalize P + 1 = Q at *
  go_wp2_with (first
    | ((with_reducible refine (o_cnt8 L ⟨L, false⟩ _ B P HT0.out).mono ?_); rintro e wa ⟨na, rfl, HNba, sta, HRna, HSc, HNa⟩))
  have HLX0 : Hid (LX ab (FG G0 FrA) Q Q (fun v => [v, .slice none 0 0, .slice none 0 0, .int .i64 0, .int .i64 0, .slice none 0 0, .int .i64 0, .int .i64 0, .int .i64 0, .int .i64 0]) wa none 0 []) := Lib.hid (LX.start (Nat.le_refl _) (tn_box HNa.out HQ0.out (Nat.ne_of_gt HPQ.out)) rfl ⟨trivial, fun a ha => (by cases ha)⟩)
  have HBc := Lib.hid (tn_lowb HB0.out HNa.out HwP.out (Nat.le_refl _))
  have HRc := Lib.hid (tn_box HNa.out HR0.out (Nat.ne_of_lt HwP1.out))
  go_loopg [7] na (fun g s7 wr => ∃ (k : Nat) (out : List Ab) (A1 : Option Addr) (c1 : Nat) (sk : St), k ≤ na ∧ g = na - k ∧ s7 = .int .i64 (k : Int) ∧ Hid (LX ab (FG G0 FrA) Q Q (fun v => [v, .slice none 0 0, .slice none 0 0, .int .i64 0, .int .i64 0, .slice none 0 0, .int .i64 0, .int .i64 0, .int .i64 0, .int .i64 0]) wr A1 c1 out) ∧ Hid (TS wr B P L sk) ∧ Hid (Below w.heap.size w wr) ∧ Hid (wr.heap[w.heap.size]? = some (.cells #[.slice none 0 0, .slice none 0 0, .slice none 0 0, .int .i64 0, .int .i64 0, .slice none 0 0, .int .i64 0, .int .i64 0, .int .i64 0, .int .i64 0] 31)) ∧ Hid (Rp (pMany pAb k) sta (out.map Ab.pl) sk) ∧ Hid (k = out.length))
  case atStart => exact ⟨0, [], none, 0, sta, by omega, rfl, rfl, HLX0, HSc, HBc, HRc, Lib.hid (Rp.pure _ _), Lib.hid rfl⟩
  case round =>
    obtain ⟨ka, outa, A1a, c1a, ska, hk, rfl, rfl, HLXa, HSka, HBka, HRka, HQka, HKoa⟩ := hrel
    clear HLX0 HSc HBc HRc
    by_cases hlt : ka < na
    · have hkl : (ka : Int) < na := by omega
      have HKn : Hid (ka < na) := Lib.hid hlt
      have hkb : (ka : Int) ≤ 400000 := by have := HNba.out; omega
      have HLen : Hid (outa.length + 1 ≤ 1000000) := Lib.hid (by have h1 := HKoa.out; have h2 := HNba.out; omega)
      clear hlt
      go_wp2
      have HXd := Lib.hid (HLXa.out.step (fg_stab g0_st frA_stab) (Below.refl _ _).drew)
      have HTd : Hid (TS wr.drew B P L ska) := Lib.hid (HSka.out.keep (fun _ _ => rfl))
      have HBd := Lib.hid HBka.out.drew
      have HRd : Hid (wr.drew.heap[w.heap.size]? = some (.cells #[.slice none 0 0, .slice none 0 0, .slice none 0 0, .int .i64 0, .int .i64 0, .slice none 0 0, .int .i64 0, .int .i64 0, .int .i64 0, .int .i64 0] 31)) := Lib.hid HRka.out
      refine wp_region_noPanic ?_
      refine wp_region_held_drew (S := fun _ => True) (by kernel_rfl) trivial (fun _ => ?_)
      generalize wr.drew = v0 at HXd HTd HBd HRd ⊢
      refine wpAnyH_take (i := 0) (oi := ⟨some 22, Op.fieldAddr 31 (Operand.tmp 5) 0, 0, _, _, none⟩) (v := ?var0) rfl (by kernel_rfl) (by kernel_rfl) (by kernel_rfl) (fun _ _ _ h => h) (Or.inl ⟨by rfl, ?har0⟩) trivial ?rar0
      case har0 => (intro wz hSw; go_simp <;> with_reducible rfl)
      (try simp only [Act.put, List.setIfInBounds_toArray, List.set_cons_zero, List.set_cons_succ])
      refine wpAnyH_take (i := 2) (oi := ⟨some 24, Op.move (Operand.tmp 4), 83, _, _, none⟩) (v := ?var2) rfl (by kernel_rfl) (by kernel_rfl) (by kernel_rfl) (fun _ _ _ h => h) (Or.inl ⟨by rfl, ?har2⟩) trivial ?rar2
      case har2 => (intro wz hSw; go_simp <;> with_reducible rfl)
      (try simp only [Act.put, List.setIfInBounds_toArray, List.set_cons_zero, List.set_cons_succ])
      refine wpAnyH_ready (rs := [1, 3]) (by kernel_rfl) (by simp) ?_
      refine AllReadyH.cons (o := ⟨some 23, Op.load 22 (Operand.tmp 22), 22, _, _, none⟩) rfl (fun K hK => ?_) (AllReadyH.cons (o := ⟨some 25, Op.call { callee := Callee.value (Operand.func 40), args := #[Operand.tmp 24], argTypes := #[83] }, 52, _, _, none⟩) rfl (fun K hK => ?_) AllReadyH.nil)
      · have z9 := HXd.out.box 0 _ rfl
        go_simp
        clear z9
        refine hK.out _ _ trivial (fun _ => ?_)
        clear hK K
        (try simp only [Act.put, List.setIfInBounds_toArray, List.set_cons_zero, List.set_cons_succ])
        refine wpAnyH_ready (rs := [3]) (by kernel_rfl) (by simp) ?_
        refine AllReadyH.cons (o := ⟨some 25, Op.call { callee := Callee.value (Operand.func 40), args := #[Operand.tmp 24], argTypes := #[83] }, 52, _, _, none⟩) rfl (fun K hK => ?_) AllReadyH.nil
        go_simp
        (with_reducible refine (o_ab L ska _ B P HTd.out).mono ?_); rintro e v25 ⟨x, rfl, HX, s2, HR2, HT25, HN2⟩; have HX25 := Lib.hid (HXd.out.turn (fg_stab g0_st frA_stab) HN2.out HPQ.out); have HB25 := Lib.hid (tn_lowb HBd.out HN2.out HwP.out (Nat.le_refl _)); have HR1025 := Lib.hid (tn_box HN2.out HRd.out (Nat.ne_of_lt HwP1.out))
        refine hK.out _ _ trivial (fun _ => ?_)
        clear hK K
        (try simp only [Act.put, List.setIfInBounds_toArray, List.set_cons_zero, List.set_cons_succ])
        refine wpAnyH_ready (rs := [4]) (by kernel_rfl) (by simp) ?_
        refine AllReadyH.cons (o := ⟨some 26, Op.buildSlice 22 1 #[(0, Operand.tmp 25)], 22, _, _, none⟩) rfl (fun K hK => ?_) AllReadyH.nil
        go_simp
        have HX26 := Lib.hid (HX25.out.turn (P := P) (fg_stab g0_st frA_stab) (tn_alloc (tn_refl P v25) (.cells #[.int .i64 x.id, .int .i64 x.cast, .int .i64 x.cool, .int .i64 x.charges, .int .i64 x.range, .int .i64 x.cost, .bool x.sight, .slice x.ea x.eff.length x.ec] 52)) HPQ.out); have HT26 := Lib.hid (HT25.out.alloc (.cells #[.int .i64 x.id, .int .i64 x.cast, .int .i64 x.cool, .int .i64 x.charges, .int .i64 x.range, .int .i64 x.cost, .bool x.sight, .slice x.ea x.eff.length x.ec] 52)); have HB26 := Lib.hid (HB25.out.alloc HB25.out.size (.cells #[.int .i64 x.id, .int .i64 x.cast, .int .i64 x.cool, .int .i64 x.charges, .int .i64 x.range, .int .i64 x.cost, .bool x.sight, .slice x.ea x.eff.length x.ec] 52)); have HR1026 := Lib.hid ((Below.heap_alloc _ (.cells #[.int .i64 x.id, .int .i64 x.cast, .int .i64 x.cool, .int .i64 x.charges, .int .i64 x.range, .int .i64 x.cost, .bool x.sight, .slice x.ea x.eff.length x.ec] 52) _ (lt_of_block HR1025.out)).trans HR1025.out); have hOne : RW ab (v25.alloc (.cells #[.int .i64 x.id, .int .i64 x.cast, .int .i64 x.cool, .int .i64 x.charges, .int .i64 x.range, .int .i64 x.cost, .bool x.sight, .slice x.ea x.eff.length x.ec] 52)) (v25.heap.size + 1) (some ⟨v25.heap.size, 0, none⟩) [x] := rw_one1 rfl rfl (Nat.lt_succ_self _); have HFr : Hid (FrA x (v25.alloc (.cells #[.int .i64 x.id, .int .i64 x.cast, .int .i64 x.cool, .int .i64 x.charges, .int .i64 x.range, .int .i64 x.cost, .bool x.sight, .slice x.ea x.eff.length x.ec] 52)) (fun b => b < v0.heap.size)) := Lib.hid (frA_stab _ _ _ _ _ HX.out (Kp.of (v25.alloc (.cells #[.int .i64 x.id, .int .i64 x.cast, .int .i64 x.cool, .int .i64 x.charges, .int .i64 x.range, .int .i64 x.cost, .bool x.sight, .slice x.ea x.eff.length x.ec] 52)) ((Below.refl _ _).alloc (Nat.le_refl _) _)) (fun _ _ h => h)); generalize hq : v25.heap.size = q at hOne ⊢; generalize hV : v25.alloc (.cells #[.int .i64 x.id, .int .i64 x.cast, .int .i64 x.cool, .int .i64 x.charges, .int .i64 x.range, .int .i64 x.cost, .bool x.sight, .slice x.ea x.eff.length x.ec] 52) = v26 at HX26 HT26 HB26 HR1026 hOne HFr ⊢; clear hq hV
        refine hK.out _ _ trivial (fun _ => ?_)
        clear hK K
        (try simp only [Act.put, List.setIfInBounds_toArray, List.set_cons_zero, List.set_cons_succ])
        refine wpAnyH_ready (rs := [5]) (by kernel_rfl) (by simp) ?_
        refine AllReadyH.cons (o := ⟨some 27, Op.call { callee := Callee.builtin Builtin.append, args := #[Operand.tmp 23, Operand.tmp 26], argTypes := #[22, 22] }, 22, _, _, none⟩) rfl (fun K hK => ?_) AllReadyH.nil
        refine step_app ab rfl 22 rfl (.tmp 23) (.tmp 26) rfl Q (q + 1) (.slice A1a outa.length c1a) outa [x] (some ⟨q, 0, none⟩) 1 1 rfl (by simp [Act.eval]) (by simp [Act.eval]) HX26.out.own hOne HLen.out (Nat.le_of_lt HX26.out.pl) ?_
        intro A3 c3 v27 lm nl hlm hnl hO hG hW; obtain ⟨hM, hf, hPs⟩ := HX26.out.mid hG
        refine hK.out _ _ trivial (fun _ => ?_)
        clear hK K
        (try simp only [Act.put, List.setIfInBounds_toArray, List.set_cons_zero, List.set_cons_succ])
        refine wpAnyH_take (i := 6) (oi := ⟨some 28, Op.fieldAddr 31 (Operand.tmp 5) 0, 0, _, _, none⟩) (v := ?varb16) rfl (by kernel_rfl) (by kernel_rfl) (by kernel_rfl) (fun _ _ _ h => h) (Or.inl ⟨by rfl, ?harb16⟩) trivial ?rarb16
        case harb16 => (intro wz hSw; go_simp <;> with_reducible rfl)
        (try simp only [Act.put, List.setIfInBounds_toArray, List.set_cons_zero, List.set_cons_succ])
        refine wpAnyH_ready (rs := [7]) (by kernel_rfl) (by simp) ?_
        refine AllReadyH.cons (o := ⟨none, Op.store 22 (Operand.tmp 28) (Operand.tmp 27), 0, _, _, none⟩) rfl (fun K hK => ?_) AllReadyH.nil
        have z9 := hM 0 _ rfl; have y9 := hf 0
        go_simp
        clear z9 y9
        refine hK.out _ _ trivial (fun _ => ?_)
        clear hK K
        (try simp only [Act.put, List.setIfInBounds_toArray, List.set_cons_zero, List.set_cons_succ])
        refine wpAnyH_done (by kernel_rfl) ?_ _
        refine NoPanic.normal ?_
        have HP2 := Lib.hid (HX26.out.put (x := x) (fg_stab g0_st frA_stab) frA_stab fg_add (avf := (fun b => b < v0.heap.size)) HFr.out (fun j hj => by rcases hj with h | h | h; (have h1 := HXd.out.ph; have h2 := HXd.out.pl; omega); (have h2 := HXd.out.pl; omega); exact (HXd.out.own.blk h).2.1) hG hlm hnl hO hW 0 (fun _ => rfl) (fun u v j hj => by match j, hj with | 0, h => exact absurd rfl h | 1, _ => rfl | 2, _ => rfl | 3, _ => rfl | 4, _ => rfl | 5, _ => rfl | 6, _ => rfl | 7, _ => rfl | 8, _ => rfl | 9, _ => rfl | j + 10, _ => rfl))
        have HS6 : Hid (TS (v27.setCell ⟨Q, 0, none⟩ (.slice A3 nl c3)) B P L s2) := Lib.hid (HT26.out.low HPQ.out (fun j hj => HX26.out.low hG hj _ _))
        have HB6 : Hid (Below w.heap.size w (v27.setCell ⟨Q, 0, none⟩ (.slice A3 nl c3))) := Lib.hid ((HB26.out.grown hG HB26.out.size (fun b hb => Nat.le_trans (Nat.le_of_lt HwQ.out) (HX26.out.own.blk hb).1)).setCell (p := ⟨Q, 0, none⟩) (Nat.le_of_lt HwQ.out) _)
        have HR6 : Hid ((v27.setCell ⟨Q, 0, none⟩ (.slice A3 nl c3)).heap[w.heap.size]? = some (.cells #[.slice none 0 0, .slice none 0 0, .slice none 0 0, .int .i64 0, .int .i64 0, .slice none 0 0, .int .i64 0, .int .i64 0, .int .i64 0, .int .i64 0] 31)) := Lib.hid ((HX26.out.low hG HwQ.out _ _).trans HR1026.out)
        have HQ6 : Hid (Rp (pMany pAb (ka + 1)) sta (lm.map Ab.pl) s2) := Lib.hid (by rw [hlm, List.map_append]; exact HQka.out.snoc HR2.out)
        have HK6 : Hid (ka + 1 = lm.length) := Lib.hid (by rw [hlm, HKoa.out]; simp)
        clear hG hO hW hM hf hPs hOne hlm
        subst hnl
        go_wp2
        go_roundg (na - (ka + 1))
        case measure => have := HKn.out; omega
        case rel => exact ⟨ka + 1, lm, A3, c3, s2, HKn.out, rfl, by go_num, HP2, HS6, HB6, HR6, HQ6, HK6⟩
      · go_simp
        (with_reducible refine (o_ab L ska _ B P HTd.out).mono ?_); rintro e v28 ⟨x, rfl, HX, s2, HR2, HT28, HN2⟩; have HX28 := Lib.hid (HXd.out.turn (fg_stab g0_st frA_stab) HN2.out HPQ.out); have HB28 := Lib.hid (tn_lowb HBd.out HN2.out HwP.out (Nat.le_refl _)); have HR1028 := Lib.hid (tn_box HN2.out HRd.out (Nat.ne_of_lt HwP1.out))
        refine hK.out _ _ trivial (fun _ => ?_)
        clear hK K
        (try simp only [Act.put, List.setIfInBounds_toArray, List.set_cons_zero, List.set_cons_succ])
        refine wpAnyH_ready (rs := [1, 4]) (by kernel_rfl) (by simp) ?_
        refine AllReadyH.cons (o := ⟨some 23, Op.load 22 (Operand.tmp 22), 22, _, _, none⟩) rfl (fun K hK => ?_) (AllReadyH.cons (o := ⟨some 26, Op.buildSlice 22 1 #[(0, Operand.tmp 25)], 22, _, _, none⟩) rfl (fun K hK => ?_) AllReadyH.nil)
        · have z9 := HX28.out.box 0 _ rfl
          go_simp
          clear z9
          refine hK.out _ _ trivial (fun _ => ?_)
          clear hK K
          (try simp only [Act.put, List.setIfInBounds_toArray, List.set_cons_zero, List.set_cons_succ])
          refine wpAnyH_ready (rs := [4]) (by kernel_rfl) (by simp) ?_
          refine AllReadyH.cons (o := ⟨some 26, Op.buildSlice 22 1 #[(0, Operand.tmp 25)], 22, _, _, none⟩) rfl (fun K hK => ?_) AllReadyH.nil
          go_simp
          have HX29 := Lib.hid (HX28.out.turn (P := P) (fg_stab g0_st frA_stab) (tn_alloc (tn_refl P v28) (.cells #[.int .i64 x.id, .int .i64 x.cast, .int .i64 x.cool, .int .i64 x.charges, .int .i64 x.range, .int .i64 x.cost, .bool x.sight, .slice x.ea x.eff.length x.ec] 52)) HPQ.out); have HT29 := Lib.hid (HT28.out.alloc (.cells #[.int .i64 x.id, .int .i64 x.cast, .int .i64 x.cool, .int .i64 x.charges, .int .i64 x.range, .int .i64 x.cost, .bool x.sight, .slice x.ea x.eff.length x.ec] 52)); have HB29 := Lib.hid (HB28.out.alloc HB28.out.size (.cells #[.int .i64 x.id, .int .i64 x.cast, .int .i64 x.cool, .int .i64 x.charges, .int .i64 x.range, .int .i64 x.cost, .bool x.sight, .slice x.ea x.eff.length x.ec] 52)); have HR1029 := Lib.hid ((Below.heap_alloc _ (.cells #[.int .i64 x.id, .int .i64 x.cast, .int .i64 x.cool, .int .i64 x.charges, .int .i64 x.range, .int .i64 x.cost, .bool x.sight, .slice x.ea x.eff.length x.ec] 52) _ (lt_of_block HR1028.out)).trans HR1028.out); have hOne : RW ab (v28.alloc (.cells #[.int .i64 x.id, .int .i64 x.cast, .int .i64 x.cool, .int .i64 x.charges, .int .i64 x.range, .int .i64 x.cost, .bool x.sight, .slice x.ea x.eff.length x.ec] 52)) (v28.heap.size + 1) (some ⟨v28.heap.size, 0, none⟩) [x] := rw_one1 rfl rfl (Nat.lt_succ_self _); have HFr : Hid (FrA x (v28.alloc (.cells #[.int .i64 x.id, .int .i64 x.cast, .int .i64 x.cool, .int .i64 x.charges, .int .i64 x.range, .int .i64 x.cost, .bool x.sight, .slice x.ea x.eff.length x.ec] 52)) (fun b => b < v0.heap.size)) := Lib.hid (frA_stab _ _ _ _ _ HX.out (Kp.of (v28.alloc (.cells #[.int .i64 x.id, .int .i64 x.cast, .int .i64 x.cool, .int .i64 x.charges, .int .i64 x.range, .int .i64 x.cost, .bool x.sight, .slice x.ea x.eff.length x.ec] 52)) ((Below.refl _ _).alloc (Nat.le_refl _) _)) (fun _ _ h => h)); generalize hq : v28.heap.size = q at hOne ⊢; generalize hV : v28.alloc (.cells #[.int .i64 x.id, .int .i64 x.cast, .int .i64 x.cool, .int .i64 x.charges, .int .i64 x.range, .int .i64 x.cost, .bool x.sight, .slice x.ea x.eff.length x.ec] 52) = v29 at HX29 HT29 HB29 HR1029 hOne HFr ⊢; clear hq hV
          refine hK.out _ _ trivial (fun _ => ?_)
          clear hK K
          (try simp only [Act.put, List.setIfInBounds_toArray, List.set_cons_zero, List.set_cons_succ])
          refine wpAnyH_ready (rs := [5]) (by kernel_rfl) (by simp) ?_
          refine AllReadyH.cons (o := ⟨some 27, Op.call { callee := Callee.builtin Builtin.append, args := #[Operand.tmp 23, Operand.tmp 26], argTypes := #[22, 22] }, 22, _, _, none⟩) rfl (fun K hK => ?_) AllReadyH.nil
          refine step_app ab rfl 22 rfl (.tmp 23) (.tmp 26) rfl Q (q + 1) (.slice A1a outa.length c1a) outa [x] (some ⟨q, 0, none⟩) 1 1 rfl (by simp [Act.eval]) (by simp [Act.eval]) HX29.out.own hOne HLen.out (Nat.le_of_lt HX29.out.pl) ?_
          intro A3 c3 v30 lm nl hlm hnl hO hG hW; obtain ⟨hM, hf, hPs⟩ := HX29.out.mid hG
          refine hK.out _ _ trivial (fun _ => ?_)
          clear hK K
          (try simp only [Act.put, List.setIfInBounds_toArray, List.set_cons_zero, List.set_cons_succ])
          refine wpAnyH_take (i := 6) (oi := ⟨some 28, Op.fieldAddr 31 (Operand.tmp 5) 0, 0, _, _, none⟩) (v := ?varb3b16) rfl (by kernel_rfl) (by kernel_rfl) (by kernel_rfl) (fun _ _ _ h => h) (Or.inl ⟨by rfl, ?harb3b16⟩) trivial ?rarb3b16
          case harb3b16 => (intro wz hSw; go_simp <;> with_reducible rfl)
          (try simp only [Act.put, List.setIfInBounds_toArray, List.set_cons_zero, List.set_cons_succ])
          refine wpAnyH_ready (rs := [7]) (by kernel_rfl) (by simp) ?_
          refine AllReadyH.cons (o := ⟨none, Op.store 22 (Operand.tmp 28) (Operand.tmp 27), 0, _, _, none⟩) rfl (fun K hK => ?_) AllReadyH.nil
          have z9 := hM 0 _ rfl; have y9 := hf 0
          go_simp
          clear z9 y9
          refine hK.out _ _ trivial (fun _ => ?_)
          clear hK K
          (try simp only [Act.put, List.setIfInBounds_toArray, List.set_cons_zero, List.set_cons_succ])
          refine wpAnyH_done (by kernel_rfl) ?_ _
          refine NoPanic.normal ?_
          have HP2 := Lib.hid (HX29.out.put (x := x) (fg_stab g0_st frA_stab) frA_stab fg_add (avf := (fun b => b < v0.heap.size)) HFr.out (fun j hj => by rcases hj with h | h | h; (have h1 := HXd.out.ph; have h2 := HXd.out.pl; omega); (have h2 := HXd.out.pl; omega); exact (HXd.out.own.blk h).2.1) hG hlm hnl hO hW 0 (fun _ => rfl) (fun u v j hj => by match j, hj with | 0, h => exact absurd rfl h | 1, _ => rfl | 2, _ => rfl | 3, _ => rfl | 4, _ => rfl | 5, _ => rfl | 6, _ => rfl | 7, _ => rfl | 8, _ => rfl | 9, _ => rfl | j + 10, _ => rfl))
          have HS6 : Hid (TS (v30.setCell ⟨Q, 0, none⟩ (.slice A3 nl c3)) B P L s2) := Lib.hid (HT29.out.low HPQ.out (fun j hj => HX29.out.low hG hj _ _))
          have HB6 : Hid (Below w.heap.size w (v30.setCell ⟨Q, 0, none⟩ (.slice A3 nl c3))) := Lib.hid ((HB29.out.grown hG HB29.out.size (fun b hb => Nat.le_trans (Nat.le_of_lt HwQ.out) (HX29.out.own.blk hb).1)).setCell (p := ⟨Q, 0, none⟩) (Nat.le_of_lt HwQ.out) _)
          have HR6 : Hid ((v30.setCell ⟨Q, 0, none⟩ (.slice A3 nl c3)).heap[w.heap.size]? = some (.cells #[.slice none 0 0, .slice none 0 0, .slice none 0 0, .int .i64 0, .int .i64 0, .slice none 0 0, .int .i64 0, .int .i64 0, .int .i64 0, .int .i64 0] 31)) := Lib.hid ((HX29.out.low hG HwQ.out _ _).trans HR1029.out)
          have HQ6 : Hid (Rp (pMany pAb (ka + 1)) sta (lm.map Ab.pl) s2) := Lib.hid (by rw [hlm, List.map_append]; exact HQka.out.snoc HR2.out)
          have HK6 : Hid (ka + 1 = lm.length) := Lib.hid (by rw [hlm, HKoa.out]; simp)
          clear hG hO hW hM hf hPs hOne hlm
          subst hnl
          go_wp2
          go_roundg (na - (ka + 1))
          case measure => have := HKn.out; omega
          case rel => exact ⟨ka + 1, lm, A3, c3, s2, HKn.out, rfl, by go_num, HP2, HS6, HB6, HR6, HQ6, HK6⟩
        · go_simp
          have HX31 := Lib.hid (HX28.out.turn (P := P) (fg_stab g0_st frA_stab) (tn_alloc (tn_refl P v28) (.cells #[.int .i64 x.id, .int .i64 x.cast, .int .i64 x.cool, .int .i64 x.charges, .int .i64 x.range, .int .i64 x.cost, .bool x.sight, .slice x.ea x.eff.length x.ec] 52)) HPQ.out); have HT31 := Lib.hid (HT28.out.alloc (.cells #[.int .i64 x.id, .int .i64 x.cast, .int .i64 x.cool, .int .i64 x.charges, .int .i64 x.range, .int .i64 x.cost, .bool x.sight, .slice x.ea x.eff.length x.ec] 52)); have HB31 := Lib.hid (HB28.out.alloc HB28.out.size (.cells #[.int .i64 x.id, .int .i64 x.cast, .int .i64 x.cool, .int .i64 x.charges, .int .i64 x.range, .int .i64 x.cost, .bool x.sight, .slice x.ea x.eff.length x.ec] 52)); have HR1031 := Lib.hid ((Below.heap_alloc _ (.cells #[.int .i64 x.id, .int .i64 x.cast, .int .i64 x.cool, .int .i64 x.charges, .int .i64 x.range, .int .i64 x.cost, .bool x.sight, .slice x.ea x.eff.length x.ec] 52) _ (lt_of_block HR1028.out)).trans HR1028.out); have hOne : RW ab (v28.alloc (.cells #[.int .i64 x.id, .int .i64 x.cast, .int .i64 x.cool, .int .i64 x.charges, .int .i64 x.range, .int .i64 x.cost, .bool x.sight, .slice x.ea x.eff.length x.ec] 52)) (v28.heap.size + 1) (some ⟨v28.heap.size, 0, none⟩) [x] := rw_one1 rfl rfl (Nat.lt_succ_self _); have HFr : Hid (FrA x (v28.alloc (.cells #[.int .i64 x.id, .int .i64 x.cast, .int .i64 x.cool, .int .i64 x.charges, .int .i64 x.range, .int .i64 x.cost, .bool x.sight, .slice x.ea x.eff.length x.ec] 52)) (fun b => b < v0.heap.size)) := Lib.hid (frA_stab _ _ _ _ _ HX.out (Kp.of (v28.alloc (.cells #[.int .i64 x.id, .int .i64 x.cast, .int .i64 x.cool, .int .i64 x.charges, .int .i64 x.range, .int .i64 x.cost, .bool x.sight, .slice x.ea x.eff.length x.ec] 52)) ((Below.refl _ _).alloc (Nat.le_refl _) _)) (fun _ _ h => h)); generalize hq : v28.heap.size = q at hOne ⊢; generalize hV : v28.alloc (.cells #[.int .i64 x.id, .int .i64 x.cast, .int .i64 x.cool, .int .i64 x.charges, .int .i64 x.range, .int .i64 x.cost, .bool x.sight, .slice x.ea x.eff.length x.ec] 52) = v31 at HX31 HT31 HB31 HR1031 hOne HFr ⊢; clear hq hV
          refine hK.out _ _ trivial (fun _ => ?_)
          clear hK K
          (try simp only [Act.put, List.setIfInBounds_toArray, List.set_cons_zero, List.set_cons_succ])
          refine wpAnyH_ready (rs := [1]) (by kernel_rfl) (by simp) ?_
          refine AllReadyH.cons (o := ⟨some 23, Op.load 22 (Operand.tmp 22), 22, _, _, none⟩) rfl (fun K hK => ?_) AllReadyH.nil
          have z9 := HX31.out.box 0 _ rfl
          go_simp
          clear z9
          refine hK.out _ _ trivial (fun _ => ?_)
          clear hK K
          (try simp only [Act.put, List.setIfInBounds_toArray, List.set_cons_zero, List.set_cons_succ])
          refine wpAnyH_ready (rs := [5]) (by kernel_rfl) (by simp) ?_
          refine AllReadyH.cons (o := ⟨some 27, Op.call { callee := Callee.builtin Builtin.append, args := #[Operand.tmp 23, Operand.tmp 26], argTypes := #[22, 22] }, 22, _, _, none⟩) rfl (fun K hK => ?_) AllReadyH.nil
          refine step_app ab rfl 22 rfl (.tmp 23) (.tmp 26) rfl Q (q + 1) (.slice A1a outa.length c1a) outa [x] (some ⟨q, 0, none⟩) 1 1 rfl (by simp [Act.eval]) (by simp [Act.eval]) HX31.out.own hOne HLen.out (Nat.le_of_lt HX31.out.pl) ?_
          intro A3 c3 v32 lm nl hlm hnl hO hG hW; obtain ⟨hM, hf, hPs⟩ := HX31.out.mid hG
          refine hK.out _ _ trivial (fun _ => ?_)
          clear hK K
          (try simp only [Act.put, List.setIfInBounds_toArray, List.set_cons_zero, List.set_cons_succ])
          refine wpAnyH_take (i := 6) (oi := ⟨some 28, Op.fieldAddr 31 (Operand.tmp 5) 0, 0, _, _, none⟩) (v := ?varb3b46) rfl (by kernel_rfl) (by kernel_rfl) (by kernel_rfl) (fun _ _ _ h => h) (Or.inl ⟨by rfl, ?harb3b46⟩) trivial ?rarb3b46
          case harb3b46 => (intro wz hSw; go_simp <;> with_reducible rfl)
          (try simp only [Act.put, List.setIfInBounds_toArray, List.set_cons_zero, List.set_cons_succ])
          refine wpAnyH_ready (rs := [7]) (by kernel_rfl) (by simp) ?_
          refine AllReadyH.cons (o := ⟨none, Op.store 22 (Operand.tmp 28) (Operand.tmp 27), 0, _, _, none⟩) rfl (fun K hK => ?_) AllReadyH.nil
          have z9 := hM 0 _ rfl; have y9 := hf 0
          go_simp
          clear z9 y9
          refine hK.out _ _ trivial (fun _ => ?_)
          clear hK K
          (try simp only [Act.put, List.setIfInBounds_toArray, List.set_cons_zero, List.set_cons_succ])
          refine wpAnyH_done (by kernel_rfl) ?_ _
          refine NoPanic.normal ?_
          have HP2 := Lib.hid (HX31.out.put (x := x) (fg_stab g0_st frA_stab) frA_stab fg_add (avf := (fun b => b < v0.heap.size)) HFr.out (fun j hj => by rcases hj with h | h | h; (have h1 := HXd.out.ph; have h2 := HXd.out.pl; omega); (have h2 := HXd.out.pl; omega); exact (HXd.out.own.blk h).2.1) hG hlm hnl hO hW 0 (fun _ => rfl) (fun u v j hj => by match j, hj with | 0, h => exact absurd rfl h | 1, _ => rfl | 2, _ => rfl | 3, _ => rfl | 4, _ => rfl | 5, _ => rfl | 6, _ => rfl | 7, _ => rfl | 8, _ => rfl | 9, _ => rfl | j + 10, _ => rfl))
          have HS6 : Hid (TS (v32.setCell ⟨Q, 0, none⟩ (.slice A3 nl c3)) B P L s2) := Lib.hid (HT31.out.low HPQ.out (fun j hj => HX31.out.low hG hj _ _))
          have HB6 : Hid (Below w.heap.size w (v32.setCell ⟨Q, 0, none⟩ (.slice A3 nl c3))) := Lib.hid ((HB31.out.grown hG HB31.out.size (fun b hb => Nat.le_trans (Nat.le_of_lt HwQ.out) (HX31.out.own.blk hb).1)).setCell (p := ⟨Q, 0, none⟩) (Nat.le_of_lt HwQ.out) _)
          have HR6 : Hid ((v32.setCell ⟨Q, 0, none⟩ (.slice A3 nl c3)).heap[w.heap.size]? = some (.cells #[.slice none 0 0, .slice none 0 0, .slice none 0 0, .int .i64 0, .int .i64 0, .slice none 0 0, .int .i64 0, .int .i64 0, .int .i64 0, .int .i64 0] 31)) := Lib.hid ((HX31.out.low hG HwQ.out _ _).trans HR1031.out)
          have HQ6 : Hid (Rp (pMany pAb (ka + 1)) sta (lm.map Ab.pl) s2) := Lib.hid (by rw [hlm, List.map_append]; exact HQka.out.snoc HR2.out)
          have HK6 : Hid (ka + 1 = lm.length) := Lib.hid (by rw [hlm, HKoa.out]; simp)
          clear hG hO hW hM hf hPs hOne hlm
          subst hnl
          go_wp2
          go_roundg (na - (ka + 1))
          case measure => have := HKn.out; omega
          case rel => exact ⟨ka + 1, lm, A3, c3, s2, HKn.out, rfl, by go_num, HP2, HS6, HB6, HR6, HQ6, HK6⟩
    · have hkk : ka = na := by omega
      subst hkk
      have hkl : decide ((ka : Int) < ka) = false := by simp
      have HQxa := Lib.hid (Rp.counted (by decide) eatsAb HRna.out HQka.out)
      go_wp2_with (first
        | ((with_reducible refine (o_cnt7 L ska _ B P HSka.out).mono ?_); rintro e wb ⟨nb, rfl, HNbb, stb, HRnb, HSc, HNb⟩))
      have HLX0 : Hid (LX au (FG (GN ab G0 FrA A1a outa) FrT) Q Q (fun v => [.slice A1a outa.length c1a, v, .slice none 0 0, .int .i64 0, .int .i64 0, .slice none 0 0, .int .i64 0, .int .i64 0, .int .i64 0, .int .i64 0]) wb none 0 []) := Lib.hid ((HLXa.out.turn (fg_stab g0_st frA_stab) HNb.out HPQ.out).next g0_st frA_stab rfl)
      have HBc := Lib.hid (tn_lowb HBka.out HNb.out HwP.out (Nat.le_refl _))
      have HRc := Lib.hid (tn_box HNb.out HRka.out (Nat.ne_of_lt HwP1.out))
      go_loopg [8] nb (fun g s8 wr => ∃ (k : Nat) (out : List Au) (A1 : Option Addr) (c1 : Nat) (sk : St), k ≤ nb ∧ g = nb - k ∧ s8 = .int .i64 (k : Int) ∧ Hid (LX au (FG (GN ab G0 FrA A1a outa) FrT) Q Q (fun v => [.slice A1a outa.length c1a, v, .slice none 0 0, .int .i64 0, .int .i64 0, .slice none 0 0, .int .i64 0, .int .i64 0, .int .i64 0, .int .i64 0]) wr A1 c1 out) ∧ Hid (TS wr B P L sk) ∧ Hid (Below w.heap.size w wr) ∧ Hid (wr.heap[w.heap.size]? = some (.cells #[.slice none 0 0, .slice none 0 0, .slice none 0 0, .int .i64 0, .int .i64 0, .slice none 0 0, .int .i64 0, .int .i64 0, .int .i64 0, .int .i64 0] 31)) ∧ Hid (Rp (pMany pAu k) stb (out) sk) ∧ Hid (k = out.length))
      case atStart => exact ⟨0, [], none, 0, stb, by omega, rfl, rfl, HLX0, HSc, HBc, HRc, Lib.hid (Rp.pure _ _), Lib.hid rfl⟩
      case round =>
        obtain ⟨kb, outb, A1b, c1b, skb, hk, rfl, rfl, HLXb, HSkb, HBkb, HRkb, HQkb, HKob⟩ := hrel
        clear HLX0 HSc HBc HRc
        by_cases hlt : kb < nb
        · have hkl : (kb : Int) < nb := by omega
          have HKn : Hid (kb < nb) := Lib.hid hlt
          have hkb : (kb : Int) ≤ 400000 := by have := HNbb.out; omega
          have HLen : Hid (outb.length + 1 ≤ 1000000) := Lib.hid (by have h1 := HKob.out; have h2 := HNbb.out; omega)
          clear hlt
          go_wp2
          have HXd := Lib.hid (HLXb.out.step (fg_stab (gn_st g0_st frA_stab) frT_stab) (Below.refl _ _).drew)
          have HTd : Hid (TS wr.drew B P L skb) := Lib.hid (HSkb.out.keep (fun _ _ => rfl))
          have HBd := Lib.hid HBkb.out.drew
          have HRd : Hid (wr.drew.heap[w.heap.size]? = some (.cells #[.slice none 0 0, .slice none 0 0, .slice none 0 0, .int .i64 0, .int .i64 0, .slice none 0 0, .int .i64 0, .int .i64 0, .int .i64 0, .int .i64 0] 31)) := Lib.hid HRkb.out
          refine wp_region_noPanic ?_
          refine wp_region_held_drew (S := fun _ => True) (by kernel_rfl) trivial (fun _ => ?_)
          generalize wr.drew = v0 at HXd HTd HBd HRd ⊢
          refine wpAnyH_take (i := 0) (oi := ⟨some 36, Op.fieldAddr 31 (Operand.tmp 5) 1, 0, _, _, none⟩) (v := ?vbr0) rfl (by kernel_rfl) (by kernel_rfl) (by kernel_rfl) (fun _ _ _ h => h) (Or.inl ⟨by rfl, ?hbr0⟩) trivial ?rbr0
          case hbr0 => (intro wz hSw; go_simp <;> with_reducible rfl)
          (try simp only [Act.put, List.setIfInBounds_toArray, List.set_cons_zero, List.set_cons_succ])
          refine wpAnyH_take (i := 2) (oi := ⟨some 38, Op.move (Operand.tmp 4), 83, _, _, none⟩) (v := ?vbr2) rfl (by kernel_rfl) (by kernel_rfl) (by kernel_rfl) (fun _ _ _ h => h) (Or.inl ⟨by rfl, ?hbr2⟩) trivial ?rbr2
          case hbr2 => (intro wz hSw; go_simp <;> with_reducible rfl)
          (try simp only [Act.put, List.setIfInBounds_toArray, List.set_cons_zero, List.set_cons_succ])
          refine wpAnyH_ready (rs := [1, 3]) (by kernel_rfl) (by simp) ?_
          refine AllReadyH.cons (o := ⟨some 37, Op.load 23 (Operand.tmp 36), 23, _, _, none⟩) rfl (fun K hK => ?_) (AllReadyH.cons (o := ⟨some 39, Op.call { callee := Callee.value (Operand.func 41), args := #[Operand.tmp 38], argTypes := #[83] }, 63, _, _, none⟩) rfl (fun K hK => ?_) AllReadyH.nil)
          · have z9 := HXd.out.box 1 _ rfl
            go_simp
            clear z9
            refine hK.out _ _ trivial (fun _ => ?_)
            clear hK K
            (try simp only [Act.put, List.setIfInBounds_toArray, List.set_cons_zero, List.set_cons_succ])
            refine wpAnyH_ready (rs := [3]) (by kernel_rfl) (by simp) ?_
            refine AllReadyH.cons (o := ⟨some 39, Op.call { callee := Callee.value (Operand.func 41), args := #[Operand.tmp 38], argTypes := #[83] }, 63, _, _, none⟩) rfl (fun K hK => ?_) AllReadyH.nil
            go_simp
            (with_reducible refine (o_au L skb _ B P HTd.out).mono ?_); rintro e v17 ⟨x, rfl, s2, HR2, HT17, HN2⟩; have HX17 := Lib.hid (HXd.out.turn (fg_stab (gn_st g0_st frA_stab) frT_stab) HN2.out HPQ.out); have HB17 := Lib.hid (tn_lowb HBd.out HN2.out HwP.out (Nat.le_refl _)); have HR1017 := Lib.hid (tn_box HN2.out HRd.out (Nat.ne_of_lt HwP1.out))
            refine hK.out _ _ trivial (fun _ => ?_)
            clear hK K
            (try simp only [Act.put, List.setIfInBounds_toArray, List.set_cons_zero, List.set_cons_succ])
            refine wpAnyH_ready (rs := [4]) (by kernel_rfl) (by simp) ?_
            refine AllReadyH.cons (o := ⟨some 40, Op.buildSlice 23 1 #[(0, Operand.tmp 39)], 23, _, _, none⟩) rfl (fun K hK => ?_) AllReadyH.nil
            go_simp
            have HX18 := Lib.hid (HX17.out.turn (P := P) (fg_stab (gn_st g0_st frA_stab) frT_stab) (tn_alloc (tn_refl P v17) (.cells #[.int .i64 x.id, .int .i64 x.kind, .int .i64 x.ticks, .int .i64 x.every, .int .i64 x.stacks, .int .i64 x.amount, .bool x.harm] 63)) HPQ.out); have HT18 := Lib.hid (HT17.out.alloc (.cells #[.int .i64 x.id, .int .i64 x.kind, .int .i64 x.ticks, .int .i64 x.every, .int .i64 x.stacks, .int .i64 x.amount, .bool x.harm] 63)); have HB18 := Lib.hid (HB17.out.alloc HB17.out.size (.cells #[.int .i64 x.id, .int .i64 x.kind, .int .i64 x.ticks, .int .i64 x.every, .int .i64 x.stacks, .int .i64 x.amount, .bool x.harm] 63)); have HR1018 := Lib.hid ((Below.heap_alloc _ (.cells #[.int .i64 x.id, .int .i64 x.kind, .int .i64 x.ticks, .int .i64 x.every, .int .i64 x.stacks, .int .i64 x.amount, .bool x.harm] 63) _ (lt_of_block HR1017.out)).trans HR1017.out); have hOne : RW au (v17.alloc (.cells #[.int .i64 x.id, .int .i64 x.kind, .int .i64 x.ticks, .int .i64 x.every, .int .i64 x.stacks, .int .i64 x.amount, .bool x.harm] 63)) (v17.heap.size + 1) (some ⟨v17.heap.size, 0, none⟩) [x] := rw_one1 rfl rfl (Nat.lt_succ_self _); generalize hq : v17.heap.size = q at hOne ⊢; generalize hV : v17.alloc (.cells #[.int .i64 x.id, .int .i64 x.kind, .int .i64 x.ticks, .int .i64 x.every, .int .i64 x.stacks, .int .i64 x.amount, .bool x.harm] 63) = v18 at HX18 HT18 HB18 HR1018 hOne ⊢; clear hq hV
            refine hK.out _ _ trivial (fun _ => ?_)
            clear hK K
            (try simp only [Act.put, List.setIfInBounds_toArray, List.set_cons_zero, List.set_cons_succ])
            refine wpAnyH_ready (rs := [5]) (by kernel_rfl) (by simp) ?_
            refine AllReadyH.cons (o := ⟨some 41, Op.call { callee := Callee.builtin Builtin.append, args := #[Operand.tmp 37, Operand.tmp 40], argTypes := #[23, 23] }, 23, _, _, none⟩) rfl (fun K hK => ?_) AllReadyH.nil
            refine step_app au rfl 23 rfl (.tmp 37) (.tmp 40) rfl Q (q + 1) (.slice A1b outb.length c1b) outb [x] (some ⟨q, 0, none⟩) 1 1 rfl (by simp [Act.eval]) (by simp [Act.eval]) HX18.out.own hOne HLen.out (Nat.le_of_lt HX18.out.pl) ?_
            intro A3 c3 v19 lm nl hlm hnl hO hG hW; obtain ⟨hM, hf, hPs⟩ := HX18.out.mid hG
            refine hK.out _ _ trivial (fun _ => ?_)
            clear hK K
            (try simp only [Act.put, List.setIfInBounds_toArray, List.set_cons_zero, List.set_cons_succ])
            refine wpAnyH_take (i := 6) (oi := ⟨some 42, Op.fieldAddr 31 (Operand.tmp 5) 1, 0, _, _, none⟩) (v := ?vbrb16) rfl (by kernel_rfl) (by kernel_rfl) (by kernel_rfl) (fun _ _ _ h => h) (Or.inl ⟨by rfl, ?hbrb16⟩) trivial ?rbrb16
            case hbrb16 => (intro wz hSw; go_simp <;> with_reducible rfl)
            (try simp only [Act.put, List.setIfInBounds_toArray, List.set_cons_zero, List.set_cons_succ])
            refine wpAnyH_ready (rs := [7]) (by kernel_rfl) (by simp) ?_
            refine AllReadyH.cons (o := ⟨none, Op.store 23 (Operand.tmp 42) (Operand.tmp 41), 0, _, _, none⟩) rfl (fun K hK => ?_) AllReadyH.nil
            have z9 := hM 1 _ rfl; have y9 := hf 1
            go_simp
            clear z9 y9
            refine hK.out _ _ trivial (fun _ => ?_)
            clear hK K
            (try simp only [Act.put, List.setIfInBounds_toArray, List.set_cons_zero, List.set_cons_succ])
            refine wpAnyH_done (by kernel_rfl) ?_ _
            refine NoPanic.normal ?_
            have HP2 := Lib.hid (HX18.out.put (x := x) (fg_stab (gn_st g0_st frA_stab) frT_stab) frT_stab fg_add (avf := (fun _ => True)) trivial (fun _ _ => trivial) hG hlm hnl hO hW 1 (fun _ => rfl) (fun u v j hj => by match j, hj with | 0, _ => rfl | 1, h => exact absurd rfl h | 2, _ => rfl | 3, _ => rfl | 4, _ => rfl | 5, _ => rfl | 6, _ => rfl | 7, _ => rfl | 8, _ => rfl | 9, _ => rfl | j + 10, _ => rfl))
            have HS6 : Hid (TS (v19.setCell ⟨Q, 1, none⟩ (.slice A3 nl c3)) B P L s2) := Lib.hid (HT18.out.low HPQ.out (fun j hj => HX18.out.low hG hj _ _))
            have HB6 : Hid (Below w.heap.size w (v19.setCell ⟨Q, 1, none⟩ (.slice A3 nl c3))) := Lib.hid ((HB18.out.grown hG HB18.out.size (fun b hb => Nat.le_trans (Nat.le_of_lt HwQ.out) (HX18.out.own.blk hb).1)).setCell (p := ⟨Q, 1, none⟩) (Nat.le_of_lt HwQ.out) _)
            have HR6 : Hid ((v19.setCell ⟨Q, 1, none⟩ (.slice A3 nl c3)).heap[w.heap.size]? = some (.cells #[.slice none 0 0, .slice none 0 0, .slice none 0 0, .int .i64 0, .int .i64 0, .slice none 0 0, .int .i64 0, .int .i64 0, .int .i64 0, .int .i64 0] 31)) := Lib.hid ((HX18.out.low hG HwQ.out _ _).trans HR1018.out)
            have HQ6 : Hid (Rp (pMany pAu (kb + 1)) stb (lm) s2) := Lib.hid (by rw [hlm]; exact HQkb.out.snoc HR2.out)
            have HK6 : Hid (kb + 1 = lm.length) := Lib.hid (by rw [hlm, HKob.out]; simp)
            clear hG hO hW hM hf hPs hOne hlm
            subst hnl
            go_wp2
            go_roundg (nb - (kb + 1))
            case measure => have := HKn.out; omega
            case rel => exact ⟨kb + 1, lm, A3, c3, s2, HKn.out, rfl, by go_num, HP2, HS6, HB6, HR6, HQ6, HK6⟩
          · go_simp
            (with_reducible refine (o_au L skb _ B P HTd.out).mono ?_); rintro e v20 ⟨x, rfl, s2, HR2, HT20, HN2⟩; have HX20 := Lib.hid (HXd.out.turn (fg_stab (gn_st g0_st frA_stab) frT_stab) HN2.out HPQ.out); have HB20 := Lib.hid (tn_lowb HBd.out HN2.out HwP.out (Nat.le_refl _)); have HR1020 := Lib.hid (tn_box HN2.out HRd.out (Nat.ne_of_lt HwP1.out))
            refine hK.out _ _ trivial (fun _ => ?_)
            clear hK K
            (try simp only [Act.put, List.setIfInBounds_toArray, List.set_cons_zero, List.set_cons_succ])
            refine wpAnyH_ready (rs := [1, 4]) (by kernel_rfl) (by simp) ?_
            refine AllReadyH.cons (o := ⟨some 37, Op.load 23 (Operand.tmp 36), 23, _, _, none⟩) rfl (fun K hK => ?_) (AllReadyH.cons (o := ⟨some 40, Op.buildSlice 23 1 #[(0, Operand.tmp 39)], 23, _, _, none⟩) rfl (fun K hK => ?_) AllReadyH.nil)
            · have z9 := HX20.out.box 1 _ rfl
              go_simp
              clear z9
              refine hK.out _ _ trivial (fun _ => ?_)
              clear hK K
              (try simp only [Act.put, List.setIfInBounds_toArray, List.set_cons_zero, List.set_cons_succ])
              refine wpAnyH_ready (rs := [4]) (by kernel_rfl) (by simp) ?_
              refine AllReadyH.cons (o := ⟨some 40, Op.buildSlice 23 1 #[(0, Operand.tmp 39)], 23, _, _, none⟩) rfl (fun K hK => ?_) AllReadyH.nil
              go_simp
              have HX21 := Lib.hid (HX20.out.turn (P := P) (fg_stab (gn_st g0_st frA_stab) frT_stab) (tn_alloc (tn_refl P v20) (.cells #[.int .i64 x.id, .int .i64 x.kind, .int .i64 x.ticks, .int .i64 x.every, .int .i64 x.stacks, .int .i64 x.amount, .bool x.harm] 63)) HPQ.out); have HT21 := Lib.hid (HT20.out.alloc (.cells #[.int .i64 x.id, .int .i64 x.kind, .int .i64 x.ticks, .int .i64 x.every, .int .i64 x.stacks, .int .i64 x.amount, .bool x.harm] 63)); have HB21 := Lib.hid (HB20.out.alloc HB20.out.size (.cells #[.int .i64 x.id, .int .i64 x.kind, .int .i64 x.ticks, .int .i64 x.every, .int .i64 x.stacks, .int .i64 x.amount, .bool x.harm] 63)); have HR1021 := Lib.hid ((Below.heap_alloc _ (.cells #[.int .i64 x.id, .int .i64 x.kind, .int .i64 x.ticks, .int .i64 x.every, .int .i64 x.stacks, .int .i64 x.amount, .bool x.harm] 63) _ (lt_of_block HR1020.out)).trans HR1020.out); have hOne : RW au (v20.alloc (.cells #[.int .i64 x.id, .int .i64 x.kind, .int .i64 x.ticks, .int .i64 x.every, .int .i64 x.stacks, .int .i64 x.amount, .bool x.harm] 63)) (v20.heap.size + 1) (some ⟨v20.heap.size, 0, none⟩) [x] := rw_one1 rfl rfl (Nat.lt_succ_self _); generalize hq : v20.heap.size = q at hOne ⊢; generalize hV : v20.alloc (.cells #[.int .i64 x.id, .int .i64 x.kind, .int .i64 x.ticks, .int .i64 x.every, .int .i64 x.stacks, .int .i64 x.amount, .bool x.harm] 63) = v21 at HX21 HT21 HB21 HR1021 hOne ⊢; clear hq hV
              refine hK.out _ _ trivial (fun _ => ?_)
              clear hK K
              (try simp only [Act.put, List.setIfInBounds_toArray, List.set_cons_zero, List.set_cons_succ])
              refine wpAnyH_ready (rs := [5]) (by kernel_rfl) (by simp) ?_
              refine AllReadyH.cons (o := ⟨some 41, Op.call { callee := Callee.builtin Builtin.append, args := #[Operand.tmp 37, Operand.tmp 40], argTypes := #[23, 23] }, 23, _, _, none⟩) rfl (fun K hK => ?_) AllReadyH.nil
              refine step_app au rfl 23 rfl (.tmp 37) (.tmp 40) rfl Q (q + 1) (.slice A1b outb.length c1b) outb [x] (some ⟨q, 0, none⟩) 1 1 rfl (by simp [Act.eval]) (by simp [Act.eval]) HX21.out.own hOne HLen.out (Nat.le_of_lt HX21.out.pl) ?_
              intro A3 c3 v22 lm nl hlm hnl hO hG hW; obtain ⟨hM, hf, hPs⟩ := HX21.out.mid hG
              refine hK.out _ _ trivial (fun _ => ?_)
              clear hK K
              (try simp only [Act.put, List.setIfInBounds_toArray, List.set_cons_zero, List.set_cons_succ])
              refine wpAnyH_take (i := 6) (oi := ⟨some 42, Op.fieldAddr 31 (Operand.tmp 5) 1, 0, _, _, none⟩) (v := ?vbrb3b16) rfl (by kernel_rfl) (by kernel_rfl) (by kernel_rfl) (fun _ _ _ h => h) (Or.inl ⟨by rfl, ?hbrb3b16⟩) trivial ?rbrb3b16
              case hbrb3b16 => (intro wz hSw; go_simp <;> with_reducible rfl)
              (try simp only [Act.put, List.setIfInBounds_toArray, List.set_cons_zero, List.set_cons_succ])
              refine wpAnyH_ready (rs := [7]) (by kernel_rfl) (by simp) ?_
              refine AllReadyH.cons (o := ⟨none, Op.store 23 (Operand.tmp 42) (Operand.tmp 41), 0, _, _, none⟩) rfl (fun K hK => ?_) AllReadyH.nil
              have z9 := hM 1 _ rfl; have y9 := hf 1
              go_simp
              clear z9 y9
              refine hK.out _ _ trivial (fun _ => ?_)
              clear hK K
              (try simp only [Act.put, List.setIfInBounds_toArray, List.set_cons_zero, List.set_cons_succ])
              refine wpAnyH_done (by kernel_rfl) ?_ _
              refine NoPanic.normal ?_
              have HP2 := Lib.hid (HX21.out.put (x := x) (fg_stab (gn_st g0_st frA_stab) frT_stab) frT_stab fg_add (avf := (fun _ => True)) trivial (fun _ _ => trivial) hG hlm hnl hO hW 1 (fun _ => rfl) (fun u v j hj => by match j, hj with | 0, _ => rfl | 1, h => exact absurd rfl h | 2, _ => rfl | 3, _ => rfl | 4, _ => rfl | 5, _ => rfl | 6, _ => rfl | 7, _ => rfl | 8, _ => rfl | 9, _ => rfl | j + 10, _ => rfl))
              have HS6 : Hid (TS (v22.setCell ⟨Q, 1, none⟩ (.slice A3 nl c3)) B P L s2) := Lib.hid (HT21.out.low HPQ.out (fun j hj => HX21.out.low hG hj _ _))
              have HB6 : Hid (Below w.heap.size w (v22.setCell ⟨Q, 1, none⟩ (.slice A3 nl c3))) := Lib.hid ((HB21.out.grown hG HB21.out.size (fun b hb => Nat.le_trans (Nat.le_of_lt HwQ.out) (HX21.out.own.blk hb).1)).setCell (p := ⟨Q, 1, none⟩) (Nat.le_of_lt HwQ.out) _)
              have HR6 : Hid ((v22.setCell ⟨Q, 1, none⟩ (.slice A3 nl c3)).heap[w.heap.size]? = some (.cells #[.slice none 0 0, .slice none 0 0, .slice none 0 0, .int .i64 0, .int .i64 0, .slice none 0 0, .int .i64 0, .int .i64 0, .int .i64 0, .int .i64 0] 31)) := Lib.hid ((HX21.out.low hG HwQ.out _ _).trans HR1021.out)
              have HQ6 : Hid (Rp (pMany pAu (kb + 1)) stb (lm) s2) := Lib.hid (by rw [hlm]; exact HQkb.out.snoc HR2.out)
              have HK6 : Hid (kb + 1 = lm.length) := Lib.hid (by rw [hlm, HKob.out]; simp)
              clear hG hO hW hM hf hPs hOne hlm
              subst hnl
              go_wp2
              go_roundg (nb - (kb + 1))
              case measure => have := HKn.out; omega
              case rel => exact ⟨kb + 1, lm, A3, c3, s2, HKn.out, rfl, by go_num, HP2, HS6, HB6, HR6, HQ6, HK6⟩
            · go_simp
              have HX23 := Lib.hid (HX20.out.turn (P := P) (fg_stab (gn_st g0_st frA_stab) frT_stab) (tn_alloc (tn_refl P v20) (.cells #[.int .i64 x.id, .int .i64 x.kind, .int .i64 x.ticks, .int .i64 x.every, .int .i64 x.stacks, .int .i64 x.amount, .bool x.harm] 63)) HPQ.out); have HT23 := Lib.hid (HT20.out.alloc (.cells #[.int .i64 x.id, .int .i64 x.kind, .int .i64 x.ticks, .int .i64 x.every, .int .i64 x.stacks, .int .i64 x.amount, .bool x.harm] 63)); have HB23 := Lib.hid (HB20.out.alloc HB20.out.size (.cells #[.int .i64 x.id, .int .i64 x.kind, .int .i64 x.ticks, .int .i64 x.every, .int .i64 x.stacks, .int .i64 x.amount, .bool x.harm] 63)); have HR1023 := Lib.hid ((Below.heap_alloc _ (.cells #[.int .i64 x.id, .int .i64 x.kind, .int .i64 x.ticks, .int .i64 x.every, .int .i64 x.stacks, .int .i64 x.amount, .bool x.harm] 63) _ (lt_of_block HR1020.out)).trans HR1020.out); have hOne : RW au (v20.alloc (.cells #[.int .i64 x.id, .int .i64 x.kind, .int .i64 x.ticks, .int .i64 x.every, .int .i64 x.stacks, .int .i64 x.amount, .bool x.harm] 63)) (v20.heap.size + 1) (some ⟨v20.heap.size, 0, none⟩) [x] := rw_one1 rfl rfl (Nat.lt_succ_self _); generalize hq : v20.heap.size = q at hOne ⊢; generalize hV : v20.alloc (.cells #[.int .i64 x.id, .int .i64 x.kind, .int .i64 x.ticks, .int .i64 x.every, .int .i64 x.stacks, .int .i64 x.amount, .bool x.harm] 63) = v23 at HX23 HT23 HB23 HR1023 hOne ⊢; clear hq hV
              refine hK.out _ _ trivial (fun _ => ?_)
              clear hK K
              (try simp only [Act.put, List.setIfInBounds_toArray, List.set_cons_zero, List.set_cons_succ])
              refine wpAnyH_ready (rs := [1]) (by kernel_rfl) (by simp) ?_
              refine AllReadyH.cons (o := ⟨some 37, Op.load 23 (Operand.tmp 36), 23, _, _, none⟩) rfl (fun K hK => ?_) AllReadyH.nil
              have z9 := HX23.out.box 1 _ rfl
              go_simp
              clear z9
              refine hK.out _ _ trivial (fun _ => ?_)
              clear hK K
              (try simp only [Act.put, List.setIfInBounds_toArray, List.set_cons_zero, List.set_cons_succ])
              refine wpAnyH_ready (rs := [5]) (by kernel_rfl) (by simp) ?_
              refine AllReadyH.cons (o := ⟨some 41, Op.call { callee := Callee.builtin Builtin.append, args := #[Operand.tmp 37, Operand.tmp 40], argTypes := #[23, 23] }, 23, _, _, none⟩) rfl (fun K hK => ?_) AllReadyH.nil
              refine step_app au rfl 23 rfl (.tmp 37) (.tmp 40) rfl Q (q + 1) (.slice A1b outb.length c1b) outb [x] (some ⟨q, 0, none⟩) 1 1 rfl (by simp [Act.eval]) (by simp [Act.eval]) HX23.out.own hOne HLen.out (Nat.le_of_lt HX23.out.pl) ?_
              intro A3 c3 v24 lm nl hlm hnl hO hG hW; obtain ⟨hM, hf, hPs⟩ := HX23.out.mid hG
              refine hK.out _ _ trivial (fun _ => ?_)
              clear hK K
              (try simp only [Act.put, List.setIfInBounds_toArray, List.set_cons_zero, List.set_cons_succ])
              refine wpAnyH_take (i := 6) (oi := ⟨some 42, Op.fieldAddr 31 (Operand.tmp 5) 1, 0, _, _, none⟩) (v := ?vbrb3b46) rfl (by kernel_rfl) (by kernel_rfl) (by kernel_rfl) (fun _ _ _ h => h) (Or.inl ⟨by rfl, ?hbrb3b46⟩) trivial ?rbrb3b46
              case hbrb3b46 => (intro wz hSw; go_simp <;> with_reducible rfl)
              (try simp only [Act.put, List.setIfInBounds_toArray, List.set_cons_zero, List.set_cons_succ])
              refine wpAnyH_ready (rs := [7]) (by kernel_rfl) (by simp) ?_
              refine AllReadyH.cons (o := ⟨none, Op.store 23 (Operand.tmp 42) (Operand.tmp 41), 0, _, _, none⟩) rfl (fun K hK => ?_) AllReadyH.nil
              have z9 := hM 1 _ rfl; have y9 := hf 1
              go_simp
              clear z9 y9
              refine hK.out _ _ trivial (fun _ => ?_)
              clear hK K
              (try simp only [Act.put, List.setIfInBounds_toArray, List.set_cons_zero, List.set_cons_succ])
              refine wpAnyH_done (by kernel_rfl) ?_ _
              refine NoPanic.normal ?_
              have HP2 := Lib.hid (HX23.out.put (x := x) (fg_stab (gn_st g0_st frA_stab) frT_stab) frT_stab fg_add (avf := (fun _ => True)) trivial (fun _ _ => trivial) hG hlm hnl hO hW 1 (fun _ => rfl) (fun u v j hj => by match j, hj with | 0, _ => rfl | 1, h => exact absurd rfl h | 2, _ => rfl | 3, _ => rfl | 4, _ => rfl | 5, _ => rfl | 6, _ => rfl | 7, _ => rfl | 8, _ => rfl | 9, _ => rfl | j + 10, _ => rfl))
              have HS6 : Hid (TS (v24.setCell ⟨Q, 1, none⟩ (.slice A3 nl c3)) B P L s2) := Lib.hid (HT23.out.low HPQ.out (fun j hj => HX23.out.low hG hj _ _))
              have HB6 : Hid (Below w.heap.size w (v24.setCell ⟨Q, 1, none⟩ (.slice A3 nl c3))) := Lib.hid ((HB23.out.grown hG HB23.out.size (fun b hb => Nat.le_trans (Nat.le_of_lt HwQ.out) (HX23.out.own.blk hb).1)).setCell (p := ⟨Q, 1, none⟩) (Nat.le_of_lt HwQ.out) _)
              have HR6 : Hid ((v24.setCell ⟨Q, 1, none⟩ (.slice A3 nl c3)).heap[w.heap.size]? = some (.cells #[.slice none 0 0, .slice none 0 0, .slice none 0 0, .int .i64 0, .int .i64 0, .slice none 0 0, .int .i64 0, .int .i64 0, .int .i64 0, .int .i64 0] 31)) := Lib.hid ((HX23.out.low hG HwQ.out _ _).trans HR1023.out)
              have HQ6 : Hid (Rp (pMany pAu (kb + 1)) stb (lm) s2) := Lib.hid (by rw [hlm]; exact HQkb.out.snoc HR2.out)
              have HK6 : Hid (kb + 1 = lm.length) := Lib.hid (by rw [hlm, HKob.out]; simp)
              clear hG hO hW hM hf hPs hOne hlm
              subst hnl
              go_wp2
              go_roundg (nb - (kb + 1))
              case measure => have := HKn.out; omega
              case rel => exact ⟨kb + 1, lm, A3, c3, s2, HKn.out, rfl, by go_num, HP2, HS6, HB6, HR6, HQ6, HK6⟩
        · have hkk : kb = nb := by omega
          subst hkk
          have hkl : decide ((kb : Int) < kb) = false := by simp
          have HQxb := Lib.hid (Rp.counted (by decide) eatsAu HRnb.out HQkb.out)
          go_wp2_with (first
            | ((with_reducible refine (o_cnt8 L skb _ B P HSkb.out).mono ?_); rintro e wc ⟨nc, rfl, HNbc, stc, HRnc, HSc, HNc⟩))
          have HLX0 : Hid (LX fo (FG (GN au (GN ab G0 FrA A1a outa) FrT A1b outb) FrF) Q Q (fun v => [.slice A1a outa.length c1a, .slice A1b outb.length c1b, v, .int .i64 0, .int .i64 0, .slice none 0 0, .int .i64 0, .int .i64 0, .int .i64 0, .int .i64 0]) wc none 0 []) := Lib.hid ((HLXb.out.turn (fg_stab (gn_st g0_st frA_stab) frT_stab) HNc.out HPQ.out).next (gn_st g0_st frA_stab) frT_stab rfl)
          have HBc := Lib.hid (tn_lowb HBkb.out HNc.out HwP.out (Nat.le_refl _))
          have HRc := Lib.hid (tn_box HNc.out HRkb.out (Nat.ne_of_lt HwP1.out))
          go_loopg [9] nc (fun g s9 wr => ∃ (k : Nat) (out : List Fo) (A1 : Option Addr) (c1 : Nat) (sk : St), k ≤ nc ∧ g = nc - k ∧ s9 = .int .i64 (k : Int) ∧ Hid (LX fo (FG (GN au (GN ab G0 FrA A1a outa) FrT A1b outb) FrF) Q Q (fun v => [.slice A1a outa.length c1a, .slice A1b outb.length c1b, v, .int .i64 0, .int .i64 0, .slice none 0 0, .int .i64 0, .int .i64 0, .int .i64 0, .int .i64 0]) wr A1 c1 out) ∧ Hid (TS wr B P L sk) ∧ Hid (Below w.heap.size w wr) ∧ Hid (wr.heap[w.heap.size]? = some (.cells #[.slice none 0 0, .slice none 0 0, .slice none 0 0, .int .i64 0, .int .i64 0, .slice none 0 0, .int .i64 0, .int .i64 0, .int .i64 0, .int .i64 0] 31)) ∧ Hid (Rp (pMany pFo k) stc (out.map Fo.pl) sk) ∧ Hid (k = out.length))
          case atStart => exact ⟨0, [], none, 0, stc, by omega, rfl, rfl, HLX0, HSc, HBc, HRc, Lib.hid (Rp.pure _ _), Lib.hid rfl⟩
          case round =>
            obtain ⟨kc, outc, A1c, c1c, skc, hk, rfl, rfl, HLXc, HSkc, HBkc, HRkc, HQkc, HKoc⟩ := hrel
            clear HLX0 HSc HBc HRc
            by_cases hlt : kc < nc
            · have hkl : (kc : Int) < nc := by omega
              have HKn : Hid (kc < nc) := Lib.hid hlt
              have hkb : (kc : Int) ≤ 400000 := by have := HNbc.out; omega
              have HLen : Hid (outc.length + 1 ≤ 1000000) := Lib.hid (by have h1 := HKoc.out; have h2 := HNbc.out; omega)
              clear hlt
              go_wp2
              have HXd := Lib.hid (HLXc.out.step (fg_stab (gn_st (gn_st g0_st frA_stab) frT_stab) frF_stab) (Below.refl _ _).drew)
              have HTd : Hid (TS wr.drew B P L skc) := Lib.hid (HSkc.out.keep (fun _ _ => rfl))
              have HBd := Lib.hid HBkc.out.drew
              have HRd : Hid (wr.drew.heap[w.heap.size]? = some (.cells #[.slice none 0 0, .slice none 0 0, .slice none 0 0, .int .i64 0, .int .i64 0, .slice none 0 0, .int .i64 0, .int .i64 0, .int .i64 0, .int .i64 0] 31)) := Lib.hid HRkc.out
              refine wp_region_noPanic ?_
              refine wp_region_held_drew (S := fun _ => True) (by kernel_rfl) trivial (fun _ => ?_)
              generalize wr.drew = v0 at HXd HTd HBd HRd ⊢
              refine wpAnyH_take (i := 0) (oi := ⟨some 50, Op.fieldAddr 31 (Operand.tmp 5) 2, 0, _, _, none⟩) (v := ?vcr0) rfl (by kernel_rfl) (by kernel_rfl) (by kernel_rfl) (fun _ _ _ h => h) (Or.inl ⟨by rfl, ?hcr0⟩) trivial ?rcr0
              case hcr0 => (intro wz hSw; go_simp <;> with_reducible rfl)
              (try simp only [Act.put, List.setIfInBounds_toArray, List.set_cons_zero, List.set_cons_succ])
              refine wpAnyH_take (i := 2) (oi := ⟨some 52, Op.move (Operand.tmp 4), 83, _, _, none⟩) (v := ?vcr2) rfl (by kernel_rfl) (by kernel_rfl) (by kernel_rfl) (fun _ _ _ h => h) (Or.inl ⟨by rfl, ?hcr2⟩) trivial ?rcr2
              case hcr2 => (intro wz hSw; go_simp <;> with_reducible rfl)
              (try simp only [Act.put, List.setIfInBounds_toArray, List.set_cons_zero, List.set_cons_succ])
              refine wpAnyH_ready (rs := [1, 3]) (by kernel_rfl) (by simp) ?_
              refine AllReadyH.cons (o := ⟨some 51, Op.load 24 (Operand.tmp 50), 24, _, _, none⟩) rfl (fun K hK => ?_) (AllReadyH.cons (o := ⟨some 53, Op.call { callee := Callee.value (Operand.func 42), args := #[Operand.tmp 52], argTypes := #[83] }, 56, _, _, none⟩) rfl (fun K hK => ?_) AllReadyH.nil)
              · have z9 := HXd.out.box 2 _ rfl
                go_simp
                clear z9
                refine hK.out _ _ trivial (fun _ => ?_)
                clear hK K
                (try simp only [Act.put, List.setIfInBounds_toArray, List.set_cons_zero, List.set_cons_succ])
                refine wpAnyH_ready (rs := [3]) (by kernel_rfl) (by simp) ?_
                refine AllReadyH.cons (o := ⟨some 53, Op.call { callee := Callee.value (Operand.func 42), args := #[Operand.tmp 52], argTypes := #[83] }, 56, _, _, none⟩) rfl (fun K hK => ?_) AllReadyH.nil
                go_simp
                (with_reducible refine (o_fo L skc _ B P HTd.out).mono ?_); rintro e v9 ⟨x, rfl, HX, s2, HR2, HT9, HN2⟩; have HX9 := Lib.hid (HXd.out.turn (fg_stab (gn_st (gn_st g0_st frA_stab) frT_stab) frF_stab) HN2.out HPQ.out); have HB9 := Lib.hid (tn_lowb HBd.out HN2.out HwP.out (Nat.le_refl _)); have HR1009 := Lib.hid (tn_box HN2.out HRd.out (Nat.ne_of_lt HwP1.out))
                refine hK.out _ _ trivial (fun _ => ?_)
                clear hK K
                (try simp only [Act.put, List.setIfInBounds_toArray, List.set_cons_zero, List.set_cons_succ])
                refine wpAnyH_ready (rs := [4]) (by kernel_rfl) (by simp) ?_
                refine AllReadyH.cons (o := ⟨some 54, Op.buildSlice 24 1 #[(0, Operand.tmp 53)], 24, _, _, none⟩) rfl (fun K hK => ?_) AllReadyH.nil
                go_simp
                have HX10 := Lib.hid (HX9.out.turn (P := P) (fg_stab (gn_st (gn_st g0_st frA_stab) frT_stab) frF_stab) (tn_alloc (tn_refl P v9) (.cells #[.int .i64 x.id, .int .i64 x.health, .int .i64 x.hit, .int .i64 x.every, .int .i64 x.reach, .slice x.sa x.script.length x.sc, .slice x.ha x.hoard.length x.hc, .int .i64 x.drops] 56)) HPQ.out); have HT10 := Lib.hid (HT9.out.alloc (.cells #[.int .i64 x.id, .int .i64 x.health, .int .i64 x.hit, .int .i64 x.every, .int .i64 x.reach, .slice x.sa x.script.length x.sc, .slice x.ha x.hoard.length x.hc, .int .i64 x.drops] 56)); have HB10 := Lib.hid (HB9.out.alloc HB9.out.size (.cells #[.int .i64 x.id, .int .i64 x.health, .int .i64 x.hit, .int .i64 x.every, .int .i64 x.reach, .slice x.sa x.script.length x.sc, .slice x.ha x.hoard.length x.hc, .int .i64 x.drops] 56)); have HR1010 := Lib.hid ((Below.heap_alloc _ (.cells #[.int .i64 x.id, .int .i64 x.health, .int .i64 x.hit, .int .i64 x.every, .int .i64 x.reach, .slice x.sa x.script.length x.sc, .slice x.ha x.hoard.length x.hc, .int .i64 x.drops] 56) _ (lt_of_block HR1009.out)).trans HR1009.out); have hOne : RW fo (v9.alloc (.cells #[.int .i64 x.id, .int .i64 x.health, .int .i64 x.hit, .int .i64 x.every, .int .i64 x.reach, .slice x.sa x.script.length x.sc, .slice x.ha x.hoard.length x.hc, .int .i64 x.drops] 56)) (v9.heap.size + 1) (some ⟨v9.heap.size, 0, none⟩) [x] := rw_one1 rfl rfl (Nat.lt_succ_self _); have HFr : Hid (FrF x (v9.alloc (.cells #[.int .i64 x.id, .int .i64 x.health, .int .i64 x.hit, .int .i64 x.every, .int .i64 x.reach, .slice x.sa x.script.length x.sc, .slice x.ha x.hoard.length x.hc, .int .i64 x.drops] 56)) (fun b => b < v0.heap.size)) := Lib.hid (frF_stab _ _ _ _ _ HX.out (Kp.of (v9.alloc (.cells #[.int .i64 x.id, .int .i64 x.health, .int .i64 x.hit, .int .i64 x.every, .int .i64 x.reach, .slice x.sa x.script.length x.sc, .slice x.ha x.hoard.length x.hc, .int .i64 x.drops] 56)) ((Below.refl _ _).alloc (Nat.le_refl _) _)) (fun _ _ h => h)); generalize hq : v9.heap.size = q at hOne ⊢; generalize hV : v9.alloc (.cells #[.int .i64 x.id, .int .i64 x.health, .int .i64 x.hit, .int .i64 x.every, .int .i64 x.reach, .slice x.sa x.script.length x.sc, .slice x.ha x.hoard.length x.hc, .int .i64 x.drops] 56) = v10 at HX10 HT10 HB10 HR1010 hOne HFr ⊢; clear hq hV
                refine hK.out _ _ trivial (fun _ => ?_)
                clear hK K
                (try simp only [Act.put, List.setIfInBounds_toArray, List.set_cons_zero, List.set_cons_succ])
                refine wpAnyH_ready (rs := [5]) (by kernel_rfl) (by simp) ?_
                refine AllReadyH.cons (o := ⟨some 55, Op.call { callee := Callee.builtin Builtin.append, args := #[Operand.tmp 51, Operand.tmp 54], argTypes := #[24, 24] }, 24, _, _, none⟩) rfl (fun K hK => ?_) AllReadyH.nil
                refine step_app fo rfl 24 rfl (.tmp 51) (.tmp 54) rfl Q (q + 1) (.slice A1c outc.length c1c) outc [x] (some ⟨q, 0, none⟩) 1 1 rfl (by simp [Act.eval]) (by simp [Act.eval]) HX10.out.own hOne HLen.out (Nat.le_of_lt HX10.out.pl) ?_
                intro A3 c3 v11 lm nl hlm hnl hO hG hW; obtain ⟨hM, hf, hPs⟩ := HX10.out.mid hG
                refine hK.out _ _ trivial (fun _ => ?_)
                clear hK K
                (try simp only [Act.put, List.setIfInBounds_toArray, List.set_cons_zero, List.set_cons_succ])
                refine wpAnyH_take (i := 6) (oi := ⟨some 56, Op.fieldAddr 31 (Operand.tmp 5) 2, 0, _, _, none⟩) (v := ?vcrb16) rfl (by kernel_rfl) (by kernel_rfl) (by kernel_rfl) (fun _ _ _ h => h) (Or.inl ⟨by rfl, ?hcrb16⟩) trivial ?rcrb16
                case hcrb16 => (intro wz hSw; go_simp <;> with_reducible rfl)
                (try simp only [Act.put, List.setIfInBounds_toArray, List.set_cons_zero, List.set_cons_succ])
                refine wpAnyH_ready (rs := [7]) (by kernel_rfl) (by simp) ?_
                refine AllReadyH.cons (o := ⟨none, Op.store 24 (Operand.tmp 56) (Operand.tmp 55), 0, _, _, none⟩) rfl (fun K hK => ?_) AllReadyH.nil
                have z9 := hM 2 _ rfl; have y9 := hf 2
                go_simp
                clear z9 y9
                refine hK.out _ _ trivial (fun _ => ?_)
                clear hK K
                (try simp only [Act.put, List.setIfInBounds_toArray, List.set_cons_zero, List.set_cons_succ])
                refine wpAnyH_done (by kernel_rfl) ?_ _
                refine NoPanic.normal ?_
                have HP2 := Lib.hid (HX10.out.put (x := x) (fg_stab (gn_st (gn_st g0_st frA_stab) frT_stab) frF_stab) frF_stab fg_add (avf := (fun b => b < v0.heap.size)) HFr.out (fun j hj => by rcases hj with h | h | h; (have h1 := HXd.out.ph; have h2 := HXd.out.pl; omega); (have h2 := HXd.out.pl; omega); exact (HXd.out.own.blk h).2.1) hG hlm hnl hO hW 2 (fun _ => rfl) (fun u v j hj => by match j, hj with | 0, _ => rfl | 1, _ => rfl | 2, h => exact absurd rfl h | 3, _ => rfl | 4, _ => rfl | 5, _ => rfl | 6, _ => rfl | 7, _ => rfl | 8, _ => rfl | 9, _ => rfl | j + 10, _ => rfl))
                have HS6 : Hid (TS (v11.setCell ⟨Q, 2, none⟩ (.slice A3 nl c3)) B P L s2) := Lib.hid (HT10.out.low HPQ.out (fun j hj => HX10.out.low hG hj _ _))
                have HB6 : Hid (Below w.heap.size w (v11.setCell ⟨Q, 2, none⟩ (.slice A3 nl c3))) := Lib.hid ((HB10.out.grown hG HB10.out.size (fun b hb => Nat.le_trans (Nat.le_of_lt HwQ.out) (HX10.out.own.blk hb).1)).setCell (p := ⟨Q, 2, none⟩) (Nat.le_of_lt HwQ.out) _)
                have HR6 : Hid ((v11.setCell ⟨Q, 2, none⟩ (.slice A3 nl c3)).heap[w.heap.size]? = some (.cells #[.slice none 0 0, .slice none 0 0, .slice none 0 0, .int .i64 0, .int .i64 0, .slice none 0 0, .int .i64 0, .int .i64 0, .int .i64 0, .int .i64 0] 31)) := Lib.hid ((HX10.out.low hG HwQ.out _ _).trans HR1010.out)
                have HQ6 : Hid (Rp (pMany pFo (kc + 1)) stc (lm.map Fo.pl) s2) := Lib.hid (by rw [hlm, List.map_append]; exact HQkc.out.snoc HR2.out)
                have HK6 : Hid (kc + 1 = lm.length) := Lib.hid (by rw [hlm, HKoc.out]; simp)
                clear hG hO hW hM hf hPs hOne hlm
                subst hnl
                go_wp2
                go_roundg (nc - (kc + 1))
                case measure => have := HKn.out; omega
                case rel => exact ⟨kc + 1, lm, A3, c3, s2, HKn.out, rfl, by go_num, HP2, HS6, HB6, HR6, HQ6, HK6⟩
              · go_simp
                (with_reducible refine (o_fo L skc _ B P HTd.out).mono ?_); rintro e v12 ⟨x, rfl, HX, s2, HR2, HT12, HN2⟩; have HX12 := Lib.hid (HXd.out.turn (fg_stab (gn_st (gn_st g0_st frA_stab) frT_stab) frF_stab) HN2.out HPQ.out); have HB12 := Lib.hid (tn_lowb HBd.out HN2.out HwP.out (Nat.le_refl _)); have HR1012 := Lib.hid (tn_box HN2.out HRd.out (Nat.ne_of_lt HwP1.out))
                refine hK.out _ _ trivial (fun _ => ?_)
                clear hK K
                (try simp only [Act.put, List.setIfInBounds_toArray, List.set_cons_zero, List.set_cons_succ])
                refine wpAnyH_ready (rs := [1, 4]) (by kernel_rfl) (by simp) ?_
                refine AllReadyH.cons (o := ⟨some 51, Op.load 24 (Operand.tmp 50), 24, _, _, none⟩) rfl (fun K hK => ?_) (AllReadyH.cons (o := ⟨some 54, Op.buildSlice 24 1 #[(0, Operand.tmp 53)], 24, _, _, none⟩) rfl (fun K hK => ?_) AllReadyH.nil)
                · have z9 := HX12.out.box 2 _ rfl
                  go_simp
                  clear z9
                  refine hK.out _ _ trivial (fun _ => ?_)
                  clear hK K
                  (try simp only [Act.put, List.setIfInBounds_toArray, List.set_cons_zero, List.set_cons_succ])
                  refine wpAnyH_ready (rs := [4]) (by kernel_rfl) (by simp) ?_
                  refine AllReadyH.cons (o := ⟨some 54, Op.buildSlice 24 1 #[(0, Operand.tmp 53)], 24, _, _, none⟩) rfl (fun K hK => ?_) AllReadyH.nil
                  go_simp
                  have HX13 := Lib.hid (HX12.out.turn (P := P) (fg_stab (gn_st (gn_st g0_st frA_stab) frT_stab) frF_stab) (tn_alloc (tn_refl P v12) (.cells #[.int .i64 x.id, .int .i64 x.health, .int .i64 x.hit, .int .i64 x.every, .int .i64 x.reach, .slice x.sa x.script.length x.sc, .slice x.ha x.hoard.length x.hc, .int .i64 x.drops] 56)) HPQ.out); have HT13 := Lib.hid (HT12.out.alloc (.cells #[.int .i64 x.id, .int .i64 x.health, .int .i64 x.hit, .int .i64 x.every, .int .i64 x.reach, .slice x.sa x.script.length x.sc, .slice x.ha x.hoard.length x.hc, .int .i64 x.drops] 56)); have HB13 := Lib.hid (HB12.out.alloc HB12.out.size (.cells #[.int .i64 x.id, .int .i64 x.health, .int .i64 x.hit, .int .i64 x.every, .int .i64 x.reach, .slice x.sa x.script.length x.sc, .slice x.ha x.hoard.length x.hc, .int .i64 x.drops] 56)); have HR1013 := Lib.hid ((Below.heap_alloc _ (.cells #[.int .i64 x.id, .int .i64 x.health, .int .i64 x.hit, .int .i64 x.every, .int .i64 x.reach, .slice x.sa x.script.length x.sc, .slice x.ha x.hoard.length x.hc, .int .i64 x.drops] 56) _ (lt_of_block HR1012.out)).trans HR1012.out); have hOne : RW fo (v12.alloc (.cells #[.int .i64 x.id, .int .i64 x.health, .int .i64 x.hit, .int .i64 x.every, .int .i64 x.reach, .slice x.sa x.script.length x.sc, .slice x.ha x.hoard.length x.hc, .int .i64 x.drops] 56)) (v12.heap.size + 1) (some ⟨v12.heap.size, 0, none⟩) [x] := rw_one1 rfl rfl (Nat.lt_succ_self _); have HFr : Hid (FrF x (v12.alloc (.cells #[.int .i64 x.id, .int .i64 x.health, .int .i64 x.hit, .int .i64 x.every, .int .i64 x.reach, .slice x.sa x.script.length x.sc, .slice x.ha x.hoard.length x.hc, .int .i64 x.drops] 56)) (fun b => b < v0.heap.size)) := Lib.hid (frF_stab _ _ _ _ _ HX.out (Kp.of (v12.alloc (.cells #[.int .i64 x.id, .int .i64 x.health, .int .i64 x.hit, .int .i64 x.every, .int .i64 x.reach, .slice x.sa x.script.length x.sc, .slice x.ha x.hoard.length x.hc, .int .i64 x.drops] 56)) ((Below.refl _ _).alloc (Nat.le_refl _) _)) (fun _ _ h => h)); generalize hq : v12.heap.size = q at hOne ⊢; generalize hV : v12.alloc (.cells #[.int .i64 x.id, .int .i64 x.health, .int .i64 x.hit, .int .i64 x.every, .int .i64 x.reach, .slice x.sa x.script.length x.sc, .slice x.ha x.hoard.length x.hc, .int .i64 x.drops] 56) = v13 at HX13 HT13 HB13 HR1013 hOne HFr ⊢; clear hq hV
                  refine hK.out _ _ trivial (fun _ => ?_)
                  clear hK K
                  (try simp only [Act.put, List.setIfInBounds_toArray, List.set_cons_zero, List.set_cons_succ])
                  refine wpAnyH_ready (rs := [5]) (by kernel_rfl) (by simp) ?_
                  refine AllReadyH.cons (o := ⟨some 55, Op.call { callee := Callee.builtin Builtin.append, args := #[Operand.tmp 51, Operand.tmp 54], argTypes := #[24, 24] }, 24, _, _, none⟩) rfl (fun K hK => ?_) AllReadyH.nil
                  refine step_app fo rfl 24 rfl (.tmp 51) (.tmp 54) rfl Q (q + 1) (.slice A1c outc.length c1c) outc [x] (some ⟨q, 0, none⟩) 1 1 rfl (by simp [Act.eval]) (by simp [Act.eval]) HX13.out.own hOne HLen.out (Nat.le_of_lt HX13.out.pl) ?_
                  intro A3 c3 v14 lm nl hlm hnl hO hG hW; obtain ⟨hM, hf, hPs⟩ := HX13.out.mid hG
                  refine hK.out _ _ trivial (fun _ => ?_)
                  clear hK K
                  (try simp only [Act.put, List.setIfInBounds_toArray, List.set_cons_zero, List.set_cons_succ])
                  refine wpAnyH_take (i := 6) (oi := ⟨some 56, Op.fieldAddr 31 (Operand.tmp 5) 2, 0, _, _, none⟩) (v := ?vcrb3b16) rfl (by kernel_rfl) (by kernel_rfl) (by kernel_rfl) (fun _ _ _ h => h) (Or.inl ⟨by rfl, ?hcrb3b16⟩) trivial ?rcrb3b16
                  case hcrb3b16 => (intro wz hSw; go_simp <;> with_reducible rfl)
                  (try simp only [Act.put, List.setIfInBounds_toArray, List.set_cons_zero, List.set_cons_succ])
                  refine wpAnyH_ready (rs := [7]) (by kernel_rfl) (by simp) ?_
                  refine AllReadyH.cons (o := ⟨none, Op.store 24 (Operand.tmp 56) (Operand.tmp 55), 0, _, _, none⟩) rfl (fun K hK => ?_) AllReadyH.nil
                  have z9 := hM 2 _ rfl; have y9 := hf 2
                  go_simp
                  clear z9 y9
                  refine hK.out _ _ trivial (fun _ => ?_)
                  clear hK K
                  (try simp only [Act.put, List.setIfInBounds_toArray, List.set_cons_zero, List.set_cons_succ])
                  refine wpAnyH_done (by kernel_rfl) ?_ _
                  refine NoPanic.normal ?_
                  have HP2 := Lib.hid (HX13.out.put (x := x) (fg_stab (gn_st (gn_st g0_st frA_stab) frT_stab) frF_stab) frF_stab fg_add (avf := (fun b => b < v0.heap.size)) HFr.out (fun j hj => by rcases hj with h | h | h; (have h1 := HXd.out.ph; have h2 := HXd.out.pl; omega); (have h2 := HXd.out.pl; omega); exact (HXd.out.own.blk h).2.1) hG hlm hnl hO hW 2 (fun _ => rfl) (fun u v j hj => by match j, hj with | 0, _ => rfl | 1, _ => rfl | 2, h => exact absurd rfl h | 3, _ => rfl | 4, _ => rfl | 5, _ => rfl | 6, _ => rfl | 7, _ => rfl | 8, _ => rfl | 9, _ => rfl | j + 10, _ => rfl))
                  have HS6 : Hid (TS (v14.setCell ⟨Q, 2, none⟩ (.slice A3 nl c3)) B P L s2) := Lib.hid (HT13.out.low HPQ.out (fun j hj => HX13.out.low hG hj _ _))
                  have HB6 : Hid (Below w.heap.size w (v14.setCell ⟨Q, 2, none⟩ (.slice A3 nl c3))) := Lib.hid ((HB13.out.grown hG HB13.out.size (fun b hb => Nat.le_trans (Nat.le_of_lt HwQ.out) (HX13.out.own.blk hb).1)).setCell (p := ⟨Q, 2, none⟩) (Nat.le_of_lt HwQ.out) _)
                  have HR6 : Hid ((v14.setCell ⟨Q, 2, none⟩ (.slice A3 nl c3)).heap[w.heap.size]? = some (.cells #[.slice none 0 0, .slice none 0 0, .slice none 0 0, .int .i64 0, .int .i64 0, .slice none 0 0, .int .i64 0, .int .i64 0, .int .i64 0, .int .i64 0] 31)) := Lib.hid ((HX13.out.low hG HwQ.out _ _).trans HR1013.out)
                  have HQ6 : Hid (Rp (pMany pFo (kc + 1)) stc (lm.map Fo.pl) s2) := Lib.hid (by rw [hlm, List.map_append]; exact HQkc.out.snoc HR2.out)
                  have HK6 : Hid (kc + 1 = lm.length) := Lib.hid (by rw [hlm, HKoc.out]; simp)
                  clear hG hO hW hM hf hPs hOne hlm
                  subst hnl
                  go_wp2
                  go_roundg (nc - (kc + 1))
                  case measure => have := HKn.out; omega
                  case rel => exact ⟨kc + 1, lm, A3, c3, s2, HKn.out, rfl, by go_num, HP2, HS6, HB6, HR6, HQ6, HK6⟩
                · go_simp
                  have HX15 := Lib.hid (HX12.out.turn (P := P) (fg_stab (gn_st (gn_st g0_st frA_stab) frT_stab) frF_stab) (tn_alloc (tn_refl P v12) (.cells #[.int .i64 x.id, .int .i64 x.health, .int .i64 x.hit, .int .i64 x.every, .int .i64 x.reach, .slice x.sa x.script.length x.sc, .slice x.ha x.hoard.length x.hc, .int .i64 x.drops] 56)) HPQ.out); have HT15 := Lib.hid (HT12.out.alloc (.cells #[.int .i64 x.id, .int .i64 x.health, .int .i64 x.hit, .int .i64 x.every, .int .i64 x.reach, .slice x.sa x.script.length x.sc, .slice x.ha x.hoard.length x.hc, .int .i64 x.drops] 56)); have HB15 := Lib.hid (HB12.out.alloc HB12.out.size (.cells #[.int .i64 x.id, .int .i64 x.health, .int .i64 x.hit, .int .i64 x.every, .int .i64 x.reach, .slice x.sa x.script.length x.sc, .slice x.ha x.hoard.length x.hc, .int .i64 x.drops] 56)); have HR1015 := Lib.hid ((Below.heap_alloc _ (.cells #[.int .i64 x.id, .int .i64 x.health, .int .i64 x.hit, .int .i64 x.every, .int .i64 x.reach, .slice x.sa x.script.length x.sc, .slice x.ha x.hoard.length x.hc, .int .i64 x.drops] 56) _ (lt_of_block HR1012.out)).trans HR1012.out); have hOne : RW fo (v12.alloc (.cells #[.int .i64 x.id, .int .i64 x.health, .int .i64 x.hit, .int .i64 x.every, .int .i64 x.reach, .slice x.sa x.script.length x.sc, .slice x.ha x.hoard.length x.hc, .int .i64 x.drops] 56)) (v12.heap.size + 1) (some ⟨v12.heap.size, 0, none⟩) [x] := rw_one1 rfl rfl (Nat.lt_succ_self _); have HFr : Hid (FrF x (v12.alloc (.cells #[.int .i64 x.id, .int .i64 x.health, .int .i64 x.hit, .int .i64 x.every, .int .i64 x.reach, .slice x.sa x.script.length x.sc, .slice x.ha x.hoard.length x.hc, .int .i64 x.drops] 56)) (fun b => b < v0.heap.size)) := Lib.hid (frF_stab _ _ _ _ _ HX.out (Kp.of (v12.alloc (.cells #[.int .i64 x.id, .int .i64 x.health, .int .i64 x.hit, .int .i64 x.every, .int .i64 x.reach, .slice x.sa x.script.length x.sc, .slice x.ha x.hoard.length x.hc, .int .i64 x.drops] 56)) ((Below.refl _ _).alloc (Nat.le_refl _) _)) (fun _ _ h => h)); generalize hq : v12.heap.size = q at hOne ⊢; generalize hV : v12.alloc (.cells #[.int .i64 x.id, .int .i64 x.health, .int .i64 x.hit, .int .i64 x.every, .int .i64 x.reach, .slice x.sa x.script.length x.sc, .slice x.ha x.hoard.length x.hc, .int .i64 x.drops] 56) = v15 at HX15 HT15 HB15 HR1015 hOne HFr ⊢; clear hq hV
                  refine hK.out _ _ trivial (fun _ => ?_)
                  clear hK K
                  (try simp only [Act.put, List.setIfInBounds_toArray, List.set_cons_zero, List.set_cons_succ])
                  refine wpAnyH_ready (rs := [1]) (by kernel_rfl) (by simp) ?_
                  refine AllReadyH.cons (o := ⟨some 51, Op.load 24 (Operand.tmp 50), 24, _, _, none⟩) rfl (fun K hK => ?_) AllReadyH.nil
                  have z9 := HX15.out.box 2 _ rfl
                  go_simp
                  clear z9
                  refine hK.out _ _ trivial (fun _ => ?_)
                  clear hK K
                  (try simp only [Act.put, List.setIfInBounds_toArray, List.set_cons_zero, List.set_cons_succ])
                  refine wpAnyH_ready (rs := [5]) (by kernel_rfl) (by simp) ?_
                  refine AllReadyH.cons (o := ⟨some 55, Op.call { callee := Callee.builtin Builtin.append, args := #[Operand.tmp 51, Operand.tmp 54], argTypes := #[24, 24] }, 24, _, _, none⟩) rfl (fun K hK => ?_) AllReadyH.nil
                  refine step_app fo rfl 24 rfl (.tmp 51) (.tmp 54) rfl Q (q + 1) (.slice A1c outc.length c1c) outc [x] (some ⟨q, 0, none⟩) 1 1 rfl (by simp [Act.eval]) (by simp [Act.eval]) HX15.out.own hOne HLen.out (Nat.le_of_lt HX15.out.pl) ?_
                  intro A3 c3 v16 lm nl hlm hnl hO hG hW; obtain ⟨hM, hf, hPs⟩ := HX15.out.mid hG
                  refine hK.out _ _ trivial (fun _ => ?_)
                  clear hK K
                  (try simp only [Act.put, List.setIfInBounds_toArray, List.set_cons_zero, List.set_cons_succ])
                  refine wpAnyH_take (i := 6) (oi := ⟨some 56, Op.fieldAddr 31 (Operand.tmp 5) 2, 0, _, _, none⟩) (v := ?vcrb3b46) rfl (by kernel_rfl) (by kernel_rfl) (by kernel_rfl) (fun _ _ _ h => h) (Or.inl ⟨by rfl, ?hcrb3b46⟩) trivial ?rcrb3b46
                  case hcrb3b46 => (intro wz hSw; go_simp <;> with_reducible rfl)
                  (try simp only [Act.put, List.setIfInBounds_toArray, List.set_cons_zero, List.set_cons_succ])
                  refine wpAnyH_ready (rs := [7]) (by kernel_rfl) (by simp) ?_
                  refine AllReadyH.cons (o := ⟨none, Op.store 24 (Operand.tmp 56) (Operand.tmp 55), 0, _, _, none⟩) rfl (fun K hK => ?_) AllReadyH.nil
                  have z9 := hM 2 _ rfl; have y9 := hf 2
                  go_simp
                  clear z9 y9
                  refine hK.out _ _ trivial (fun _ => ?_)
                  clear hK K
                  (try simp only [Act.put, List.setIfInBounds_toArray, List.set_cons_zero, List.set_cons_succ])
                  refine wpAnyH_done (by kernel_rfl) ?_ _
                  refine NoPanic.normal ?_
                  have HP2 := Lib.hid (HX15.out.put (x := x) (fg_stab (gn_st (gn_st g0_st frA_stab) frT_stab) frF_stab) frF_stab fg_add (avf := (fun b => b < v0.heap.size)) HFr.out (fun j hj => by rcases hj with h | h | h; (have h1 := HXd.out.ph; have h2 := HXd.out.pl; omega); (have h2 := HXd.out.pl; omega); exact (HXd.out.own.blk h).2.1) hG hlm hnl hO hW 2 (fun _ => rfl) (fun u v j hj => by match j, hj with | 0, _ => rfl | 1, _ => rfl | 2, h => exact absurd rfl h | 3, _ => rfl | 4, _ => rfl | 5, _ => rfl | 6, _ => rfl | 7, _ => rfl | 8, _ => rfl | 9, _ => rfl | j + 10, _ => rfl))
                  have HS6 : Hid (TS (v16.setCell ⟨Q, 2, none⟩ (.slice A3 nl c3)) B P L s2) := Lib.hid (HT15.out.low HPQ.out (fun j hj => HX15.out.low hG hj _ _))
                  have HB6 : Hid (Below w.heap.size w (v16.setCell ⟨Q, 2, none⟩ (.slice A3 nl c3))) := Lib.hid ((HB15.out.grown hG HB15.out.size (fun b hb => Nat.le_trans (Nat.le_of_lt HwQ.out) (HX15.out.own.blk hb).1)).setCell (p := ⟨Q, 2, none⟩) (Nat.le_of_lt HwQ.out) _)
                  have HR6 : Hid ((v16.setCell ⟨Q, 2, none⟩ (.slice A3 nl c3)).heap[w.heap.size]? = some (.cells #[.slice none 0 0, .slice none 0 0, .slice none 0 0, .int .i64 0, .int .i64 0, .slice none 0 0, .int .i64 0, .int .i64 0, .int .i64 0, .int .i64 0] 31)) := Lib.hid ((HX15.out.low hG HwQ.out _ _).trans HR1015.out)
                  have HQ6 : Hid (Rp (pMany pFo (kc + 1)) stc (lm.map Fo.pl) s2) := Lib.hid (by rw [hlm, List.map_append]; exact HQkc.out.snoc HR2.out)
                  have HK6 : Hid (kc + 1 = lm.length) := Lib.hid (by rw [hlm, HKoc.out]; simp)
                  clear hG hO hW hM hf hPs hOne hlm
                  subst hnl
                  go_wp2
                  go_roundg (nc - (kc + 1))
                  case measure => have := HKn.out; omega
                  case rel => exact ⟨kc + 1, lm, A3, c3, s2, HKn.out, rfl, by go_num, HP2, HS6, HB6, HR6, HQ6, HK6⟩
            · have hkk : kc = nc := by omega
              subst hkk
              have hkl : decide ((kc : Int) < kc) = false := by simp
              have HQxc := Lib.hid (Rp.counted (by decide) eatsFo HRnc.out HQkc.out)
              go_wp2_with (first
                | ((with_reducible refine (o_num L skc _ B P HSkc.out).mono ?_); rintro e u1 ⟨mW, rfl, t1, NR1, NT1, NN1⟩; have NY1 := Lib.hid (HLXc.out.turn (fg_stab (gn_st (gn_st g0_st frA_stab) frT_stab) frF_stab) NN1.out HPQ.out); have NX1 : Hid (LX fo (FG (GN au (GN ab G0 FrA A1a outa) FrT A1b outb) FrF) Q Q (fun v => [.slice A1a outa.length c1a, .slice A1b outb.length c1b, v, .int .i64 mW, .int .i64 0, .slice none 0 0, .int .i64 0, .int .i64 0, .int .i64 0, .int .i64 0]) (u1.setCell ⟨Q, 3, none⟩ (.int .i64 mW)) A1c c1c outc) := Lib.hid (NY1.out.poke (fg_stab (gn_st (gn_st g0_st frA_stab) frT_stab) frF_stab) 3 (.int .i64 mW) (fun _ => rfl)); have NS1 : Hid (TS (u1.setCell ⟨Q, 3, none⟩ (.int .i64 mW)) B P L t1) := Lib.hid (NT1.out.put HPQ.out 3 _); have NB1 : Hid (Below w.heap.size w (u1.setCell ⟨Q, 3, none⟩ (.int .i64 mW))) := Lib.hid ((tn_lowb HBkc.out NN1.out HwP.out (Nat.le_refl _)).setCell (p := ⟨Q, 3, none⟩) (Nat.le_of_lt HwQ.out) _); have NH1 : Hid ((u1.setCell ⟨Q, 3, none⟩ (.int .i64 mW)).heap[w.heap.size]? = some (.cells #[.slice none 0 0, .slice none 0 0, .slice none 0 0, .int .i64 0, .int .i64 0, .slice none 0 0, .int .i64 0, .int .i64 0, .int .i64 0, .int .i64 0] 31)) := Lib.hid ((heap_setCell_other _ _ _ _ (Nat.ne_of_lt HwQ.out)).trans (tn_box NN1.out HRkc.out (Nat.ne_of_lt HwP1.out))); have b1 := NY1.out.box 3 _ rfl; have f1 := NY1.out.fz; have l1 := NY1.out.pl)
                | ((with_reducible refine (o_num L t1 _ B P NS1.out).mono ?_); rintro e u2 ⟨mH, rfl, t2, NR2, NT2, NN2⟩; have NY2 := Lib.hid (NX1.out.turn (fg_stab (gn_st (gn_st g0_st frA_stab) frT_stab) frF_stab) NN2.out HPQ.out); have NX2 : Hid (LX fo (FG (GN au (GN ab G0 FrA A1a outa) FrT A1b outb) FrF) Q Q (fun v => [.slice A1a outa.length c1a, .slice A1b outb.length c1b, v, .int .i64 mW, .int .i64 mH, .slice none 0 0, .int .i64 0, .int .i64 0, .int .i64 0, .int .i64 0]) (u2.setCell ⟨Q, 4, none⟩ (.int .i64 mH)) A1c c1c outc) := Lib.hid (NY2.out.poke (fg_stab (gn_st (gn_st g0_st frA_stab) frT_stab) frF_stab) 4 (.int .i64 mH) (fun _ => rfl)); have NS2 : Hid (TS (u2.setCell ⟨Q, 4, none⟩ (.int .i64 mH)) B P L t2) := Lib.hid (NT2.out.put HPQ.out 4 _); have NB2 : Hid (Below w.heap.size w (u2.setCell ⟨Q, 4, none⟩ (.int .i64 mH))) := Lib.hid ((tn_lowb NB1.out NN2.out HwP.out (Nat.le_refl _)).setCell (p := ⟨Q, 4, none⟩) (Nat.le_of_lt HwQ.out) _); have NH2 : Hid ((u2.setCell ⟨Q, 4, none⟩ (.int .i64 mH)).heap[w.heap.size]? = some (.cells #[.slice none 0 0, .slice none 0 0, .slice none 0 0, .int .i64 0, .int .i64 0, .slice none 0 0, .int .i64 0, .int .i64 0, .int .i64 0, .int .i64 0] 31)) := Lib.hid ((heap_setCell_other _ _ _ _ (Nat.ne_of_lt HwQ.out)).trans (tn_box NN2.out NH1.out (Nat.ne_of_lt HwP1.out))); have b2 := NY2.out.box 4 _ rfl; have f2 := NY2.out.fz; have l2 := NY2.out.pl)
                | ((with_reducible refine (o_cnt1 L t2 _ B P NS2.out).mono ?_); rintro e wd ⟨nd, rfl, HNbd, std, HRnd, HSc, HNd⟩))
              have HLX0 : Hid (LX bo (FG (GN fo (GN au (GN ab G0 FrA A1a outa) FrT A1b outb) FrF A1c outc) FrT) Q Q (fun v => [.slice A1a outa.length c1a, .slice A1b outb.length c1b, .slice A1c outc.length c1c, .int .i64 mW, .int .i64 mH, v, .int .i64 0, .int .i64 0, .int .i64 0, .int .i64 0]) wd none 0 []) := Lib.hid ((NX2.out.turn (fg_stab (gn_st (gn_st g0_st frA_stab) frT_stab) frF_stab) HNd.out HPQ.out).next (gn_st (gn_st g0_st frA_stab) frT_stab) frF_stab rfl)
              have HBc := Lib.hid (tn_lowb NB2.out HNd.out HwP.out (Nat.le_refl _))
              have HRc := Lib.hid (tn_box HNd.out NH2.out (Nat.ne_of_lt HwP1.out))
              go_loopg [10] nd (fun g s10 wr => ∃ (k : Nat) (out : List Bool) (A1 : Option Addr) (c1 : Nat) (sk : St), k ≤ nd ∧ g = nd - k ∧ s10 = .int .i64 (k : Int) ∧ Hid (LX bo (FG (GN fo (GN au (GN ab G0 FrA A1a outa) FrT A1b outb) FrF A1c outc) FrT) Q Q (fun v => [.slice A1a outa.length c1a, .slice A1b outb.length c1b, .slice A1c outc.length c1c, .int .i64 mW, .int .i64 mH, v, .int .i64 0, .int .i64 0, .int .i64 0, .int .i64 0]) wr A1 c1 out) ∧ Hid (TS wr B P L sk) ∧ Hid (Below w.heap.size w wr) ∧ Hid (wr.heap[w.heap.size]? = some (.cells #[.slice none 0 0, .slice none 0 0, .slice none 0 0, .int .i64 0, .int .i64 0, .slice none 0 0, .int .i64 0, .int .i64 0, .int .i64 0, .int .i64 0] 31)) ∧ Hid (Rp (pMany pT k) std (out) sk) ∧ Hid (k = out.length))
              case atStart => exact ⟨0, [], none, 0, std, by omega, rfl, rfl, HLX0, HSc, HBc, HRc, Lib.hid (Rp.pure _ _), Lib.hid rfl⟩
              case round =>
                obtain ⟨kd, outd, A1d, c1d, skd, hk, rfl, rfl, HLXd, HSkd, HBkd, HRkd, HQkd, HKod⟩ := hrel
                clear HLX0 HSc HBc HRc
                by_cases hlt : kd < nd
                · have hkl : (kd : Int) < nd := by omega
                  have HKn : Hid (kd < nd) := Lib.hid hlt
                  have hkb : (kd : Int) ≤ 400000 := by have := HNbd.out; omega
                  have HLen : Hid (outd.length + 1 ≤ 1000000) := Lib.hid (by have h1 := HKod.out; have h2 := HNbd.out; omega)
                  clear hlt
                  go_wp2
                  have HXd := Lib.hid (HLXd.out.step (fg_stab (gn_st (gn_st (gn_st g0_st frA_stab) frT_stab) frF_stab) frT_stab) (Below.refl _ _).drew)
                  have HTd : Hid (TS wr.drew B P L skd) := Lib.hid (HSkd.out.keep (fun _ _ => rfl))
                  have HBd := Lib.hid HBkd.out.drew
                  have HRd : Hid (wr.drew.heap[w.heap.size]? = some (.cells #[.slice none 0 0, .slice none 0 0, .slice none 0 0, .int .i64 0, .int .i64 0, .slice none 0 0, .int .i64 0, .int .i64 0, .int .i64 0, .int .i64 0] 31)) := Lib.hid HRkd.out
                  refine wp_region_noPanic ?_
                  refine wp_region_held_drew (S := fun _ => True) (by kernel_rfl) trivial (fun _ => ?_)
                  generalize wr.drew = v0 at HXd HTd HBd HRd ⊢
                  refine wpAnyH_take (i := 0) (oi := ⟨some 72, Op.fieldAddr 31 (Operand.tmp 5) 3, 0, _, _, none⟩) (v := ?vdr0) rfl (by kernel_rfl) (by kernel_rfl) (by kernel_rfl) (fun _ _ _ h => h) (Or.inl ⟨by rfl, ?hdr0⟩) trivial ?rdr0
                  case hdr0 => (intro wz hSw; go_simp <;> with_reducible rfl)
                  (try simp only [Act.put, List.setIfInBounds_toArray, List.set_cons_zero, List.set_cons_succ])
                  refine wpAnyH_take (i := 1) (oi := ⟨some 73, Op.fieldAddr 27 (Operand.tmp 72) 2, 0, _, _, none⟩) (v := ?vdr1) rfl (by kernel_rfl) (by kernel_rfl) (by kernel_rfl) (fun _ _ _ h => h) (Or.inl ⟨by rfl, ?hdr1⟩) trivial ?rdr1
                  case hdr1 => (intro wz hSw; go_simp <;> with_reducible rfl)
                  (try simp only [Act.put, List.setIfInBounds_toArray, List.set_cons_zero, List.set_cons_succ])
                  refine wpAnyH_take (i := 3) (oi := ⟨some 75, Op.move (Operand.tmp 4), 83, _, _, none⟩) (v := ?vdr3) rfl (by kernel_rfl) (by kernel_rfl) (by kernel_rfl) (fun _ _ _ h => h) (Or.inl ⟨by rfl, ?hdr3⟩) trivial ?rdr3
                  case hdr3 => (intro wz hSw; go_simp <;> with_reducible rfl)
                  (try simp only [Act.put, List.setIfInBounds_toArray, List.set_cons_zero, List.set_cons_succ])
                  refine wpAnyH_ready (rs := [2, 4]) (by kernel_rfl) (by simp) ?_
                  refine AllReadyH.cons (o := ⟨some 74, Op.load 25 (Operand.tmp 73), 25, _, _, none⟩) rfl (fun K hK => ?_) (AllReadyH.cons (o := ⟨some 76, Op.call { callee := Callee.value (Operand.func 44), args := #[Operand.tmp 75], argTypes := #[83] }, 4, _, _, none⟩) rfl (fun K hK => ?_) AllReadyH.nil)
                  · have z9 := HXd.out.box 5 _ rfl
                    go_simp
                    clear z9
                    refine hK.out _ _ trivial (fun _ => ?_)
                    clear hK K
                    (try simp only [Act.put, List.setIfInBounds_toArray, List.set_cons_zero, List.set_cons_succ])
                    refine wpAnyH_ready (rs := [4]) (by kernel_rfl) (by simp) ?_
                    refine AllReadyH.cons (o := ⟨some 76, Op.call { callee := Callee.value (Operand.func 44), args := #[Operand.tmp 75], argTypes := #[83] }, 4, _, _, none⟩) rfl (fun K hK => ?_) AllReadyH.nil
                    go_simp
                    (with_reducible refine (o_flag L skd _ B P HTd.out).mono ?_); rintro e v1 ⟨x, rfl, s2, HR2, HT1, HN2⟩; have HX1 := Lib.hid (HXd.out.turn (fg_stab (gn_st (gn_st (gn_st g0_st frA_stab) frT_stab) frF_stab) frT_stab) HN2.out HPQ.out); have HB1 := Lib.hid (tn_lowb HBd.out HN2.out HwP.out (Nat.le_refl _)); have HR1001 := Lib.hid (tn_box HN2.out HRd.out (Nat.ne_of_lt HwP1.out))
                    refine hK.out _ _ trivial (fun _ => ?_)
                    clear hK K
                    (try simp only [Act.put, List.setIfInBounds_toArray, List.set_cons_zero, List.set_cons_succ])
                    refine wpAnyH_ready (rs := [5]) (by kernel_rfl) (by simp) ?_
                    refine AllReadyH.cons (o := ⟨some 77, Op.buildSlice 25 1 #[(0, Operand.tmp 76)], 25, _, _, none⟩) rfl (fun K hK => ?_) AllReadyH.nil
                    go_simp
                    have HX2 := Lib.hid (HX1.out.turn (P := P) (fg_stab (gn_st (gn_st (gn_st g0_st frA_stab) frT_stab) frF_stab) frT_stab) (tn_alloc (tn_refl P v1) (.cells #[.bool x] 4)) HPQ.out); have HT2 := Lib.hid (HT1.out.alloc (.cells #[.bool x] 4)); have HB2 := Lib.hid (HB1.out.alloc HB1.out.size (.cells #[.bool x] 4)); have HR1002 := Lib.hid ((Below.heap_alloc _ (.cells #[.bool x] 4) _ (lt_of_block HR1001.out)).trans HR1001.out); have hOne : RW bo (v1.alloc (.cells #[.bool x] 4)) (v1.heap.size + 1) (some ⟨v1.heap.size, 0, none⟩) [x] := rw_one1 rfl rfl (Nat.lt_succ_self _); generalize hq : v1.heap.size = q at hOne ⊢; generalize hV : v1.alloc (.cells #[.bool x] 4) = v2 at HX2 HT2 HB2 HR1002 hOne ⊢; clear hq hV
                    refine hK.out _ _ trivial (fun _ => ?_)
                    clear hK K
                    (try simp only [Act.put, List.setIfInBounds_toArray, List.set_cons_zero, List.set_cons_succ])
                    refine wpAnyH_ready (rs := [6]) (by kernel_rfl) (by simp) ?_
                    refine AllReadyH.cons (o := ⟨some 78, Op.call { callee := Callee.builtin Builtin.append, args := #[Operand.tmp 74, Operand.tmp 77], argTypes := #[25, 25] }, 25, _, _, none⟩) rfl (fun K hK => ?_) AllReadyH.nil
                    refine step_app bo rfl 25 rfl (.tmp 74) (.tmp 77) rfl Q (q + 1) (.slice A1d outd.length c1d) outd [x] (some ⟨q, 0, none⟩) 1 1 rfl (by simp [Act.eval]) (by simp [Act.eval]) HX2.out.own hOne HLen.out (Nat.le_of_lt HX2.out.pl) ?_
                    intro A3 c3 v3 lm nl hlm hnl hO hG hW; obtain ⟨hM, hf, hPs⟩ := HX2.out.mid hG
                    refine hK.out _ _ trivial (fun _ => ?_)
                    clear hK K
                    (try simp only [Act.put, List.setIfInBounds_toArray, List.set_cons_zero, List.set_cons_succ])
                    refine wpAnyH_take (i := 7) (oi := ⟨some 79, Op.fieldAddr 31 (Operand.tmp 5) 3, 0, _, _, none⟩) (v := ?vdrb27) rfl (by kernel_rfl) (by kernel_rfl) (by kernel_rfl) (fun _ _ _ h => h) (Or.inl ⟨by rfl, ?hdrb27⟩) trivial ?rdrb27
                    case hdrb27 => (intro wz hSw; go_simp <;> with_reducible rfl)
                    (try simp only [Act.put, List.setIfInBounds_toArray, List.set_cons_zero, List.set_cons_succ])
                    refine wpAnyH_take (i := 8) (oi := ⟨some 80, Op.fieldAddr 27 (Operand.tmp 79) 2, 0, _, _, none⟩) (v := ?vdrb28) rfl (by kernel_rfl) (by kernel_rfl) (by kernel_rfl) (fun _ _ _ h => h) (Or.inl ⟨by rfl, ?hdrb28⟩) trivial ?rdrb28
                    case hdrb28 => (intro wz hSw; go_simp <;> with_reducible rfl)
                    (try simp only [Act.put, List.setIfInBounds_toArray, List.set_cons_zero, List.set_cons_succ])
                    refine wpAnyH_ready (rs := [9]) (by kernel_rfl) (by simp) ?_
                    refine AllReadyH.cons (o := ⟨none, Op.store 25 (Operand.tmp 80) (Operand.tmp 78), 0, _, _, none⟩) rfl (fun K hK => ?_) AllReadyH.nil
                    have z9 := hM 5 _ rfl; have y9 := hf 5
                    go_simp
                    clear z9 y9
                    refine hK.out _ _ trivial (fun _ => ?_)
                    clear hK K
                    (try simp only [Act.put, List.setIfInBounds_toArray, List.set_cons_zero, List.set_cons_succ])
                    refine wpAnyH_done (by kernel_rfl) ?_ _
                    refine NoPanic.normal ?_
                    have HP2 := Lib.hid (HX2.out.put (x := x) (fg_stab (gn_st (gn_st (gn_st g0_st frA_stab) frT_stab) frF_stab) frT_stab) frT_stab fg_add (avf := (fun _ => True)) trivial (fun _ _ => trivial) hG hlm hnl hO hW 5 (fun _ => rfl) (fun u v j hj => by match j, hj with | 0, _ => rfl | 1, _ => rfl | 2, _ => rfl | 3, _ => rfl | 4, _ => rfl | 5, h => exact absurd rfl h | 6, _ => rfl | 7, _ => rfl | 8, _ => rfl | 9, _ => rfl | j + 10, _ => rfl))
                    have HS6 : Hid (TS (v3.setCell ⟨Q, 5, none⟩ (.slice A3 nl c3)) B P L s2) := Lib.hid (HT2.out.low HPQ.out (fun j hj => HX2.out.low hG hj _ _))
                    have HB6 : Hid (Below w.heap.size w (v3.setCell ⟨Q, 5, none⟩ (.slice A3 nl c3))) := Lib.hid ((HB2.out.grown hG HB2.out.size (fun b hb => Nat.le_trans (Nat.le_of_lt HwQ.out) (HX2.out.own.blk hb).1)).setCell (p := ⟨Q, 5, none⟩) (Nat.le_of_lt HwQ.out) _)
                    have HR6 : Hid ((v3.setCell ⟨Q, 5, none⟩ (.slice A3 nl c3)).heap[w.heap.size]? = some (.cells #[.slice none 0 0, .slice none 0 0, .slice none 0 0, .int .i64 0, .int .i64 0, .slice none 0 0, .int .i64 0, .int .i64 0, .int .i64 0, .int .i64 0] 31)) := Lib.hid ((HX2.out.low hG HwQ.out _ _).trans HR1002.out)
                    have HQ6 : Hid (Rp (pMany pT (kd + 1)) std (lm) s2) := Lib.hid (by rw [hlm]; exact HQkd.out.snoc HR2.out)
                    have HK6 : Hid (kd + 1 = lm.length) := Lib.hid (by rw [hlm, HKod.out]; simp)
                    clear hG hO hW hM hf hPs hOne hlm
                    subst hnl
                    go_wp2
                    go_roundg (nd - (kd + 1))
                    case measure => have := HKn.out; omega
                    case rel => exact ⟨kd + 1, lm, A3, c3, s2, HKn.out, rfl, by go_num, HP2, HS6, HB6, HR6, HQ6, HK6⟩
                  · go_simp
                    (with_reducible refine (o_flag L skd _ B P HTd.out).mono ?_); rintro e v4 ⟨x, rfl, s2, HR2, HT4, HN2⟩; have HX4 := Lib.hid (HXd.out.turn (fg_stab (gn_st (gn_st (gn_st g0_st frA_stab) frT_stab) frF_stab) frT_stab) HN2.out HPQ.out); have HB4 := Lib.hid (tn_lowb HBd.out HN2.out HwP.out (Nat.le_refl _)); have HR1004 := Lib.hid (tn_box HN2.out HRd.out (Nat.ne_of_lt HwP1.out))
                    refine hK.out _ _ trivial (fun _ => ?_)
                    clear hK K
                    (try simp only [Act.put, List.setIfInBounds_toArray, List.set_cons_zero, List.set_cons_succ])
                    refine wpAnyH_ready (rs := [2, 5]) (by kernel_rfl) (by simp) ?_
                    refine AllReadyH.cons (o := ⟨some 74, Op.load 25 (Operand.tmp 73), 25, _, _, none⟩) rfl (fun K hK => ?_) (AllReadyH.cons (o := ⟨some 77, Op.buildSlice 25 1 #[(0, Operand.tmp 76)], 25, _, _, none⟩) rfl (fun K hK => ?_) AllReadyH.nil)
                    · have z9 := HX4.out.box 5 _ rfl
                      go_simp
                      clear z9
                      refine hK.out _ _ trivial (fun _ => ?_)
                      clear hK K
                      (try simp only [Act.put, List.setIfInBounds_toArray, List.set_cons_zero, List.set_cons_succ])
                      refine wpAnyH_ready (rs := [5]) (by kernel_rfl) (by simp) ?_
                      refine AllReadyH.cons (o := ⟨some 77, Op.buildSlice 25 1 #[(0, Operand.tmp 76)], 25, _, _, none⟩) rfl (fun K hK => ?_) AllReadyH.nil
                      go_simp
                      have HX5 := Lib.hid (HX4.out.turn (P := P) (fg_stab (gn_st (gn_st (gn_st g0_st frA_stab) frT_stab) frF_stab) frT_stab) (tn_alloc (tn_refl P v4) (.cells #[.bool x] 4)) HPQ.out); have HT5 := Lib.hid (HT4.out.alloc (.cells #[.bool x] 4)); have HB5 := Lib.hid (HB4.out.alloc HB4.out.size (.cells #[.bool x] 4)); have HR1005 := Lib.hid ((Below.heap_alloc _ (.cells #[.bool x] 4) _ (lt_of_block HR1004.out)).trans HR1004.out); have hOne : RW bo (v4.alloc (.cells #[.bool x] 4)) (v4.heap.size + 1) (some ⟨v4.heap.size, 0, none⟩) [x] := rw_one1 rfl rfl (Nat.lt_succ_self _); generalize hq : v4.heap.size = q at hOne ⊢; generalize hV : v4.alloc (.cells #[.bool x] 4) = v5 at HX5 HT5 HB5 HR1005 hOne ⊢; clear hq hV
                      refine hK.out _ _ trivial (fun _ => ?_)
                      clear hK K
                      (try simp only [Act.put, List.setIfInBounds_toArray, List.set_cons_zero, List.set_cons_succ])
                      refine wpAnyH_ready (rs := [6]) (by kernel_rfl) (by simp) ?_
                      refine AllReadyH.cons (o := ⟨some 78, Op.call { callee := Callee.builtin Builtin.append, args := #[Operand.tmp 74, Operand.tmp 77], argTypes := #[25, 25] }, 25, _, _, none⟩) rfl (fun K hK => ?_) AllReadyH.nil
                      refine step_app bo rfl 25 rfl (.tmp 74) (.tmp 77) rfl Q (q + 1) (.slice A1d outd.length c1d) outd [x] (some ⟨q, 0, none⟩) 1 1 rfl (by simp [Act.eval]) (by simp [Act.eval]) HX5.out.own hOne HLen.out (Nat.le_of_lt HX5.out.pl) ?_
                      intro A3 c3 v6 lm nl hlm hnl hO hG hW; obtain ⟨hM, hf, hPs⟩ := HX5.out.mid hG
                      refine hK.out _ _ trivial (fun _ => ?_)
                      clear hK K
                      (try simp only [Act.put, List.setIfInBounds_toArray, List.set_cons_zero, List.set_cons_succ])
                      refine wpAnyH_take (i := 7) (oi := ⟨some 79, Op.fieldAddr 31 (Operand.tmp 5) 3, 0, _, _, none⟩) (v := ?vdrb4b27) rfl (by kernel_rfl) (by kernel_rfl) (by kernel_rfl) (fun _ _ _ h => h) (Or.inl ⟨by rfl, ?hdrb4b27⟩) trivial ?rdrb4b27
                      case hdrb4b27 => (intro wz hSw; go_simp <;> with_reducible rfl)
                      (try simp only [Act.put, List.setIfInBounds_toArray, List.set_cons_zero, List.set_cons_succ])
                      refine wpAnyH_take (i := 8) (oi := ⟨some 80, Op.fieldAddr 27 (Operand.tmp 79) 2, 0, _, _, none⟩) (v := ?vdrb4b28) rfl (by kernel_rfl) (by kernel_rfl) (by kernel_rfl) (fun _ _ _ h => h) (Or.inl ⟨by rfl, ?hdrb4b28⟩) trivial ?rdrb4b28
                      case hdrb4b28 => (intro wz hSw; go_simp <;> with_reducible rfl)
                      (try simp only [Act.put, List.setIfInBounds_toArray, List.set_cons_zero, List.set_cons_succ])
                      refine wpAnyH_ready (rs := [9]) (by kernel_rfl) (by simp) ?_
                      refine AllReadyH.cons (o := ⟨none, Op.store 25 (Operand.tmp 80) (Operand.tmp 78), 0, _, _, none⟩) rfl (fun K hK => ?_) AllReadyH.nil
                      have z9 := hM 5 _ rfl; have y9 := hf 5
                      go_simp
                      clear z9 y9
                      refine hK.out _ _ trivial (fun _ => ?_)
                      clear hK K
                      (try simp only [Act.put, List.setIfInBounds_toArray, List.set_cons_zero, List.set_cons_succ])
                      refine wpAnyH_done (by kernel_rfl) ?_ _
                      refine NoPanic.normal ?_
                      have HP2 := Lib.hid (HX5.out.put (x := x) (fg_stab (gn_st (gn_st (gn_st g0_st frA_stab) frT_stab) frF_stab) frT_stab) frT_stab fg_add (avf := (fun _ => True)) trivial (fun _ _ => trivial) hG hlm hnl hO hW 5 (fun _ => rfl) (fun u v j hj => by match j, hj with | 0, _ => rfl | 1, _ => rfl | 2, _ => rfl | 3, _ => rfl | 4, _ => rfl | 5, h => exact absurd rfl h | 6, _ => rfl | 7, _ => rfl | 8, _ => rfl | 9, _ => rfl | j + 10, _ => rfl))
                      have HS6 : Hid (TS (v6.setCell ⟨Q, 5, none⟩ (.slice A3 nl c3)) B P L s2) := Lib.hid (HT5.out.low HPQ.out (fun j hj => HX5.out.low hG hj _ _))
                      have HB6 : Hid (Below w.heap.size w (v6.setCell ⟨Q, 5, none⟩ (.slice A3 nl c3))) := Lib.hid ((HB5.out.grown hG HB5.out.size (fun b hb => Nat.le_trans (Nat.le_of_lt HwQ.out) (HX5.out.own.blk hb).1)).setCell (p := ⟨Q, 5, none⟩) (Nat.le_of_lt HwQ.out) _)
                      have HR6 : Hid ((v6.setCell ⟨Q, 5, none⟩ (.slice A3 nl c3)).heap[w.heap.size]? = some (.cells #[.slice none 0 0, .slice none 0 0, .slice none 0 0, .int .i64 0, .int .i64 0, .slice none 0 0, .int .i64 0, .int .i64 0, .int .i64 0, .int .i64 0] 31)) := Lib.hid ((HX5.out.low hG HwQ.out _ _).trans HR1005.out)
                      have HQ6 : Hid (Rp (pMany pT (kd + 1)) std (lm) s2) := Lib.hid (by rw [hlm]; exact HQkd.out.snoc HR2.out)
                      have HK6 : Hid (kd + 1 = lm.length) := Lib.hid (by rw [hlm, HKod.out]; simp)
                      clear hG hO hW hM hf hPs hOne hlm
                      subst hnl
                      go_wp2
                      go_roundg (nd - (kd + 1))
                      case measure => have := HKn.out; omega
                      case rel => exact ⟨kd + 1, lm, A3, c3, s2, HKn.out, rfl, by go_num, HP2, HS6, HB6, HR6, HQ6, HK6⟩
                    · go_simp
                      have HX7 := Lib.hid (HX4.out.turn (P := P) (fg_stab (gn_st (gn_st (gn_st g0_st frA_stab) frT_stab) frF_stab) frT_stab) (tn_alloc (tn_refl P v4) (.cells #[.bool x] 4)) HPQ.out); have HT7 := Lib.hid (HT4.out.alloc (.cells #[.bool x] 4)); have HB7 := Lib.hid (HB4.out.alloc HB4.out.size (.cells #[.bool x] 4)); have HR1007 := Lib.hid ((Below.heap_alloc _ (.cells #[.bool x] 4) _ (lt_of_block HR1004.out)).trans HR1004.out); have hOne : RW bo (v4.alloc (.cells #[.bool x] 4)) (v4.heap.size + 1) (some ⟨v4.heap.size, 0, none⟩) [x] := rw_one1 rfl rfl (Nat.lt_succ_self _); generalize hq : v4.heap.size = q at hOne ⊢; generalize hV : v4.alloc (.cells #[.bool x] 4) = v7 at HX7 HT7 HB7 HR1007 hOne ⊢; clear hq hV
                      refine hK.out _ _ trivial (fun _ => ?_)
                      clear hK K
                      (try simp only [Act.put, List.setIfInBounds_toArray, List.set_cons_zero, List.set_cons_succ])
                      refine wpAnyH_ready (rs := [2]) (by kernel_rfl) (by simp) ?_
                      refine AllReadyH.cons (o := ⟨some 74, Op.load 25 (Operand.tmp 73), 25, _, _, none⟩) rfl (fun K hK => ?_) AllReadyH.nil
                      have z9 := HX7.out.box 5 _ rfl
                      go_simp
                      clear z9
                      refine hK.out _ _ trivial (fun _ => ?_)
                      clear hK K
                      (try simp only [Act.put, List.setIfInBounds_toArray, List.set_cons_zero, List.set_cons_succ])
                      refine wpAnyH_ready (rs := [6]) (by kernel_rfl) (by simp) ?_
                      refine AllReadyH.cons (o := ⟨some 78, Op.call { callee := Callee.builtin Builtin.append, args := #[Operand.tmp 74, Operand.tmp 77], argTypes := #[25, 25] }, 25, _, _, none⟩) rfl (fun K hK => ?_) AllReadyH.nil
                      refine step_app bo rfl 25 rfl (.tmp 74) (.tmp 77) rfl Q (q + 1) (.slice A1d outd.length c1d) outd [x] (some ⟨q, 0, none⟩) 1 1 rfl (by simp [Act.eval]) (by simp [Act.eval]) HX7.out.own hOne HLen.out (Nat.le_of_lt HX7.out.pl) ?_
                      intro A3 c3 v8 lm nl hlm hnl hO hG hW; obtain ⟨hM, hf, hPs⟩ := HX7.out.mid hG
                      refine hK.out _ _ trivial (fun _ => ?_)
                      clear hK K
                      (try simp only [Act.put, List.setIfInBounds_toArray, List.set_cons_zero, List.set_cons_succ])
                      refine wpAnyH_take (i := 7) (oi := ⟨some 79, Op.fieldAddr 31 (Operand.tmp 5) 3, 0, _, _, none⟩) (v := ?vdrb4b57) rfl (by kernel_rfl) (by kernel_rfl) (by kernel_rfl) (fun _ _ _ h => h) (Or.inl ⟨by rfl, ?hdrb4b57⟩) trivial ?rdrb4b57
                      case hdrb4b57 => (intro wz hSw; go_simp <;> with_reducible rfl)
                      (try simp only [Act.put, List.setIfInBounds_toArray, List.set_cons_zero, List.set_cons_succ])
                      refine wpAnyH_take (i := 8) (oi := ⟨some 80, Op.fieldAddr 27 (Operand.tmp 79) 2, 0, _, _, none⟩) (v := ?vdrb4b58) rfl (by kernel_rfl) (by kernel_rfl) (by kernel_rfl) (fun _ _ _ h => h) (Or.inl ⟨by rfl, ?hdrb4b58⟩) trivial ?rdrb4b58
                      case hdrb4b58 => (intro wz hSw; go_simp <;> with_reducible rfl)
                      (try simp only [Act.put, List.setIfInBounds_toArray, List.set_cons_zero, List.set_cons_succ])
                      refine wpAnyH_ready (rs := [9]) (by kernel_rfl) (by simp) ?_
                      refine AllReadyH.cons (o := ⟨none, Op.store 25 (Operand.tmp 80) (Operand.tmp 78), 0, _, _, none⟩) rfl (fun K hK => ?_) AllReadyH.nil
                      have z9 := hM 5 _ rfl; have y9 := hf 5
                      go_simp
                      clear z9 y9
                      refine hK.out _ _ trivial (fun _ => ?_)
                      clear hK K
                      (try simp only [Act.put, List.setIfInBounds_toArray, List.set_cons_zero, List.set_cons_succ])
                      refine wpAnyH_done (by kernel_rfl) ?_ _
                      refine NoPanic.normal ?_
                      have HP2 := Lib.hid (HX7.out.put (x := x) (fg_stab (gn_st (gn_st (gn_st g0_st frA_stab) frT_stab) frF_stab) frT_stab) frT_stab fg_add (avf := (fun _ => True)) trivial (fun _ _ => trivial) hG hlm hnl hO hW 5 (fun _ => rfl) (fun u v j hj => by match j, hj with | 0, _ => rfl | 1, _ => rfl | 2, _ => rfl | 3, _ => rfl | 4, _ => rfl | 5, h => exact absurd rfl h | 6, _ => rfl | 7, _ => rfl | 8, _ => rfl | 9, _ => rfl | j + 10, _ => rfl))
                      have HS6 : Hid (TS (v8.setCell ⟨Q, 5, none⟩ (.slice A3 nl c3)) B P L s2) := Lib.hid (HT7.out.low HPQ.out (fun j hj => HX7.out.low hG hj _ _))
                      have HB6 : Hid (Below w.heap.size w (v8.setCell ⟨Q, 5, none⟩ (.slice A3 nl c3))) := Lib.hid ((HB7.out.grown hG HB7.out.size (fun b hb => Nat.le_trans (Nat.le_of_lt HwQ.out) (HX7.out.own.blk hb).1)).setCell (p := ⟨Q, 5, none⟩) (Nat.le_of_lt HwQ.out) _)
                      have HR6 : Hid ((v8.setCell ⟨Q, 5, none⟩ (.slice A3 nl c3)).heap[w.heap.size]? = some (.cells #[.slice none 0 0, .slice none 0 0, .slice none 0 0, .int .i64 0, .int .i64 0, .slice none 0 0, .int .i64 0, .int .i64 0, .int .i64 0, .int .i64 0] 31)) := Lib.hid ((HX7.out.low hG HwQ.out _ _).trans HR1007.out)
                      have HQ6 : Hid (Rp (pMany pT (kd + 1)) std (lm) s2) := Lib.hid (by rw [hlm]; exact HQkd.out.snoc HR2.out)
                      have HK6 : Hid (kd + 1 = lm.length) := Lib.hid (by rw [hlm, HKod.out]; simp)
                      clear hG hO hW hM hf hPs hOne hlm
                      subst hnl
                      go_wp2
                      go_roundg (nd - (kd + 1))
                      case measure => have := HKn.out; omega
                      case rel => exact ⟨kd + 1, lm, A3, c3, s2, HKn.out, rfl, by go_num, HP2, HS6, HB6, HR6, HQ6, HK6⟩
                · have hkk : kd = nd := by omega
                  subst hkk
                  have hkl : decide ((kd : Int) < kd) = false := by simp
                  have HQxd := Lib.hid (Rp.counted (by decide) eatsT HRnd.out HQkd.out)
                  go_wp2_with (first
                    | ((with_reducible refine (o_num L skd _ B P HSkd.out).mono ?_); rintro e u3 ⟨mx, rfl, t3, NR3, NT3, NN3⟩; have NY3 := Lib.hid (HLXd.out.turn (fg_stab (gn_st (gn_st (gn_st g0_st frA_stab) frT_stab) frF_stab) frT_stab) NN3.out HPQ.out); have NX3 : Hid (LX bo (FG (GN fo (GN au (GN ab G0 FrA A1a outa) FrT A1b outb) FrF A1c outc) FrT) Q Q (fun v => [.slice A1a outa.length c1a, .slice A1b outb.length c1b, .slice A1c outc.length c1c, .int .i64 mW, .int .i64 mH, v, .int .i64 mx, .int .i64 0, .int .i64 0, .int .i64 0]) (u3.setCell ⟨Q, 6, none⟩ (.int .i64 mx)) A1d c1d outd) := Lib.hid (NY3.out.poke (fg_stab (gn_st (gn_st (gn_st g0_st frA_stab) frT_stab) frF_stab) frT_stab) 6 (.int .i64 mx) (fun _ => rfl)); have NS3 : Hid (TS (u3.setCell ⟨Q, 6, none⟩ (.int .i64 mx)) B P L t3) := Lib.hid (NT3.out.put HPQ.out 6 _); have NB3 : Hid (Below w.heap.size w (u3.setCell ⟨Q, 6, none⟩ (.int .i64 mx))) := Lib.hid ((tn_lowb HBkd.out NN3.out HwP.out (Nat.le_refl _)).setCell (p := ⟨Q, 6, none⟩) (Nat.le_of_lt HwQ.out) _); have NH3 : Hid ((u3.setCell ⟨Q, 6, none⟩ (.int .i64 mx)).heap[w.heap.size]? = some (.cells #[.slice none 0 0, .slice none 0 0, .slice none 0 0, .int .i64 0, .int .i64 0, .slice none 0 0, .int .i64 0, .int .i64 0, .int .i64 0, .int .i64 0] 31)) := Lib.hid ((heap_setCell_other _ _ _ _ (Nat.ne_of_lt HwQ.out)).trans (tn_box NN3.out HRkd.out (Nat.ne_of_lt HwP1.out))); have b3 := NY3.out.box 6 _ rfl; have f3 := NY3.out.fz; have l3 := NY3.out.pl)
                    | ((with_reducible refine (o_num L t3 _ B P NS3.out).mono ?_); rintro e u4 ⟨my, rfl, t4, NR4, NT4, NN4⟩; have NY4 := Lib.hid (NX3.out.turn (fg_stab (gn_st (gn_st (gn_st g0_st frA_stab) frT_stab) frF_stab) frT_stab) NN4.out HPQ.out); have NX4 : Hid (LX bo (FG (GN fo (GN au (GN ab G0 FrA A1a outa) FrT A1b outb) FrF A1c outc) FrT) Q Q (fun v => [.slice A1a outa.length c1a, .slice A1b outb.length c1b, .slice A1c outc.length c1c, .int .i64 mW, .int .i64 mH, v, .int .i64 mx, .int .i64 my, .int .i64 0, .int .i64 0]) (u4.setCell ⟨Q, 7, none⟩ (.int .i64 my)) A1d c1d outd) := Lib.hid (NY4.out.poke (fg_stab (gn_st (gn_st (gn_st g0_st frA_stab) frT_stab) frF_stab) frT_stab) 7 (.int .i64 my) (fun _ => rfl)); have NS4 : Hid (TS (u4.setCell ⟨Q, 7, none⟩ (.int .i64 my)) B P L t4) := Lib.hid (NT4.out.put HPQ.out 7 _); have NB4 : Hid (Below w.heap.size w (u4.setCell ⟨Q, 7, none⟩ (.int .i64 my))) := Lib.hid ((tn_lowb NB3.out NN4.out HwP.out (Nat.le_refl _)).setCell (p := ⟨Q, 7, none⟩) (Nat.le_of_lt HwQ.out) _); have NH4 : Hid ((u4.setCell ⟨Q, 7, none⟩ (.int .i64 my)).heap[w.heap.size]? = some (.cells #[.slice none 0 0, .slice none 0 0, .slice none 0 0, .int .i64 0, .int .i64 0, .slice none 0 0, .int .i64 0, .int .i64 0, .int .i64 0, .int .i64 0] 31)) := Lib.hid ((heap_setCell_other _ _ _ _ (Nat.ne_of_lt HwQ.out)).trans (tn_box NN4.out NH3.out (Nat.ne_of_lt HwP1.out))); have b4 := NY4.out.box 7 _ rfl; have f4 := NY4.out.fz; have l4 := NY4.out.pl)
                    | ((with_reducible refine (o_num L t4 _ B P NS4.out).mono ?_); rintro e u5 ⟨nx, rfl, t5, NR5, NT5, NN5⟩; have NY5 := Lib.hid (NX4.out.turn (fg_stab (gn_st (gn_st (gn_st g0_st frA_stab) frT_stab) frF_stab) frT_stab) NN5.out HPQ.out); have NX5 : Hid (LX bo (FG (GN fo (GN au (GN ab G0 FrA A1a outa) FrT A1b outb) FrF A1c outc) FrT) Q Q (fun v => [.slice A1a outa.length c1a, .slice A1b outb.length c1b, .slice A1c outc.length c1c, .int .i64 mW, .int .i64 mH, v, .int .i64 mx, .int .i64 my, .int .i64 nx, .int .i64 0]) (u5.setCell ⟨Q, 8, none⟩ (.int .i64 nx)) A1d c1d outd) := Lib.hid (NY5.out.poke (fg_stab (gn_st (gn_st (gn_st g0_st frA_stab) frT_stab) frF_stab) frT_stab) 8 (.int .i64 nx) (fun _ => rfl)); have NS5 : Hid (TS (u5.setCell ⟨Q, 8, none⟩ (.int .i64 nx)) B P L t5) := Lib.hid (NT5.out.put HPQ.out 8 _); have NB5 : Hid (Below w.heap.size w (u5.setCell ⟨Q, 8, none⟩ (.int .i64 nx))) := Lib.hid ((tn_lowb NB4.out NN5.out HwP.out (Nat.le_refl _)).setCell (p := ⟨Q, 8, none⟩) (Nat.le_of_lt HwQ.out) _); have NH5 : Hid ((u5.setCell ⟨Q, 8, none⟩ (.int .i64 nx)).heap[w.heap.size]? = some (.cells #[.slice none 0 0, .slice none 0 0, .slice none 0 0, .int .i64 0, .int .i64 0, .slice none 0 0, .int .i64 0, .int .i64 0, .int .i64 0, .int .i64 0] 31)) := Lib.hid ((heap_setCell_other _ _ _ _ (Nat.ne_of_lt HwQ.out)).trans (tn_box NN5.out NH4.out (Nat.ne_of_lt HwP1.out))); have b5 := NY5.out.box 8 _ rfl; have f5 := NY5.out.fz; have l5 := NY5.out.pl))
                  (with_reducible refine (o_num L t5 _ B P NS5.out).mono ?_)
                  rintro e u6 ⟨ny, rfl, t6, NR6, NT6, NN6⟩
                  have NY6 := Lib.hid (NX5.out.turn (fg_stab (gn_st (gn_st (gn_st g0_st frA_stab) frT_stab) frF_stab) frT_stab) NN6.out HPQ.out)
                  have NX6 : Hid (LX bo (FG (GN fo (GN au (GN ab G0 FrA A1a outa) FrT A1b outb) FrF A1c outc) FrT) Q Q (fun v => [.slice A1a outa.length c1a, .slice A1b outb.length c1b, .slice A1c outc.length c1c, .int .i64 mW, .int .i64 mH, v, .int .i64 mx, .int .i64 my, .int .i64 nx, .int .i64 ny]) (u6.setCell ⟨Q, 9, none⟩ (.int .i64 ny)) A1d c1d outd) := Lib.hid (NY6.out.poke (fg_stab (gn_st (gn_st (gn_st g0_st frA_stab) frT_stab) frF_stab) frT_stab) 9 (.int .i64 ny) (fun _ => rfl))
                  have NS6 : Hid (TS (u6.setCell ⟨Q, 9, none⟩ (.int .i64 ny)) B P L t6) := Lib.hid (NT6.out.put HPQ.out 9 _)
                  have NB6 : Hid (Below w.heap.size w (u6.setCell ⟨Q, 9, none⟩ (.int .i64 ny))) := Lib.hid ((tn_lowb NB5.out NN6.out HwP.out (Nat.le_refl _)).setCell (p := ⟨Q, 9, none⟩) (Nat.le_of_lt HwQ.out) _)
                  have NH6 : Hid ((u6.setCell ⟨Q, 9, none⟩ (.int .i64 ny)).heap[w.heap.size]? = some (.cells #[.slice none 0 0, .slice none 0 0, .slice none 0 0, .int .i64 0, .int .i64 0, .slice none 0 0, .int .i64 0, .int .i64 0, .int .i64 0, .int .i64 0] 31)) := Lib.hid ((heap_setCell_other _ _ _ _ (Nat.ne_of_lt HwQ.out)).trans (tn_box NN6.out NH5.out (Nat.ne_of_lt HwP1.out)))
                  have b6 := NY6.out.box 9 _ rfl
                  have f6 := NY6.out.fz
                  have l6 := NY6.out.pl
                  have HLX9 := Lib.hid NX6.out
                  have HRp : Hid (Rp pCn ⟨L, false⟩ (Cn.pl ⟨A1a, c1a, outa, A1b, c1b, outb, A1c, c1c, outc, mW, mH, A1d, c1d, outd, mx, my, nx, ny⟩) t6) := Lib.hid (HQxa.out.bind (HQxb.out.bind (HQxc.out.bind (NR1.out.bind (NR2.out.bind (HQxd.out.bind (NR3.out.bind (NR4.out.bind (NR5.out.bind (NR6.out.bind (Rp.pure _ _)))))))))))
                  have HAll := Lib.hid (rp_all HRp.out)
                  have HNC := Lib.hid (HLX9.out.all (gn_st (gn_st (gn_st g0_st frA_stab) frT_stab) frF_stab) frT_stab)
                  obtain ⟨At, ct, kt, hz, hy, hP, hk, hL, hl⟩ := NS6.out.cells
                  clear NX1 NX2 NX3 NX4 NX5 NX6
                  have hzR := cellOf' NH6.out; have hyR := frozOf' NH6.out; have hltR := lt_of_block NH6.out
                  obtain ⟨lt, ft⟩ := t6
                  have HLl : Hid ((lt.length : Int) = L.length - kt) := Lib.hid hl
                  clear hl
                  have g0 := HLX9.out.box 0 _ rfl; have g1 := HLX9.out.box 1 _ rfl; have g2 := HLX9.out.box 2 _ rfl; have g3 := HLX9.out.box 3 _ rfl; have g4 := HLX9.out.box 4 _ rfl; have g5 := HLX9.out.box 5 _ rfl; have g6 := HLX9.out.box 6 _ rfl; have g7 := HLX9.out.box 7 _ rfl; have g8 := HLX9.out.box 8 _ rfl; have g9 := HLX9.out.box 9 _ rfl
                  have Hwz : Hid (P < (u6.setCell ⟨Q, 9, none⟩ (.int .i64 ny)).heap.size) := Lib.hid hP
                  cases ft with
                  | true =>
                    go_wp2
                    refine bodyPost_ret (by simp [results, Tryz.results17, go_sem, hzR]; try rfl) rfl ?_
                    refine ⟨zCn, false, rfl, Lib.hid (nc_zero _ _), Lib.hid (.inr ⟨rfl, ?_, rfl⟩), Lib.hid (below_setCells _ (Nat.le_refl _) [.slice none 0 0, .slice none 0 0, .slice none 0 0, .int .i64 0, .int .i64 0, .slice none 0 0, .int .i64 0, .int .i64 0, .int .i64 0, .int .i64 0] 0 _ NB6.out)⟩
                    rcases HAll.out with ⟨h, _⟩ | ⟨_, h⟩
                    · cases h
                    · exact h
                  | false =>
                    by_cases he : kt = L.length
                    · have he1 : (((kt : Nat) : Int) != (L.length : Int)) = false := by simp [he]
                      have he2 : (kt != L.length) = false := by simp [he]
                      have HE : Hid (lt = []) := Lib.hid (List.eq_nil_of_length_eq_zero (by have := HLl.out; omega))
                      clear he
                      go_wp2
                      refine bodyPost_ret (by simp [results, Tryz.results17, go_sem, hzR]; try rfl) rfl ?_
                      refine ⟨⟨A1a, c1a, outa, A1b, c1b, outb, A1c, c1c, outc, mW, mH, A1d, c1d, outd, mx, my, nx, ny⟩, true, rfl, Lib.hid ((NC.kp ?_ (kp_sets (tn_refl P _) HPQ.out HwQ.out [.slice A1a outa.length c1a, .slice A1b outb.length c1b, .slice A1c outc.length c1c, .int .i64 mW, .int .i64 mH, .slice A1d outd.length c1d, .int .i64 mx, .int .i64 my, .int .i64 nx, .int .i64 ny] 0)).mono (Nat.le_of_lt HwQ.out)), Lib.hid (.inl ⟨rfl, ?_⟩), Lib.hid (below_setCells _ (Nat.le_refl _) [.slice A1a outa.length c1a, .slice A1b outb.length c1b, .slice A1c outc.length c1c, .int .i64 mW, .int .i64 mH, .slice A1d outd.length c1d, .int .i64 mx, .int .i64 my, .int .i64 nx, .int .i64 ny] 0 _ NB6.out)⟩
                      · exact ⟨HNC.out.2.1.2.1.2.1.1, HNC.out.2.1.2.1.1, HNC.out.2.1.1, HNC.out.1, HNC.out.2.1.2.1.2.1.2.2, HNC.out.2.1.2.2⟩
                      · rcases HAll.out with ⟨_, _, h⟩ | ⟨h, _⟩
                        · exact h
                        · rcases h with h | h
                          · cases h
                          · exact absurd HE.out h
                    · have he1 : (((kt : Nat) : Int) != (L.length : Int)) = true := by simpa using fun h : (kt : Int) = L.length => he (by omega)
                      have he2 : (kt != L.length) = true := by simpa using he
                      have HE : Hid (lt ≠ []) := Lib.hid (fun h => he (by have := HLl.out; rw [h] at this; simp at this; omega))
                      clear he
                      go_wp2
                      refine bodyPost_ret (by simp [results, Tryz.results17, go_sem, hzR]; try rfl) rfl ?_
                      refine ⟨zCn, false, rfl, Lib.hid (nc_zero _ _), Lib.hid (.inr ⟨rfl, ?_, rfl⟩), Lib.hid (below_setCells _ (Nat.le_refl _) [.slice none 0 0, .slice none 0 0, .slice none 0 0, .int .i64 0, .int .i64 0, .slice none 0 0, .int .i64 0, .int .i64 0, .int .i64 0, .int .i64 0] 0 _ NB6.out)⟩
                      rcases HAll.out with ⟨_, h, _⟩ | ⟨_, h⟩
                      · exact absurd h HE.out
                      · exact h
end Go.Proofs.YtpjenkgimkndaaaGreat.Con
