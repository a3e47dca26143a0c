/-
  The contract of the index's Closest: of all but one the unit that is nearest, of alike ones the one of the least number, whatever order the maps are ranged over in.
-/
import Derived.Test.YtehllnbpianpfaaNea
namespace Go.Proofs.Ytehllnbpianpfaa.Con
open Go.RowKit Cll Go.Maps Go.Shelf

/-- Who has come, while the units of a cell come. -/
def cameC (left left2 : Lit → Bool) (kl : Lit) (u : Un) : Bool := !left (ckU u) || ((ckU u).sameKey kl && !left2 (key u.id))
section
variable {w : World} {S : Nat → Prop} {N xb hb cb : Nat} {Dh Dc : DataW Unit} {L : List Un}
theorem cameC_start {left : Lit → Bool} {kl : Lit} {D : DataW Unit} (hL : ∀ t ∈ L, ckU t = kl → Maps.has D (key t.id) = true) : ∀ t ∈ L, cameC left (Maps.has D) kl t = !left (ckU t) := by
  intro t ht
  unfold cameC
  by_cases e : ckU t = kl
  · simp [hL t ht e]
  · simp [sameKey_ne e]
theorem cameC_end {left left2 : Lit → Bool} {kl : Lit} (hl : ∀ k, left2 k = false) (t : Un) : (!(left (ckU t) && !(ckU t).sameKey kl)) = cameC left left2 kl t := by
  unfold cameC
  rw [hl]
  cases left (ckU t) <;> cases (ckU t).sameKey kl <;> simp
theorem cameC_step (hL : Cll.Good L) {left left2 : Lit → Bool} {kl : Lit} {t : Un} (ht : t ∈ L) (hk : ckU t = kl) : ∀ s ∈ L, cameC left (fun z => left2 z && !z.sameKey (key t.id)) kl s = (cameC left left2 kl s || s.id == t.id) := by
  intro s hs
  by_cases e : s.id = t.id
  · have := hL.one hs ht e
    subst this
    unfold cameC
    simp only [hk, WideAt.sameKey_self (show WideAt.IsKeyLit kl by rw [← hk]; exact ck_lit _ _), left_same (keyLit _)]
    simp
  · unfold cameC
    simp only [left_ne (key_ne e)]
    simp [e]
/-- A cell that is farther than the least holds none that is nearer. -/
theorem skip_far {px py c q d k not : Int} {left : Lit → Bool} (hc : Sd c) (hq : Sd q) (h : IX w S N xb hb cb Dh Dc L) (hB : Best L px py not (fun u => !left (ckU u)) true d k) (hn : d < sqr px py (cut c px) (cut q py)) : Best L px py not (fun u => !(left (ckU u) && !(ckU u).sameKey (ck c q))) true d k := by
  refine hB.far (fun t ht hv => ?_) (fun t ht hv => ?_)
  · have hv' : left (ckU t) = false := by simpa using hv
    simp [hv']
  · have ho := h.good.ok t ht
    by_cases e : ckU t = ck c q
    · obtain ⟨e1, e2⟩ := ck_inj (sd_div ho.2.1).fits (sd_div ho.2.2).fits hc.fits hq.fits e
      right
      have := sqr_cut (c := c) (r := q) (px := px) (py := py) (mx := t.x) (my := t.y) (by omega) (by omega) (by omega) (by omega)
      unfold dist
      omega
    · left
      rw [left_ne e] at hv
      exact hv
set_option maxHeartbeats 8000000 in
theorem closest_ix (h : IX w S N xb hb cb Dh Dc L) (px py nt : Int) (f1 : Fits px) (f2 : Fits py) : Calls Try.prog 14 #[.pointer (some ⟨xb, 0, none⟩), pv px py, .int .i64 nt] w fun e w' => ∃ f d k, e = .returned (.tuple #[.int .i64 k, .bool f]) ∧ Hid (Best L px py nt (fun _ => true) f d k) ∧ Hid (Below w.heap.size w w') := by
  have hb1 : Below w.heap.size w (w.alloc (.cells #[.int .i64 px, .int .i64 py] 32)) := (Below.refl _ w).alloc (Nat.le_refl _) _
  have h1 := h.step hb1
  have hs1 : (w.alloc (.cells #[.int .i64 px, .int .i64 py] 32)).heap.size = w.heap.size + 1 := by simp
  have hbx := heap_alloc_new w (.cells #[.int .i64 px, .int .i64 py] 32)
  have hc1 := h1.cell1
  have hown1 := h1.cel
  have hxl := h.lt
  have HH := Lib.hid h; have HB1 := Lib.hid hb1; have HS1 := Lib.hid hs1; have HBX := Lib.hid hbx
  have HKy := Lib.hid h.keys
  have hcb := h.low cb h.sc
  clear h h1 hb1 hs1 hbx
  go_enter Try.func14, Try.ntmps14
  go_wp2_with (at_range; refine wpList_range_own _ rfl _ 50 rfl 54 55 kCell Try.underlying50 Rm cb N Dc rfl hown1 ?_; intro w0 hrg0 hg0 hs0)
  go_frame
  rw [HS1.out] at hrg0 ⊢
  have HO0 : Hid (Out w w0 N cb Dc px py (Maps.has Dc) (Maps.size Dc)) := Lib.hid ⟨hrg0, HB1.out.grown hg0 HB1.out.size (fun k hk => by cases hk), (hg0.block _ (by have := HS1.out; omega) (by simp)).trans HBX.out⟩
  clear hrg0 hg0 hs0 hown1 hc1
  go_loopw [8, 9, 10] (fun s8 s9 s10 wr => ∃ (left : Lit → Bool) (cnt : Nat) (f : Bool) (d k : Int), s8 = .int .i64 k ∧ s9 = .int .i64 d ∧ s10 = .bool f ∧ Hid (Out w wr N cb Dc px py left cnt) ∧ Hid (Best L px py nt (fun u => !left (ckU u)) f d k)) (fun _ _ _ wr => wr.rangeLeft cb (w.heap.size + 1))
  case atStart =>
    exact ⟨_, _, false, 0, 0, rfl, rfl, rfl, HO0, Lib.hid ((Best.start L px py nt).congr (fun t ht => by simp [HH.out.told ht]))⟩
  case round =>
    obtain ⟨left, cnt, f, d, k, rfl, rfl, rfl, HO, HP⟩ := hrel
    have hrg := HO.out.rg
    go_wp2_with (first | (at_next; refine next_cell _ rfl _ rfl HKy.out rfl hrg ?_ ?_) | go_in)
    · intro hl0
      go_wp2
      go_ret2
      exact ⟨f, d, k, rfl, Lib.hid (HP.out.congr (fun t _ => by simp [hl0])), Lib.hid HO.out.bel⟩
    · intro kc kr b w2 cnt2 hkc hkr hlk hlook hrg2 hlt hg2 hs2 hen
      have HO2 : Hid (Out w w2 N cb Dc px py _ cnt2) := Lib.hid (HO.out.next hg2 hrg2)
      have hlast := hrg.left_eq
      clear hs2 hg2 hrg2
      have hk0 := heap_alloc_new w2 (.cells #[.int .i64 kc, .int .i64 kr] 54)
      have hbA : Below w2.heap.size w2 (w2.alloc (.cells #[.int .i64 kc, .int .i64 kr] 54)) := (Below.refl _ _).alloc (Nat.le_refl _) _
      have HO3 := Lib.hid (HO2.out.step hbA)
      obtain ⟨nx, hnx⟩ : ∃ nx, cut kc px = nx := ⟨_, rfl⟩
      obtain ⟨ny, hny⟩ : ∃ ny, cut kr py = ny := ⟨_, rfl⟩
      obtain ⟨sq, hsq⟩ : ∃ sq, sqr px py nx ny = sq := ⟨_, rfl⟩
      have fx : Fits nx := by have := cut_fits (n := px) hkc.1 hkc.2; rw [hnx] at this; unfold Fits; omega
      have fy : Fits ny := by have := cut_fits (n := py) hkr.1 hkr.2; rw [hny] at this; unfold Fits; omega
      have HN1 : Hid (∀ V', Calls Try.prog 24 #[pv kc kr, pv px py] V' fun e w' => e = .returned (pv nx ny) ∧ Below V'.heap.size V' w') := Lib.hid (fun V' => by rw [← hnx, ← hny]; exact nearest_any kc kr px py V' hkc hkr)
      have HN2 : Hid (∀ V', Calls Try.prog 23 #[pv px py, pv nx ny] V' fun e w' => e = .returned (.int .i64 sq) ∧ Below V'.heap.size V' w') := Lib.hid (fun V' => by rw [← hsq]; exact square_any px py nx ny V' f1 f2 fx fy)
      have HSk : Hid (f = true → d < sq → Best L px py nt (fun u => !(left (ckU u) && !(ckU u).sameKey (ck kc kr))) true d k) := Lib.hid (fun hf hd => by
        subst hf
        exact skip_far hkc hkr HH.out HP.out (by rw [hnx, hny, hsq]; exact hd))
      have HIn : Hid (∃ D, In w S N hb cb b D L kc kr) := Lib.hid (by
        rcases HH.out.inn kc kr hkc hkr with ⟨e, _⟩ | ⟨b', D, e, hI⟩
        · rw [hlook] at e; cases e
        · rw [hlook] at e
          injection e with e
          rw [bl_inj e]
          exact ⟨D, hI⟩)
      clear hnx hny hsq fx fy hbA HO2 HO hrg
      go_wp2
      generalize w2.alloc (.cells #[.int .i64 kc, .int .i64 kr] 54) = V at *
      generalize w2.heap.size = hB at *
      have HC : Hid (∀ wz, Below V.heap.size V wz → wz.cell? ⟨w.heap.size, 0, none⟩ = some (.int .i64 px) ∧ wz.cell? ⟨w.heap.size, 1, none⟩ = some (.int .i64 py) ∧ wz.cell? ⟨hB, 0, none⟩ = some (.int .i64 kc) ∧ wz.cell? ⟨hB, 1, none⟩ = some (.int .i64 kr)) := Lib.hid (fun wz hz => by
        have a := (hz.block _ (by have := HO3.out.lt; omega)).trans HO3.out.box
        have b := (hz.block _ (Array.getElem?_eq_some_iff.1 hk0).1).trans hk0
        exact ⟨(cell_of_row wz _ 0 _ 32 (0, 0) a).trans rfl, (cell_of_row wz _ 1 _ 32 (0, 0) a).trans rfl, (cell_of_row wz _ 0 _ 54 (0, 0) b).trans rfl, (cell_of_row wz _ 1 _ 54 (0, 0) b).trans rfl⟩)
      clear hk0 hen
      cases f with
      | false =>
        clear HSk
        have hS0 : Below V.heap.size V V.drew := (Below.refl _ _).drew
        refine wp_region_noPanic ?_
        refine wp_region_held_drew (S := fun w' => Below V.heap.size V w') (by kernel_rfl) hS0 (fun _ => ?_)
        refine wpAnyH_take (i := 0) (oi := ⟨some 26, Op.move (Operand.tmp 10), 4, _, _, none⟩) (v := ?vn0) rfl (by kernel_rfl) (by kernel_rfl) (by kernel_rfl) (fun _ _ _ h => h) (Or.inl ⟨by rfl, ?hn0⟩) hS0 ?rn0
        case hn0 => (intro wz hSw; go_simp <;> with_reducible rfl)
        (try simp only [Act.put, List.setIfInBounds_toArray, List.set_cons_zero, List.set_cons_succ])
        refine wpAnyH_take (i := 1) (oi := ⟨some 27, Op.move (Operand.tmp 26), 4, _, _, none⟩) (v := ?vn1) rfl (by kernel_rfl) (by kernel_rfl) (by kernel_rfl) (fun _ _ _ h => h) (Or.inl ⟨by rfl, ?hn1⟩) hS0 ?rn1
        case hn1 => (intro wz hSw; go_simp <;> with_reducible rfl)
        (try simp only [Act.put, List.setIfInBounds_toArray, List.set_cons_zero, List.set_cons_succ])
        refine wpAnyH_take (i := 2) (oi := ⟨some 28, Op.load 32 (Operand.tmp 4), 32, _, _, some (1, true)⟩) (v := undef) rfl (by kernel_rfl) (by kernel_rfl) (by kernel_rfl) (fun _ _ _ h => h) (Or.inr ⟨by rfl, rfl⟩) hS0 ?rn2
        (try simp only [Act.put, List.setIfInBounds_toArray, List.set_cons_zero, List.set_cons_succ])
        refine wpAnyH_take (i := 3) (oi := ⟨some 29, Op.load 54 (Operand.tmp 11), 54, _, _, some (1, true)⟩) (v := undef) rfl (by kernel_rfl) (by kernel_rfl) (by kernel_rfl) (fun _ _ _ h => h) (Or.inr ⟨by rfl, rfl⟩) hS0 ?rn3
        (try simp only [Act.put, List.setIfInBounds_toArray, List.set_cons_zero, List.set_cons_succ])
        refine wpAnyH_take (i := 4) (oi := ⟨some 30, Op.load 32 (Operand.tmp 4), 32, _, _, some (1, true)⟩) (v := undef) rfl (by kernel_rfl) (by kernel_rfl) (by kernel_rfl) (fun _ _ _ h => h) (Or.inr ⟨by rfl, rfl⟩) hS0 ?rn4
        (try simp only [Act.put, List.setIfInBounds_toArray, List.set_cons_zero, List.set_cons_succ])
        refine wpAnyH_take (i := 5) (oi := ⟨some 31, Op.call { callee := Callee.value (Operand.func 24), args := #[Operand.tmp 29, Operand.tmp 30], argTypes := #[54, 32] }, 32, _, _, some (1, true)⟩) (v := undef) rfl (by kernel_rfl) (by kernel_rfl) (by kernel_rfl) (fun _ _ _ h => h) (Or.inr ⟨by rfl, rfl⟩) hS0 ?rn5
        (try simp only [Act.put, List.setIfInBounds_toArray, List.set_cons_zero, List.set_cons_succ])
        refine wpAnyH_take (i := 6) (oi := ⟨some 32, Op.call { callee := Callee.value (Operand.func 23), args := #[Operand.tmp 28, Operand.tmp 31], argTypes := #[32, 32] }, 3, _, _, some (1, true)⟩) (v := undef) rfl (by kernel_rfl) (by kernel_rfl) (by kernel_rfl) (fun _ _ _ h => h) (Or.inr ⟨by rfl, rfl⟩) hS0 ?rn6
        (try simp only [Act.put, List.setIfInBounds_toArray, List.set_cons_zero, List.set_cons_succ])
        refine wpAnyH_take (i := 7) (oi := ⟨some 33, Op.move (Operand.tmp 9), 3, _, _, some (1, true)⟩) (v := undef) rfl (by kernel_rfl) (by kernel_rfl) (by kernel_rfl) (fun _ _ _ h => h) (Or.inr ⟨by rfl, rfl⟩) hS0 ?rn7
        (try simp only [Act.put, List.setIfInBounds_toArray, List.set_cons_zero, List.set_cons_succ])
        refine wpAnyH_take (i := 8) (oi := ⟨some 34, Op.binOp BinOp.gtr 3 (Operand.tmp 32) (Operand.tmp 33) 3, 4, _, _, some (1, true)⟩) (v := undef) rfl (by kernel_rfl) (by kernel_rfl) (by kernel_rfl) (fun _ _ _ h => h) (Or.inr ⟨by rfl, rfl⟩) hS0 ?rn8
        (try simp only [Act.put, List.setIfInBounds_toArray, List.set_cons_zero, List.set_cons_succ])
        refine wpAnyH_take (i := 9) (oi := ⟨some 35, Op.pick (Operand.tmp 27) (Operand.tmp 34) (Operand.const (Value.bool false)), 4, _, _, none⟩) (v := ?vn9) rfl (by kernel_rfl) (by kernel_rfl) (by kernel_rfl) (fun _ _ _ h => h) (Or.inl ⟨by rfl, ?hn9⟩) hS0 ?rn9
        case hn9 => (intro wz hSw; go_simp <;> with_reducible rfl)
        (try simp only [Act.put, List.setIfInBounds_toArray, List.set_cons_zero, List.set_cons_succ])
        refine wpAnyH_done (by kernel_rfl) ?_ _
        refine NoPanic.normal ?_
        have HV := Lib.hid hS0
        generalize hv9 : V.drew = V2 at HV ⊢
        clear hv9
        have HO4 := Lib.hid (HO3.out.step HV.out)
        clear HO3 HC
        obtain ⟨D, hI⟩ := HIn.out
        have hlo := HH.out.low b hI.s
        have hownI := own_keep hI.own (HO4.out.bel.block b hlo)
        have HAt := Lib.hid hI.at'
        go_wp2_with (at_range; refine wpList_range_own _ rfl _ 55 rfl 3 32 kInt Try.underlying55 Rt b N D rfl hownI ?_; intro w5 hrg5 hg5 hs5)
        go_frame
        have hrb : w.heap.size + 2 ≤ V2.heap.size := HO4.out.lt
        have HNI : Hid (NI w w5 N cb b V2.heap.size Dc D px py _ cnt2 _ _ none 0 []) := Lib.hid ⟨HO4.out.turn hcb hg5 (fun k hk => by cases hk), hrg5, World.ownsRow_nil _ _ _ _, hrb, hlo, hcb⟩
        clear hrg5 hg5 hs5 hownI HO4 HV
        generalize V2.heap.size = rb at *
        have HPs : Hid (Best L px py nt (cameC left (Maps.has D) (ck kc kr)) false d k) := Lib.hid (HP.out.congr (cameC_start (fun t ht e => by
          have ho := HH.out.good.ok t ht
          obtain ⟨e1, e2⟩ := ck_inj (sd_div ho.2.1).fits (sd_div ho.2.2).fits hkc.fits hkr.fits e
          have := HAt.out t.id
          rw [lk_of HH.out.good ht rfl] at this
          simp [e1, e2] at this
          exact (look_some this).1)))
        go_loopw [8, 9, 10] (fun s8 s9 s10 wq => ∃ (left2 : Lit → Bool) (cnt3 : Nat) (f : Bool) (d k : Int), s8 = .int .i64 k ∧ s9 = .int .i64 d ∧ s10 = .bool f ∧ Hid (NI w wq N cb b rb Dc D px py (fun z => left z && !z.sameKey (ck kc kr)) cnt2 left2 cnt3 none 0 []) ∧ Hid (Best L px py nt (cameC left left2 (ck kc kr)) f d k)) (fun _ _ _ wq => wq.rangeLeft b rb)
        case atStart => exact ⟨_, _, false, d, k, rfl, rfl, rfl, HNI, HPs⟩
        case round =>
          clear HNI HPs HP
          obtain ⟨left2, cnt3, f, d, k, rfl, rfl, rfl, HNI, HP⟩ := hrel
          have hrgI := HNI.out.i
          go_wp2_with (first | (at_next; refine next_unit _ rfl _ rfl HAt.out rfl hrgI ?_ ?_) | go_in)
          · intro hl0
            go_wp2
            go_roundw
            case rel => exact ⟨_, _, f, d, k, rfl, rfl, rfl, Lib.hid HNI.out.o, Lib.hid (HP.out.congr (fun t _ => cameC_end hl0 t))⟩
            case measure => rw [HNI.out.o.rg.left_eq, hlast]; exact hlt
          · intro t w6 cnt6 htL htx hty hlk2 hrg6 hlt6 hg6 hs6 hen6
            have hNI6 := HNI.out.next hg6 hrg6
            have hlast3 := hrgI.left_eq
            have hbA : Below w6.heap.size w6 (w6.alloc (.cells #[.int .i64 t.x, .int .i64 t.y] 32)) := (Below.refl _ _).alloc (Nat.le_refl _) _
            have HNI7 := Lib.hid (hNI6.step hbA)
            have ho := HH.out.good.ok t htL
            have ftx : Fits t.x := by have := ho.2.1; unfold Fits; omega
            have fty : Fits t.y := by have := ho.2.2; unfold Fits; omega
            have HV' := Lib.hid (cameC_step HH.out.good (left := left) (left2 := left2) htL (show ckU t = ck kc kr by unfold ckU; rw [htx, hty]))
            obtain ⟨dt, hdt⟩ : ∃ dt, dist px py t = dt := ⟨_, rfl⟩
            have HN3 : Hid (∀ V', Calls Try.prog 23 #[pv px py, pv t.x t.y] V' fun e w' => e = .returned (.int .i64 dt) ∧ Below V'.heap.size V' w') := Lib.hid (fun V' => by rw [← hdt]; exact square_any px py t.x t.y V' f1 f2 ftx fty)
            have HSkip := Lib.hid (fun hu : t.id = nt => HP.out.skip HV'.out hu)
            have HTake := Lib.hid (fun (hu : t.id ≠ nt) hb => HP.out.take HH.out.good htL HV'.out hu hb)
            have HLeave := Lib.hid (fun (hf : f = true) hb => (show Best L px py nt (cameC left left2 (ck kc kr)) true d k from hf ▸ HP.out).leave HH.out.good htL HV'.out hb)
            rw [hdt] at HTake HLeave
            have c0 := HNI7.out.o.c0
            have c1 := HNI7.out.o.c1
            have hbxl : w.heap.size < w6.heap.size := by have := hNI6.o.lt; omega
            clear hrg6 hg6 hs6 hNI6 hbA HNI hrgI HP hdt ho HV'
            generalize t.x = tx at *
            generalize t.y = ty at *
            generalize t.id = ti at *
            by_cases hn : ti = nt
            · have hnn : (ti == nt) = true := by simpa using hn
              have HB2 := Lib.hid (HSkip.out hn)
              clear hn HSkip HTake HLeave
              go_wp2
              go_roundw
              case rel => first | exact ⟨_, cnt6, f, d, k, rfl, rfl, rfl, HNI7, HB2⟩ | (repeat (first | (exact ⟨⟨_, cnt6, f, d, k, rfl, rfl, rfl, HNI7, HB2⟩, rfl⟩) | (refine ⟨_, ?_⟩)))
              case measure => rw [HNI7.out.i.left_eq, hlast3]; exact hlt6
            · have hnn : (ti == nt) = false := by simpa using hn
              cases f with
              | false =>
                have HB2 := Lib.hid (HTake.out hn (.inl rfl))
                clear hn HSkip HTake HLeave
                go_wp2_with ((with_reducible refine (HN3.out _).mono ?_); rintro e w8 ⟨rfl, hB8⟩; have HNI8 := Lib.hid (HNI7.out.step hB8); clear hB8)
                go_roundw
                case rel => first | exact ⟨_, cnt6, true, dt, ti, rfl, rfl, rfl, HNI8, HB2⟩ | (repeat (first | (exact ⟨⟨_, cnt6, true, dt, ti, rfl, rfl, rfl, HNI8, HB2⟩, rfl⟩) | (refine ⟨_, ?_⟩)))
                case measure => rw [HNI8.out.i.left_eq, hlast3]; exact hlt6
              | true =>
                by_cases hd : dt < d
                · have hdd : decide (dt < d) = true := by simpa using hd
                  have HB2 := Lib.hid (HTake.out hn (.inr (.inl hd)))
                  clear hn HSkip HTake HLeave hd
                  go_wp2_with ((with_reducible refine (HN3.out _).mono ?_); rintro e w8 ⟨rfl, hB8⟩; have HNI8 := Lib.hid (HNI7.out.step hB8); clear hB8)
                  go_roundw
                  case rel => first | exact ⟨_, cnt6, true, dt, ti, rfl, rfl, rfl, HNI8, HB2⟩ | (repeat (first | (exact ⟨⟨_, cnt6, true, dt, ti, rfl, rfl, rfl, HNI8, HB2⟩, rfl⟩) | (refine ⟨_, ?_⟩)))
                  case measure => rw [HNI8.out.i.left_eq, hlast3]; exact hlt6
                · have hdd : decide (dt < d) = false := by simpa using hd
                  by_cases he : dt = d
                  · have hee : (dt == d) = true := by simpa using he
                    by_cases hk : ti < k
                    · have hkk : decide (ti < k) = true := by simpa using hk
                      have HB2 := Lib.hid (HTake.out hn (.inr (.inr ⟨he, hk⟩)))
                      clear hn HSkip HTake HLeave hd he hk
                      go_wp2_with ((with_reducible refine (HN3.out _).mono ?_); rintro e w8 ⟨rfl, hB8⟩; have HNI8 := Lib.hid (HNI7.out.step hB8); clear hB8)
                      go_roundw
                      case rel => first | exact ⟨_, cnt6, true, dt, ti, rfl, rfl, rfl, HNI8, HB2⟩ | (repeat (first | (exact ⟨⟨_, cnt6, true, dt, ti, rfl, rfl, rfl, HNI8, HB2⟩, rfl⟩) | (refine ⟨_, ?_⟩)))
                      case measure => rw [HNI8.out.i.left_eq, hlast3]; exact hlt6
                    · have hkk : decide (ti < k) = false := by simpa using hk
                      have HB2 := Lib.hid (HLeave.out rfl (fun hh => by rcases hh with hh | hh; exact hd hh; exact hk hh.2))
                      clear hn HSkip HTake HLeave hd he hk
                      go_wp2_with ((with_reducible refine (HN3.out _).mono ?_); rintro e w8 ⟨rfl, hB8⟩; have HNI8 := Lib.hid (HNI7.out.step hB8); clear hB8)
                      go_roundw
                      case rel => first | exact ⟨_, cnt6, true, d, k, rfl, rfl, rfl, HNI8, HB2⟩ | (repeat (first | (exact ⟨⟨_, cnt6, true, d, k, rfl, rfl, rfl, HNI8, HB2⟩, rfl⟩) | (refine ⟨_, ?_⟩)))
                      case measure => rw [HNI8.out.i.left_eq, hlast3]; exact hlt6
                  · have hee : (dt == d) = false := by simpa using he
                    have HB2 := Lib.hid (HLeave.out rfl (fun hh => by rcases hh with hh | hh; exact hd hh; exact he hh.1))
                    clear hn HSkip HTake HLeave hd he
                    go_wp2_with ((with_reducible refine (HN3.out _).mono ?_); rintro e w8 ⟨rfl, hB8⟩; have HNI8 := Lib.hid (HNI7.out.step hB8); clear hB8)
                    go_roundw
                    case rel => first | exact ⟨_, cnt6, true, d, k, rfl, rfl, rfl, HNI8, HB2⟩ | (repeat (first | (exact ⟨⟨_, cnt6, true, d, k, rfl, rfl, rfl, HNI8, HB2⟩, rfl⟩) | (refine ⟨_, ?_⟩)))
                    case measure => rw [HNI8.out.i.left_eq, hlast3]; exact hlt6
      | true =>
        by_cases hgt : sq > d
        · have hgd : decide (sq > d) = true := by simpa using hgt
          have HSf := Lib.hid (HSk.out rfl hgt)
          clear HSk hgt
          have hS0 : Below V.heap.size V V.drew := (Below.refl _ _).drew
          refine wp_region_noPanic ?_
          refine wp_region_held_drew (S := fun w' => Below V.heap.size V w') (by kernel_rfl) hS0 (fun _ => ?_)
          refine wpAnyH_take (i := 0) (oi := ⟨some 26, Op.move (Operand.tmp 10), 4, _, _, none⟩) (v := ?vy0) rfl (by kernel_rfl) (by kernel_rfl) (by kernel_rfl) (fun _ _ _ h => h) (Or.inl ⟨by rfl, ?hy0⟩) hS0 ?ry0
          case hy0 => (intro wz hSw; go_simp <;> with_reducible rfl)
          (try simp only [Act.put, List.setIfInBounds_toArray, List.set_cons_zero, List.set_cons_succ])
          refine wpAnyH_take (i := 1) (oi := ⟨some 27, Op.move (Operand.tmp 26), 4, _, _, none⟩) (v := ?vy1) rfl (by kernel_rfl) (by kernel_rfl) (by kernel_rfl) (fun _ _ _ h => h) (Or.inl ⟨by rfl, ?hy1⟩) hS0 ?ry1
          case hy1 => (intro wz hSw; go_simp <;> with_reducible rfl)
          (try simp only [Act.put, List.setIfInBounds_toArray, List.set_cons_zero, List.set_cons_succ])
          refine wpAnyH_take (i := 2) (oi := ⟨some 28, Op.load 32 (Operand.tmp 4), 32, _, _, some (1, true)⟩) (v := ?vy2) rfl (by kernel_rfl) (by kernel_rfl) (by kernel_rfl) (fun _ _ _ h => h) (Or.inl ⟨by rfl, ?hy2⟩) hS0 ?ry2
          case hy2 => (intro wz hSw; obtain ⟨c0, c1, k0, k1⟩ := HC.out wz hSw; go_simp <;> with_reducible rfl)
          (try simp only [Act.put, List.setIfInBounds_toArray, List.set_cons_zero, List.set_cons_succ])
          refine wpAnyH_take (i := 3) (oi := ⟨some 29, Op.load 54 (Operand.tmp 11), 54, _, _, some (1, true)⟩) (v := ?vy3) rfl (by kernel_rfl) (by kernel_rfl) (by kernel_rfl) (fun _ _ _ h => h) (Or.inl ⟨by rfl, ?hy3⟩) hS0 ?ry3
          case hy3 => (intro wz hSw; obtain ⟨c0, c1, k0, k1⟩ := HC.out wz hSw; go_simp <;> with_reducible rfl)
          (try simp only [Act.put, List.setIfInBounds_toArray, List.set_cons_zero, List.set_cons_succ])
          refine wpAnyH_take (i := 4) (oi := ⟨some 30, Op.load 32 (Operand.tmp 4), 32, _, _, some (1, true)⟩) (v := ?vy4) rfl (by kernel_rfl) (by kernel_rfl) (by kernel_rfl) (fun _ _ _ h => h) (Or.inl ⟨by rfl, ?hy4⟩) hS0 ?ry4
          case hy4 => (intro wz hSw; obtain ⟨c0, c1, k0, k1⟩ := HC.out wz hSw; go_simp <;> with_reducible rfl)
          (try simp only [Act.put, List.setIfInBounds_toArray, List.set_cons_zero, List.set_cons_succ])
          refine wpAnyH_take (i := 7) (oi := ⟨some 33, Op.move (Operand.tmp 9), 3, _, _, some (1, true)⟩) (v := ?vy7) rfl (by kernel_rfl) (by kernel_rfl) (by kernel_rfl) (fun _ _ _ h => h) (Or.inl ⟨by rfl, ?hy7⟩) hS0 ?ry7
          case hy7 => (intro wz hSw; go_simp <;> with_reducible rfl)
          (try simp only [Act.put, List.setIfInBounds_toArray, List.set_cons_zero, List.set_cons_succ])
          refine wpAnyH_ready (rs := [5]) (by kernel_rfl) (by simp) ?_
          refine AllReadyH.cons (o := ⟨some 31, Op.call { callee := Callee.value (Operand.func 24), args := #[Operand.tmp 29, Operand.tmp 30], argTypes := #[54, 32] }, 32, _, _, some (1, true)⟩) rfl (fun K hK => ?_) AllReadyH.nil
          go_simp
          (with_reducible refine (HN1.out _).mono ?_); rintro e v1 ⟨rfl, hB1⟩; have hS1 := hS0.trans (hB1.mono hS0.size)
          refine hK.out _ _ hS1 (fun _ => ?_)
          clear hK K
          (try simp only [Act.put, List.setIfInBounds_toArray, List.set_cons_zero, List.set_cons_succ])
          refine wpAnyH_ready (rs := [6]) (by kernel_rfl) (by simp) ?_
          refine AllReadyH.cons (o := ⟨some 32, Op.call { callee := Callee.value (Operand.func 23), args := #[Operand.tmp 28, Operand.tmp 31], argTypes := #[32, 32] }, 3, _, _, some (1, true)⟩) rfl (fun K hK => ?_) AllReadyH.nil
          go_simp
          (with_reducible refine (HN2.out _).mono ?_); rintro e v2 ⟨rfl, hB2⟩; have hS2 := hS1.trans (hB2.mono hS1.size)
          refine hK.out _ _ hS2 (fun _ => ?_)
          clear hK K
          (try simp only [Act.put, List.setIfInBounds_toArray, List.set_cons_zero, List.set_cons_succ])
          refine wpAnyH_take (i := 8) (oi := ⟨some 34, Op.binOp BinOp.gtr 3 (Operand.tmp 32) (Operand.tmp 33) 3, 4, _, _, some (1, true)⟩) (v := ?vy8) rfl (by kernel_rfl) (by kernel_rfl) (by kernel_rfl) (fun _ _ _ h => h) (Or.inl ⟨by rfl, ?hy8⟩) hS2 ?ry8
          case hy8 => (intro wz hSw; go_simp <;> with_reducible rfl)
          (try simp only [Act.put, List.setIfInBounds_toArray, List.set_cons_zero, List.set_cons_succ])
          refine wpAnyH_take (i := 9) (oi := ⟨some 35, Op.pick (Operand.tmp 27) (Operand.tmp 34) (Operand.const (Value.bool false)), 4, _, _, none⟩) (v := ?vy9) rfl (by kernel_rfl) (by kernel_rfl) (by kernel_rfl) (fun _ _ _ h => h) (Or.inl ⟨by rfl, ?hy9⟩) hS2 ?ry9
          case hy9 => (intro wz hSw; go_simp <;> with_reducible rfl)
          (try simp only [Act.put, List.setIfInBounds_toArray, List.set_cons_zero, List.set_cons_succ])
          refine wpAnyH_done (by kernel_rfl) ?_ _
          refine NoPanic.normal ?_
          have HV := Lib.hid hS2
          generalize hv9 : v2 = V2 at HV ⊢
          clear hv9
          have HO4 := Lib.hid (HO3.out.step HV.out)
          clear HO3 HC
          go_wp2
          go_roundw
          case rel => exact ⟨_, _, true, d, k, rfl, rfl, rfl, HO4, HSf⟩
          case measure => rw [HO4.out.rg.left_eq, hlast]; exact hlt
        · have hgd : decide (sq > d) = false := by simpa using hgt
          clear HSk hgt
          have hS0 : Below V.heap.size V V.drew := (Below.refl _ _).drew
          refine wp_region_noPanic ?_
          refine wp_region_held_drew (S := fun w' => Below V.heap.size V w') (by kernel_rfl) hS0 (fun _ => ?_)
          refine wpAnyH_take (i := 0) (oi := ⟨some 26, Op.move (Operand.tmp 10), 4, _, _, none⟩) (v := ?vz0) rfl (by kernel_rfl) (by kernel_rfl) (by kernel_rfl) (fun _ _ _ h => h) (Or.inl ⟨by rfl, ?hz0⟩) hS0 ?rz0
          case hz0 => (intro wz hSw; go_simp <;> with_reducible rfl)
          (try simp only [Act.put, List.setIfInBounds_toArray, List.set_cons_zero, List.set_cons_succ])
          refine wpAnyH_take (i := 1) (oi := ⟨some 27, Op.move (Operand.tmp 26), 4, _, _, none⟩) (v := ?vz1) rfl (by kernel_rfl) (by kernel_rfl) (by kernel_rfl) (fun _ _ _ h => h) (Or.inl ⟨by rfl, ?hz1⟩) hS0 ?rz1
          case hz1 => (intro wz hSw; go_simp <;> with_reducible rfl)
          (try simp only [Act.put, List.setIfInBounds_toArray, List.set_cons_zero, List.set_cons_succ])
          refine wpAnyH_take (i := 2) (oi := ⟨some 28, Op.load 32 (Operand.tmp 4), 32, _, _, some (1, true)⟩) (v := ?vz2) rfl (by kernel_rfl) (by kernel_rfl) (by kernel_rfl) (fun _ _ _ h => h) (Or.inl ⟨by rfl, ?hz2⟩) hS0 ?rz2
          case hz2 => (intro wz hSw; obtain ⟨c0, c1, k0, k1⟩ := HC.out wz hSw; go_simp <;> with_reducible rfl)
          (try simp only [Act.put, List.setIfInBounds_toArray, List.set_cons_zero, List.set_cons_succ])
          refine wpAnyH_take (i := 3) (oi := ⟨some 29, Op.load 54 (Operand.tmp 11), 54, _, _, some (1, true)⟩) (v := ?vz3) rfl (by kernel_rfl) (by kernel_rfl) (by kernel_rfl) (fun _ _ _ h => h) (Or.inl ⟨by rfl, ?hz3⟩) hS0 ?rz3
          case hz3 => (intro wz hSw; obtain ⟨c0, c1, k0, k1⟩ := HC.out wz hSw; go_simp <;> with_reducible rfl)
          (try simp only [Act.put, List.setIfInBounds_toArray, List.set_cons_zero, List.set_cons_succ])
          refine wpAnyH_take (i := 4) (oi := ⟨some 30, Op.load 32 (Operand.tmp 4), 32, _, _, some (1, true)⟩) (v := ?vz4) rfl (by kernel_rfl) (by kernel_rfl) (by kernel_rfl) (fun _ _ _ h => h) (Or.inl ⟨by rfl, ?hz4⟩) hS0 ?rz4
          case hz4 => (intro wz hSw; obtain ⟨c0, c1, k0, k1⟩ := HC.out wz hSw; go_simp <;> with_reducible rfl)
          (try simp only [Act.put, List.setIfInBounds_toArray, List.set_cons_zero, List.set_cons_succ])
          refine wpAnyH_take (i := 7) (oi := ⟨some 33, Op.move (Operand.tmp 9), 3, _, _, some (1, true)⟩) (v := ?vz7) rfl (by kernel_rfl) (by kernel_rfl) (by kernel_rfl) (fun _ _ _ h => h) (Or.inl ⟨by rfl, ?hz7⟩) hS0 ?rz7
          case hz7 => (intro wz hSw; go_simp <;> with_reducible rfl)
          (try simp only [Act.put, List.setIfInBounds_toArray, List.set_cons_zero, List.set_cons_succ])
          refine wpAnyH_ready (rs := [5]) (by kernel_rfl) (by simp) ?_
          refine AllReadyH.cons (o := ⟨some 31, Op.call { callee := Callee.value (Operand.func 24), args := #[Operand.tmp 29, Operand.tmp 30], argTypes := #[54, 32] }, 32, _, _, some (1, true)⟩) rfl (fun K hK => ?_) AllReadyH.nil
          go_simp
          (with_reducible refine (HN1.out _).mono ?_); rintro e v1 ⟨rfl, hB1⟩; have hS1 := hS0.trans (hB1.mono hS0.size)
          refine hK.out _ _ hS1 (fun _ => ?_)
          clear hK K
          (try simp only [Act.put, List.setIfInBounds_toArray, List.set_cons_zero, List.set_cons_succ])
          refine wpAnyH_ready (rs := [6]) (by kernel_rfl) (by simp) ?_
          refine AllReadyH.cons (o := ⟨some 32, Op.call { callee := Callee.value (Operand.func 23), args := #[Operand.tmp 28, Operand.tmp 31], argTypes := #[32, 32] }, 3, _, _, some (1, true)⟩) rfl (fun K hK => ?_) AllReadyH.nil
          go_simp
          (with_reducible refine (HN2.out _).mono ?_); rintro e v2 ⟨rfl, hB2⟩; have hS2 := hS1.trans (hB2.mono hS1.size)
          refine hK.out _ _ hS2 (fun _ => ?_)
          clear hK K
          (try simp only [Act.put, List.setIfInBounds_toArray, List.set_cons_zero, List.set_cons_succ])
          refine wpAnyH_take (i := 8) (oi := ⟨some 34, Op.binOp BinOp.gtr 3 (Operand.tmp 32) (Operand.tmp 33) 3, 4, _, _, some (1, true)⟩) (v := ?vz8) rfl (by kernel_rfl) (by kernel_rfl) (by kernel_rfl) (fun _ _ _ h => h) (Or.inl ⟨by rfl, ?hz8⟩) hS2 ?rz8
          case hz8 => (intro wz hSw; go_simp <;> with_reducible rfl)
          (try simp only [Act.put, List.setIfInBounds_toArray, List.set_cons_zero, List.set_cons_succ])
          refine wpAnyH_take (i := 9) (oi := ⟨some 35, Op.pick (Operand.tmp 27) (Operand.tmp 34) (Operand.const (Value.bool false)), 4, _, _, none⟩) (v := ?vz9) rfl (by kernel_rfl) (by kernel_rfl) (by kernel_rfl) (fun _ _ _ h => h) (Or.inl ⟨by rfl, ?hz9⟩) hS2 ?rz9
          case hz9 => (intro wz hSw; go_simp <;> with_reducible rfl)
          (try simp only [Act.put, List.setIfInBounds_toArray, List.set_cons_zero, List.set_cons_succ])
          refine wpAnyH_done (by kernel_rfl) ?_ _
          refine NoPanic.normal ?_
          have HV := Lib.hid hS2
          generalize hv9 : v2 = V2 at HV ⊢
          clear hv9
          have HO4 := Lib.hid (HO3.out.step HV.out)
          clear HO3 HC
          obtain ⟨D, hI⟩ := HIn.out
          have hlo := HH.out.low b hI.s
          have hownI := own_keep hI.own (HO4.out.bel.block b hlo)
          have HAt := Lib.hid hI.at'
          go_wp2_with (at_range; refine wpList_range_own _ rfl _ 55 rfl 3 32 kInt Try.underlying55 Rt b N D rfl hownI ?_; intro w5 hrg5 hg5 hs5)
          go_frame
          have hrb : w.heap.size + 2 ≤ V2.heap.size := HO4.out.lt
          have HNI : Hid (NI w w5 N cb b V2.heap.size Dc D px py _ cnt2 _ _ none 0 []) := Lib.hid ⟨HO4.out.turn hcb hg5 (fun k hk => by cases hk), hrg5, World.ownsRow_nil _ _ _ _, hrb, hlo, hcb⟩
          clear hrg5 hg5 hs5 hownI HO4 HV
          generalize V2.heap.size = rb at *
          have HPs : Hid (Best L px py nt (cameC left (Maps.has D) (ck kc kr)) true d k) := Lib.hid (HP.out.congr (cameC_start (fun t ht e => by
            have ho := HH.out.good.ok t ht
            obtain ⟨e1, e2⟩ := ck_inj (sd_div ho.2.1).fits (sd_div ho.2.2).fits hkc.fits hkr.fits e
            have := HAt.out t.id
            rw [lk_of HH.out.good ht rfl] at this
            simp [e1, e2] at this
            exact (look_some this).1)))
          go_loopw [8, 9, 10] (fun s8 s9 s10 wq => ∃ (left2 : Lit → Bool) (cnt3 : Nat) (f : Bool) (d k : Int), s8 = .int .i64 k ∧ s9 = .int .i64 d ∧ s10 = .bool f ∧ Hid (NI w wq N cb b rb Dc D px py (fun z => left z && !z.sameKey (ck kc kr)) cnt2 left2 cnt3 none 0 []) ∧ Hid (Best L px py nt (cameC left left2 (ck kc kr)) f d k)) (fun _ _ _ wq => wq.rangeLeft b rb)
          case atStart => exact ⟨_, _, true, d, k, rfl, rfl, rfl, HNI, HPs⟩
          case round =>
            clear HNI HPs HP
            obtain ⟨left2, cnt3, f, d, k, rfl, rfl, rfl, HNI, HP⟩ := hrel
            have hrgI := HNI.out.i
            go_wp2_with (first | (at_next; refine next_unit _ rfl _ rfl HAt.out rfl hrgI ?_ ?_) | go_in)
            · intro hl0
              go_wp2
              go_roundw
              case rel => exact ⟨_, _, f, d, k, rfl, rfl, rfl, Lib.hid HNI.out.o, Lib.hid (HP.out.congr (fun t _ => cameC_end hl0 t))⟩
              case measure => rw [HNI.out.o.rg.left_eq, hlast]; exact hlt
            · intro t w6 cnt6 htL htx hty hlk2 hrg6 hlt6 hg6 hs6 hen6
              have hNI6 := HNI.out.next hg6 hrg6
              have hlast3 := hrgI.left_eq
              have hbA : Below w6.heap.size w6 (w6.alloc (.cells #[.int .i64 t.x, .int .i64 t.y] 32)) := (Below.refl _ _).alloc (Nat.le_refl _) _
              have HNI7 := Lib.hid (hNI6.step hbA)
              have ho := HH.out.good.ok t htL
              have ftx : Fits t.x := by have := ho.2.1; unfold Fits; omega
              have fty : Fits t.y := by have := ho.2.2; unfold Fits; omega
              have HV' := Lib.hid (cameC_step HH.out.good (left := left) (left2 := left2) htL (show ckU t = ck kc kr by unfold ckU; rw [htx, hty]))
              obtain ⟨dt, hdt⟩ : ∃ dt, dist px py t = dt := ⟨_, rfl⟩
              have HN3 : Hid (∀ V', Calls Try.prog 23 #[pv px py, pv t.x t.y] V' fun e w' => e = .returned (.int .i64 dt) ∧ Below V'.heap.size V' w') := Lib.hid (fun V' => by rw [← hdt]; exact square_any px py t.x t.y V' f1 f2 ftx fty)
              have HSkip := Lib.hid (fun hu : t.id = nt => HP.out.skip HV'.out hu)
              have HTake := Lib.hid (fun (hu : t.id ≠ nt) hb => HP.out.take HH.out.good htL HV'.out hu hb)
              have HLeave := Lib.hid (fun (hf : f = true) hb => (show Best L px py nt (cameC left left2 (ck kc kr)) true d k from hf ▸ HP.out).leave HH.out.good htL HV'.out hb)
              rw [hdt] at HTake HLeave
              have c0 := HNI7.out.o.c0
              have c1 := HNI7.out.o.c1
              have hbxl : w.heap.size < w6.heap.size := by have := hNI6.o.lt; omega
              clear hrg6 hg6 hs6 hNI6 hbA HNI hrgI HP hdt ho HV'
              generalize t.x = tx at *
              generalize t.y = ty at *
              generalize t.id = ti at *
              by_cases hn : ti = nt
              · have hnn : (ti == nt) = true := by simpa using hn
                have HB2 := Lib.hid (HSkip.out hn)
                clear hn HSkip HTake HLeave
                go_wp2
                go_roundw
                case rel => first | exact ⟨_, cnt6, f, d, k, rfl, rfl, rfl, HNI7, HB2⟩ | (repeat (first | (exact ⟨⟨_, cnt6, f, d, k, rfl, rfl, rfl, HNI7, HB2⟩, rfl⟩) | (refine ⟨_, ?_⟩)))
                case measure => rw [HNI7.out.i.left_eq, hlast3]; exact hlt6
              · have hnn : (ti == nt) = false := by simpa using hn
                cases f with
                | false =>
                  have HB2 := Lib.hid (HTake.out hn (.inl rfl))
                  clear hn HSkip HTake HLeave
                  go_wp2_with ((with_reducible refine (HN3.out _).mono ?_); rintro e w8 ⟨rfl, hB8⟩; have HNI8 := Lib.hid (HNI7.out.step hB8); clear hB8)
                  go_roundw
                  case rel => first | exact ⟨_, cnt6, true, dt, ti, rfl, rfl, rfl, HNI8, HB2⟩ | (repeat (first | (exact ⟨⟨_, cnt6, true, dt, ti, rfl, rfl, rfl, HNI8, HB2⟩, rfl⟩) | (refine ⟨_, ?_⟩)))
                  case measure => rw [HNI8.out.i.left_eq, hlast3]; exact hlt6
                | true =>
                  by_cases hd : dt < d
                  · have hdd : decide (dt < d) = true := by simpa using hd
                    have HB2 := Lib.hid (HTake.out hn (.inr (.inl hd)))
                    clear hn HSkip HTake HLeave hd
                    go_wp2_with ((with_reducible refine (HN3.out _).mono ?_); rintro e w8 ⟨rfl, hB8⟩; have HNI8 := Lib.hid (HNI7.out.step hB8); clear hB8)
                    go_roundw
                    case rel => first | exact ⟨_, cnt6, true, dt, ti, rfl, rfl, rfl, HNI8, HB2⟩ | (repeat (first | (exact ⟨⟨_, cnt6, true, dt, ti, rfl, rfl, rfl, HNI8, HB2⟩, rfl⟩) | (refine ⟨_, ?_⟩)))
                    case measure => rw [HNI8.out.i.left_eq, hlast3]; exact hlt6
                  · have hdd : decide (dt < d) = false := by simpa using hd
                    by_cases he : dt = d
                    · have hee : (dt == d) = true := by simpa using he
                      by_cases hk : ti < k
                      · have hkk : decide (ti < k) = true := by simpa using hk
                        have HB2 := Lib.hid (HTake.out hn (.inr (.inr ⟨he, hk⟩)))
                        clear hn HSkip HTake HLeave hd he hk
                        go_wp2_with ((with_reducible refine (HN3.out _).mono ?_); rintro e w8 ⟨rfl, hB8⟩; have HNI8 := Lib.hid (HNI7.out.step hB8); clear hB8)
                        go_roundw
                        case rel => first | exact ⟨_, cnt6, true, dt, ti, rfl, rfl, rfl, HNI8, HB2⟩ | (repeat (first | (exact ⟨⟨_, cnt6, true, dt, ti, rfl, rfl, rfl, HNI8, HB2⟩, rfl⟩) | (refine ⟨_, ?_⟩)))
                        case measure => rw [HNI8.out.i.left_eq, hlast3]; exact hlt6
                      · have hkk : decide (ti < k) = false := by simpa using hk
                        have HB2 := Lib.hid (HLeave.out rfl (fun hh => by rcases hh with hh | hh; exact hd hh; exact hk hh.2))
                        clear hn HSkip HTake HLeave hd he hk
                        go_wp2_with ((with_reducible refine (HN3.out _).mono ?_); rintro e w8 ⟨rfl, hB8⟩; have HNI8 := Lib.hid (HNI7.out.step hB8); clear hB8)
                        go_roundw
                        case rel => first | exact ⟨_, cnt6, true, d, k, rfl, rfl, rfl, HNI8, HB2⟩ | (repeat (first | (exact ⟨⟨_, cnt6, true, d, k, rfl, rfl, rfl, HNI8, HB2⟩, rfl⟩) | (refine ⟨_, ?_⟩)))
                        case measure => rw [HNI8.out.i.left_eq, hlast3]; exact hlt6
                    · have hee : (dt == d) = false := by simpa using he
                      have HB2 := Lib.hid (HLeave.out rfl (fun hh => by rcases hh with hh | hh; exact hd hh; exact he hh.1))
                      clear hn HSkip HTake HLeave hd he
                      go_wp2_with ((with_reducible refine (HN3.out _).mono ?_); rintro e w8 ⟨rfl, hB8⟩; have HNI8 := Lib.hid (HNI7.out.step hB8); clear hB8)
                      go_roundw
                      case rel => first | exact ⟨_, cnt6, true, d, k, rfl, rfl, rfl, HNI8, HB2⟩ | (repeat (first | (exact ⟨⟨_, cnt6, true, d, k, rfl, rfl, rfl, HNI8, HB2⟩, rfl⟩) | (refine ⟨_, ?_⟩)))
                      case measure => rw [HNI8.out.i.left_eq, hlast3]; exact hlt6
end
end Go.Proofs.Ytehllnbpianpfaa.Con
