/-
  The contract of Sees: for every grid whose walls read as a list and every two tiles: whether both are tiles and no wall stands between them; only new memory is made.
-/
import Derived.Test.YtiggpmennomplaaWal
namespace Go.Proofs.Ytiggpmennomplaa.Con
open Go.RowKit Go.Shelf Lin Arn
attribute [local go_sem] Oper.semAt_some

/-- Whether one sees. -/
def seesB (W H : Int) (l : List Bool) (ax ay bx by' : Int) : Bool := bothB W H l.length ax ay bx by' && (wallsL W H l ax ay bx by').isEmpty

theorem KS.refl (n₀ s0 s1 : Nat) (V : World) : KS n₀ s0 s1 V V := ⟨Below.refl _ _, fun _ _ _ => rfl⟩
/-- What holds at the loop's head: nothing has come. -/
structure SMid (w : World) (R : Nat) (pre : List Tile) (V : World) : Prop where
  none : pre = []
  res : Boxed V R 4 (.bool false)
  below : Below w.heap.size w V
/-- A wall has come. -/
structure SOut (w : World) (R : Nat) (cd : Code) (pre : List Tile) (V : World) : Prop where
  ret : cd = .ret
  some : pre ≠ []
  res : Boxed V R 4 (.bool false)
  below : Below w.heap.size w V
theorem smid_own {w : World} {R B : Nat} (hB : w.heap.size ≤ B) : OwnFrom B (SMid w R) :=
  fun _ _ _ _ h hg hr => ⟨h.none, own_at h.res hg hr, h.below.grown hg h.below.size (fun k e => Nat.le_trans hB (hr k e).1)⟩
theorem sout_own {w : World} {R B : Nat} (hB : w.heap.size ≤ B) (cd : Code) : OwnFrom B (SOut w R cd) :=
  fun _ _ _ _ h hg hr => ⟨h.ret, h.some, own_at h.res hg hr, h.below.grown hg h.below.size (fun k e => Nat.le_trans hB (hr k e).1)⟩

abbrev gabR (W H : Int) (A : Option Addr) (n c : Nat) (ax ay bx by' : Int) (w : World) : World := (gab W H A n c ax ay bx by' w).alloc (.cells #[.bool false] 4)
theorem gabR_below (W H : Int) (A : Option Addr) (n c : Nat) (ax ay bx by' : Int) (w : World) : Below w.heap.size w (gabR W H A n c ax ay bx by' w) := (gab_below W H A n c ax ay bx by' w).alloc (by simp; omega) _
theorem gabR_g3 (W H : Int) (A : Option Addr) (n c : Nat) (ax ay bx by' : Int) (w : World) : G3 W H A n c ax ay bx by' w.heap.size (gabR W H A n c ax ay bx by' w) := (gab_g3 W H A n c ax ay bx by' w).of ((Below.refl _ _).alloc (Nat.le_refl _) _)
theorem gabR_r (W H : Int) (A : Option Addr) (n c : Nat) (ax ay bx by' : Int) (w : World) : Boxed (gabR W H A n c ax ay bx by' w) (w.heap.size + 1 + 1 + 1) 4 (.bool false) := new_at _ _ (by simp)

set_option maxRecDepth 100000 in
set_option maxHeartbeats 4000000 in
theorem Sees_any (W H : Int) (A : Option Addr) (l : List Bool) (c : Nat) (ax ay bx by' : Int) (w : World) (hrb : RB w w.heap.size A l) :
    Calls Try.prog 14 #[gv W H A l.length c, pv ax ay, pv bx by'] w fun e w' => e = .returned (.bool (seesB W H l ax ay bx by')) ∧ Below w.heap.size w w' := by
  have hb := gabR_below W H A l.length c ax ay bx by' w
  have hg := gabR_g3 W H A l.length c ax ay bx by' w
  have hr := gabR_r W H A l.length c ax ay bx by' w
  have HG := Lib.hid hg; clear hg
  have HR := Lib.hid hr; clear hr
  have hbo : ∀ w : World, Calls Try.prog 23 #[gv W H A l.length c, pv ax ay, pv bx by'] w fun e w' => e = .returned (.bool (bothB W H l.length ax ay bx by')) ∧ Below w.heap.size w w' := fun w => bothIn_any W H A l.length c ax ay bx by' w
  unfold seesB
  cases ht : bothB W H l.length ax ay bx by' with
  | false =>
    rw [ht] at hbo
    have HB := Lib.hid hbo; clear hbo ht
    go_enter Try.func14, Try.ntmps14
    go_wp2_with (first | ((with_reducible refine (HB.out _).mono ?_); rintro e w1 ⟨rfl, hB⟩; have hR1 := (hB.block _ HR.out.lt).trans HR.out; have hc1 := Boxed.cell hR1; have hf1 := Boxed.frozen hR1))
    have hR2 := Boxed.set (.bool false) hR1
    have q0 := Boxed.cell hR2
    refine bodyPost_ret (v := .bool false) (by simp [results, Try.results14, go_sem, q0]; try rfl) rfl ?_
    exact ⟨by simp, (hb.trans (hB.mono hb.size)).setCell (p := ⟨w.heap.size + 1 + 1 + 1, 0, none⟩) (by show w.heap.size ≤ w.heap.size + 1 + 1 + 1; omega) _⟩
  | true =>
    rw [ht] at hbo
    have HB := Lib.hid hbo; clear hbo
    refine (callsIn_wide (n := 5)).1 ?_
    refine callsIn_of_wp_marks Try.func14 rfl trivial ?_ rfl
    simp only [Try.ntmps14, List.size_toArray, List.length_cons, List.length_nil, Nat.reduceAdd, Nat.reduceSub, Array.replicate_succ, Array.replicate_zero, List.push_toArray, List.append_toArray, List.nil_append, List.cons_append]
    refine wpIn_wide.2 ?_
    go_wp2_with (first
      | ((with_reducible refine (HB.out _).mono ?_); rintro e w1 ⟨rfl, hB⟩; obtain ⟨c0, c1, c2, c3, c4, c5, c6⟩ := (HG.out.of hB).cells; have HB1 := Lib.hid hB; clear hB)
      | ((with_reducible refine (walls_any W H A l.length c ax ay bx by' _).mono ?_); rintro e w2 ⟨rfl, hw2⟩))
    have hg2 := gab_g3 W H A l.length c ax ay bx by' w1
    have hs1 := HB1.out.size
    have hlw : w.heap.size + 1 + 1 + 1 < w1.heap.size := Nat.lt_of_lt_of_le HR.out.lt hs1
    have hbw : Below w.heap.size w w1 := hb.trans (HB1.out.mono hb.size)
    have hw3 : Below w1.heap.size w1 (gab W H A l.length c ax ay bx by' w1) := gab_below W H A l.length c ax ay bx by' w1
    have hrb2 : RB (gab W H A l.length c ax ay bx by' w1) w.heap.size A l := hrb.kept (hbw.trans (hw3.mono hbw.size))
    have hM0 : SMid w (w.heap.size + 1 + 1 + 1) [] (gab W H A l.length c ax ay bx by' w1) :=
      ⟨rfl, ((hw3.block _ hlw).trans ((HB1.out.block _ HR.out.lt).trans HR.out)), hbw.trans (hw3.mono hbw.size)⟩
    have hsz : (gab W H A l.length c ax ay bx by' w1).heap.size = w1.heap.size + 3 := by simp
    have HSZ := Lib.hid hsz; clear hsz
    clear hs1 hw3
    subst hw2
    generalize hw2 : gab W H A l.length c ax ay bx by' w1 = w2 at hg2 hrb2 hM0 HSZ ⊢
    clear hw2
    generalize w1.heap.size = P at hg2 HSZ hlw ⊢
    refine (wpIn_wide (n := 5)).1 ?_
    refine rangeX (by omega) (gf := 38) (lb := #[pt (P + 1), pt (P + 1 + 1), pt P]) rfl (enters_of Try.func38 (by kernel_rfl) rfl)
      (walls_stops ht (n₀ := w.heap.size) (s := P) (by omega) hg2 hrb2) (fun h k => h.trans k)
      (fun V l o' hk => KS.putObj (m := w2.heap.size) (by have := HSZ.out; omega) (by have := HSZ.out; omega) V l o' hk) (fun _ => rfl)
      (SMid w (w.heap.size + 1 + 1 + 1)) (SOut w (w.heap.size + 1 + 1 + 1)) (smid_own (by have := HSZ.out; omega)) (fun cd => sout_own (by have := HSZ.out; omega) cd) hM0
      (fun x a' _ => a' = { tmps := #[gv W H A l.length c, pv ax ay, pv bx by', pt w.heap.size, pt (w.heap.size + 1), pt (w.heap.size + 1 + 1), pt (w.heap.size + 1 + 1 + 1), gv W H A l.length c, pv ax ay, pv bx by', .bool true, .bool false, gv W H A l.length c, pv ax ay, pv bx by', .func (.func 38) #[] #[pt (P + 1), pt (P + 1 + 1), pt P], pv x.1.1 x.1.2], defers := [] })
      (fun x a' _ _ _ _ hs _ _ => hs) ?assign ?body ?done ?stop
    case assign =>
      rintro l' pre x V K hI hK
      gi_wp2
      exact hK _ _ (KeepsAt.refl _ _) (KS.refl _ _ _ _) hI (by simp)
    case body =>
      rintro l' pre x a' V hI rfl
      have hc := hI.res.cell
      have hf := hI.res.frozen
      have hI' := Lib.hid hI; clear hI
      gi_wp2
      exact ⟨⟨by simp, fun k hk _ => Below.heap_setCell _ ⟨w.heap.size + 1 + 1 + 1, 0, none⟩ _ k (by show k ≠ w.heap.size + 1 + 1 + 1; have := HSZ.out; omega)⟩, rfl, by simp, Boxed.set _ hI'.out.res, hI'.out.below.setCell (p := ⟨w.heap.size + 1 + 1 + 1, 0, none⟩) (by show w.heap.size ≤ w.heap.size + 1 + 1 + 1; omega) _⟩
    case done =>
      rintro D xs V hD rfl hI hK
      have hf := hI.res.frozen
      have hc := hI.res.cell
      have hnone := hI.none
      have hI' := Lib.hid hI; clear hI
      have HN := Lib.hid hnone; clear hnone
      gi_wp2
      go_wp2
      have hK' := (KeepsOthers.setCell V ⟨w.heap.size + 1 + 1 + 1, 0, none⟩ (.bool true)).same D _ hK rfl
      have hbx := Boxed.set (.bool true) hI'.out.res
      have hq : Boxed _ _ _ _ := own_at (B := 0) hbx (grownBy_putObj' _ D (.deferred none)) (fun r e => by cases e; exact ⟨Nat.zero_le _, _, hK', rfl⟩)
      have q4 := hq.cell
      refine ⟨by simp, .inl ⟨_, _, rfl, run_takeDeferred hK', ?_⟩⟩
      refine ⟨.bool true, by simp [results, Try.f14, go_sem, q4], by rw [HN.out]; rfl, ?_⟩
      exact (hI'.out.below.setCell (p := ⟨w.heap.size + 1 + 1 + 1, 0, none⟩) (by show w.heap.size ≤ w.heap.size + 1 + 1 + 1; omega) _).trans (belowK_b (w := w) (Nat.le_refl _) _ D _ _ (by have := HSZ.out; omega) hK' rfl rfl)
    case stop =>
      rintro D cd pre V hD hpre ho hK
      obtain ⟨rfl, hne, hres, hbel⟩ := ho
      have hz : (wallsL W H l ax ay bx by').isEmpty = false := by
        obtain ⟨t, ht⟩ := hpre
        rw [← ht]
        cases pre with
        | nil => exact (hne rfl).elim
        | cons a b => rfl
      have HZ := Lib.hid hz; clear hz
      gi_wp2
      go_wp2
      have hq : Boxed _ _ _ _ := own_at (B := 0) hres (grownBy_putObj' _ D (.deferred none)) (fun r e => by cases e; exact ⟨Nat.zero_le _, _, hK, rfl⟩)
      have q4 := hq.cell
      refine ⟨by simp, .inl ⟨_, _, rfl, run_takeDeferred hK, ?_⟩⟩
      refine ⟨.bool false, by simp [results, Try.f14, go_sem, q4], by rw [HZ.out]; rfl, ?_⟩
      exact hbel.trans (belowK_b (w := w) (Nat.le_refl _) _ D _ _ (by have := HSZ.out; omega) hK rfl rfl)
end Go.Proofs.Ytiggpmennomplaa.Con
