/-
  The contract of the maker of the iterator over the tiles of a box: for every tile, every number, every grid with right sides; only new memory is made.
-/
import Derived.Test.YtiggpmennomplaaBas
import Derived.Deep.RegionHeld3
namespace Go.Proofs.Ytiggpmennomplaa.Con
open Go.RowKit Go.Shelf Wlk
attribute [local go_sem] Oper.semAt_some

theorem two_boxes (w : World) (v1 v2 : Int) : Boxed ((w.alloc (.cells #[.int .i64 v1] 3)).alloc (.cells #[.int .i64 v2] 3)).drew w.heap.size 3 (.int .i64 v1) ∧ Boxed ((w.alloc (.cells #[.int .i64 v1] 3)).alloc (.cells #[.int .i64 v2] 3)).drew (w.heap.size + 1) 3 (.int .i64 v2) := by
  have h1 : Boxed ((w.alloc (.cells #[.int .i64 v1] 3)).alloc (.cells #[.int .i64 v2] 3)) w.heap.size 3 (.int .i64 v1) := old_at (new_at _ _ rfl)
  have h2 : Boxed ((w.alloc (.cells #[.int .i64 v1] 3)).alloc (.cells #[.int .i64 v2] 3)) (w.heap.size + 1) 3 (.int .i64 v2) := new_at _ _ (by simp)
  exact ⟨h1, h2⟩

/-- What box hands back: a closure over four boxes. -/
def BoxAns (l r t b : Int) (w : World) (e : Ending) (w' : World) : Prop :=
  ∃ b1 b2 b3 b4, e = .returned (.func (.func 58) #[] #[.pointer (some ⟨b3, 0, none⟩), .pointer (some ⟨b4, 0, none⟩), .pointer (some ⟨b1, 0, none⟩), .pointer (some ⟨b2, 0, none⟩)]) ∧
    (w.heap.size ≤ b1 ∧ w.heap.size ≤ b2 ∧ w.heap.size ≤ b3 ∧ w.heap.size ≤ b4) ∧ (Boxed w' b1 3 (.int .i64 l) ∧ Boxed w' b2 3 (.int .i64 r) ∧ Boxed w' b3 3 (.int .i64 t) ∧ Boxed w' b4 3 (.int .i64 b)) ∧ Below w.heap.size w w'

set_option maxRecDepth 100000 in
set_option maxHeartbeats 8000000 in
theorem box_gen (W H : Int) (A : Option Addr) (k c : Nat) (px py r v1 v2 v3 v4 L R T B : Int) (w : World) (hL : Hid (L = if 0 < v1 then v1 else 0)) (hR : Hid (R = if v2 < W - 1 then v2 else W - 1)) (hT : Hid (T = if 0 < v3 then v3 else 0)) (hB : Hid (B = if v4 < H - 1 then v4 else H - 1)) (hW : 1 ≤ W ∧ W ≤ 256) (hH : 1 ≤ H ∧ H ≤ 256)
    (S1 : Hid (∀ w : World, Calls Try.prog 54 #[.int .i64 px, .int .i64 r] w fun e w' => e = .returned (.int .i64 v1) ∧ w = w'))
    (S2 : Hid (∀ w : World, Calls Try.prog 39 #[.int .i64 px, .int .i64 r] w fun e w' => e = .returned (.int .i64 v2) ∧ w = w'))
    (S3 : Hid (∀ w : World, Calls Try.prog 54 #[.int .i64 py, .int .i64 r] w fun e w' => e = .returned (.int .i64 v3) ∧ w = w'))
    (S4 : Hid (∀ w : World, Calls Try.prog 39 #[.int .i64 py, .int .i64 r] w fun e w' => e = .returned (.int .i64 v4) ∧ w = w')) :
    Calls Try.prog 50 #[gv W H A k c, pv px py, .int .i64 r] w (BoxAns L R T B w) := by
  go_enter Try.func50, Try.ntmps50
  go_wp2
  have hg : ((w.alloc (.cells #[.int .i64 W, .int .i64 H, .slice A k c] 24)).alloc (.cells #[.int .i64 px, .int .i64 py] 26)).heap[w.heap.size]? = some (.cells #[.int .i64 W, .int .i64 H, .slice A k c] 24 (0, 0)) := old_at (new_at _ _ rfl)
  have hp : BoxP ((w.alloc (.cells #[.int .i64 W, .int .i64 H, .slice A k c] 24)).alloc (.cells #[.int .i64 px, .int .i64 py] 26)) (w.heap.size + 1) px py := new_at _ _ (by simp)
  have hs : ((w.alloc (.cells #[.int .i64 W, .int .i64 H, .slice A k c] 24)).alloc (.cells #[.int .i64 px, .int .i64 py] 26)).heap.size = w.heap.size + 2 := by simp
  have h1 : ((w.alloc (.cells #[.int .i64 W, .int .i64 H, .slice A k c] 24)).alloc (.cells #[.int .i64 px, .int .i64 py] 26)).cell? ⟨w.heap.size, 0, none⟩ = some (.int .i64 W) := by simp only [World.cell?, hg]; rfl
  have h2 := hp.cell0
  have h3 : ((w.alloc (.cells #[.int .i64 W, .int .i64 H, .slice A k c] 24)).alloc (.cells #[.int .i64 px, .int .i64 py] 26)).cell? ⟨w.heap.size, 1, none⟩ = some (.int .i64 H) := by simp only [World.cell?, hg]; rfl
  have h4 := hp.cell1
  have HS := Lib.hid hs; clear hs
  have H1 := Lib.hid h1; clear h1
  have H2 := Lib.hid h2; clear h2
  have H3 := Lib.hid h3; clear h3
  have H4 := Lib.hid h4; clear h4
  have hbw := boxgp w W H A k c px py
  generalize ((w.alloc (.cells #[.int .i64 W, .int .i64 H, .slice A k c] 24)).alloc (.cells #[.int .i64 px, .int .i64 py] 26)) = w0 at hg hp HS H1 H2 H3 H4 hbw ⊢
  have HBW := Lib.hid hbw; clear hbw hg hp
  have e5 : IntKind.i64.wrap (W - 1) = W - 1 := IntWalk.i64_in _ (by omega)
  have HB1 := Lib.hid (fun o => (((Below.refl w0.heap.size w0).alloc (Nat.le_refl _) o)).drew)
  have HB2 := Lib.hid (fun o o' => ((((Below.refl w0.heap.size w0).alloc (Nat.le_refl _) o)).alloc (by simp) o').drew)
  refine Code.wp_mono (Q := fun e a' w' => ∃ b1 b2, e = .normal ∧ w0.heap.size ≤ b1 ∧ w0.heap.size ≤ b2 ∧ Boxed w' b1 3 (.int .i64 L) ∧ Boxed w' b2 3 (.int .i64 R) ∧ Below w0.heap.size w0 w' ∧ a' = { tmps := #[gv W H A k c, pv px py, .int .i64 r, .pointer (some ⟨w.heap.size, 0, none⟩), .pointer (some ⟨w.heap.size + 1, 0, none⟩), undef, .nilFunc, .pointer (some ⟨b1, 0, none⟩), .pointer (some ⟨b2, 0, none⟩), undef, undef, .pointer (some ⟨w.heap.size + 1, 0, none⟩), .int .i64 px, .int .i64 r, .int .i64 v1, .int .i64 L, .pointer (some ⟨w.heap.size, 0, none⟩), .int .i64 W, .int .i64 (W - 1), .pointer (some ⟨w.heap.size + 1, 0, none⟩), .int .i64 px, .int .i64 r, .int .i64 v2, .int .i64 R, undef, undef, undef, undef, undef, undef, undef, undef, undef, undef, undef, undef, undef, undef], defers := [] }) ?post ?reg
  case post =>
    rintro e a' w1 ⟨b1, b2, rfl, hb1, hb2, k1, k2, hB1, rfl⟩
    have z1 := hB1.size
    have hg' : w1.cell? ⟨w.heap.size, 1, none⟩ = some (.int .i64 H) := (hB1.cell (p := ⟨w.heap.size, 1, none⟩) (by have := HS.out; show w.heap.size < _; omega)).trans H3.out
    have hp' : w1.cell? ⟨w.heap.size + 1, 1, none⟩ = some (.int .i64 py) := (hB1.cell (p := ⟨w.heap.size + 1, 1, none⟩) (by have := HS.out; show w.heap.size + 1 < _; omega)).trans H4.out
    have H5 := Lib.hid hg'; have H6 := Lib.hid hp'
    clear hg' hp' e5 HB1 HB2
    have HK1 := Lib.hid k1; have HK2 := Lib.hid k2; have HBB := Lib.hid hB1
    clear k1 k2 hB1
    go_wp2
    have e6 : IntKind.i64.wrap (H - 1) = H - 1 := IntWalk.i64_in _ (by omega)
    have HB1 := Lib.hid (fun o => (((Below.refl w1.heap.size w1).alloc (Nat.le_refl _) o)).drew)
    have HB2 := Lib.hid (fun o o' => ((((Below.refl w1.heap.size w1).alloc (Nat.le_refl _) o)).alloc (by simp) o').drew)
    refine Code.wp_mono (Q := fun e a' w' => ∃ b3 b4, e = .normal ∧ w1.heap.size ≤ b3 ∧ w1.heap.size ≤ b4 ∧ Boxed w' b3 3 (.int .i64 T) ∧ Boxed w' b4 3 (.int .i64 B) ∧ Below w1.heap.size w1 w' ∧ a' = { tmps := #[gv W H A k c, pv px py, .int .i64 r, .pointer (some ⟨w.heap.size, 0, none⟩), .pointer (some ⟨w.heap.size + 1, 0, none⟩), undef, .nilFunc, .pointer (some ⟨b1, 0, none⟩), .pointer (some ⟨b2, 0, none⟩), .pointer (some ⟨b3, 0, none⟩), .pointer (some ⟨b4, 0, none⟩), .pointer (some ⟨w.heap.size + 1, 0, none⟩), .int .i64 px, .int .i64 r, .int .i64 v1, .int .i64 L, .pointer (some ⟨w.heap.size, 0, none⟩), .int .i64 W, .int .i64 (W - 1), .pointer (some ⟨w.heap.size + 1, 0, none⟩), .int .i64 px, .int .i64 r, .int .i64 v2, .int .i64 R, .pointer (some ⟨w.heap.size + 1, 1, none⟩), .int .i64 py, .int .i64 r, .int .i64 v3, .int .i64 T, .pointer (some ⟨w.heap.size, 1, none⟩), .int .i64 H, .int .i64 (H - 1), .pointer (some ⟨w.heap.size + 1, 1, none⟩), .int .i64 py, .int .i64 r, .int .i64 v4, .int .i64 B, undef], defers := [] }) ?post2 ?reg2
    case post2 =>
      rintro e a' w2 ⟨b3, b4, rfl, hb3, hb4, k3, k4, hB2, rfl⟩
      clear e6 HB1 HB2
      have HK3 := Lib.hid k3; have HK4 := Lib.hid k4; have HBC := Lib.hid hB2
      clear k3 k4 hB2
      go_wp2
      go_ret
      exact ⟨b1, b2, b3, b4, rfl, by have := HS.out; exact ⟨by omega, by omega, by omega, by omega⟩, ⟨(HBC.out.block _ HK1.out.lt).trans HK1.out, (HBC.out.block _ HK2.out.lt).trans HK2.out, HK3.out, HK4.out⟩, HBW.out.trans ((HBB.out.trans (HBC.out.mono z1)).mono (by have := HS.out; omega))⟩
    case reg2 =>
      refine wp_region_noPanic ?_
      refine wp_region_held_drew (S := fun w' => Below w1.heap.size w1 w') (by kernel_rfl) (Below.refl _ _).drew (fun hS => ?_)
      have hS := Lib.hid hS
      refine wpAnyH_take (i := 0) (v := ?vb1) rfl (by kernel_rfl) (by kernel_rfl) (by kernel_rfl) (fun _ _ _ h => h) (Or.inl ⟨by rfl, ?hyb1⟩) (by first | exact hS.out | exact HB1.out _ | exact HB2.out _ _) ?restb1
      case hyb1 => (intro wz hSw; go_simp <;> with_reducible rfl)
      (try simp only [Act.put, List.setIfInBounds_toArray])
      refine wpAnyH_take (i := 1) (v := ?vb2) rfl (by kernel_rfl) (by kernel_rfl) (by kernel_rfl) (fun _ _ _ h => h) (Or.inl ⟨by rfl, ?hyb2⟩) (by first | exact hS.out | exact HB1.out _ | exact HB2.out _ _) ?restb2
      case hyb2 => (intro wz hSw; have l1 := (hSw.cell (p := ⟨w.heap.size, 1, none⟩) (by have := HS.out; show w.heap.size < _; omega)).trans H5.out; have l2 := (hSw.cell (p := ⟨w.heap.size + 1, 1, none⟩) (by have := HS.out; show w.heap.size + 1 < _; omega)).trans H6.out; go_simp <;> with_reducible rfl)
      (try simp only [Act.put])
      refine wpAnyH_take (i := 2) (v := ?vb3) rfl (by kernel_rfl) (by kernel_rfl) (by kernel_rfl) (fun _ _ _ h => h) (Or.inl ⟨by rfl, ?hyb3⟩) (by first | exact hS.out | exact HB1.out _ | exact HB2.out _ _) ?restb3
      case hyb3 => (intro wz hSw; go_simp <;> with_reducible rfl)
      (try simp only [Act.put])
      refine wpAnyH_take (i := 5) (v := ?vb4) rfl (by kernel_rfl) (by kernel_rfl) (by kernel_rfl) (fun _ _ _ h => h) (Or.inl ⟨by rfl, ?hyb4⟩) (by first | exact hS.out | exact HB1.out _ | exact HB2.out _ _) ?restb4
      case hyb4 => (intro wz hSw; go_simp <;> with_reducible rfl)
      (try simp only [Act.put])
      refine wpAnyH_take (i := 6) (v := ?vb5) rfl (by kernel_rfl) (by kernel_rfl) (by kernel_rfl) (fun _ _ _ h => h) (Or.inl ⟨by rfl, ?hyb5⟩) (by first | exact hS.out | exact HB1.out _ | exact HB2.out _ _) ?restb5
      case hyb5 => (intro wz hSw; have l1 := (hSw.cell (p := ⟨w.heap.size, 1, none⟩) (by have := HS.out; show w.heap.size < _; omega)).trans H5.out; have l2 := (hSw.cell (p := ⟨w.heap.size + 1, 1, none⟩) (by have := HS.out; show w.heap.size + 1 < _; omega)).trans H6.out; go_simp <;> with_reducible rfl)
      (try simp only [Act.put])
      refine wpAnyH_take (i := 7) (v := .int .i64 (H - 1)) rfl (by kernel_rfl) (by kernel_rfl) (by kernel_rfl) (fun _ _ _ h => h) (Or.inl ⟨by rfl, ?hyb6⟩) (by first | exact hS.out | exact HB1.out _ | exact HB2.out _ _) ?restb6
      case hyb6 => (intro wz hSw; go_simp <;> with_reducible rfl)
      (try simp only [Act.put])
      refine wpAnyH_take (i := 8) (v := ?vb7) rfl (by kernel_rfl) (by kernel_rfl) (by kernel_rfl) (fun _ _ _ h => h) (Or.inl ⟨by rfl, ?hyb7⟩) (by first | exact hS.out | exact HB1.out _ | exact HB2.out _ _) ?restb7
      case hyb7 => (intro wz hSw; go_simp <;> with_reducible rfl)
      (try simp only [Act.put])
      refine wpAnyH_take (i := 9) (v := ?vb8) rfl (by kernel_rfl) (by kernel_rfl) (by kernel_rfl) (fun _ _ _ h => h) (Or.inl ⟨by rfl, ?hyb8⟩) (by first | exact hS.out | exact HB1.out _ | exact HB2.out _ _) ?restb8
      case hyb8 => (intro wz hSw; have l1 := (hSw.cell (p := ⟨w.heap.size, 1, none⟩) (by have := HS.out; show w.heap.size < _; omega)).trans H5.out; have l2 := (hSw.cell (p := ⟨w.heap.size + 1, 1, none⟩) (by have := HS.out; show w.heap.size + 1 < _; omega)).trans H6.out; go_simp <;> with_reducible rfl)
      (try simp only [Act.put])
      refine wpAnyH_take (i := 10) (v := ?vb9) rfl (by kernel_rfl) (by kernel_rfl) (by kernel_rfl) (fun _ _ _ h => h) (Or.inl ⟨by rfl, ?hyb9⟩) (by first | exact hS.out | exact HB1.out _ | exact HB2.out _ _) ?restb9
      case hyb9 => (intro wz hSw; go_simp <;> with_reducible rfl)
      (try simp only [Act.put])
      refine wpAnyH_ready (rs := [3, 13, 14]) (by kernel_rfl) (by simp) ?_
      refine AllReadyH.cons rfl (fun K hK => ?_) (AllReadyH.cons rfl (fun K hK => ?_) (AllReadyH.cons rfl (fun K hK => ?_) (AllReadyH.nil)))
      · skip
        go_simp
        ((with_reducible refine (S3.out _).mono ?_); rintro e w' ⟨rfl, rfl⟩)
        refine hK.out _ _ (by first | exact hS.out | exact HB1.out _ | exact HB2.out _ _) (fun _ => ?_) -- C
        clear hK K
        (try simp only [Act.put, List.setIfInBounds_toArray, List.set_cons_zero, List.set_cons_succ])
        refine wpAnyH_take (i := 4) (v := .int .i64 T) rfl (by kernel_rfl) (by kernel_rfl) (by kernel_rfl) (fun _ _ _ h => h) (Or.inl ⟨by rfl, ?hyb10⟩) (by first | exact hS.out | exact HB1.out _ | exact HB2.out _ _) ?restb10
        case hyb10 => (intro wz hSw; go_simp <;> rw [hT.out])
        (try simp only [Act.put, List.setIfInBounds_toArray])
        refine wpAnyH_ready (rs := [11, 13, 14]) (by kernel_rfl) (by simp) ?_
        refine AllReadyH.cons rfl (fun K hK => ?_) (AllReadyH.cons rfl (fun K hK => ?_) (AllReadyH.cons rfl (fun K hK => ?_) (AllReadyH.nil)))
        · skip
          go_simp
          ((with_reducible refine (S4.out _).mono ?_); rintro e w' ⟨rfl, rfl⟩)
          refine hK.out _ _ (by first | exact hS.out | exact HB1.out _ | exact HB2.out _ _) (fun _ => ?_) -- C
          clear hK K
          (try simp only [Act.put, List.setIfInBounds_toArray, List.set_cons_zero, List.set_cons_succ])
          refine wpAnyH_take (i := 12) (v := .int .i64 B) rfl (by kernel_rfl) (by kernel_rfl) (by kernel_rfl) (fun _ _ _ h => h) (Or.inl ⟨by rfl, ?hyb11⟩) (by first | exact hS.out | exact HB1.out _ | exact HB2.out _ _) ?restb11
          case hyb11 => (intro wz hSw; go_simp <;> rw [hB.out])
          (try simp only [Act.put, List.setIfInBounds_toArray])
          refine wpAnyH_ready (rs := [13, 14]) (by kernel_rfl) (by simp) ?_
          refine AllReadyH.cons rfl (fun K hK => ?_) (AllReadyH.cons rfl (fun K hK => ?_) (AllReadyH.nil))
          · skip
            go_simp
            refine hK.out _ _ (by first | exact hS.out | exact HB1.out _ | exact HB2.out _ _) (fun _ => ?_) -- A
            clear hK K
            (try simp only [Act.put, List.setIfInBounds_toArray, List.set_cons_zero, List.set_cons_succ])
            refine wpAnyH_ready (rs := [14]) (by kernel_rfl) (by simp) ?_
            refine AllReadyH.cons rfl (fun K hK => ?_) AllReadyH.nil
            go_simp
            refine hK.out _ _ (by first | exact hS.out | exact HB1.out _ | exact HB2.out _ _) (fun _ => ?_) -- A
            clear hK K
            (try simp only [Act.put, List.setIfInBounds_toArray, List.set_cons_zero, List.set_cons_succ])
            refine wpAnyH_ready (rs := [15]) (by kernel_rfl) (by simp) ?_
            refine AllReadyH.cons rfl (fun K hK => ?_) AllReadyH.nil
            go_simp
            refine hK.out _ _ (by first | exact hS.out | exact HB1.out _ | exact HB2.out _ _) (fun _ => ?_) -- S
            clear hK K
            (try simp only [Act.put, List.setIfInBounds_toArray, List.set_cons_zero, List.set_cons_succ])
            refine wpAnyH_ready (rs := [16]) (by kernel_rfl) (by simp) ?_
            refine AllReadyH.cons rfl (fun K hK => ?_) AllReadyH.nil
            go_simp
            refine hK.out _ _ (by first | exact hS.out | exact HB1.out _ | exact HB2.out _ _) (fun _ => ?_) -- S
            clear hK K
            (try simp only [Act.put, List.setIfInBounds_toArray, List.set_cons_zero, List.set_cons_succ])
            refine wpAnyH_done (by kernel_rfl) ?_ _
            refine NoPanic.normal ?_
            exact ⟨w1.heap.size, w1.heap.size + 1, rfl, Nat.le_refl _, Nat.le_succ _, (two_boxes w1 _ _).1, (two_boxes w1 _ _).2, HB2.out _ _, rfl⟩
          · skip
            go_simp
            refine hK.out _ _ (by first | exact hS.out | exact HB1.out _ | exact HB2.out _ _) (fun _ => ?_) -- A
            clear hK K
            (try simp only [Act.put, List.setIfInBounds_toArray, List.set_cons_zero, List.set_cons_succ])
            refine wpAnyH_ready (rs := [13]) (by kernel_rfl) (by simp) ?_
            refine AllReadyH.cons rfl (fun K hK => ?_) AllReadyH.nil
            go_simp
            refine hK.out _ _ (by first | exact hS.out | exact HB1.out _ | exact HB2.out _ _) (fun _ => ?_) -- A
            clear hK K
            (try simp only [Act.put, List.setIfInBounds_toArray, List.set_cons_zero, List.set_cons_succ])
            refine wpAnyH_ready (rs := [15]) (by kernel_rfl) (by simp) ?_
            refine AllReadyH.cons rfl (fun K hK => ?_) AllReadyH.nil
            go_simp
            refine hK.out _ _ (by first | exact hS.out | exact HB1.out _ | exact HB2.out _ _) (fun _ => ?_) -- S
            clear hK K
            (try simp only [Act.put, List.setIfInBounds_toArray, List.set_cons_zero, List.set_cons_succ])
            refine wpAnyH_ready (rs := [16]) (by kernel_rfl) (by simp) ?_
            refine AllReadyH.cons rfl (fun K hK => ?_) AllReadyH.nil
            go_simp
            refine hK.out _ _ (by first | exact hS.out | exact HB1.out _ | exact HB2.out _ _) (fun _ => ?_) -- S
            clear hK K
            (try simp only [Act.put, List.setIfInBounds_toArray, List.set_cons_zero, List.set_cons_succ])
            refine wpAnyH_done (by kernel_rfl) ?_ _
            refine NoPanic.normal ?_
            exact ⟨w1.heap.size + 1, w1.heap.size, rfl, Nat.le_succ _, Nat.le_refl _, (two_boxes w1 _ _).2, (two_boxes w1 _ _).1, HB2.out _ _, rfl⟩
        · skip
          go_simp
          refine hK.out _ _ (by first | exact hS.out | exact HB1.out _ | exact HB2.out _ _) (fun _ => ?_) -- A
          clear hK K
          (try simp only [Act.put, List.setIfInBounds_toArray, List.set_cons_zero, List.set_cons_succ])
          refine wpAnyH_ready (rs := [11, 14]) (by kernel_rfl) (by simp) ?_
          refine AllReadyH.cons rfl (fun K hK => ?_) (AllReadyH.cons rfl (fun K hK => ?_) (AllReadyH.nil))
          · skip
            go_simp
            ((with_reducible refine (S4.out _).mono ?_); rintro e w' ⟨rfl, rfl⟩)
            refine hK.out _ _ (by first | exact hS.out | exact HB1.out _ | exact HB2.out _ _) (fun _ => ?_) -- C
            clear hK K
            (try simp only [Act.put, List.setIfInBounds_toArray, List.set_cons_zero, List.set_cons_succ])
            refine wpAnyH_take (i := 12) (v := .int .i64 B) rfl (by kernel_rfl) (by kernel_rfl) (by kernel_rfl) (fun _ _ _ h => h) (Or.inl ⟨by rfl, ?hyb12⟩) (by first | exact hS.out | exact HB1.out _ | exact HB2.out _ _) ?restb12
            case hyb12 => (intro wz hSw; go_simp <;> rw [hB.out])
            (try simp only [Act.put, List.setIfInBounds_toArray])
            refine wpAnyH_ready (rs := [14]) (by kernel_rfl) (by simp) ?_
            refine AllReadyH.cons rfl (fun K hK => ?_) AllReadyH.nil
            go_simp
            refine hK.out _ _ (by first | exact hS.out | exact HB1.out _ | exact HB2.out _ _) (fun _ => ?_) -- A
            clear hK K
            (try simp only [Act.put, List.setIfInBounds_toArray, List.set_cons_zero, List.set_cons_succ])
            refine wpAnyH_ready (rs := [15]) (by kernel_rfl) (by simp) ?_
            refine AllReadyH.cons rfl (fun K hK => ?_) AllReadyH.nil
            go_simp
            refine hK.out _ _ (by first | exact hS.out | exact HB1.out _ | exact HB2.out _ _) (fun _ => ?_) -- S
            clear hK K
            (try simp only [Act.put, List.setIfInBounds_toArray, List.set_cons_zero, List.set_cons_succ])
            refine wpAnyH_ready (rs := [16]) (by kernel_rfl) (by simp) ?_
            refine AllReadyH.cons rfl (fun K hK => ?_) AllReadyH.nil
            go_simp
            refine hK.out _ _ (by first | exact hS.out | exact HB1.out _ | exact HB2.out _ _) (fun _ => ?_) -- S
            clear hK K
            (try simp only [Act.put, List.setIfInBounds_toArray, List.set_cons_zero, List.set_cons_succ])
            refine wpAnyH_done (by kernel_rfl) ?_ _
            refine NoPanic.normal ?_
            exact ⟨w1.heap.size, w1.heap.size + 1, rfl, Nat.le_refl _, Nat.le_succ _, (two_boxes w1 _ _).1, (two_boxes w1 _ _).2, HB2.out _ _, rfl⟩
          · skip
            go_simp
            refine hK.out _ _ (by first | exact hS.out | exact HB1.out _ | exact HB2.out _ _) (fun _ => ?_) -- A
            clear hK K
            (try simp only [Act.put, List.setIfInBounds_toArray, List.set_cons_zero, List.set_cons_succ])
            refine wpAnyH_ready (rs := [11]) (by kernel_rfl) (by simp) ?_
            refine AllReadyH.cons rfl (fun K hK => ?_) AllReadyH.nil
            go_simp
            ((with_reducible refine (S4.out _).mono ?_); rintro e w' ⟨rfl, rfl⟩)
            refine hK.out _ _ (by first | exact hS.out | exact HB1.out _ | exact HB2.out _ _) (fun _ => ?_) -- C
            clear hK K
            (try simp only [Act.put, List.setIfInBounds_toArray, List.set_cons_zero, List.set_cons_succ])
            refine wpAnyH_take (i := 12) (v := .int .i64 B) rfl (by kernel_rfl) (by kernel_rfl) (by kernel_rfl) (fun _ _ _ h => h) (Or.inl ⟨by rfl, ?hyb13⟩) (by first | exact hS.out | exact HB1.out _ | exact HB2.out _ _) ?restb13
            case hyb13 => (intro wz hSw; go_simp <;> rw [hB.out])
            (try simp only [Act.put, List.setIfInBounds_toArray])
            refine wpAnyH_ready (rs := [15]) (by kernel_rfl) (by simp) ?_
            refine AllReadyH.cons rfl (fun K hK => ?_) AllReadyH.nil
            go_simp
            refine hK.out _ _ (by first | exact hS.out | exact HB1.out _ | exact HB2.out _ _) (fun _ => ?_) -- S
            clear hK K
            (try simp only [Act.put, List.setIfInBounds_toArray, List.set_cons_zero, List.set_cons_succ])
            refine wpAnyH_ready (rs := [16]) (by kernel_rfl) (by simp) ?_
            refine AllReadyH.cons rfl (fun K hK => ?_) AllReadyH.nil
            go_simp
            refine hK.out _ _ (by first | exact hS.out | exact HB1.out _ | exact HB2.out _ _) (fun _ => ?_) -- S
            clear hK K
            (try simp only [Act.put, List.setIfInBounds_toArray, List.set_cons_zero, List.set_cons_succ])
            refine wpAnyH_done (by kernel_rfl) ?_ _
            refine NoPanic.normal ?_
            exact ⟨w1.heap.size, w1.heap.size + 1, rfl, Nat.le_refl _, Nat.le_succ _, (two_boxes w1 _ _).1, (two_boxes w1 _ _).2, HB2.out _ _, rfl⟩
        · skip
          go_simp
          refine hK.out _ _ (by first | exact hS.out | exact HB1.out _ | exact HB2.out _ _) (fun _ => ?_) -- A
          clear hK K
          (try simp only [Act.put, List.setIfInBounds_toArray, List.set_cons_zero, List.set_cons_succ])
          refine wpAnyH_ready (rs := [11, 13]) (by kernel_rfl) (by simp) ?_
          refine AllReadyH.cons rfl (fun K hK => ?_) (AllReadyH.cons rfl (fun K hK => ?_) (AllReadyH.nil))
          · skip
            go_simp
            ((with_reducible refine (S4.out _).mono ?_); rintro e w' ⟨rfl, rfl⟩)
            refine hK.out _ _ (by first | exact hS.out | exact HB1.out _ | exact HB2.out _ _) (fun _ => ?_) -- C
            clear hK K
            (try simp only [Act.put, List.setIfInBounds_toArray, List.set_cons_zero, List.set_cons_succ])
            refine wpAnyH_take (i := 12) (v := .int .i64 B) rfl (by kernel_rfl) (by kernel_rfl) (by kernel_rfl) (fun _ _ _ h => h) (Or.inl ⟨by rfl, ?hyb14⟩) (by first | exact hS.out | exact HB1.out _ | exact HB2.out _ _) ?restb14
            case hyb14 => (intro wz hSw; go_simp <;> rw [hB.out])
            (try simp only [Act.put, List.setIfInBounds_toArray])
            refine wpAnyH_ready (rs := [13]) (by kernel_rfl) (by simp) ?_
            refine AllReadyH.cons rfl (fun K hK => ?_) AllReadyH.nil
            go_simp
            refine hK.out _ _ (by first | exact hS.out | exact HB1.out _ | exact HB2.out _ _) (fun _ => ?_) -- A
            clear hK K
            (try simp only [Act.put, List.setIfInBounds_toArray, List.set_cons_zero, List.set_cons_succ])
            refine wpAnyH_ready (rs := [15]) (by kernel_rfl) (by simp) ?_
            refine AllReadyH.cons rfl (fun K hK => ?_) AllReadyH.nil
            go_simp
            refine hK.out _ _ (by first | exact hS.out | exact HB1.out _ | exact HB2.out _ _) (fun _ => ?_) -- S
            clear hK K
            (try simp only [Act.put, List.setIfInBounds_toArray, List.set_cons_zero, List.set_cons_succ])
            refine wpAnyH_ready (rs := [16]) (by kernel_rfl) (by simp) ?_
            refine AllReadyH.cons rfl (fun K hK => ?_) AllReadyH.nil
            go_simp
            refine hK.out _ _ (by first | exact hS.out | exact HB1.out _ | exact HB2.out _ _) (fun _ => ?_) -- S
            clear hK K
            (try simp only [Act.put, List.setIfInBounds_toArray, List.set_cons_zero, List.set_cons_succ])
            refine wpAnyH_done (by kernel_rfl) ?_ _
            refine NoPanic.normal ?_
            exact ⟨w1.heap.size + 1, w1.heap.size, rfl, Nat.le_succ _, Nat.le_refl _, (two_boxes w1 _ _).2, (two_boxes w1 _ _).1, HB2.out _ _, rfl⟩
          · skip
            go_simp
            refine hK.out _ _ (by first | exact hS.out | exact HB1.out _ | exact HB2.out _ _) (fun _ => ?_) -- A
            clear hK K
            (try simp only [Act.put, List.setIfInBounds_toArray, List.set_cons_zero, List.set_cons_succ])
            refine wpAnyH_ready (rs := [11]) (by kernel_rfl) (by simp) ?_
            refine AllReadyH.cons rfl (fun K hK => ?_) AllReadyH.nil
            go_simp
            ((with_reducible refine (S4.out _).mono ?_); rintro e w' ⟨rfl, rfl⟩)
            refine hK.out _ _ (by first | exact hS.out | exact HB1.out _ | exact HB2.out _ _) (fun _ => ?_) -- C
            clear hK K
            (try simp only [Act.put, List.setIfInBounds_toArray, List.set_cons_zero, List.set_cons_succ])
            refine wpAnyH_take (i := 12) (v := .int .i64 B) rfl (by kernel_rfl) (by kernel_rfl) (by kernel_rfl) (fun _ _ _ h => h) (Or.inl ⟨by rfl, ?hyb15⟩) (by first | exact hS.out | exact HB1.out _ | exact HB2.out _ _) ?restb15
            case hyb15 => (intro wz hSw; go_simp <;> rw [hB.out])
            (try simp only [Act.put, List.setIfInBounds_toArray])
            refine wpAnyH_ready (rs := [15]) (by kernel_rfl) (by simp) ?_
            refine AllReadyH.cons rfl (fun K hK => ?_) AllReadyH.nil
            go_simp
            refine hK.out _ _ (by first | exact hS.out | exact HB1.out _ | exact HB2.out _ _) (fun _ => ?_) -- S
            clear hK K
            (try simp only [Act.put, List.setIfInBounds_toArray, List.set_cons_zero, List.set_cons_succ])
            refine wpAnyH_ready (rs := [16]) (by kernel_rfl) (by simp) ?_
            refine AllReadyH.cons rfl (fun K hK => ?_) AllReadyH.nil
            go_simp
            refine hK.out _ _ (by first | exact hS.out | exact HB1.out _ | exact HB2.out _ _) (fun _ => ?_) -- S
            clear hK K
            (try simp only [Act.put, List.setIfInBounds_toArray, List.set_cons_zero, List.set_cons_succ])
            refine wpAnyH_done (by kernel_rfl) ?_ _
            refine NoPanic.normal ?_
            exact ⟨w1.heap.size + 1, w1.heap.size, rfl, Nat.le_succ _, Nat.le_refl _, (two_boxes w1 _ _).2, (two_boxes w1 _ _).1, HB2.out _ _, rfl⟩
      · skip
        go_simp
        refine hK.out _ _ (by first | exact hS.out | exact HB1.out _ | exact HB2.out _ _) (fun _ => ?_) -- A
        clear hK K
        (try simp only [Act.put, List.setIfInBounds_toArray, List.set_cons_zero, List.set_cons_succ])
        refine wpAnyH_ready (rs := [3, 14]) (by kernel_rfl) (by simp) ?_
        refine AllReadyH.cons rfl (fun K hK => ?_) (AllReadyH.cons rfl (fun K hK => ?_) (AllReadyH.nil))
        · skip
          go_simp
          ((with_reducible refine (S3.out _).mono ?_); rintro e w' ⟨rfl, rfl⟩)
          refine hK.out _ _ (by first | exact hS.out | exact HB1.out _ | exact HB2.out _ _) (fun _ => ?_) -- C
          clear hK K
          (try simp only [Act.put, List.setIfInBounds_toArray, List.set_cons_zero, List.set_cons_succ])
          refine wpAnyH_take (i := 4) (v := .int .i64 T) rfl (by kernel_rfl) (by kernel_rfl) (by kernel_rfl) (fun _ _ _ h => h) (Or.inl ⟨by rfl, ?hyb16⟩) (by first | exact hS.out | exact HB1.out _ | exact HB2.out _ _) ?restb16
          case hyb16 => (intro wz hSw; go_simp <;> rw [hT.out])
          (try simp only [Act.put, List.setIfInBounds_toArray])
          refine wpAnyH_ready (rs := [11, 14]) (by kernel_rfl) (by simp) ?_
          refine AllReadyH.cons rfl (fun K hK => ?_) (AllReadyH.cons rfl (fun K hK => ?_) (AllReadyH.nil))
          · skip
            go_simp
            ((with_reducible refine (S4.out _).mono ?_); rintro e w' ⟨rfl, rfl⟩)
            refine hK.out _ _ (by first | exact hS.out | exact HB1.out _ | exact HB2.out _ _) (fun _ => ?_) -- C
            clear hK K
            (try simp only [Act.put, List.setIfInBounds_toArray, List.set_cons_zero, List.set_cons_succ])
            refine wpAnyH_take (i := 12) (v := .int .i64 B) rfl (by kernel_rfl) (by kernel_rfl) (by kernel_rfl) (fun _ _ _ h => h) (Or.inl ⟨by rfl, ?hyb17⟩) (by first | exact hS.out | exact HB1.out _ | exact HB2.out _ _) ?restb17
            case hyb17 => (intro wz hSw; go_simp <;> rw [hB.out])
            (try simp only [Act.put, List.setIfInBounds_toArray])
            refine wpAnyH_ready (rs := [14]) (by kernel_rfl) (by simp) ?_
            refine AllReadyH.cons rfl (fun K hK => ?_) AllReadyH.nil
            go_simp
            refine hK.out _ _ (by first | exact hS.out | exact HB1.out _ | exact HB2.out _ _) (fun _ => ?_) -- A
            clear hK K
            (try simp only [Act.put, List.setIfInBounds_toArray, List.set_cons_zero, List.set_cons_succ])
            refine wpAnyH_ready (rs := [15]) (by kernel_rfl) (by simp) ?_
            refine AllReadyH.cons rfl (fun K hK => ?_) AllReadyH.nil
            go_simp
            refine hK.out _ _ (by first | exact hS.out | exact HB1.out _ | exact HB2.out _ _) (fun _ => ?_) -- S
            clear hK K
            (try simp only [Act.put, List.setIfInBounds_toArray, List.set_cons_zero, List.set_cons_succ])
            refine wpAnyH_ready (rs := [16]) (by kernel_rfl) (by simp) ?_
            refine AllReadyH.cons rfl (fun K hK => ?_) AllReadyH.nil
            go_simp
            refine hK.out _ _ (by first | exact hS.out | exact HB1.out _ | exact HB2.out _ _) (fun _ => ?_) -- S
            clear hK K
            (try simp only [Act.put, List.setIfInBounds_toArray, List.set_cons_zero, List.set_cons_succ])
            refine wpAnyH_done (by kernel_rfl) ?_ _
            refine NoPanic.normal ?_
            exact ⟨w1.heap.size, w1.heap.size + 1, rfl, Nat.le_refl _, Nat.le_succ _, (two_boxes w1 _ _).1, (two_boxes w1 _ _).2, HB2.out _ _, rfl⟩
          · skip
            go_simp
            refine hK.out _ _ (by first | exact hS.out | exact HB1.out _ | exact HB2.out _ _) (fun _ => ?_) -- A
            clear hK K
            (try simp only [Act.put, List.setIfInBounds_toArray, List.set_cons_zero, List.set_cons_succ])
            refine wpAnyH_ready (rs := [11]) (by kernel_rfl) (by simp) ?_
            refine AllReadyH.cons rfl (fun K hK => ?_) AllReadyH.nil
            go_simp
            ((with_reducible refine (S4.out _).mono ?_); rintro e w' ⟨rfl, rfl⟩)
            refine hK.out _ _ (by first | exact hS.out | exact HB1.out _ | exact HB2.out _ _) (fun _ => ?_) -- C
            clear hK K
            (try simp only [Act.put, List.setIfInBounds_toArray, List.set_cons_zero, List.set_cons_succ])
            refine wpAnyH_take (i := 12) (v := .int .i64 B) rfl (by kernel_rfl) (by kernel_rfl) (by kernel_rfl) (fun _ _ _ h => h) (Or.inl ⟨by rfl, ?hyb18⟩) (by first | exact hS.out | exact HB1.out _ | exact HB2.out _ _) ?restb18
            case hyb18 => (intro wz hSw; go_simp <;> rw [hB.out])
            (try simp only [Act.put, List.setIfInBounds_toArray])
            refine wpAnyH_ready (rs := [15]) (by kernel_rfl) (by simp) ?_
            refine AllReadyH.cons rfl (fun K hK => ?_) AllReadyH.nil
            go_simp
            refine hK.out _ _ (by first | exact hS.out | exact HB1.out _ | exact HB2.out _ _) (fun _ => ?_) -- S
            clear hK K
            (try simp only [Act.put, List.setIfInBounds_toArray, List.set_cons_zero, List.set_cons_succ])
            refine wpAnyH_ready (rs := [16]) (by kernel_rfl) (by simp) ?_
            refine AllReadyH.cons rfl (fun K hK => ?_) AllReadyH.nil
            go_simp
            refine hK.out _ _ (by first | exact hS.out | exact HB1.out _ | exact HB2.out _ _) (fun _ => ?_) -- S
            clear hK K
            (try simp only [Act.put, List.setIfInBounds_toArray, List.set_cons_zero, List.set_cons_succ])
            refine wpAnyH_done (by kernel_rfl) ?_ _
            refine NoPanic.normal ?_
            exact ⟨w1.heap.size, w1.heap.size + 1, rfl, Nat.le_refl _, Nat.le_succ _, (two_boxes w1 _ _).1, (two_boxes w1 _ _).2, HB2.out _ _, rfl⟩
        · skip
          go_simp
          refine hK.out _ _ (by first | exact hS.out | exact HB1.out _ | exact HB2.out _ _) (fun _ => ?_) -- A
          clear hK K
          (try simp only [Act.put, List.setIfInBounds_toArray, List.set_cons_zero, List.set_cons_succ])
          refine wpAnyH_ready (rs := [3]) (by kernel_rfl) (by simp) ?_
          refine AllReadyH.cons rfl (fun K hK => ?_) AllReadyH.nil
          go_simp
          ((with_reducible refine (S3.out _).mono ?_); rintro e w' ⟨rfl, rfl⟩)
          refine hK.out _ _ (by first | exact hS.out | exact HB1.out _ | exact HB2.out _ _) (fun _ => ?_) -- C
          clear hK K
          (try simp only [Act.put, List.setIfInBounds_toArray, List.set_cons_zero, List.set_cons_succ])
          refine wpAnyH_take (i := 4) (v := .int .i64 T) rfl (by kernel_rfl) (by kernel_rfl) (by kernel_rfl) (fun _ _ _ h => h) (Or.inl ⟨by rfl, ?hyb19⟩) (by first | exact hS.out | exact HB1.out _ | exact HB2.out _ _) ?restb19
          case hyb19 => (intro wz hSw; go_simp <;> rw [hT.out])
          (try simp only [Act.put, List.setIfInBounds_toArray])
          refine wpAnyH_ready (rs := [11]) (by kernel_rfl) (by simp) ?_
          refine AllReadyH.cons rfl (fun K hK => ?_) AllReadyH.nil
          go_simp
          ((with_reducible refine (S4.out _).mono ?_); rintro e w' ⟨rfl, rfl⟩)
          refine hK.out _ _ (by first | exact hS.out | exact HB1.out _ | exact HB2.out _ _) (fun _ => ?_) -- C
          clear hK K
          (try simp only [Act.put, List.setIfInBounds_toArray, List.set_cons_zero, List.set_cons_succ])
          refine wpAnyH_take (i := 12) (v := .int .i64 B) rfl (by kernel_rfl) (by kernel_rfl) (by kernel_rfl) (fun _ _ _ h => h) (Or.inl ⟨by rfl, ?hyb20⟩) (by first | exact hS.out | exact HB1.out _ | exact HB2.out _ _) ?restb20
          case hyb20 => (intro wz hSw; go_simp <;> rw [hB.out])
          (try simp only [Act.put, List.setIfInBounds_toArray])
          refine wpAnyH_ready (rs := [15]) (by kernel_rfl) (by simp) ?_
          refine AllReadyH.cons rfl (fun K hK => ?_) AllReadyH.nil
          go_simp
          refine hK.out _ _ (by first | exact hS.out | exact HB1.out _ | exact HB2.out _ _) (fun _ => ?_) -- S
          clear hK K
          (try simp only [Act.put, List.setIfInBounds_toArray, List.set_cons_zero, List.set_cons_succ])
          refine wpAnyH_ready (rs := [16]) (by kernel_rfl) (by simp) ?_
          refine AllReadyH.cons rfl (fun K hK => ?_) AllReadyH.nil
          go_simp
          refine hK.out _ _ (by first | exact hS.out | exact HB1.out _ | exact HB2.out _ _) (fun _ => ?_) -- S
          clear hK K
          (try simp only [Act.put, List.setIfInBounds_toArray, List.set_cons_zero, List.set_cons_succ])
          refine wpAnyH_done (by kernel_rfl) ?_ _
          refine NoPanic.normal ?_
          exact ⟨w1.heap.size, w1.heap.size + 1, rfl, Nat.le_refl _, Nat.le_succ _, (two_boxes w1 _ _).1, (two_boxes w1 _ _).2, HB2.out _ _, rfl⟩
      · skip
        go_simp
        refine hK.out _ _ (by first | exact hS.out | exact HB1.out _ | exact HB2.out _ _) (fun _ => ?_) -- A
        clear hK K
        (try simp only [Act.put, List.setIfInBounds_toArray, List.set_cons_zero, List.set_cons_succ])
        refine wpAnyH_ready (rs := [3, 13]) (by kernel_rfl) (by simp) ?_
        refine AllReadyH.cons rfl (fun K hK => ?_) (AllReadyH.cons rfl (fun K hK => ?_) (AllReadyH.nil))
        · skip
          go_simp
          ((with_reducible refine (S3.out _).mono ?_); rintro e w' ⟨rfl, rfl⟩)
          refine hK.out _ _ (by first | exact hS.out | exact HB1.out _ | exact HB2.out _ _) (fun _ => ?_) -- C
          clear hK K
          (try simp only [Act.put, List.setIfInBounds_toArray, List.set_cons_zero, List.set_cons_succ])
          refine wpAnyH_take (i := 4) (v := .int .i64 T) rfl (by kernel_rfl) (by kernel_rfl) (by kernel_rfl) (fun _ _ _ h => h) (Or.inl ⟨by rfl, ?hyb21⟩) (by first | exact hS.out | exact HB1.out _ | exact HB2.out _ _) ?restb21
          case hyb21 => (intro wz hSw; go_simp <;> rw [hT.out])
          (try simp only [Act.put, List.setIfInBounds_toArray])
          refine wpAnyH_ready (rs := [11, 13]) (by kernel_rfl) (by simp) ?_
          refine AllReadyH.cons rfl (fun K hK => ?_) (AllReadyH.cons rfl (fun K hK => ?_) (AllReadyH.nil))
          · skip
            go_simp
            ((with_reducible refine (S4.out _).mono ?_); rintro e w' ⟨rfl, rfl⟩)
            refine hK.out _ _ (by first | exact hS.out | exact HB1.out _ | exact HB2.out _ _) (fun _ => ?_) -- C
            clear hK K
            (try simp only [Act.put, List.setIfInBounds_toArray, List.set_cons_zero, List.set_cons_succ])
            refine wpAnyH_take (i := 12) (v := .int .i64 B) rfl (by kernel_rfl) (by kernel_rfl) (by kernel_rfl) (fun _ _ _ h => h) (Or.inl ⟨by rfl, ?hyb22⟩) (by first | exact hS.out | exact HB1.out _ | exact HB2.out _ _) ?restb22
            case hyb22 => (intro wz hSw; go_simp <;> rw [hB.out])
            (try simp only [Act.put, List.setIfInBounds_toArray])
            refine wpAnyH_ready (rs := [13]) (by kernel_rfl) (by simp) ?_
            refine AllReadyH.cons rfl (fun K hK => ?_) AllReadyH.nil
            go_simp
            refine hK.out _ _ (by first | exact hS.out | exact HB1.out _ | exact HB2.out _ _) (fun _ => ?_) -- A
            clear hK K
            (try simp only [Act.put, List.setIfInBounds_toArray, List.set_cons_zero, List.set_cons_succ])
            refine wpAnyH_ready (rs := [15]) (by kernel_rfl) (by simp) ?_
            refine AllReadyH.cons rfl (fun K hK => ?_) AllReadyH.nil
            go_simp
            refine hK.out _ _ (by first | exact hS.out | exact HB1.out _ | exact HB2.out _ _) (fun _ => ?_) -- S
            clear hK K
            (try simp only [Act.put, List.setIfInBounds_toArray, List.set_cons_zero, List.set_cons_succ])
            refine wpAnyH_ready (rs := [16]) (by kernel_rfl) (by simp) ?_
            refine AllReadyH.cons rfl (fun K hK => ?_) AllReadyH.nil
            go_simp
            refine hK.out _ _ (by first | exact hS.out | exact HB1.out _ | exact HB2.out _ _) (fun _ => ?_) -- S
            clear hK K
            (try simp only [Act.put, List.setIfInBounds_toArray, List.set_cons_zero, List.set_cons_succ])
            refine wpAnyH_done (by kernel_rfl) ?_ _
            refine NoPanic.normal ?_
            exact ⟨w1.heap.size + 1, w1.heap.size, rfl, Nat.le_succ _, Nat.le_refl _, (two_boxes w1 _ _).2, (two_boxes w1 _ _).1, HB2.out _ _, rfl⟩
          · skip
            go_simp
            refine hK.out _ _ (by first | exact hS.out | exact HB1.out _ | exact HB2.out _ _) (fun _ => ?_) -- A
            clear hK K
            (try simp only [Act.put, List.setIfInBounds_toArray, List.set_cons_zero, List.set_cons_succ])
            refine wpAnyH_ready (rs := [11]) (by kernel_rfl) (by simp) ?_
            refine AllReadyH.cons rfl (fun K hK => ?_) AllReadyH.nil
            go_simp
            ((with_reducible refine (S4.out _).mono ?_); rintro e w' ⟨rfl, rfl⟩)
            refine hK.out _ _ (by first | exact hS.out | exact HB1.out _ | exact HB2.out _ _) (fun _ => ?_) -- C
            clear hK K
            (try simp only [Act.put, List.setIfInBounds_toArray, List.set_cons_zero, List.set_cons_succ])
            refine wpAnyH_take (i := 12) (v := .int .i64 B) rfl (by kernel_rfl) (by kernel_rfl) (by kernel_rfl) (fun _ _ _ h => h) (Or.inl ⟨by rfl, ?hyb23⟩) (by first | exact hS.out | exact HB1.out _ | exact HB2.out _ _) ?restb23
            case hyb23 => (intro wz hSw; go_simp <;> rw [hB.out])
            (try simp only [Act.put, List.setIfInBounds_toArray])
            refine wpAnyH_ready (rs := [15]) (by kernel_rfl) (by simp) ?_
            refine AllReadyH.cons rfl (fun K hK => ?_) AllReadyH.nil
            go_simp
            refine hK.out _ _ (by first | exact hS.out | exact HB1.out _ | exact HB2.out _ _) (fun _ => ?_) -- S
            clear hK K
            (try simp only [Act.put, List.setIfInBounds_toArray, List.set_cons_zero, List.set_cons_succ])
            refine wpAnyH_ready (rs := [16]) (by kernel_rfl) (by simp) ?_
            refine AllReadyH.cons rfl (fun K hK => ?_) AllReadyH.nil
            go_simp
            refine hK.out _ _ (by first | exact hS.out | exact HB1.out _ | exact HB2.out _ _) (fun _ => ?_) -- S
            clear hK K
            (try simp only [Act.put, List.setIfInBounds_toArray, List.set_cons_zero, List.set_cons_succ])
            refine wpAnyH_done (by kernel_rfl) ?_ _
            refine NoPanic.normal ?_
            exact ⟨w1.heap.size + 1, w1.heap.size, rfl, Nat.le_succ _, Nat.le_refl _, (two_boxes w1 _ _).2, (two_boxes w1 _ _).1, HB2.out _ _, rfl⟩
        · skip
          go_simp
          refine hK.out _ _ (by first | exact hS.out | exact HB1.out _ | exact HB2.out _ _) (fun _ => ?_) -- A
          clear hK K
          (try simp only [Act.put, List.setIfInBounds_toArray, List.set_cons_zero, List.set_cons_succ])
          refine wpAnyH_ready (rs := [3]) (by kernel_rfl) (by simp) ?_
          refine AllReadyH.cons rfl (fun K hK => ?_) AllReadyH.nil
          go_simp
          ((with_reducible refine (S3.out _).mono ?_); rintro e w' ⟨rfl, rfl⟩)
          refine hK.out _ _ (by first | exact hS.out | exact HB1.out _ | exact HB2.out _ _) (fun _ => ?_) -- C
          clear hK K
          (try simp only [Act.put, List.setIfInBounds_toArray, List.set_cons_zero, List.set_cons_succ])
          refine wpAnyH_take (i := 4) (v := .int .i64 T) rfl (by kernel_rfl) (by kernel_rfl) (by kernel_rfl) (fun _ _ _ h => h) (Or.inl ⟨by rfl, ?hyb24⟩) (by first | exact hS.out | exact HB1.out _ | exact HB2.out _ _) ?restb24
          case hyb24 => (intro wz hSw; go_simp <;> rw [hT.out])
          (try simp only [Act.put, List.setIfInBounds_toArray])
          refine wpAnyH_ready (rs := [11]) (by kernel_rfl) (by simp) ?_
          refine AllReadyH.cons rfl (fun K hK => ?_) AllReadyH.nil
          go_simp
          ((with_reducible refine (S4.out _).mono ?_); rintro e w' ⟨rfl, rfl⟩)
          refine hK.out _ _ (by first | exact hS.out | exact HB1.out _ | exact HB2.out _ _) (fun _ => ?_) -- C
          clear hK K
          (try simp only [Act.put, List.setIfInBounds_toArray, List.set_cons_zero, List.set_cons_succ])
          refine wpAnyH_take (i := 12) (v := .int .i64 B) rfl (by kernel_rfl) (by kernel_rfl) (by kernel_rfl) (fun _ _ _ h => h) (Or.inl ⟨by rfl, ?hyb25⟩) (by first | exact hS.out | exact HB1.out _ | exact HB2.out _ _) ?restb25
          case hyb25 => (intro wz hSw; go_simp <;> rw [hB.out])
          (try simp only [Act.put, List.setIfInBounds_toArray])
          refine wpAnyH_ready (rs := [15]) (by kernel_rfl) (by simp) ?_
          refine AllReadyH.cons rfl (fun K hK => ?_) AllReadyH.nil
          go_simp
          refine hK.out _ _ (by first | exact hS.out | exact HB1.out _ | exact HB2.out _ _) (fun _ => ?_) -- S
          clear hK K
          (try simp only [Act.put, List.setIfInBounds_toArray, List.set_cons_zero, List.set_cons_succ])
          refine wpAnyH_ready (rs := [16]) (by kernel_rfl) (by simp) ?_
          refine AllReadyH.cons rfl (fun K hK => ?_) AllReadyH.nil
          go_simp
          refine hK.out _ _ (by first | exact hS.out | exact HB1.out _ | exact HB2.out _ _) (fun _ => ?_) -- S
          clear hK K
          (try simp only [Act.put, List.setIfInBounds_toArray, List.set_cons_zero, List.set_cons_succ])
          refine wpAnyH_done (by kernel_rfl) ?_ _
          refine NoPanic.normal ?_
          exact ⟨w1.heap.size + 1, w1.heap.size, rfl, Nat.le_succ _, Nat.le_refl _, (two_boxes w1 _ _).2, (two_boxes w1 _ _).1, HB2.out _ _, rfl⟩
  case reg =>
    refine wp_region_noPanic ?_
    refine wp_region_held_drew (S := fun w' => Below w0.heap.size w0 w') (by kernel_rfl) (Below.refl _ _).drew (fun hS => ?_)
    have hS := Lib.hid hS
    refine wpAnyH_take (i := 0) (v := ?va1) rfl (by kernel_rfl) (by kernel_rfl) (by kernel_rfl) (fun _ _ _ h => h) (Or.inl ⟨by rfl, ?hya1⟩) (by first | exact hS.out | exact HB1.out _ | exact HB2.out _ _) ?resta1
    case hya1 => (intro wz hSw; go_simp <;> with_reducible rfl)
    (try simp only [Act.put, List.setIfInBounds_toArray])
    refine wpAnyH_take (i := 1) (v := ?va2) rfl (by kernel_rfl) (by kernel_rfl) (by kernel_rfl) (fun _ _ _ h => h) (Or.inl ⟨by rfl, ?hya2⟩) (by first | exact hS.out | exact HB1.out _ | exact HB2.out _ _) ?resta2
    case hya2 => (intro wz hSw; have l1 := (hSw.cell (p := ⟨w.heap.size, 0, none⟩) (by have := HS.out; show w.heap.size < _; omega)).trans H1.out; have l2 := (hSw.cell (p := ⟨w.heap.size + 1, 0, none⟩) (by have := HS.out; show w.heap.size + 1 < _; omega)).trans H2.out; go_simp <;> with_reducible rfl)
    (try simp only [Act.put])
    refine wpAnyH_take (i := 2) (v := ?va3) rfl (by kernel_rfl) (by kernel_rfl) (by kernel_rfl) (fun _ _ _ h => h) (Or.inl ⟨by rfl, ?hya3⟩) (by first | exact hS.out | exact HB1.out _ | exact HB2.out _ _) ?resta3
    case hya3 => (intro wz hSw; go_simp <;> with_reducible rfl)
    (try simp only [Act.put])
    refine wpAnyH_take (i := 5) (v := ?va4) rfl (by kernel_rfl) (by kernel_rfl) (by kernel_rfl) (fun _ _ _ h => h) (Or.inl ⟨by rfl, ?hya4⟩) (by first | exact hS.out | exact HB1.out _ | exact HB2.out _ _) ?resta4
    case hya4 => (intro wz hSw; go_simp <;> with_reducible rfl)
    (try simp only [Act.put])
    refine wpAnyH_take (i := 6) (v := ?va5) rfl (by kernel_rfl) (by kernel_rfl) (by kernel_rfl) (fun _ _ _ h => h) (Or.inl ⟨by rfl, ?hya5⟩) (by first | exact hS.out | exact HB1.out _ | exact HB2.out _ _) ?resta5
    case hya5 => (intro wz hSw; have l1 := (hSw.cell (p := ⟨w.heap.size, 0, none⟩) (by have := HS.out; show w.heap.size < _; omega)).trans H1.out; have l2 := (hSw.cell (p := ⟨w.heap.size + 1, 0, none⟩) (by have := HS.out; show w.heap.size + 1 < _; omega)).trans H2.out; go_simp <;> with_reducible rfl)
    (try simp only [Act.put])
    refine wpAnyH_take (i := 7) (v := .int .i64 (W - 1)) rfl (by kernel_rfl) (by kernel_rfl) (by kernel_rfl) (fun _ _ _ h => h) (Or.inl ⟨by rfl, ?hya6⟩) (by first | exact hS.out | exact HB1.out _ | exact HB2.out _ _) ?resta6
    case hya6 => (intro wz hSw; go_simp <;> with_reducible rfl)
    (try simp only [Act.put])
    refine wpAnyH_take (i := 8) (v := ?va7) rfl (by kernel_rfl) (by kernel_rfl) (by kernel_rfl) (fun _ _ _ h => h) (Or.inl ⟨by rfl, ?hya7⟩) (by first | exact hS.out | exact HB1.out _ | exact HB2.out _ _) ?resta7
    case hya7 => (intro wz hSw; go_simp <;> with_reducible rfl)
    (try simp only [Act.put])
    refine wpAnyH_take (i := 9) (v := ?va8) rfl (by kernel_rfl) (by kernel_rfl) (by kernel_rfl) (fun _ _ _ h => h) (Or.inl ⟨by rfl, ?hya8⟩) (by first | exact hS.out | exact HB1.out _ | exact HB2.out _ _) ?resta8
    case hya8 => (intro wz hSw; have l1 := (hSw.cell (p := ⟨w.heap.size, 0, none⟩) (by have := HS.out; show w.heap.size < _; omega)).trans H1.out; have l2 := (hSw.cell (p := ⟨w.heap.size + 1, 0, none⟩) (by have := HS.out; show w.heap.size + 1 < _; omega)).trans H2.out; go_simp <;> with_reducible rfl)
    (try simp only [Act.put])
    refine wpAnyH_take (i := 10) (v := ?va9) rfl (by kernel_rfl) (by kernel_rfl) (by kernel_rfl) (fun _ _ _ h => h) (Or.inl ⟨by rfl, ?hya9⟩) (by first | exact hS.out | exact HB1.out _ | exact HB2.out _ _) ?resta9
    case hya9 => (intro wz hSw; go_simp <;> with_reducible rfl)
    (try simp only [Act.put])
    refine wpAnyH_ready (rs := [3, 13, 14]) (by kernel_rfl) (by simp) ?_
    refine AllReadyH.cons rfl (fun K hK => ?_) (AllReadyH.cons rfl (fun K hK => ?_) (AllReadyH.cons rfl (fun K hK => ?_) (AllReadyH.nil)))
    · skip
      go_simp
      ((with_reducible refine (S1.out _).mono ?_); rintro e w' ⟨rfl, rfl⟩)
      refine hK.out _ _ (by first | exact hS.out | exact HB1.out _ | exact HB2.out _ _) (fun _ => ?_) -- C
      clear hK K
      (try simp only [Act.put, List.setIfInBounds_toArray, List.set_cons_zero, List.set_cons_succ])
      refine wpAnyH_take (i := 4) (v := .int .i64 L) rfl (by kernel_rfl) (by kernel_rfl) (by kernel_rfl) (fun _ _ _ h => h) (Or.inl ⟨by rfl, ?hya10⟩) (by first | exact hS.out | exact HB1.out _ | exact HB2.out _ _) ?resta10
      case hya10 => (intro wz hSw; go_simp <;> rw [hL.out])
      (try simp only [Act.put, List.setIfInBounds_toArray])
      refine wpAnyH_ready (rs := [11, 13, 14]) (by kernel_rfl) (by simp) ?_
      refine AllReadyH.cons rfl (fun K hK => ?_) (AllReadyH.cons rfl (fun K hK => ?_) (AllReadyH.cons rfl (fun K hK => ?_) (AllReadyH.nil)))
      · skip
        go_simp
        ((with_reducible refine (S2.out _).mono ?_); rintro e w' ⟨rfl, rfl⟩)
        refine hK.out _ _ (by first | exact hS.out | exact HB1.out _ | exact HB2.out _ _) (fun _ => ?_) -- C
        clear hK K
        (try simp only [Act.put, List.setIfInBounds_toArray, List.set_cons_zero, List.set_cons_succ])
        refine wpAnyH_take (i := 12) (v := .int .i64 R) rfl (by kernel_rfl) (by kernel_rfl) (by kernel_rfl) (fun _ _ _ h => h) (Or.inl ⟨by rfl, ?hya11⟩) (by first | exact hS.out | exact HB1.out _ | exact HB2.out _ _) ?resta11
        case hya11 => (intro wz hSw; go_simp <;> rw [hR.out])
        (try simp only [Act.put, List.setIfInBounds_toArray])
        refine wpAnyH_ready (rs := [13, 14]) (by kernel_rfl) (by simp) ?_
        refine AllReadyH.cons rfl (fun K hK => ?_) (AllReadyH.cons rfl (fun K hK => ?_) (AllReadyH.nil))
        · skip
          go_simp
          refine hK.out _ _ (by first | exact hS.out | exact HB1.out _ | exact HB2.out _ _) (fun _ => ?_) -- A
          clear hK K
          (try simp only [Act.put, List.setIfInBounds_toArray, List.set_cons_zero, List.set_cons_succ])
          refine wpAnyH_ready (rs := [14]) (by kernel_rfl) (by simp) ?_
          refine AllReadyH.cons rfl (fun K hK => ?_) AllReadyH.nil
          go_simp
          refine hK.out _ _ (by first | exact hS.out | exact HB1.out _ | exact HB2.out _ _) (fun _ => ?_) -- A
          clear hK K
          (try simp only [Act.put, List.setIfInBounds_toArray, List.set_cons_zero, List.set_cons_succ])
          refine wpAnyH_ready (rs := [15]) (by kernel_rfl) (by simp) ?_
          refine AllReadyH.cons rfl (fun K hK => ?_) AllReadyH.nil
          go_simp
          refine hK.out _ _ (by first | exact hS.out | exact HB1.out _ | exact HB2.out _ _) (fun _ => ?_) -- S
          clear hK K
          (try simp only [Act.put, List.setIfInBounds_toArray, List.set_cons_zero, List.set_cons_succ])
          refine wpAnyH_ready (rs := [16]) (by kernel_rfl) (by simp) ?_
          refine AllReadyH.cons rfl (fun K hK => ?_) AllReadyH.nil
          go_simp
          refine hK.out _ _ (by first | exact hS.out | exact HB1.out _ | exact HB2.out _ _) (fun _ => ?_) -- S
          clear hK K
          (try simp only [Act.put, List.setIfInBounds_toArray, List.set_cons_zero, List.set_cons_succ])
          refine wpAnyH_done (by kernel_rfl) ?_ _
          refine NoPanic.normal ?_
          exact ⟨w0.heap.size, w0.heap.size + 1, rfl, Nat.le_refl _, Nat.le_succ _, (two_boxes w0 _ _).1, (two_boxes w0 _ _).2, HB2.out _ _, rfl⟩
        · skip
          go_simp
          refine hK.out _ _ (by first | exact hS.out | exact HB1.out _ | exact HB2.out _ _) (fun _ => ?_) -- A
          clear hK K
          (try simp only [Act.put, List.setIfInBounds_toArray, List.set_cons_zero, List.set_cons_succ])
          refine wpAnyH_ready (rs := [13]) (by kernel_rfl) (by simp) ?_
          refine AllReadyH.cons rfl (fun K hK => ?_) AllReadyH.nil
          go_simp
          refine hK.out _ _ (by first | exact hS.out | exact HB1.out _ | exact HB2.out _ _) (fun _ => ?_) -- A
          clear hK K
          (try simp only [Act.put, List.setIfInBounds_toArray, List.set_cons_zero, List.set_cons_succ])
          refine wpAnyH_ready (rs := [15]) (by kernel_rfl) (by simp) ?_
          refine AllReadyH.cons rfl (fun K hK => ?_) AllReadyH.nil
          go_simp
          refine hK.out _ _ (by first | exact hS.out | exact HB1.out _ | exact HB2.out _ _) (fun _ => ?_) -- S
          clear hK K
          (try simp only [Act.put, List.setIfInBounds_toArray, List.set_cons_zero, List.set_cons_succ])
          refine wpAnyH_ready (rs := [16]) (by kernel_rfl) (by simp) ?_
          refine AllReadyH.cons rfl (fun K hK => ?_) AllReadyH.nil
          go_simp
          refine hK.out _ _ (by first | exact hS.out | exact HB1.out _ | exact HB2.out _ _) (fun _ => ?_) -- S
          clear hK K
          (try simp only [Act.put, List.setIfInBounds_toArray, List.set_cons_zero, List.set_cons_succ])
          refine wpAnyH_done (by kernel_rfl) ?_ _
          refine NoPanic.normal ?_
          exact ⟨w0.heap.size + 1, w0.heap.size, rfl, Nat.le_succ _, Nat.le_refl _, (two_boxes w0 _ _).2, (two_boxes w0 _ _).1, HB2.out _ _, rfl⟩
      · skip
        go_simp
        refine hK.out _ _ (by first | exact hS.out | exact HB1.out _ | exact HB2.out _ _) (fun _ => ?_) -- A
        clear hK K
        (try simp only [Act.put, List.setIfInBounds_toArray, List.set_cons_zero, List.set_cons_succ])
        refine wpAnyH_ready (rs := [11, 14]) (by kernel_rfl) (by simp) ?_
        refine AllReadyH.cons rfl (fun K hK => ?_) (AllReadyH.cons rfl (fun K hK => ?_) (AllReadyH.nil))
        · skip
          go_simp
          ((with_reducible refine (S2.out _).mono ?_); rintro e w' ⟨rfl, rfl⟩)
          refine hK.out _ _ (by first | exact hS.out | exact HB1.out _ | exact HB2.out _ _) (fun _ => ?_) -- C
          clear hK K
          (try simp only [Act.put, List.setIfInBounds_toArray, List.set_cons_zero, List.set_cons_succ])
          refine wpAnyH_take (i := 12) (v := .int .i64 R) rfl (by kernel_rfl) (by kernel_rfl) (by kernel_rfl) (fun _ _ _ h => h) (Or.inl ⟨by rfl, ?hya12⟩) (by first | exact hS.out | exact HB1.out _ | exact HB2.out _ _) ?resta12
          case hya12 => (intro wz hSw; go_simp <;> rw [hR.out])
          (try simp only [Act.put, List.setIfInBounds_toArray])
          refine wpAnyH_ready (rs := [14]) (by kernel_rfl) (by simp) ?_
          refine AllReadyH.cons rfl (fun K hK => ?_) AllReadyH.nil
          go_simp
          refine hK.out _ _ (by first | exact hS.out | exact HB1.out _ | exact HB2.out _ _) (fun _ => ?_) -- A
          clear hK K
          (try simp only [Act.put, List.setIfInBounds_toArray, List.set_cons_zero, List.set_cons_succ])
          refine wpAnyH_ready (rs := [15]) (by kernel_rfl) (by simp) ?_
          refine AllReadyH.cons rfl (fun K hK => ?_) AllReadyH.nil
          go_simp
          refine hK.out _ _ (by first | exact hS.out | exact HB1.out _ | exact HB2.out _ _) (fun _ => ?_) -- S
          clear hK K
          (try simp only [Act.put, List.setIfInBounds_toArray, List.set_cons_zero, List.set_cons_succ])
          refine wpAnyH_ready (rs := [16]) (by kernel_rfl) (by simp) ?_
          refine AllReadyH.cons rfl (fun K hK => ?_) AllReadyH.nil
          go_simp
          refine hK.out _ _ (by first | exact hS.out | exact HB1.out _ | exact HB2.out _ _) (fun _ => ?_) -- S
          clear hK K
          (try simp only [Act.put, List.setIfInBounds_toArray, List.set_cons_zero, List.set_cons_succ])
          refine wpAnyH_done (by kernel_rfl) ?_ _
          refine NoPanic.normal ?_
          exact ⟨w0.heap.size, w0.heap.size + 1, rfl, Nat.le_refl _, Nat.le_succ _, (two_boxes w0 _ _).1, (two_boxes w0 _ _).2, HB2.out _ _, rfl⟩
        · skip
          go_simp
          refine hK.out _ _ (by first | exact hS.out | exact HB1.out _ | exact HB2.out _ _) (fun _ => ?_) -- A
          clear hK K
          (try simp only [Act.put, List.setIfInBounds_toArray, List.set_cons_zero, List.set_cons_succ])
          refine wpAnyH_ready (rs := [11]) (by kernel_rfl) (by simp) ?_
          refine AllReadyH.cons rfl (fun K hK => ?_) AllReadyH.nil
          go_simp
          ((with_reducible refine (S2.out _).mono ?_); rintro e w' ⟨rfl, rfl⟩)
          refine hK.out _ _ (by first | exact hS.out | exact HB1.out _ | exact HB2.out _ _) (fun _ => ?_) -- C
          clear hK K
          (try simp only [Act.put, List.setIfInBounds_toArray, List.set_cons_zero, List.set_cons_succ])
          refine wpAnyH_take (i := 12) (v := .int .i64 R) rfl (by kernel_rfl) (by kernel_rfl) (by kernel_rfl) (fun _ _ _ h => h) (Or.inl ⟨by rfl, ?hya13⟩) (by first | exact hS.out | exact HB1.out _ | exact HB2.out _ _) ?resta13
          case hya13 => (intro wz hSw; go_simp <;> rw [hR.out])
          (try simp only [Act.put, List.setIfInBounds_toArray])
          refine wpAnyH_ready (rs := [15]) (by kernel_rfl) (by simp) ?_
          refine AllReadyH.cons rfl (fun K hK => ?_) AllReadyH.nil
          go_simp
          refine hK.out _ _ (by first | exact hS.out | exact HB1.out _ | exact HB2.out _ _) (fun _ => ?_) -- S
          clear hK K
          (try simp only [Act.put, List.setIfInBounds_toArray, List.set_cons_zero, List.set_cons_succ])
          refine wpAnyH_ready (rs := [16]) (by kernel_rfl) (by simp) ?_
          refine AllReadyH.cons rfl (fun K hK => ?_) AllReadyH.nil
          go_simp
          refine hK.out _ _ (by first | exact hS.out | exact HB1.out _ | exact HB2.out _ _) (fun _ => ?_) -- S
          clear hK K
          (try simp only [Act.put, List.setIfInBounds_toArray, List.set_cons_zero, List.set_cons_succ])
          refine wpAnyH_done (by kernel_rfl) ?_ _
          refine NoPanic.normal ?_
          exact ⟨w0.heap.size, w0.heap.size + 1, rfl, Nat.le_refl _, Nat.le_succ _, (two_boxes w0 _ _).1, (two_boxes w0 _ _).2, HB2.out _ _, rfl⟩
      · skip
        go_simp
        refine hK.out _ _ (by first | exact hS.out | exact HB1.out _ | exact HB2.out _ _) (fun _ => ?_) -- A
        clear hK K
        (try simp only [Act.put, List.setIfInBounds_toArray, List.set_cons_zero, List.set_cons_succ])
        refine wpAnyH_ready (rs := [11, 13]) (by kernel_rfl) (by simp) ?_
        refine AllReadyH.cons rfl (fun K hK => ?_) (AllReadyH.cons rfl (fun K hK => ?_) (AllReadyH.nil))
        · skip
          go_simp
          ((with_reducible refine (S2.out _).mono ?_); rintro e w' ⟨rfl, rfl⟩)
          refine hK.out _ _ (by first | exact hS.out | exact HB1.out _ | exact HB2.out _ _) (fun _ => ?_) -- C
          clear hK K
          (try simp only [Act.put, List.setIfInBounds_toArray, List.set_cons_zero, List.set_cons_succ])
          refine wpAnyH_take (i := 12) (v := .int .i64 R) rfl (by kernel_rfl) (by kernel_rfl) (by kernel_rfl) (fun _ _ _ h => h) (Or.inl ⟨by rfl, ?hya14⟩) (by first | exact hS.out | exact HB1.out _ | exact HB2.out _ _) ?resta14
          case hya14 => (intro wz hSw; go_simp <;> rw [hR.out])
          (try simp only [Act.put, List.setIfInBounds_toArray])
          refine wpAnyH_ready (rs := [13]) (by kernel_rfl) (by simp) ?_
          refine AllReadyH.cons rfl (fun K hK => ?_) AllReadyH.nil
          go_simp
          refine hK.out _ _ (by first | exact hS.out | exact HB1.out _ | exact HB2.out _ _) (fun _ => ?_) -- A
          clear hK K
          (try simp only [Act.put, List.setIfInBounds_toArray, List.set_cons_zero, List.set_cons_succ])
          refine wpAnyH_ready (rs := [15]) (by kernel_rfl) (by simp) ?_
          refine AllReadyH.cons rfl (fun K hK => ?_) AllReadyH.nil
          go_simp
          refine hK.out _ _ (by first | exact hS.out | exact HB1.out _ | exact HB2.out _ _) (fun _ => ?_) -- S
          clear hK K
          (try simp only [Act.put, List.setIfInBounds_toArray, List.set_cons_zero, List.set_cons_succ])
          refine wpAnyH_ready (rs := [16]) (by kernel_rfl) (by simp) ?_
          refine AllReadyH.cons rfl (fun K hK => ?_) AllReadyH.nil
          go_simp
          refine hK.out _ _ (by first | exact hS.out | exact HB1.out _ | exact HB2.out _ _) (fun _ => ?_) -- S
          clear hK K
          (try simp only [Act.put, List.setIfInBounds_toArray, List.set_cons_zero, List.set_cons_succ])
          refine wpAnyH_done (by kernel_rfl) ?_ _
          refine NoPanic.normal ?_
          exact ⟨w0.heap.size + 1, w0.heap.size, rfl, Nat.le_succ _, Nat.le_refl _, (two_boxes w0 _ _).2, (two_boxes w0 _ _).1, HB2.out _ _, rfl⟩
        · skip
          go_simp
          refine hK.out _ _ (by first | exact hS.out | exact HB1.out _ | exact HB2.out _ _) (fun _ => ?_) -- A
          clear hK K
          (try simp only [Act.put, List.setIfInBounds_toArray, List.set_cons_zero, List.set_cons_succ])
          refine wpAnyH_ready (rs := [11]) (by kernel_rfl) (by simp) ?_
          refine AllReadyH.cons rfl (fun K hK => ?_) AllReadyH.nil
          go_simp
          ((with_reducible refine (S2.out _).mono ?_); rintro e w' ⟨rfl, rfl⟩)
          refine hK.out _ _ (by first | exact hS.out | exact HB1.out _ | exact HB2.out _ _) (fun _ => ?_) -- C
          clear hK K
          (try simp only [Act.put, List.setIfInBounds_toArray, List.set_cons_zero, List.set_cons_succ])
          refine wpAnyH_take (i := 12) (v := .int .i64 R) rfl (by kernel_rfl) (by kernel_rfl) (by kernel_rfl) (fun _ _ _ h => h) (Or.inl ⟨by rfl, ?hya15⟩) (by first | exact hS.out | exact HB1.out _ | exact HB2.out _ _) ?resta15
          case hya15 => (intro wz hSw; go_simp <;> rw [hR.out])
          (try simp only [Act.put, List.setIfInBounds_toArray])
          refine wpAnyH_ready (rs := [15]) (by kernel_rfl) (by simp) ?_
          refine AllReadyH.cons rfl (fun K hK => ?_) AllReadyH.nil
          go_simp
          refine hK.out _ _ (by first | exact hS.out | exact HB1.out _ | exact HB2.out _ _) (fun _ => ?_) -- S
          clear hK K
          (try simp only [Act.put, List.setIfInBounds_toArray, List.set_cons_zero, List.set_cons_succ])
          refine wpAnyH_ready (rs := [16]) (by kernel_rfl) (by simp) ?_
          refine AllReadyH.cons rfl (fun K hK => ?_) AllReadyH.nil
          go_simp
          refine hK.out _ _ (by first | exact hS.out | exact HB1.out _ | exact HB2.out _ _) (fun _ => ?_) -- S
          clear hK K
          (try simp only [Act.put, List.setIfInBounds_toArray, List.set_cons_zero, List.set_cons_succ])
          refine wpAnyH_done (by kernel_rfl) ?_ _
          refine NoPanic.normal ?_
          exact ⟨w0.heap.size + 1, w0.heap.size, rfl, Nat.le_succ _, Nat.le_refl _, (two_boxes w0 _ _).2, (two_boxes w0 _ _).1, HB2.out _ _, rfl⟩
    · skip
      go_simp
      refine hK.out _ _ (by first | exact hS.out | exact HB1.out _ | exact HB2.out _ _) (fun _ => ?_) -- A
      clear hK K
      (try simp only [Act.put, List.setIfInBounds_toArray, List.set_cons_zero, List.set_cons_succ])
      refine wpAnyH_ready (rs := [3, 14]) (by kernel_rfl) (by simp) ?_
      refine AllReadyH.cons rfl (fun K hK => ?_) (AllReadyH.cons rfl (fun K hK => ?_) (AllReadyH.nil))
      · skip
        go_simp
        ((with_reducible refine (S1.out _).mono ?_); rintro e w' ⟨rfl, rfl⟩)
        refine hK.out _ _ (by first | exact hS.out | exact HB1.out _ | exact HB2.out _ _) (fun _ => ?_) -- C
        clear hK K
        (try simp only [Act.put, List.setIfInBounds_toArray, List.set_cons_zero, List.set_cons_succ])
        refine wpAnyH_take (i := 4) (v := .int .i64 L) rfl (by kernel_rfl) (by kernel_rfl) (by kernel_rfl) (fun _ _ _ h => h) (Or.inl ⟨by rfl, ?hya16⟩) (by first | exact hS.out | exact HB1.out _ | exact HB2.out _ _) ?resta16
        case hya16 => (intro wz hSw; go_simp <;> rw [hL.out])
        (try simp only [Act.put, List.setIfInBounds_toArray])
        refine wpAnyH_ready (rs := [11, 14]) (by kernel_rfl) (by simp) ?_
        refine AllReadyH.cons rfl (fun K hK => ?_) (AllReadyH.cons rfl (fun K hK => ?_) (AllReadyH.nil))
        · skip
          go_simp
          ((with_reducible refine (S2.out _).mono ?_); rintro e w' ⟨rfl, rfl⟩)
          refine hK.out _ _ (by first | exact hS.out | exact HB1.out _ | exact HB2.out _ _) (fun _ => ?_) -- C
          clear hK K
          (try simp only [Act.put, List.setIfInBounds_toArray, List.set_cons_zero, List.set_cons_succ])
          refine wpAnyH_take (i := 12) (v := .int .i64 R) rfl (by kernel_rfl) (by kernel_rfl) (by kernel_rfl) (fun _ _ _ h => h) (Or.inl ⟨by rfl, ?hya17⟩) (by first | exact hS.out | exact HB1.out _ | exact HB2.out _ _) ?resta17
          case hya17 => (intro wz hSw; go_simp <;> rw [hR.out])
          (try simp only [Act.put, List.setIfInBounds_toArray])
          refine wpAnyH_ready (rs := [14]) (by kernel_rfl) (by simp) ?_
          refine AllReadyH.cons rfl (fun K hK => ?_) AllReadyH.nil
          go_simp
          refine hK.out _ _ (by first | exact hS.out | exact HB1.out _ | exact HB2.out _ _) (fun _ => ?_) -- A
          clear hK K
          (try simp only [Act.put, List.setIfInBounds_toArray, List.set_cons_zero, List.set_cons_succ])
          refine wpAnyH_ready (rs := [15]) (by kernel_rfl) (by simp) ?_
          refine AllReadyH.cons rfl (fun K hK => ?_) AllReadyH.nil
          go_simp
          refine hK.out _ _ (by first | exact hS.out | exact HB1.out _ | exact HB2.out _ _) (fun _ => ?_) -- S
          clear hK K
          (try simp only [Act.put, List.setIfInBounds_toArray, List.set_cons_zero, List.set_cons_succ])
          refine wpAnyH_ready (rs := [16]) (by kernel_rfl) (by simp) ?_
          refine AllReadyH.cons rfl (fun K hK => ?_) AllReadyH.nil
          go_simp
          refine hK.out _ _ (by first | exact hS.out | exact HB1.out _ | exact HB2.out _ _) (fun _ => ?_) -- S
          clear hK K
          (try simp only [Act.put, List.setIfInBounds_toArray, List.set_cons_zero, List.set_cons_succ])
          refine wpAnyH_done (by kernel_rfl) ?_ _
          refine NoPanic.normal ?_
          exact ⟨w0.heap.size, w0.heap.size + 1, rfl, Nat.le_refl _, Nat.le_succ _, (two_boxes w0 _ _).1, (two_boxes w0 _ _).2, HB2.out _ _, rfl⟩
        · skip
          go_simp
          refine hK.out _ _ (by first | exact hS.out | exact HB1.out _ | exact HB2.out _ _) (fun _ => ?_) -- A
          clear hK K
          (try simp only [Act.put, List.setIfInBounds_toArray, List.set_cons_zero, List.set_cons_succ])
          refine wpAnyH_ready (rs := [11]) (by kernel_rfl) (by simp) ?_
          refine AllReadyH.cons rfl (fun K hK => ?_) AllReadyH.nil
          go_simp
          ((with_reducible refine (S2.out _).mono ?_); rintro e w' ⟨rfl, rfl⟩)
          refine hK.out _ _ (by first | exact hS.out | exact HB1.out _ | exact HB2.out _ _) (fun _ => ?_) -- C
          clear hK K
          (try simp only [Act.put, List.setIfInBounds_toArray, List.set_cons_zero, List.set_cons_succ])
          refine wpAnyH_take (i := 12) (v := .int .i64 R) rfl (by kernel_rfl) (by kernel_rfl) (by kernel_rfl) (fun _ _ _ h => h) (Or.inl ⟨by rfl, ?hya18⟩) (by first | exact hS.out | exact HB1.out _ | exact HB2.out _ _) ?resta18
          case hya18 => (intro wz hSw; go_simp <;> rw [hR.out])
          (try simp only [Act.put, List.setIfInBounds_toArray])
          refine wpAnyH_ready (rs := [15]) (by kernel_rfl) (by simp) ?_
          refine AllReadyH.cons rfl (fun K hK => ?_) AllReadyH.nil
          go_simp
          refine hK.out _ _ (by first | exact hS.out | exact HB1.out _ | exact HB2.out _ _) (fun _ => ?_) -- S
          clear hK K
          (try simp only [Act.put, List.setIfInBounds_toArray, List.set_cons_zero, List.set_cons_succ])
          refine wpAnyH_ready (rs := [16]) (by kernel_rfl) (by simp) ?_
          refine AllReadyH.cons rfl (fun K hK => ?_) AllReadyH.nil
          go_simp
          refine hK.out _ _ (by first | exact hS.out | exact HB1.out _ | exact HB2.out _ _) (fun _ => ?_) -- S
          clear hK K
          (try simp only [Act.put, List.setIfInBounds_toArray, List.set_cons_zero, List.set_cons_succ])
          refine wpAnyH_done (by kernel_rfl) ?_ _
          refine NoPanic.normal ?_
          exact ⟨w0.heap.size, w0.heap.size + 1, rfl, Nat.le_refl _, Nat.le_succ _, (two_boxes w0 _ _).1, (two_boxes w0 _ _).2, HB2.out _ _, rfl⟩
      · skip
        go_simp
        refine hK.out _ _ (by first | exact hS.out | exact HB1.out _ | exact HB2.out _ _) (fun _ => ?_) -- A
        clear hK K
        (try simp only [Act.put, List.setIfInBounds_toArray, List.set_cons_zero, List.set_cons_succ])
        refine wpAnyH_ready (rs := [3]) (by kernel_rfl) (by simp) ?_
        refine AllReadyH.cons rfl (fun K hK => ?_) AllReadyH.nil
        go_simp
        ((with_reducible refine (S1.out _).mono ?_); rintro e w' ⟨rfl, rfl⟩)
        refine hK.out _ _ (by first | exact hS.out | exact HB1.out _ | exact HB2.out _ _) (fun _ => ?_) -- C
        clear hK K
        (try simp only [Act.put, List.setIfInBounds_toArray, List.set_cons_zero, List.set_cons_succ])
        refine wpAnyH_take (i := 4) (v := .int .i64 L) rfl (by kernel_rfl) (by kernel_rfl) (by kernel_rfl) (fun _ _ _ h => h) (Or.inl ⟨by rfl, ?hya19⟩) (by first | exact hS.out | exact HB1.out _ | exact HB2.out _ _) ?resta19
        case hya19 => (intro wz hSw; go_simp <;> rw [hL.out])
        (try simp only [Act.put, List.setIfInBounds_toArray])
        refine wpAnyH_ready (rs := [11]) (by kernel_rfl) (by simp) ?_
        refine AllReadyH.cons rfl (fun K hK => ?_) AllReadyH.nil
        go_simp
        ((with_reducible refine (S2.out _).mono ?_); rintro e w' ⟨rfl, rfl⟩)
        refine hK.out _ _ (by first | exact hS.out | exact HB1.out _ | exact HB2.out _ _) (fun _ => ?_) -- C
        clear hK K
        (try simp only [Act.put, List.setIfInBounds_toArray, List.set_cons_zero, List.set_cons_succ])
        refine wpAnyH_take (i := 12) (v := .int .i64 R) rfl (by kernel_rfl) (by kernel_rfl) (by kernel_rfl) (fun _ _ _ h => h) (Or.inl ⟨by rfl, ?hya20⟩) (by first | exact hS.out | exact HB1.out _ | exact HB2.out _ _) ?resta20
        case hya20 => (intro wz hSw; go_simp <;> rw [hR.out])
        (try simp only [Act.put, List.setIfInBounds_toArray])
        refine wpAnyH_ready (rs := [15]) (by kernel_rfl) (by simp) ?_
        refine AllReadyH.cons rfl (fun K hK => ?_) AllReadyH.nil
        go_simp
        refine hK.out _ _ (by first | exact hS.out | exact HB1.out _ | exact HB2.out _ _) (fun _ => ?_) -- S
        clear hK K
        (try simp only [Act.put, List.setIfInBounds_toArray, List.set_cons_zero, List.set_cons_succ])
        refine wpAnyH_ready (rs := [16]) (by kernel_rfl) (by simp) ?_
        refine AllReadyH.cons rfl (fun K hK => ?_) AllReadyH.nil
        go_simp
        refine hK.out _ _ (by first | exact hS.out | exact HB1.out _ | exact HB2.out _ _) (fun _ => ?_) -- S
        clear hK K
        (try simp only [Act.put, List.setIfInBounds_toArray, List.set_cons_zero, List.set_cons_succ])
        refine wpAnyH_done (by kernel_rfl) ?_ _
        refine NoPanic.normal ?_
        exact ⟨w0.heap.size, w0.heap.size + 1, rfl, Nat.le_refl _, Nat.le_succ _, (two_boxes w0 _ _).1, (two_boxes w0 _ _).2, HB2.out _ _, rfl⟩
    · skip
      go_simp
      refine hK.out _ _ (by first | exact hS.out | exact HB1.out _ | exact HB2.out _ _) (fun _ => ?_) -- A
      clear hK K
      (try simp only [Act.put, List.setIfInBounds_toArray, List.set_cons_zero, List.set_cons_succ])
      refine wpAnyH_ready (rs := [3, 13]) (by kernel_rfl) (by simp) ?_
      refine AllReadyH.cons rfl (fun K hK => ?_) (AllReadyH.cons rfl (fun K hK => ?_) (AllReadyH.nil))
      · skip
        go_simp
        ((with_reducible refine (S1.out _).mono ?_); rintro e w' ⟨rfl, rfl⟩)
        refine hK.out _ _ (by first | exact hS.out | exact HB1.out _ | exact HB2.out _ _) (fun _ => ?_) -- C
        clear hK K
        (try simp only [Act.put, List.setIfInBounds_toArray, List.set_cons_zero, List.set_cons_succ])
        refine wpAnyH_take (i := 4) (v := .int .i64 L) rfl (by kernel_rfl) (by kernel_rfl) (by kernel_rfl) (fun _ _ _ h => h) (Or.inl ⟨by rfl, ?hya21⟩) (by first | exact hS.out | exact HB1.out _ | exact HB2.out _ _) ?resta21
        case hya21 => (intro wz hSw; go_simp <;> rw [hL.out])
        (try simp only [Act.put, List.setIfInBounds_toArray])
        refine wpAnyH_ready (rs := [11, 13]) (by kernel_rfl) (by simp) ?_
        refine AllReadyH.cons rfl (fun K hK => ?_) (AllReadyH.cons rfl (fun K hK => ?_) (AllReadyH.nil))
        · skip
          go_simp
          ((with_reducible refine (S2.out _).mono ?_); rintro e w' ⟨rfl, rfl⟩)
          refine hK.out _ _ (by first | exact hS.out | exact HB1.out _ | exact HB2.out _ _) (fun _ => ?_) -- C
          clear hK K
          (try simp only [Act.put, List.setIfInBounds_toArray, List.set_cons_zero, List.set_cons_succ])
          refine wpAnyH_take (i := 12) (v := .int .i64 R) rfl (by kernel_rfl) (by kernel_rfl) (by kernel_rfl) (fun _ _ _ h => h) (Or.inl ⟨by rfl, ?hya22⟩) (by first | exact hS.out | exact HB1.out _ | exact HB2.out _ _) ?resta22
          case hya22 => (intro wz hSw; go_simp <;> rw [hR.out])
          (try simp only [Act.put, List.setIfInBounds_toArray])
          refine wpAnyH_ready (rs := [13]) (by kernel_rfl) (by simp) ?_
          refine AllReadyH.cons rfl (fun K hK => ?_) AllReadyH.nil
          go_simp
          refine hK.out _ _ (by first | exact hS.out | exact HB1.out _ | exact HB2.out _ _) (fun _ => ?_) -- A
          clear hK K
          (try simp only [Act.put, List.setIfInBounds_toArray, List.set_cons_zero, List.set_cons_succ])
          refine wpAnyH_ready (rs := [15]) (by kernel_rfl) (by simp) ?_
          refine AllReadyH.cons rfl (fun K hK => ?_) AllReadyH.nil
          go_simp
          refine hK.out _ _ (by first | exact hS.out | exact HB1.out _ | exact HB2.out _ _) (fun _ => ?_) -- S
          clear hK K
          (try simp only [Act.put, List.setIfInBounds_toArray, List.set_cons_zero, List.set_cons_succ])
          refine wpAnyH_ready (rs := [16]) (by kernel_rfl) (by simp) ?_
          refine AllReadyH.cons rfl (fun K hK => ?_) AllReadyH.nil
          go_simp
          refine hK.out _ _ (by first | exact hS.out | exact HB1.out _ | exact HB2.out _ _) (fun _ => ?_) -- S
          clear hK K
          (try simp only [Act.put, List.setIfInBounds_toArray, List.set_cons_zero, List.set_cons_succ])
          refine wpAnyH_done (by kernel_rfl) ?_ _
          refine NoPanic.normal ?_
          exact ⟨w0.heap.size + 1, w0.heap.size, rfl, Nat.le_succ _, Nat.le_refl _, (two_boxes w0 _ _).2, (two_boxes w0 _ _).1, HB2.out _ _, rfl⟩
        · skip
          go_simp
          refine hK.out _ _ (by first | exact hS.out | exact HB1.out _ | exact HB2.out _ _) (fun _ => ?_) -- A
          clear hK K
          (try simp only [Act.put, List.setIfInBounds_toArray, List.set_cons_zero, List.set_cons_succ])
          refine wpAnyH_ready (rs := [11]) (by kernel_rfl) (by simp) ?_
          refine AllReadyH.cons rfl (fun K hK => ?_) AllReadyH.nil
          go_simp
          ((with_reducible refine (S2.out _).mono ?_); rintro e w' ⟨rfl, rfl⟩)
          refine hK.out _ _ (by first | exact hS.out | exact HB1.out _ | exact HB2.out _ _) (fun _ => ?_) -- C
          clear hK K
          (try simp only [Act.put, List.setIfInBounds_toArray, List.set_cons_zero, List.set_cons_succ])
          refine wpAnyH_take (i := 12) (v := .int .i64 R) rfl (by kernel_rfl) (by kernel_rfl) (by kernel_rfl) (fun _ _ _ h => h) (Or.inl ⟨by rfl, ?hya23⟩) (by first | exact hS.out | exact HB1.out _ | exact HB2.out _ _) ?resta23
          case hya23 => (intro wz hSw; go_simp <;> rw [hR.out])
          (try simp only [Act.put, List.setIfInBounds_toArray])
          refine wpAnyH_ready (rs := [15]) (by kernel_rfl) (by simp) ?_
          refine AllReadyH.cons rfl (fun K hK => ?_) AllReadyH.nil
          go_simp
          refine hK.out _ _ (by first | exact hS.out | exact HB1.out _ | exact HB2.out _ _) (fun _ => ?_) -- S
          clear hK K
          (try simp only [Act.put, List.setIfInBounds_toArray, List.set_cons_zero, List.set_cons_succ])
          refine wpAnyH_ready (rs := [16]) (by kernel_rfl) (by simp) ?_
          refine AllReadyH.cons rfl (fun K hK => ?_) AllReadyH.nil
          go_simp
          refine hK.out _ _ (by first | exact hS.out | exact HB1.out _ | exact HB2.out _ _) (fun _ => ?_) -- S
          clear hK K
          (try simp only [Act.put, List.setIfInBounds_toArray, List.set_cons_zero, List.set_cons_succ])
          refine wpAnyH_done (by kernel_rfl) ?_ _
          refine NoPanic.normal ?_
          exact ⟨w0.heap.size + 1, w0.heap.size, rfl, Nat.le_succ _, Nat.le_refl _, (two_boxes w0 _ _).2, (two_boxes w0 _ _).1, HB2.out _ _, rfl⟩
      · skip
        go_simp
        refine hK.out _ _ (by first | exact hS.out | exact HB1.out _ | exact HB2.out _ _) (fun _ => ?_) -- A
        clear hK K
        (try simp only [Act.put, List.setIfInBounds_toArray, List.set_cons_zero, List.set_cons_succ])
        refine wpAnyH_ready (rs := [3]) (by kernel_rfl) (by simp) ?_
        refine AllReadyH.cons rfl (fun K hK => ?_) AllReadyH.nil
        go_simp
        ((with_reducible refine (S1.out _).mono ?_); rintro e w' ⟨rfl, rfl⟩)
        refine hK.out _ _ (by first | exact hS.out | exact HB1.out _ | exact HB2.out _ _) (fun _ => ?_) -- C
        clear hK K
        (try simp only [Act.put, List.setIfInBounds_toArray, List.set_cons_zero, List.set_cons_succ])
        refine wpAnyH_take (i := 4) (v := .int .i64 L) rfl (by kernel_rfl) (by kernel_rfl) (by kernel_rfl) (fun _ _ _ h => h) (Or.inl ⟨by rfl, ?hya24⟩) (by first | exact hS.out | exact HB1.out _ | exact HB2.out _ _) ?resta24
        case hya24 => (intro wz hSw; go_simp <;> rw [hL.out])
        (try simp only [Act.put, List.setIfInBounds_toArray])
        refine wpAnyH_ready (rs := [11]) (by kernel_rfl) (by simp) ?_
        refine AllReadyH.cons rfl (fun K hK => ?_) AllReadyH.nil
        go_simp
        ((with_reducible refine (S2.out _).mono ?_); rintro e w' ⟨rfl, rfl⟩)
        refine hK.out _ _ (by first | exact hS.out | exact HB1.out _ | exact HB2.out _ _) (fun _ => ?_) -- C
        clear hK K
        (try simp only [Act.put, List.setIfInBounds_toArray, List.set_cons_zero, List.set_cons_succ])
        refine wpAnyH_take (i := 12) (v := .int .i64 R) rfl (by kernel_rfl) (by kernel_rfl) (by kernel_rfl) (fun _ _ _ h => h) (Or.inl ⟨by rfl, ?hya25⟩) (by first | exact hS.out | exact HB1.out _ | exact HB2.out _ _) ?resta25
        case hya25 => (intro wz hSw; go_simp <;> rw [hR.out])
        (try simp only [Act.put, List.setIfInBounds_toArray])
        refine wpAnyH_ready (rs := [15]) (by kernel_rfl) (by simp) ?_
        refine AllReadyH.cons rfl (fun K hK => ?_) AllReadyH.nil
        go_simp
        refine hK.out _ _ (by first | exact hS.out | exact HB1.out _ | exact HB2.out _ _) (fun _ => ?_) -- S
        clear hK K
        (try simp only [Act.put, List.setIfInBounds_toArray, List.set_cons_zero, List.set_cons_succ])
        refine wpAnyH_ready (rs := [16]) (by kernel_rfl) (by simp) ?_
        refine AllReadyH.cons rfl (fun K hK => ?_) AllReadyH.nil
        go_simp
        refine hK.out _ _ (by first | exact hS.out | exact HB1.out _ | exact HB2.out _ _) (fun _ => ?_) -- S
        clear hK K
        (try simp only [Act.put, List.setIfInBounds_toArray, List.set_cons_zero, List.set_cons_succ])
        refine wpAnyH_done (by kernel_rfl) ?_ _
        refine NoPanic.normal ?_
        exact ⟨w0.heap.size + 1, w0.heap.size, rfl, Nat.le_succ _, Nat.le_refl _, (two_boxes w0 _ _).2, (two_boxes w0 _ _).1, HB2.out _ _, rfl⟩
end Go.Proofs.Ytiggpmennomplaa.Con
