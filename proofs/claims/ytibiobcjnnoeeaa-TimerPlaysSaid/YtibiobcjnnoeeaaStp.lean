/-
  The contract of a step on both queues.
-/
import Derived.Test.YtibiobcjnnoeeaaXy
namespace Go.Proofs.Ytibiobcjnnoeeaa.Con
open Go.RowKit Tmr Go.Maps

section
variable {W w w' : World} {q mb gb : Nat} {Sx Sy S : List Tm} {lx ly : Int} {K : List (Nat × Obj)}
theorem xy_arr (h : XY W w q mb gb Sx lx Sy ly K) {N : Nat} {s0 s1 s2 : Int} (hN : (N, Obj.cells #[.int .i64 s0, .int .i64 s1, .int .i64 s2] 31 (0, 0)) ∈ K) : w.cell? ⟨N, 0, none⟩ = some (.int .i64 s0) ∧ w.cell? ⟨N, 1, none⟩ = some (.int .i64 s1) ∧ w.cell? ⟨N, 2, none⟩ = some (.int .i64 s2) := by
  have e := h.obj hN
  exact ⟨(cell_of_row w N 0 _ 31 (0, 0) e).trans rfl, (cell_of_row w N 1 _ 31 (0, 0) e).trans rfl, (cell_of_row w N 2 _ 31 (0, 0) e).trans rfl⟩
theorem xy_set {b : Nat} {cur : Array Value} (h : XY W w q mb gb Sx lx Sy ly ((b, .cells cur 33 (0, 0)) :: K)) (hne : ∀ p ∈ K, p.1 ≠ b) (j : Nat) (v : Value) : XY W (w.setCell ⟨b, j, none⟩ v) q mb gb Sx lx Sy ly ((b, .cells (cur.setIfInBounds j v) 33 (0, 0)) :: K) := by
  obtain ⟨A, c, l, A1, c1, hT, hR, hd, h0, hK⟩ := h
  obtain ⟨k1, k0, k2, k3⟩ := hK (b, .cells cur 33 (0, 0)) (by simp)
  have ho : Off w (w.setCell ⟨b, j, none⟩ v) [b] := (Off.refl w _).setCell (by simp) _
  refine ⟨A, c, l, A1, c1, hT.off ho (fun k hk hm => by simp at hm; subst hm; exact k2 hk), hR.off ho (fun k hk hm => by simp at hm; subst hm; exact k3 hk), hd, h0.setCell k0 _, fun p hp => ?_⟩
  rcases List.mem_cons.1 hp with rfl | hp
  · refine ⟨?_, k0, k2, k3⟩
    simp only at k1
    simp [World.setCell, Array.getElem?_modify, k1]
  · exact ⟨(Below.heap_setCell _ _ _ _ (hne p hp)).trans (hK p (by simp [hp])).1, (hK p (by simp [hp])).2⟩
theorem xy_row {b : Nat} {cur : Array Value} (h : XY W w q mb gb Sx lx Sy ly ((b, .cells cur 33 (0, 0)) :: K)) {j : Nat} (hj : j < cur.size) : (∃ v, w.cell? ⟨b, j, none⟩ = some v) ∧ w.frozen? ⟨b, j, none⟩ = false := by
  have e := h.obj (p := (b, .cells cur 33 (0, 0))) (by simp)
  refine ⟨⟨cur[j], (cell_of_row w b j _ 33 (0, 0) e).trans (by simp [hj])⟩, ?_⟩
  simp only at e
  simp [World.frozen?, e]
theorem rw_rt {Ac : Option Addr} {C : List Tm} {K' : List (Nat × Obj)} (h : XY W w q mb gb Sx lx Sy ly (K' ++ K)) (hr : Rw K' Ac C) : RT w w.heap.size Ac C := by
  rcases hr with ⟨_, e, _⟩ | ⟨b, cur, rfl, rfl, hs, hx⟩
  · exact .inl e
  · have e := h.obj (p := (b, .cells cur 33 (0, 0))) (by simp)
    simp only at e
    refine .inr ⟨b, rfl, lt_of_obj e, fun k t ht => ?_⟩
    obtain ⟨h1, h2, h3⟩ := tvs_at ht
    have key : ∀ j u, (tvs C)[j]? = some u → w.cell? ⟨b, j, none⟩ = some u := fun j u hu => by
      rw [cell_of_row w b j _ 33 (0, 0) e]
      rw [← hx, List.getElem?_take] at hu
      split at hu
      · simpa using hu
      · cases hu
    exact ⟨key _ _ h1, key _ _ h2, key _ _ h3⟩
/-- What a step leaves: both alike. -/
def Played (W : World) (q mb gb : Nat) (S : List Tm) (lx : Int) (w' : World) : Prop :=
  ∃ S' l', Hid (XY W w' q mb gb S' l' S' l' []) ∧ Hid ((S'.length : Int) ≤ S.length + 1) ∧ Hid (0 ≤ l' ∧ l' ≤ lx + 1)
theorem played (h : XY W w q mb gb S lx S lx K) (S0 : List Tm) (l0 : Int) (h1 : (S.length : Int) ≤ S0.length + 1) (h2 : 0 ≤ lx ∧ lx ≤ l0 + 1) : Played W q mb gb S0 l0 w := ⟨S, lx, Lib.hid h.less, Lib.hid h1, Lib.hid h2⟩
theorem same_xy {Ac A2 : Option Addr} {cc c2 : Nat} {C : List Tm} (ha : RT w w.heap.size Ac C) (hb : RT w w.heap.size A2 C) (hl : (C.length : Int) ≤ 5000) : Calls Try.prog 16 #[.slice Ac C.length cc, .slice A2 C.length c2] w fun e w' => e = .returned (.bool true) ∧ Below w.heap.size w w' := by
  refine (same_go (c := cc) (c' := c2) ha hb rfl hl true (by simp)).mono ?_
  rintro e w' ⟨rfl, k, rfl⟩
  exact ⟨rfl, below_drewN _ _⟩
theorem XY.goodx (h : XY W w q mb gb Sx lx Sy ly K) : Tmr.Good Sx lx := by
  obtain ⟨A, c, l, A1, c1, hT, hR, hd, h0, hK⟩ := h
  exact hT.good
abbrev arr (s0 s1 s2 : Int) : Obj := .cells #[.int .i64 s0, .int .i64 s1, .int .i64 s2] 31

set_option maxHeartbeats 4000000 in
theorem play_zero (h : XY W w q mb gb S lx S lx []) (s0 s1 s2 r : Int) (hr : bits BinOp.and IntKind.i64 s0 7 = r) (hS : (S.length : Int) < 900) (hlo : 0 ≤ lx) (hhi : lx ≤ 90000)  (b0 : (r == 0) = true) :
    Calls Try.prog 8 #[.pointer (some ⟨q, 0, none⟩), .pointer (some ⟨gb, 0, none⟩), .agg #[.int .i64 s0, .int .i64 s1, .int .i64 s2]] w fun e w' => e = .returned (.bool true) ∧ Played W q mb gb S lx w' := by
  have HX1 := Lib.hid (h.new #[.int .i64 s0, .int .i64 s1, .int .i64 s2] 31)
  have HSb : Hid ((S.length : Int) < 1000) := Lib.hid (by omega)
  have hd := xy_arr HX1.out (N := w.heap.size) (s0 := s0) (s1 := s1) (s2 := s2) (by simp)
  obtain ⟨d0, d1, d2⟩ := hd
  clear h hS
  go_enter Try.func8, Try.ntmps8
  go_wp2_with (first
    | ((with_reducible refine (xy_xadd HX1.out HSb.out s1 s2 (lx + 1) rfl (by omega)).mono ?_); rintro e w2 ⟨rfl, HX2⟩; have hd := xy_arr HX2.out (N := w.heap.size) (s0 := s0) (s1 := s1) (s2 := s2) (by simp); obtain ⟨f0, f1, f2⟩ := hd)
    | ((with_reducible refine (xy_yadd HX2.out HSb.out s1 s2 (lx + 1) rfl (by omega)).mono ?_); rintro e w3 ⟨rfl, HX3⟩))
  go_ret
  exact ⟨rfl, played HX3.out S lx (by simp) (by omega)⟩

set_option maxHeartbeats 4000000 in
theorem play_one (h : XY W w q mb gb S lx S lx []) (s0 s1 s2 r : Int) (hr : bits BinOp.and IntKind.i64 s0 7 = r) (hS : (S.length : Int) < 900) (hlo : 0 ≤ lx) (hhi : lx ≤ 90000) (b0 : (r == 0) = false) (b1 : (r == 1) = true) :
    Calls Try.prog 8 #[.pointer (some ⟨q, 0, none⟩), .pointer (some ⟨gb, 0, none⟩), .agg #[.int .i64 s0, .int .i64 s1, .int .i64 s2]] w fun e w' => e = .returned (.bool true) ∧ Played W q mb gb S lx w' := by
  have HX1 := Lib.hid (h.new #[.int .i64 s0, .int .i64 s1, .int .i64 s2] 31)
  have HSb : Hid ((S.length : Int) < 1000) := Lib.hid (by omega)
  have hd := xy_arr HX1.out (N := w.heap.size) (s0 := s0) (s1 := s1) (s2 := s2) (by simp)
  obtain ⟨d0, d1, d2⟩ := hd
  clear h hS
  go_enter Try.func8, Try.ntmps8
  go_wp2_with (first
    | ((with_reducible refine (xy_xadd HX1.out HSb.out s1 s2 (lx + 1) rfl (by omega)).mono ?_); rintro e w2 ⟨rfl, HX2⟩; have hd := xy_arr HX2.out (N := w.heap.size) (s0 := s0) (s1 := s1) (s2 := s2) (by simp); obtain ⟨f0, f1, f2⟩ := hd)
    | ((with_reducible refine (xy_yadd HX2.out HSb.out s1 s2 (lx + 1) rfl (by omega)).mono ?_); rintro e w3 ⟨rfl, HX3⟩))
  go_ret
  exact ⟨rfl, played HX3.out S lx (by simp) (by omega)⟩

set_option maxHeartbeats 4000000 in
theorem play_two (h : XY W w q mb gb S lx S lx []) (s0 s1 s2 r : Int) (hr : bits BinOp.and IntKind.i64 s0 7 = r) (hS : (S.length : Int) < 900) (hlo : 0 ≤ lx) (hhi : lx ≤ 90000) (b0 : (r == 0) = false) (b1 : (r == 1) = false) (b2 : (r == 2) = true) :
    Calls Try.prog 8 #[.pointer (some ⟨q, 0, none⟩), .pointer (some ⟨gb, 0, none⟩), .agg #[.int .i64 s0, .int .i64 s1, .int .i64 s2]] w fun e w' => e = .returned (.bool true) ∧ Played W q mb gb S lx w' := by
  have HX1 := Lib.hid (h.new #[.int .i64 s0, .int .i64 s1, .int .i64 s2] 31)
  have HSb : Hid ((S.length : Int) < 1000) := Lib.hid (by omega)
  have hd := xy_arr HX1.out (N := w.heap.size) (s0 := s0) (s1 := s1) (s2 := s2) (by simp)
  obtain ⟨d0, d1, d2⟩ := hd
  clear h hS
  go_enter Try.func8, Try.ntmps8
  go_wp2_with (first
    | ((with_reducible refine (xy_xadd HX1.out HSb.out s1 s2 (lx + 1) rfl (by omega)).mono ?_); rintro e w2 ⟨rfl, HX2⟩; have hd := xy_arr HX2.out (N := w.heap.size) (s0 := s0) (s1 := s1) (s2 := s2) (by simp); obtain ⟨f0, f1, f2⟩ := hd)
    | ((with_reducible refine (xy_yadd HX2.out HSb.out s1 s2 (lx + 1) rfl (by omega)).mono ?_); rintro e w3 ⟨rfl, HX3⟩))
  go_ret
  exact ⟨rfl, played HX3.out S lx (by simp) (by omega)⟩

set_option maxHeartbeats 4000000 in
theorem play_three (h : XY W w q mb gb S lx S lx []) (s0 s1 s2 r : Int) (hr : bits BinOp.and IntKind.i64 s0 7 = r) (hS : (S.length : Int) < 900) (hlo : 0 ≤ lx) (hhi : lx ≤ 90000) (b0 : (r == 0) = false) (b1 : (r == 1) = false) (b2 : (r == 2) = false) (b3 : (r == 3) = true) :
    Calls Try.prog 8 #[.pointer (some ⟨q, 0, none⟩), .pointer (some ⟨gb, 0, none⟩), .agg #[.int .i64 s0, .int .i64 s1, .int .i64 s2]] w fun e w' => e = .returned (.bool true) ∧ Played W q mb gb S lx w' := by
  have HX1 := Lib.hid (h.new #[.int .i64 s0, .int .i64 s1, .int .i64 s2] 31)
  have HSb : Hid ((S.length : Int) < 1000) := Lib.hid (by omega)
  have hd := xy_arr HX1.out (N := w.heap.size) (s0 := s0) (s1 := s1) (s2 := s2) (by simp)
  obtain ⟨d0, d1, d2⟩ := hd
  clear h hS
  go_enter Try.func8, Try.ntmps8
  go_wp2_with (first
    | ((with_reducible refine (xy_xadd HX1.out HSb.out s1 s2 (lx + 1) rfl (by omega)).mono ?_); rintro e w2 ⟨rfl, HX2⟩; have hd := xy_arr HX2.out (N := w.heap.size) (s0 := s0) (s1 := s1) (s2 := s2) (by simp); obtain ⟨f0, f1, f2⟩ := hd)
    | ((with_reducible refine (xy_yadd HX2.out HSb.out s1 s2 (lx + 1) rfl (by omega)).mono ?_); rintro e w3 ⟨rfl, HX3⟩))
  go_ret
  exact ⟨rfl, played HX3.out S lx (by simp) (by omega)⟩

set_option maxHeartbeats 4000000 in
theorem play_four (h : XY W w q mb gb S lx S lx []) (s0 s1 s2 r : Int) (hr : bits BinOp.and IntKind.i64 s0 7 = r) (hw : -9223372036854775808 ≤ s1 ∧ s1 ≤ 9223372036854775807) (hS : (S.length : Int) < 900) (hlo : 0 ≤ lx) (hhi : lx ≤ 90000) (b0 : (r == 0) = false) (b1 : (r == 1) = false) (b2 : (r == 2) = false) (b3 : (r == 3) = false) (b4 : (r == 4) = true) :
    Calls Try.prog 8 #[.pointer (some ⟨q, 0, none⟩), .pointer (some ⟨gb, 0, none⟩), .agg #[.int .i64 s0, .int .i64 s1, .int .i64 s2]] w fun e w' => e = .returned (.bool true) ∧ Played W q mb gb S lx w' := by
  have HX1 := Lib.hid (h.new #[.int .i64 s0, .int .i64 s1, .int .i64 s2] 31)
  have HSb : Hid ((S.length : Int) < 1000) := Lib.hid (by omega)
  have hd := xy_arr HX1.out (N := w.heap.size) (s0 := s0) (s1 := s1) (s2 := s2) (by simp)
  obtain ⟨d0, d1, d2⟩ := hd
  clear h hS
  obtain ⟨x, hx⟩ : ∃ x, hasId S s1 = x := ⟨_, rfl⟩
  have HX := Lib.hid hx
  clear hx
  go_enter Try.func8, Try.ntmps8
  go_wp2_with (first
    | ((with_reducible refine (xy_xcancel HX1.out s1 hw x HX.out).mono ?_); rintro e w2 ⟨rfl, HX2⟩; have hd := xy_arr HX2.out (N := w.heap.size) (s0 := s0) (s1 := s1) (s2 := s2) (by simp); obtain ⟨f0, f1, f2⟩ := hd)
    | ((with_reducible refine (xy_ycancel HX2.out HSb.out s1 x HX.out).mono ?_); rintro e w3 ⟨rfl, HX3⟩))
  go_ret
  exact ⟨by simp, played HX3.out S lx (by have := List.length_filter_le (fun t : Tm => t.id != s1) S; unfold del; omega) (by omega)⟩

set_option maxHeartbeats 4000000 in
theorem play_five (h : XY W w q mb gb S lx S lx []) (s0 s1 s2 r : Int) (hr : bits BinOp.and IntKind.i64 s0 7 = r) (hS : (S.length : Int) < 900) (hlo : 0 ≤ lx) (hhi : lx ≤ 90000) (b0 : (r == 0) = false) (b1 : (r == 1) = false) (b2 : (r == 2) = false) (b3 : (r == 3) = false) (b4 : (r == 4) = false) (b5 : (r == 5) = true) :
    Calls Try.prog 8 #[.pointer (some ⟨q, 0, none⟩), .pointer (some ⟨gb, 0, none⟩), .agg #[.int .i64 s0, .int .i64 s1, .int .i64 s2]] w fun e w' => e = .returned (.bool true) ∧ Played W q mb gb S lx w' := by
  have HX1 := Lib.hid (h.new #[.int .i64 s0, .int .i64 s1, .int .i64 s2] 31)
  have HSb : Hid ((S.length : Int) < 1000) := Lib.hid (by omega)
  have hd := xy_arr HX1.out (N := w.heap.size) (s0 := s0) (s1 := s1) (s2 := s2) (by simp)
  obtain ⟨d0, d1, d2⟩ := hd
  clear h hS
  go_enter Try.func8, Try.ntmps8
  go_wp2_with (first
    | ((with_reducible refine (xy_xtag HX1.out s2).mono ?_); rintro e w2 ⟨n, rfl, HN, HX2⟩; have hd := xy_arr HX2.out (N := w.heap.size) (s0 := s0) (s1 := s1) (s2 := s2) (by simp); obtain ⟨f0, f1, f2⟩ := hd)
    | ((with_reducible refine (xy_ytag HX2.out HSb.out s2 n HN.out).mono ?_); rintro e w3 ⟨rfl, HX3⟩))
  go_ret
  exact ⟨rfl, played HX3.out S lx (by have := tag_count S s2; omega) (by omega)⟩

set_option maxHeartbeats 4000000 in
theorem play_due (h : XY W w q mb gb S lx S lx []) (s0 s1 s2 r : Int) (hr : bits BinOp.and IntKind.i64 s0 7 = r) (hS : (S.length : Int) < 900) (hlo : 0 ≤ lx) (hhi : lx ≤ 90000) (b0 : (r == 0) = false) (b1 : (r == 1) = false) (b2 : (r == 2) = false) (b3 : (r == 3) = false) (b4 : (r == 4) = false) (b5 : (r == 5) = false) :
    Calls Try.prog 8 #[.pointer (some ⟨q, 0, none⟩), .pointer (some ⟨gb, 0, none⟩), .agg #[.int .i64 s0, .int .i64 s1, .int .i64 s2]] w fun e w' => e = .returned (.bool true) ∧ Played W q mb gb S lx w' := by
  have HX1 := Lib.hid (h.new #[.int .i64 s0, .int .i64 s1, .int .i64 s2] 31)
  have HSb : Hid ((S.length : Int) < 1000) := Lib.hid (by omega)
  have hd := xy_arr HX1.out (N := w.heap.size) (s0 := s0) (s1 := s1) (s2 := s2) (by simp)
  obtain ⟨d0, d1, d2⟩ := hd
  clear h hS
  have HLn := Lib.hid (come_len (now := s1) S HX1.out.goodx)
  have HCl : Hid (((come S s1).length : Int) ≤ 3000) := Lib.hid (by have := HLn.out; have := HSb.out; omega)
  go_enter Try.func8, Try.ntmps8
  go_wp2_with (first
    | ((with_reducible refine (xy_xdue HX1.out s1).mono ?_); rintro e w2 ⟨Ac, cc, K', rfl, HRw, HX2, HAp⟩; have hd := xy_arr HX2.out (N := w.heap.size) (s0 := s0) (s1 := s1) (s2 := s2) (by simp); obtain ⟨f0, f1, f2⟩ := hd)
    | ((with_reducible refine (xy_ydue HX2.out HSb.out s1 (come S s1) (rest S s1) rfl rfl).mono ?_); rintro e w3 ⟨A2, c2, rfl, HR3, HX3⟩; have HRx := Lib.hid (rw_rt HX3.out HRw.out))
    | ((with_reducible refine (same_xy HRx.out HR3.out (by have := HCl.out; omega)).mono ?_); rintro e w4 ⟨rfl, hb4⟩; have HX4 := Lib.hid (HX3.out.step hb4); clear hb4))
  clear d0 d1 d2 f0 f1 f2
  generalize come S s1 = C at HRw HCl HLn ⊢
  clear HRx HR3 HX3 HX2
  have hcl := HCl.out
  rcases HRw.out with ⟨rfl, rfl, rfl⟩ | ⟨b, cur, rfl, rfl, hs, _⟩
  · go_loopg [16] 0 (fun m s16 wz => m = 0 ∧ s16 = .int .i64 0 ∧ wz = w4)
    case atStart => exact ⟨rfl, rfl, rfl⟩
    case round =>
      obtain ⟨rfl, rfl, rfl⟩ := hrel
      have hll : decide ((0 : Int) < 0) = false := by decide
      go_wp2
      go_ret
      exact ⟨rfl, played HX4.out S lx (by have := HLn.out; omega) (by omega)⟩
  · have hne : b ≠ w.heap.size := HAp.out (b, .cells cur 33 (0, 0)) (by simp) (w.heap.size, .cells #[.int .i64 s0, .int .i64 s1, .int .i64 s2] 31) (by simp)
    have HX5 : Hid (XY W w4 q mb gb (rest S s1) lx (rest S s1) lx ((b, .cells cur 33 (0, 0)) :: [(w.heap.size, .cells #[.int .i64 s0, .int .i64 s1, .int .i64 s2] 31)])) := HX4
    clear HX4
    go_loopg [16] C.length (fun m s16 wz => ∃ (i : Nat) (cu : Array Value), i ≤ C.length ∧ m = C.length - i ∧ s16 = .int .i64 (i : Int) ∧ Hid (cu.size = cur.size) ∧ Hid (XY W wz q mb gb (rest S s1) lx (rest S s1) lx ((b, .cells cu 33 (0, 0)) :: [(w.heap.size, .cells #[.int .i64 s0, .int .i64 s1, .int .i64 s2] 31)])))
    case atStart => exact ⟨0, cur, by omega, rfl, rfl, Lib.hid rfl, HX5⟩
    case round =>
      obtain ⟨i, cu, hi, rfl, rfl, HCu, HXi⟩ := hrel
      by_cases hil : i < C.length
      · have hil' : (i : Int) < C.length := by omega
        have hip : (0 : Int) ≤ (i : Int) := by omega
        obtain ⟨⟨v, hv⟩, hf⟩ := xy_row HXi.out (j := i * 3 + 2) (by have := HCu.out; omega)
        have HXs := Lib.hid (xy_set HXi.out (fun p hp => by simp at hp; subst hp; exact fun e => hne e.symm) (i * 3 + 2) (.int .i64 (-7)))
        go_wp2
        go_roundg (C.length - (i + 1))
        · exact ⟨i + 1, _, by omega, rfl, by simp, Lib.hid (by rw [Array.size_setIfInBounds]; exact HCu.out), HXs⟩
        · omega
      · have hll : decide ((i : Int) < C.length) = false := by simp; omega
        go_wp2
        go_ret
        exact ⟨rfl, played HXi.out S lx (by have := HLn.out; omega) (by omega)⟩
theorem play_any (h : XY W w q mb gb S lx S lx []) (s0 s1 s2 : Int) (hw : -9223372036854775808 ≤ s1 ∧ s1 ≤ 9223372036854775807) (hS : (S.length : Int) < 900) (hlo : 0 ≤ lx) (hhi : lx ≤ 90000) :
    Calls Try.prog 8 #[.pointer (some ⟨q, 0, none⟩), .pointer (some ⟨gb, 0, none⟩), .agg #[.int .i64 s0, .int .i64 s1, .int .i64 s2]] w fun e w' => e = .returned (.bool true) ∧ Played W q mb gb S lx w' := by
  obtain ⟨r, hr⟩ : ∃ r, bits BinOp.and IntKind.i64 s0 7 = r := ⟨_, rfl⟩
  cases b0 : (r == 0)
  · cases b1 : (r == 1)
    · cases b2 : (r == 2)
      · cases b3 : (r == 3)
        · cases b4 : (r == 4)
          · cases b5 : (r == 5)
            · exact play_due h s0 s1 s2 r hr hS hlo hhi b0 b1 b2 b3 b4 b5
            · exact play_five h s0 s1 s2 r hr hS hlo hhi b0 b1 b2 b3 b4 b5
          · exact play_four h s0 s1 s2 r hr hw hS hlo hhi b0 b1 b2 b3 b4
        · exact play_three h s0 s1 s2 r hr hS hlo hhi b0 b1 b2 b3
      · exact play_two h s0 s1 s2 r hr hS hlo hhi b0 b1 b2
    · exact play_one h s0 s1 s2 r hr hS hlo hhi b0 b1
  · exact play_zero h s0 s1 s2 r hr hS hlo hhi b0
end
end Go.Proofs.Ytibiobcjnnoeeaa.Con
