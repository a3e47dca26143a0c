/-
  An index and the document's own, played side by side, agree at each step: whatever steps; past 200 steps only the small case is asked.
-/
import Derived.Test.YtehllnbpianpfaaSml2
import Derived.Test.YtehllnbpianpfaaXyk
import Derived.Test.YtehllnbpianpfaaOpen
import Derived.Deep.Cut
import Derived.WalkKit
import Derived.ProofKit
import Derived.OpenShut
namespace Go.Proofs.Ytehllnbpianpfaa.cellsPlays
open Go.ChangeShapes Go.WideShapes Go.ChangeAt Go.RowKit Con Cll Go.Maps
set_option linter.unusedVariables false

theorem own : ownKnob Try.prog.godebug = none := by kernel_rfl

theorem steps_at {W : World} {A : Option Addr} {L : List Open.S5} (h : Open.RS5 W W.heap.size A L) {i : Nat} (hi : i < L.length) : ∃ b off s, A = some ⟨b, off, none⟩ ∧ b < W.heap.size ∧ L[i]? = some s ∧ ∀ w, Below W.heap.size W w → w.cell? ⟨b, off + i * 5, none⟩ = some (.int .i64 s.a0) ∧ w.cell? ⟨b, off + i * 5 + 1, none⟩ = some (.int .i64 s.a1) ∧ w.cell? ⟨b, off + i * 5 + 2, none⟩ = some (.int .i64 s.a2) ∧ w.cell? ⟨b, off + i * 5 + 3, none⟩ = some (.int .i64 s.a3) ∧ w.cell? ⟨b, off + i * 5 + 4, none⟩ = some (.int .i64 s.a4) := by
  rcases h with rfl | ⟨b, off, hA, hlt, hc⟩
  · simp at hi
  · obtain ⟨h1, h2, h3, h4, h5⟩ := hc i L[i] (by simp [hi])
    refine ⟨b, off, L[i], hA, hlt, by simp [hi], fun w hb => ?_⟩
    have e := hb.block b hlt
    exact ⟨(World.cell?_of_block (w := W) e).trans h1, (World.cell?_of_block (w := W) e).trans h2, (World.cell?_of_block (w := W) e).trans h3, (World.cell?_of_block (w := W) e).trans h4, (World.cell?_of_block (w := W) e).trans h5⟩
theorem neq32s (a b : Int) (V : World) : (binOp .neq 32 (pv a b) (pv a b)).run Try.prog V = .ok (.bool false) V := by
  simp [go_sem, Try.underlying32]
theorem five_of {w : World} {n0 : Nat} {s : Open.S5} (e : w.heap[n0]? = some (.cells #[.int .i64 s.a0, .int .i64 s.a1, .int .i64 s.a2, .int .i64 s.a3, .int .i64 s.a4] 30 (0, 0))) : w.cell? ⟨n0, 0, none⟩ = some (.int .i64 s.a0) ∧ w.cell? ⟨n0, 1, none⟩ = some (.int .i64 s.a1) ∧ w.cell? ⟨n0, 2, none⟩ = some (.int .i64 s.a2) ∧ w.cell? ⟨n0, 3, none⟩ = some (.int .i64 s.a3) ∧ w.cell? ⟨n0, 4, none⟩ = some (.int .i64 s.a4) :=
  ⟨(cell_of_row w n0 0 _ 30 (0, 0) e).trans rfl, (cell_of_row w n0 1 _ 30 (0, 0) e).trans rfl, (cell_of_row w n0 2 _ 30 (0, 0) e).trans rfl, (cell_of_row w n0 3 _ 30 (0, 0) e).trans rfl, (cell_of_row w n0 4 _ 30 (0, 0) e).trans rfl⟩
theorem two_of {w : World} {n : Nat} {x y : Int} (e : w.heap[n]? = some (.cells #[.int .i64 x, .int .i64 y] 32 (0, 0))) : w.cell? ⟨n, 0, none⟩ = some (.int .i64 x) ∧ w.cell? ⟨n, 1, none⟩ = some (.int .i64 y) :=
  ⟨(cell_of_row w n 0 _ 32 (0, 0) e).trans rfl, (cell_of_row w n 1 _ 32 (0, 0) e).trans rfl⟩
def AtF (L : List Un) (id px py : Int) (f : Bool) : Prop := match lk L id with | some t => px = t.x ∧ py = t.y ∧ f = true | none => px = 0 ∧ py = 0 ∧ f = false
theorem atf_ex (L : List Un) (id : Int) : ∃ px py f, AtF L id px py f := by
  unfold AtF
  cases lk L id with
  | none => exact ⟨0, 0, false, rfl, rfl, rfl⟩
  | some t => exact ⟨t.x, t.y, true, rfl, rfl, rfl⟩
section
variable {W w w' : World} {N xb gb n0 n1 : Nat} {L Ly : List Un} {K : List (Nat × Obj)} {s : Open.S5}
theorem xz_sev (h : XZ W w N xb gb L Ly K) (h0 : (n0, Obj.cells #[.int .i64 s.a0, .int .i64 s.a1, .int .i64 s.a2, .int .i64 s.a3, .int .i64 s.a4] 30 (0, 0)) ∈ K) (h1 : (n1, Obj.cells #[.int .i64 s.a2, .int .i64 s.a3] 32 (0, 0)) ∈ K) : w.cell? ⟨n0, 0, none⟩ = some (.int .i64 s.a0) ∧ w.cell? ⟨n0, 1, none⟩ = some (.int .i64 s.a1) ∧ w.cell? ⟨n0, 2, none⟩ = some (.int .i64 s.a2) ∧ w.cell? ⟨n0, 3, none⟩ = some (.int .i64 s.a3) ∧ w.cell? ⟨n0, 4, none⟩ = some (.int .i64 s.a4) ∧ w.cell? ⟨n1, 0, none⟩ = some (.int .i64 s.a2) ∧ w.cell? ⟨n1, 1, none⟩ = some (.int .i64 s.a3) := by
  obtain ⟨a0, a1, a2, a3, a4⟩ := five_of (h.obj h0)
  obtain ⟨b0, b1⟩ := two_of (h.obj h1)
  exact ⟨a0, a1, a2, a3, a4, b0, b1⟩
theorem xz_boxes (h : XZ W w N xb gb L Ly []) (s : Open.S5) : XZ W ((w.alloc (.cells #[.int .i64 s.a0, .int .i64 s.a1, .int .i64 s.a2, .int .i64 s.a3, .int .i64 s.a4] 30)).alloc (.cells #[.int .i64 s.a2, .int .i64 s.a3] 32)) N xb gb L Ly [(w.heap.size + 1, .cells #[.int .i64 s.a2, .int .i64 s.a3] 32), (w.heap.size, .cells #[.int .i64 s.a0, .int .i64 s.a1, .int .i64 s.a2, .int .i64 s.a3, .int .i64 s.a4] 30)] := by
  have := (h.new (.cells #[.int .i64 s.a0, .int .i64 s.a1, .int .i64 s.a2, .int .i64 s.a3, .int .i64 s.a4] 30)).new (.cells #[.int .i64 s.a2, .int .i64 s.a3] 32)
  simpa using this
theorem first_box (w : World) (s : Open.S5) : (∀ V n0, V = w.alloc (.cells #[.int .i64 s.a0, .int .i64 s.a1, .int .i64 s.a2, .int .i64 s.a3, .int .i64 s.a4] 30) → n0 = w.heap.size → V.cell? ⟨n0, 0, none⟩ = some (.int .i64 s.a0) ∧ V.cell? ⟨n0, 1, none⟩ = some (.int .i64 s.a1) ∧ V.cell? ⟨n0, 2, none⟩ = some (.int .i64 s.a2) ∧ V.cell? ⟨n0, 3, none⟩ = some (.int .i64 s.a3) ∧ V.cell? ⟨n0, 4, none⟩ = some (.int .i64 s.a4)) := by
  rintro V n0 rfl rfl
  exact five_of (heap_alloc_new w _)
theorem p_xat (h : XZ W w N xb gb L Ly K) (id : Int) (hf : Fits id) (px py : Int) (f : Bool) (hv : AtF L id px py f) : Calls Try.prog 12 #[.pointer (some ⟨xb, 0, none⟩), .int .i64 id] w fun e w' => e = .returned (.tuple #[pv px py, .bool f]) ∧ Hid (XZ W w' N xb gb L Ly K) := xz_xat h id hf px py f hv
theorem p_yat (h : XZ W w N xb gb L Ly K) (id : Int) (hS : (Ly.length : Int) < 1000) (px py : Int) (f : Bool) (hv : AtF Ly id px py f) : Calls Try.prog 13 #[.pointer (some ⟨gb, 0, none⟩), .int .i64 id] w fun e w' => e = .returned (.tuple #[pv px py, .bool f]) ∧ Hid (XZ W w' N xb gb L Ly K) := xz_yat h id hS px py f hv
theorem p_same {B B' : Nat} {A A' : Option Addr} {c c' : Nat} {p : List Int} (hr : Mei.Rd .i64 w B A p) (hr' : Mei.Rd .i64 w B' A' p) (hl : (p.length : Int) ≤ 5000) : Calls Try.prog 16 #[.slice A p.length c, .slice A' p.length c'] w fun e w' => e = .returned (.bool true) ∧ Below w.heap.size w w' := by
  refine (Mei.same_any B B' A A' p.length c c' p w rfl hr hr' (by omega)).mono ?_
  rintro e w' ⟨rfl, q, rfl⟩
  exact ⟨rfl, below_drewN (Below.refl _ _) q⟩
theorem ids_le (L : List Un) (P : Un → Bool) : (ids L P).length ≤ L.length := by
  unfold ids
  rw [List.length_map]
  exact List.length_filter_le _ _
end
set_option maxHeartbeats 16000000 in
set_option maxRecDepth 20000 in
theorem walk (W : World) (A0 : Option Addr) (c0 : Nat) (l0 : List Open.S5) (hr0 : Open.RS5 W W.heap.size A0 l0) (hc0 : l0.length ≤ c0) (hl0 : l0.length ≤ 9223372036854775807) (hx0 : ∀ s ∈ l0, Fits s.a0 ∧ Fits s.a1 ∧ Fits s.a2 ∧ Fits s.a3 ∧ Fits s.a4) :
    Calls Try.prog 3 #[.slice A0 l0.length c0] W fun e W' => e = .returned (.bool true) ∧ Below W.heap.size W W' := by
  have HR0 := Lib.hid hr0; have HX0 := Lib.hid hx0
  clear hr0 hc0 hl0 hx0
  by_cases hg0 : (l0.length : Int) > 200
  · go_enter Try.func3, Try.ntmps3
    go_wp2_with (first
      | ((with_reducible refine (small_any _).mono ?_); rintro e w1 ⟨rfl, hb1⟩; have HB1 := Lib.hid hb1; clear hb1)
      | ((with_reducible refine (xo_new _ _ HB1.out).mono ?_); rintro e w2 ⟨xb, rfl, HX, HB2⟩))
    go_ret
    exact ⟨rfl, HX.out.bel⟩
  · have hd0 : decide ((l0.length : Int) > 200) = false := by simpa using hg0
    have hL0 : (l0.length : Int) ≤ 3000 := by omega
    have HLb : Hid ((l0.length : Int) ≤ 200) := Lib.hid (by omega)
    clear hg0
    go_enter Try.func3, Try.ntmps3
    go_wp2_with (first
      | ((with_reducible refine (small_any _).mono ?_); rintro e w1 ⟨rfl, hb1⟩; have HB1 := Lib.hid hb1; clear hb1)
      | ((with_reducible refine (xo_new _ _ HB1.out).mono ?_); rintro e w2 ⟨xb, rfl, HX, HB2⟩; have HXS := Lib.hid (XZ.start HX.out); clear HX HB2))
    clear hd0 HB1
    generalize w2.alloc (.cells #[.slice none 0 0] 29) = w3 at HXS ⊢
    generalize w2.heap.size = gb at HXS ⊢
    go_loopg [6] l0.length (fun m s6 wr => ∃ (i : Nat) (L : List Un), i ≤ l0.length ∧ m = l0.length - i ∧ s6 = .int .i64 (i : Int) ∧ Hid (XZ W wr (2 * i) xb gb L L []))
    case atStart => exact ⟨0, [], by omega, rfl, rfl, HXS⟩
    case round =>
      clear HXS
      obtain ⟨i, L, hi, rfl, rfl, HX⟩ := hrel
      by_cases hil : i < l0.length
      · have hil' : (i : Int) < l0.length := by omega
        have hip : (0 : Int) ≤ (i : Int) := by omega
        have hi1 : i + 1 ≤ l0.length := hil
        have HI9 : Hid ((i : Int) ≤ 200) := Lib.hid (by have := HLb.out; omega)
        obtain ⟨b, off, s, hA, hbl, hls, hcell⟩ := steps_at HR0.out hil
        obtain ⟨u0, u1, u2, u3, u4⟩ := hcell wr HX.out.bel
        have hs := HX0.out s (List.mem_of_getElem? hls)
        have F1 := Lib.hid hs.2.1
        have F2 := Lib.hid hs.2.2.1
        have F3 := Lib.hid hs.2.2.2.1
        have F4 := Lib.hid hs.2.2.2.2
        have HN : Hid (((2 * i : Nat) : Int) < 90000) := Lib.hid (by have := HI9.out; omega)
        have HS0 : Hid ((L.length : Int) < 1000) := Lib.hid (by have := HX.out.info.2.2; have := HI9.out; omega)
        obtain ⟨q, hq⟩ : ∃ q, bits BinOp.and IntKind.i64 s.a0 3 = q := ⟨_, rfl⟩
        have HXb := Lib.hid (xz_boxes HX.out s)
        obtain ⟨v0, v1, v2, v3, v4⟩ := first_box wr s _ _ rfl rfl
        obtain ⟨c0, c1, c2, c3, c4, c5, c6⟩ := xz_sev (n0 := wr.heap.size) (n1 := wr.heap.size + 1) (s := s) HXb.out (by simp) (by simp)
        subst hA
        clear hcell hls hs
        by_cases h0 : q = 0
        · have z0 : (q == 0) = true := by simpa using h0
          clear h0
          obtain ⟨bb, hbb⟩ : ∃ b, (onB s.a2 && onB s.a3) = b := ⟨_, rfl⟩
          have HBB := Lib.hid hbb
          obtain ⟨L2, hL2⟩ : ∃ l, (if bb = true then ins (del L s.a1) ⟨s.a1, s.a2, s.a3⟩ else L) = l := ⟨_, rfl⟩
          have HL2 := Lib.hid hL2
          have hbe : (bb == bb) = true := by simp
          clear hbb hL2
          obtain ⟨px, py, f, hat⟩ := atf_ex L2 s.a1
          have HAT := Lib.hid hat
          obtain ⟨fb, db, kb, hbest⟩ := best_ex L2 s.a2 s.a3 s.a1
          have HBE := Lib.hid hbest
          have hff : (f != f) = false := by simp
          have hfb : (fb != fb) = false := by simp
          have hkk : (kb != kb) = false := by simp
          clear hat hbest
          clear HX
          go_wp2_with (first
            | ((with_reducible refine (xz_xput HXb.out s.a1 s.a2 s.a3 F1.out HN.out bb HBB.out L2 HL2.out).mono ?_); rintro e w3 ⟨rfl, HX3⟩; obtain ⟨d0, d1, d2, d3, d4, d5, d6⟩ := xz_sev (n0 := wr.heap.size) (n1 := wr.heap.size + 1) (s := s) HX3.out (by simp) (by simp); clear c0 c1 c2 c3 c4 c5 c6)
            | ((with_reducible refine (xz_yput HX3.out s.a1 s.a2 s.a3 F1.out HS0.out bb HBB.out L2 HL2.out).mono ?_); rintro e w4 ⟨rfl, HX4⟩; obtain ⟨e0, e1, e2, e3, e4, e5, e6⟩ := xz_sev (n0 := wr.heap.size) (n1 := wr.heap.size + 1) (s := s) HX4.out (by simp) (by simp); clear d0 d1 d2 d3 d4 d5 d6)
            | ((with_reducible refine (p_xat HX4.out s.a1 F1.out px py f HAT.out).mono ?_); rintro e w5 ⟨rfl, HX5⟩; have HS := Lib.hid (show ((List.length L2 : Nat) : Int) < 1000 from (by have := HX5.out.info.2.1; have := HX5.out.info.2.2; have := HI9.out; omega)); have HX6 := Lib.hid (HX5.out.new (.cells #[.int .i64 px, .int .i64 py] 32)); obtain ⟨g0, g1, g2, g3, g4, g5, g6⟩ := xz_sev (n0 := wr.heap.size) (n1 := wr.heap.size + 1) (s := s) HX6.out (by simp) (by simp); clear e0 e1 e2 e3 e4 e5 e6)
            | ((with_reducible refine (p_yat HX6.out s.a1 HS.out px py f HAT.out).mono ?_); rintro e w6 ⟨rfl, HX7⟩; have HX8 := Lib.hid (HX7.out.new (.cells #[.int .i64 px, .int .i64 py] 32)); obtain ⟨h0, h1, h2, h3, h4, h5, h6⟩ := xz_sev (n0 := wr.heap.size) (n1 := wr.heap.size + 1) (s := s) HX8.out (by simp) (by simp); clear g0 g1 g2 g3 g4 g5 g6)
            | ((with_reducible refine (xz_xclosest HX8.out s.a2 s.a3 s.a1 F2.out F3.out fb db kb HBE.out).mono ?_); rintro e w7 ⟨rfl, HX9⟩; obtain ⟨k0, k1, k2, k3, k4, k5, k6⟩ := xz_sev (n0 := wr.heap.size) (n1 := wr.heap.size + 1) (s := s) HX9.out (by simp) (by simp); clear h0 h1 h2 h3 h4 h5 h6)
            | ((with_reducible refine (xz_yclosest HX9.out HS.out s.a2 s.a3 s.a1 F2.out F3.out fb db kb HBE.out).mono ?_); rintro e V ⟨rfl, HX⟩; clear k0 k1 k2 k3 k4 k5 k6))
          have HC : Hid (∀ wz, Below V.heap.size V wz → wz.cell? ⟨wr.heap.size, 0, none⟩ = some (.int .i64 s.a0) ∧ wz.cell? ⟨wr.heap.size, 1, none⟩ = some (.int .i64 s.a1) ∧ wz.cell? ⟨wr.heap.size, 2, none⟩ = some (.int .i64 s.a2) ∧ wz.cell? ⟨wr.heap.size, 3, none⟩ = some (.int .i64 s.a3) ∧ wz.cell? ⟨wr.heap.size, 4, none⟩ = some (.int .i64 s.a4) ∧ wz.cell? ⟨wr.heap.size + 1, 0, none⟩ = some (.int .i64 s.a2) ∧ wz.cell? ⟨wr.heap.size + 1, 1, none⟩ = some (.int .i64 s.a3) ∧ wz.cell? ⟨w5.heap.size, 0, none⟩ = some (.int .i64 px) ∧ wz.cell? ⟨w5.heap.size, 1, none⟩ = some (.int .i64 py) ∧ wz.cell? ⟨w6.heap.size, 0, none⟩ = some (.int .i64 px) ∧ wz.cell? ⟨w6.heap.size, 1, none⟩ = some (.int .i64 py)) := Lib.hid (fun wz hz => by
            have hh := HX.out.step hz
            obtain ⟨a0, a1, a2, a3, a4, b0, b1⟩ := xz_sev (n0 := wr.heap.size) (n1 := wr.heap.size + 1) (s := s) hh (by simp) (by simp)
            obtain ⟨p0, p1⟩ := two_of (hh.obj (p := (w5.heap.size, (.cells #[.int .i64 px, .int .i64 py] 32))) (by simp))
            obtain ⟨q0, q1⟩ := two_of (hh.obj (p := (w6.heap.size, (.cells #[.int .i64 px, .int .i64 py] 32))) (by simp))
            exact ⟨a0, a1, a2, a3, a4, b0, b1, p0, p1, q0, q1⟩)
          obtain ⟨lN, hlN⟩ : ∃ l, ids L2 (nr s.a2 s.a3 s.a4) = l := ⟨_, rfl⟩
          obtain ⟨lI, hlI⟩ : ∃ l, ids L2 (fun _ => true) = l := ⟨_, rfl⟩
          have hN9 : (lN.length : Int) ≤ 5000 := by rw [← hlN]; have := ids_le L2 (nr s.a2 s.a3 s.a4); have := HS.out; omega
          have hI9 : (lI.length : Int) ≤ 5000 := by rw [← hlI]; have := ids_le L2 (fun _ => true); have := HS.out; omega
          have HlN := Lib.hid hlN
          have HlI := Lib.hid hlI
          clear hlN hlI
          have hpe := neq32s px py
          have hS0 : Below V.heap.size V V.drew := (Below.refl _ _).drew
          refine wp_region_noPanic ?_
          refine wp_region_held_drew (S := fun w' => Below V.heap.size V w') (by kernel_rfl) hS0 (fun _ => ?_)
          refine wpAnyH_take (i := 0) (oi := ⟨some 111, Op.move (Operand.tmp 9), 4, _, _, none⟩) (v := ?vra0) rfl (by kernel_rfl) (by kernel_rfl) (by kernel_rfl) (fun _ _ _ h => h) (Or.inl ⟨by rfl, ?hra0⟩) hS0 ?rra0
          case hra0 => (intro wz hSw; go_simp <;> with_reducible rfl)
          (try simp only [Act.put, List.setIfInBounds_toArray, List.set_cons_zero, List.set_cons_succ])
          refine wpAnyH_take (i := 1) (oi := ⟨some 112, Op.unOp UnOp.not 4 (Operand.tmp 111), 4, _, _, none⟩) (v := ?vra1) rfl (by kernel_rfl) (by kernel_rfl) (by kernel_rfl) (fun _ _ _ h => h) (Or.inl ⟨by rfl, ?hra1⟩) hS0 ?rra1
          case hra1 => (intro wz hSw; go_simp <;> with_reducible rfl)
          (try simp only [Act.put, List.setIfInBounds_toArray, List.set_cons_zero, List.set_cons_succ])
          refine wpAnyH_take (i := 2) (oi := ⟨some 113, Op.move (Operand.tmp 112), 4, _, _, none⟩) (v := ?vra2) rfl (by kernel_rfl) (by kernel_rfl) (by kernel_rfl) (fun _ _ _ h => h) (Or.inl ⟨by rfl, ?hra2⟩) hS0 ?rra2
          case hra2 => (intro wz hSw; go_simp <;> with_reducible rfl)
          (try simp only [Act.put, List.setIfInBounds_toArray, List.set_cons_zero, List.set_cons_succ])
          refine wpAnyH_take (i := 3) (oi := ⟨some 114, Op.load 32 (Operand.tmp 12), 32, _, _, some (2, false)⟩) (v := ?vra3) rfl (by kernel_rfl) (by kernel_rfl) (by kernel_rfl) (fun _ _ _ h => h) (Or.inl ⟨by rfl, ?hra3⟩) hS0 ?rra3
          case hra3 => (intro wz hSw; obtain ⟨x0, x1, x2, x3, x4, y0, y1, p0, p1, q0, q1⟩ := HC.out wz hSw; go_simp <;> with_reducible rfl)
          (try simp only [Act.put, List.setIfInBounds_toArray, List.set_cons_zero, List.set_cons_succ])
          refine wpAnyH_take (i := 4) (oi := ⟨some 115, Op.load 32 (Operand.tmp 14), 32, _, _, some (2, false)⟩) (v := ?vra4) rfl (by kernel_rfl) (by kernel_rfl) (by kernel_rfl) (fun _ _ _ h => h) (Or.inl ⟨by rfl, ?hra4⟩) hS0 ?rra4
          case hra4 => (intro wz hSw; obtain ⟨x0, x1, x2, x3, x4, y0, y1, p0, p1, q0, q1⟩ := HC.out wz hSw; go_simp <;> with_reducible rfl)
          (try simp only [Act.put, List.setIfInBounds_toArray, List.set_cons_zero, List.set_cons_succ])
          refine wpAnyH_take (i := 5) (oi := ⟨some 116, Op.binOp BinOp.neq 32 (Operand.tmp 114) (Operand.tmp 115) 32, 4, _, _, some (2, false)⟩) (v := ?vra5) rfl (by kernel_rfl) (by kernel_rfl) (by kernel_rfl) (fun _ _ _ h => h) (Or.inl ⟨by rfl, ?hra5⟩) hS0 ?rra5
          case hra5 => (intro wz hSw; go_simp <;> with_reducible rfl)
          (try simp only [Act.put, List.setIfInBounds_toArray, List.set_cons_zero, List.set_cons_succ])
          refine wpAnyH_take (i := 6) (oi := ⟨some 117, Op.pick (Operand.tmp 113) (Operand.const (Value.bool true)) (Operand.tmp 116), 4, _, _, none⟩) (v := ?vra6) rfl (by kernel_rfl) (by kernel_rfl) (by kernel_rfl) (fun _ _ _ h => h) (Or.inl ⟨by rfl, ?hra6⟩) hS0 ?rra6
          case hra6 => (intro wz hSw; go_simp <;> with_reducible rfl)
          (try simp only [Act.put, List.setIfInBounds_toArray, List.set_cons_zero, List.set_cons_succ])
          refine wpAnyH_take (i := 7) (oi := ⟨some 118, Op.move (Operand.tmp 117), 4, _, _, none⟩) (v := ?vra7) rfl (by kernel_rfl) (by kernel_rfl) (by kernel_rfl) (fun _ _ _ h => h) (Or.inl ⟨by rfl, ?hra7⟩) hS0 ?rra7
          case hra7 => (intro wz hSw; go_simp <;> with_reducible rfl)
          (try simp only [Act.put, List.setIfInBounds_toArray, List.set_cons_zero, List.set_cons_succ])
          refine wpAnyH_take (i := 8) (oi := ⟨some 119, Op.move (Operand.tmp 13), 4, _, _, some (7, false)⟩) (v := ?vra8) rfl (by kernel_rfl) (by kernel_rfl) (by kernel_rfl) (fun _ _ _ h => h) (Or.inl ⟨by rfl, ?hra8⟩) hS0 ?rra8
          case hra8 => (intro wz hSw; go_simp <;> with_reducible rfl)
          (try simp only [Act.put, List.setIfInBounds_toArray, List.set_cons_zero, List.set_cons_succ])
          refine wpAnyH_take (i := 9) (oi := ⟨some 120, Op.move (Operand.tmp 15), 4, _, _, some (7, false)⟩) (v := ?vra9) rfl (by kernel_rfl) (by kernel_rfl) (by kernel_rfl) (fun _ _ _ h => h) (Or.inl ⟨by rfl, ?hra9⟩) hS0 ?rra9
          case hra9 => (intro wz hSw; go_simp <;> with_reducible rfl)
          (try simp only [Act.put, List.setIfInBounds_toArray, List.set_cons_zero, List.set_cons_succ])
          refine wpAnyH_take (i := 10) (oi := ⟨some 121, Op.binOp BinOp.neq 4 (Operand.tmp 119) (Operand.tmp 120) 4, 4, _, _, some (7, false)⟩) (v := ?vra10) rfl (by kernel_rfl) (by kernel_rfl) (by kernel_rfl) (fun _ _ _ h => h) (Or.inl ⟨by rfl, ?hra10⟩) hS0 ?rra10
          case hra10 => (intro wz hSw; go_simp <;> with_reducible rfl)
          (try simp only [Act.put, List.setIfInBounds_toArray, List.set_cons_zero, List.set_cons_succ])
          refine wpAnyH_take (i := 11) (oi := ⟨some 122, Op.pick (Operand.tmp 118) (Operand.const (Value.bool true)) (Operand.tmp 121), 4, _, _, none⟩) (v := ?vra11) rfl (by kernel_rfl) (by kernel_rfl) (by kernel_rfl) (fun _ _ _ h => h) (Or.inl ⟨by rfl, ?hra11⟩) hS0 ?rra11
          case hra11 => (intro wz hSw; go_simp <;> with_reducible rfl)
          (try simp only [Act.put, List.setIfInBounds_toArray, List.set_cons_zero, List.set_cons_succ])
          refine wpAnyH_take (i := 12) (oi := ⟨some 123, Op.move (Operand.tmp 122), 4, _, _, none⟩) (v := ?vra12) rfl (by kernel_rfl) (by kernel_rfl) (by kernel_rfl) (fun _ _ _ h => h) (Or.inl ⟨by rfl, ?hra12⟩) hS0 ?rra12
          case hra12 => (intro wz hSw; go_simp <;> with_reducible rfl)
          (try simp only [Act.put, List.setIfInBounds_toArray, List.set_cons_zero, List.set_cons_succ])
          refine wpAnyH_take (i := 13) (oi := ⟨some 124, Op.move (Operand.tmp 16), 3, _, _, some (12, false)⟩) (v := ?vra13) rfl (by kernel_rfl) (by kernel_rfl) (by kernel_rfl) (fun _ _ _ h => h) (Or.inl ⟨by rfl, ?hra13⟩) hS0 ?rra13
          case hra13 => (intro wz hSw; go_simp <;> with_reducible rfl)
          (try simp only [Act.put, List.setIfInBounds_toArray, List.set_cons_zero, List.set_cons_succ])
          refine wpAnyH_take (i := 14) (oi := ⟨some 125, Op.move (Operand.tmp 18), 3, _, _, some (12, false)⟩) (v := ?vra14) rfl (by kernel_rfl) (by kernel_rfl) (by kernel_rfl) (fun _ _ _ h => h) (Or.inl ⟨by rfl, ?hra14⟩) hS0 ?rra14
          case hra14 => (intro wz hSw; go_simp <;> with_reducible rfl)
          (try simp only [Act.put, List.setIfInBounds_toArray, List.set_cons_zero, List.set_cons_succ])
          refine wpAnyH_take (i := 15) (oi := ⟨some 126, Op.binOp BinOp.neq 3 (Operand.tmp 124) (Operand.tmp 125) 3, 4, _, _, some (12, false)⟩) (v := ?vra15) rfl (by kernel_rfl) (by kernel_rfl) (by kernel_rfl) (fun _ _ _ h => h) (Or.inl ⟨by rfl, ?hra15⟩) hS0 ?rra15
          case hra15 => (intro wz hSw; go_simp <;> with_reducible rfl)
          (try simp only [Act.put, List.setIfInBounds_toArray, List.set_cons_zero, List.set_cons_succ])
          refine wpAnyH_take (i := 16) (oi := ⟨some 127, Op.pick (Operand.tmp 123) (Operand.const (Value.bool true)) (Operand.tmp 126), 4, _, _, none⟩) (v := ?vra16) rfl (by kernel_rfl) (by kernel_rfl) (by kernel_rfl) (fun _ _ _ h => h) (Or.inl ⟨by rfl, ?hra16⟩) hS0 ?rra16
          case hra16 => (intro wz hSw; go_simp <;> with_reducible rfl)
          (try simp only [Act.put, List.setIfInBounds_toArray, List.set_cons_zero, List.set_cons_succ])
          refine wpAnyH_take (i := 17) (oi := ⟨some 128, Op.move (Operand.tmp 127), 4, _, _, none⟩) (v := ?vra17) rfl (by kernel_rfl) (by kernel_rfl) (by kernel_rfl) (fun _ _ _ h => h) (Or.inl ⟨by rfl, ?hra17⟩) hS0 ?rra17
          case hra17 => (intro wz hSw; go_simp <;> with_reducible rfl)
          (try simp only [Act.put, List.setIfInBounds_toArray, List.set_cons_zero, List.set_cons_succ])
          refine wpAnyH_take (i := 18) (oi := ⟨some 129, Op.move (Operand.tmp 17), 4, _, _, some (17, false)⟩) (v := ?vra18) rfl (by kernel_rfl) (by kernel_rfl) (by kernel_rfl) (fun _ _ _ h => h) (Or.inl ⟨by rfl, ?hra18⟩) hS0 ?rra18
          case hra18 => (intro wz hSw; go_simp <;> with_reducible rfl)
          (try simp only [Act.put, List.setIfInBounds_toArray, List.set_cons_zero, List.set_cons_succ])
          refine wpAnyH_take (i := 19) (oi := ⟨some 130, Op.move (Operand.tmp 19), 4, _, _, some (17, false)⟩) (v := ?vra19) rfl (by kernel_rfl) (by kernel_rfl) (by kernel_rfl) (fun _ _ _ h => h) (Or.inl ⟨by rfl, ?hra19⟩) hS0 ?rra19
          case hra19 => (intro wz hSw; go_simp <;> with_reducible rfl)
          (try simp only [Act.put, List.setIfInBounds_toArray, List.set_cons_zero, List.set_cons_succ])
          refine wpAnyH_take (i := 20) (oi := ⟨some 131, Op.binOp BinOp.neq 4 (Operand.tmp 129) (Operand.tmp 130) 4, 4, _, _, some (17, false)⟩) (v := ?vra20) rfl (by kernel_rfl) (by kernel_rfl) (by kernel_rfl) (fun _ _ _ h => h) (Or.inl ⟨by rfl, ?hra20⟩) hS0 ?rra20
          case hra20 => (intro wz hSw; go_simp <;> with_reducible rfl)
          (try simp only [Act.put, List.setIfInBounds_toArray, List.set_cons_zero, List.set_cons_succ])
          refine wpAnyH_take (i := 21) (oi := ⟨some 132, Op.pick (Operand.tmp 128) (Operand.const (Value.bool true)) (Operand.tmp 131), 4, _, _, none⟩) (v := ?vra21) rfl (by kernel_rfl) (by kernel_rfl) (by kernel_rfl) (fun _ _ _ h => h) (Or.inl ⟨by rfl, ?hra21⟩) hS0 ?rra21
          case hra21 => (intro wz hSw; go_simp <;> with_reducible rfl)
          (try simp only [Act.put, List.setIfInBounds_toArray, List.set_cons_zero, List.set_cons_succ])
          refine wpAnyH_take (i := 22) (oi := ⟨some 133, Op.move (Operand.tmp 132), 4, _, _, none⟩) (v := ?vra22) rfl (by kernel_rfl) (by kernel_rfl) (by kernel_rfl) (fun _ _ _ h => h) (Or.inl ⟨by rfl, ?hra22⟩) hS0 ?rra22
          case hra22 => (intro wz hSw; go_simp <;> with_reducible rfl)
          (try simp only [Act.put, List.setIfInBounds_toArray, List.set_cons_zero, List.set_cons_succ])
          refine wpAnyH_take (i := 23) (oi := ⟨some 134, Op.move (Operand.tmp 4), 24, _, _, some (22, false)⟩) (v := ?vra23) rfl (by kernel_rfl) (by kernel_rfl) (by kernel_rfl) (fun _ _ _ h => h) (Or.inl ⟨by rfl, ?hra23⟩) hS0 ?rra23
          case hra23 => (intro wz hSw; go_simp <;> with_reducible rfl)
          (try simp only [Act.put, List.setIfInBounds_toArray, List.set_cons_zero, List.set_cons_succ])
          refine wpAnyH_take (i := 24) (oi := ⟨some 135, Op.load 32 (Operand.tmp 8), 32, _, _, some (22, false)⟩) (v := ?vra24) rfl (by kernel_rfl) (by kernel_rfl) (by kernel_rfl) (fun _ _ _ h => h) (Or.inl ⟨by rfl, ?hra24⟩) hS0 ?rra24
          case hra24 => (intro wz hSw; obtain ⟨x0, x1, x2, x3, x4, y0, y1, p0, p1, q0, q1⟩ := HC.out wz hSw; go_simp <;> with_reducible rfl)
          (try simp only [Act.put, List.setIfInBounds_toArray, List.set_cons_zero, List.set_cons_succ])
          refine wpAnyH_take (i := 25) (oi := ⟨some 136, Op.indexAddr 30 (Operand.tmp 7) (Operand.const (Value.int IntKind.i64 4)), 0, _, _, some (22, false)⟩) (v := ?vra25) rfl (by kernel_rfl) (by kernel_rfl) (by kernel_rfl) (fun _ _ _ h => h) (Or.inl ⟨by rfl, ?hra25⟩) hS0 ?rra25
          case hra25 => (intro wz hSw; go_simp <;> with_reducible rfl)
          (try simp only [Act.put, List.setIfInBounds_toArray, List.set_cons_zero, List.set_cons_succ])
          refine wpAnyH_take (i := 26) (oi := ⟨some 137, Op.load 3 (Operand.tmp 136), 3, _, _, some (22, false)⟩) (v := ?vra26) rfl (by kernel_rfl) (by kernel_rfl) (by kernel_rfl) (fun _ _ _ h => h) (Or.inl ⟨by rfl, ?hra26⟩) hS0 ?rra26
          case hra26 => (intro wz hSw; obtain ⟨x0, x1, x2, x3, x4, y0, y1, p0, p1, q0, q1⟩ := HC.out wz hSw; go_simp <;> with_reducible rfl)
          (try simp only [Act.put, List.setIfInBounds_toArray, List.set_cons_zero, List.set_cons_succ])
          refine wpAnyH_take (i := 28) (oi := ⟨some 139, Op.move (Operand.tmp 5), 26, _, _, some (22, false)⟩) (v := ?vra28) rfl (by kernel_rfl) (by kernel_rfl) (by kernel_rfl) (fun _ _ _ h => h) (Or.inl ⟨by rfl, ?hra28⟩) hS0 ?rra28
          case hra28 => (intro wz hSw; go_simp <;> with_reducible rfl)
          (try simp only [Act.put, List.setIfInBounds_toArray, List.set_cons_zero, List.set_cons_succ])
          refine wpAnyH_take (i := 29) (oi := ⟨some 140, Op.load 32 (Operand.tmp 8), 32, _, _, some (22, false)⟩) (v := ?vra29) rfl (by kernel_rfl) (by kernel_rfl) (by kernel_rfl) (fun _ _ _ h => h) (Or.inl ⟨by rfl, ?hra29⟩) hS0 ?rra29
          case hra29 => (intro wz hSw; obtain ⟨x0, x1, x2, x3, x4, y0, y1, p0, p1, q0, q1⟩ := HC.out wz hSw; go_simp <;> with_reducible rfl)
          (try simp only [Act.put, List.setIfInBounds_toArray, List.set_cons_zero, List.set_cons_succ])
          refine wpAnyH_take (i := 30) (oi := ⟨some 141, Op.indexAddr 30 (Operand.tmp 7) (Operand.const (Value.int IntKind.i64 4)), 0, _, _, some (22, false)⟩) (v := ?vra30) rfl (by kernel_rfl) (by kernel_rfl) (by kernel_rfl) (fun _ _ _ h => h) (Or.inl ⟨by rfl, ?hra30⟩) hS0 ?rra30
          case hra30 => (intro wz hSw; go_simp <;> with_reducible rfl)
          (try simp only [Act.put, List.setIfInBounds_toArray, List.set_cons_zero, List.set_cons_succ])
          refine wpAnyH_take (i := 31) (oi := ⟨some 142, Op.load 3 (Operand.tmp 141), 3, _, _, some (22, false)⟩) (v := ?vra31) rfl (by kernel_rfl) (by kernel_rfl) (by kernel_rfl) (fun _ _ _ h => h) (Or.inl ⟨by rfl, ?hra31⟩) hS0 ?rra31
          case hra31 => (intro wz hSw; obtain ⟨x0, x1, x2, x3, x4, y0, y1, p0, p1, q0, q1⟩ := HC.out wz hSw; go_simp <;> with_reducible rfl)
          (try simp only [Act.put, List.setIfInBounds_toArray, List.set_cons_zero, List.set_cons_succ])
          refine wpAnyH_ready (rs := [27]) (by kernel_rfl) (by simp) ?_
          refine AllReadyH.cons (o := ⟨some 138, Op.call { callee := Callee.value (Operand.func 17), args := #[Operand.tmp 134, Operand.tmp 135, Operand.tmp 137], argTypes := #[24, 32, 3] }, 40, _, _, some (22, false)⟩) rfl (fun K hK => ?_) AllReadyH.nil
          go_simp
          (with_reducible refine (xz_xnear (HX.out.step hS0) s.a2 s.a3 s.a4 F2.out F3.out F4.out lN HlN.out).mono ?_); rintro e v1 ⟨A1, c1, rfl, HR1, _, HB1⟩; have hS1 := hS0.trans (HB1.out.mono hS0.size)
          refine hK.out _ _ hS1 (fun _ => ?_)
          clear hK K
          (try simp only [Act.put, List.setIfInBounds_toArray, List.set_cons_zero, List.set_cons_succ])
          refine wpAnyH_ready (rs := [32]) (by kernel_rfl) (by simp) ?_
          refine AllReadyH.cons (o := ⟨some 143, Op.call { callee := Callee.value (Operand.func 18), args := #[Operand.tmp 139, Operand.tmp 140, Operand.tmp 142], argTypes := #[26, 32, 3] }, 40, _, _, some (22, false)⟩) rfl (fun K hK => ?_) AllReadyH.nil
          go_simp
          (with_reducible refine (xz_ynear (HX.out.step hS1) HS.out s.a2 s.a3 s.a4 F2.out F3.out F4.out lN HlN.out).mono ?_); rintro e v2 ⟨A2, c2, rfl, HR2, _, HB2⟩; have hS2 := hS1.trans (HB2.out.mono hS1.size)
          refine hK.out _ _ hS2 (fun _ => ?_)
          clear hK K
          (try simp only [Act.put, List.setIfInBounds_toArray, List.set_cons_zero, List.set_cons_succ])
          refine wpAnyH_ready (rs := [33]) (by kernel_rfl) (by simp) ?_
          refine AllReadyH.cons (o := ⟨some 144, Op.call { callee := Callee.value (Operand.func 16), args := #[Operand.tmp 138, Operand.tmp 143], argTypes := #[40, 40] }, 4, _, _, some (22, false)⟩) rfl (fun K hK => ?_) AllReadyH.nil
          go_simp
          (with_reducible refine (p_same (HR1.out.below HB2.out (Nat.le_refl _)) HR2.out hN9).mono ?_); rintro e v3 ⟨rfl, hb3⟩; have hS3 := hS2.trans (hb3.mono hS2.size)
          refine hK.out _ _ hS3 (fun _ => ?_)
          clear hK K
          (try simp only [Act.put, List.setIfInBounds_toArray, List.set_cons_zero, List.set_cons_succ])
          refine wpAnyH_take (i := 34) (oi := ⟨some 145, Op.unOp UnOp.not 4 (Operand.tmp 144), 4, _, _, some (22, false)⟩) (v := ?vra34) rfl (by kernel_rfl) (by kernel_rfl) (by kernel_rfl) (fun _ _ _ h => h) (Or.inl ⟨by rfl, ?hra34⟩) hS3 ?rra34
          case hra34 => (intro wz hSw; go_simp <;> with_reducible rfl)
          (try simp only [Act.put, List.setIfInBounds_toArray, List.set_cons_zero, List.set_cons_succ])
          refine wpAnyH_take (i := 35) (oi := ⟨some 146, Op.pick (Operand.tmp 133) (Operand.const (Value.bool true)) (Operand.tmp 145), 4, _, _, none⟩) (v := ?vra35) rfl (by kernel_rfl) (by kernel_rfl) (by kernel_rfl) (fun _ _ _ h => h) (Or.inl ⟨by rfl, ?hra35⟩) hS3 ?rra35
          case hra35 => (intro wz hSw; go_simp <;> with_reducible rfl)
          (try simp only [Act.put, List.setIfInBounds_toArray, List.set_cons_zero, List.set_cons_succ])
          refine wpAnyH_take (i := 36) (oi := ⟨some 147, Op.move (Operand.tmp 146), 4, _, _, none⟩) (v := ?vra36) rfl (by kernel_rfl) (by kernel_rfl) (by kernel_rfl) (fun _ _ _ h => h) (Or.inl ⟨by rfl, ?hra36⟩) hS3 ?rra36
          case hra36 => (intro wz hSw; go_simp <;> with_reducible rfl)
          (try simp only [Act.put, List.setIfInBounds_toArray, List.set_cons_zero, List.set_cons_succ])
          refine wpAnyH_take (i := 37) (oi := ⟨some 148, Op.move (Operand.tmp 4), 24, _, _, some (36, false)⟩) (v := ?vra37) rfl (by kernel_rfl) (by kernel_rfl) (by kernel_rfl) (fun _ _ _ h => h) (Or.inl ⟨by rfl, ?hra37⟩) hS3 ?rra37
          case hra37 => (intro wz hSw; go_simp <;> with_reducible rfl)
          (try simp only [Act.put, List.setIfInBounds_toArray, List.set_cons_zero, List.set_cons_succ])
          refine wpAnyH_take (i := 39) (oi := ⟨some 150, Op.move (Operand.tmp 5), 26, _, _, some (36, false)⟩) (v := ?vra39) rfl (by kernel_rfl) (by kernel_rfl) (by kernel_rfl) (fun _ _ _ h => h) (Or.inl ⟨by rfl, ?hra39⟩) hS3 ?rra39
          case hra39 => (intro wz hSw; go_simp <;> with_reducible rfl)
          (try simp only [Act.put, List.setIfInBounds_toArray, List.set_cons_zero, List.set_cons_succ])
          refine wpAnyH_ready (rs := [38]) (by kernel_rfl) (by simp) ?_
          refine AllReadyH.cons (o := ⟨some 149, Op.call { callee := Callee.value (Operand.func 19), args := #[Operand.tmp 148], argTypes := #[24] }, 40, _, _, some (36, false)⟩) rfl (fun K hK => ?_) AllReadyH.nil
          go_simp
          (with_reducible refine (xz_xids (HX.out.step hS3) lI HlI.out).mono ?_); rintro e v4 ⟨A4, c4, rfl, HR4, _, HB4⟩; have hS4 := hS3.trans (HB4.out.mono hS3.size)
          refine hK.out _ _ hS4 (fun _ => ?_)
          clear hK K
          (try simp only [Act.put, List.setIfInBounds_toArray, List.set_cons_zero, List.set_cons_succ])
          refine wpAnyH_ready (rs := [40]) (by kernel_rfl) (by simp) ?_
          refine AllReadyH.cons (o := ⟨some 151, Op.call { callee := Callee.value (Operand.func 20), args := #[Operand.tmp 150], argTypes := #[26] }, 40, _, _, some (36, false)⟩) rfl (fun K hK => ?_) AllReadyH.nil
          go_simp
          (with_reducible refine (xz_yids (HX.out.step hS4) HS.out lI HlI.out).mono ?_); rintro e v5 ⟨A5, c5, rfl, HR5, _, HB5⟩; have hS5 := hS4.trans (HB5.out.mono hS4.size)
          refine hK.out _ _ hS5 (fun _ => ?_)
          clear hK K
          (try simp only [Act.put, List.setIfInBounds_toArray, List.set_cons_zero, List.set_cons_succ])
          refine wpAnyH_ready (rs := [41]) (by kernel_rfl) (by simp) ?_
          refine AllReadyH.cons (o := ⟨some 152, Op.call { callee := Callee.value (Operand.func 16), args := #[Operand.tmp 149, Operand.tmp 151], argTypes := #[40, 40] }, 4, _, _, some (36, false)⟩) rfl (fun K hK => ?_) AllReadyH.nil
          go_simp
          (with_reducible refine (p_same (HR4.out.below HB5.out (Nat.le_refl _)) HR5.out hI9).mono ?_); rintro e v6 ⟨rfl, hb6⟩; have hS6 := hS5.trans (hb6.mono hS5.size)
          refine hK.out _ _ hS6 (fun _ => ?_)
          clear hK K
          (try simp only [Act.put, List.setIfInBounds_toArray, List.set_cons_zero, List.set_cons_succ])
          refine wpAnyH_take (i := 42) (oi := ⟨some 153, Op.unOp UnOp.not 4 (Operand.tmp 152), 4, _, _, some (36, false)⟩) (v := ?vra42) rfl (by kernel_rfl) (by kernel_rfl) (by kernel_rfl) (fun _ _ _ h => h) (Or.inl ⟨by rfl, ?hra42⟩) hS6 ?rra42
          case hra42 => (intro wz hSw; go_simp <;> with_reducible rfl)
          (try simp only [Act.put, List.setIfInBounds_toArray, List.set_cons_zero, List.set_cons_succ])
          refine wpAnyH_take (i := 43) (oi := ⟨some 154, Op.pick (Operand.tmp 147) (Operand.const (Value.bool true)) (Operand.tmp 153), 4, _, _, none⟩) (v := ?vra43) rfl (by kernel_rfl) (by kernel_rfl) (by kernel_rfl) (fun _ _ _ h => h) (Or.inl ⟨by rfl, ?hra43⟩) hS6 ?rra43
          case hra43 => (intro wz hSw; go_simp <;> with_reducible rfl)
          (try simp only [Act.put, List.setIfInBounds_toArray, List.set_cons_zero, List.set_cons_succ])
          refine wpAnyH_done (by kernel_rfl) ?_ _
          refine NoPanic.normal ?_
          have HV := Lib.hid hS6
          generalize hv9 : v6 = V2 at HV ⊢
          clear hv9
          have HXE := Lib.hid (HX.out.step HV.out)
          go_wp2
          go_roundg (l0.length - (i + 1))
          · exact ⟨i + 1, L2, hi1, rfl, by go_num, Lib.hid ((HXE.out.less).more (by omega) (by have := HI9.out; omega))⟩
          · omega
        · have z0 : (q == 0) = false := by simpa using h0
          clear h0
          by_cases h1 : q = 1
          · have z1 : (q == 1) = true := by simpa using h1
            clear h1
            obtain ⟨bb, hbb⟩ : ∃ b, (onB s.a2 && onB s.a3) = b := ⟨_, rfl⟩
            have HBB := Lib.hid hbb
            obtain ⟨L2, hL2⟩ : ∃ l, (if bb = true then ins (del L s.a1) ⟨s.a1, s.a2, s.a3⟩ else L) = l := ⟨_, rfl⟩
            have HL2 := Lib.hid hL2
            have hbe : (bb == bb) = true := by simp
            clear hbb hL2
            obtain ⟨px, py, f, hat⟩ := atf_ex L2 s.a1
            have HAT := Lib.hid hat
            obtain ⟨fb, db, kb, hbest⟩ := best_ex L2 s.a2 s.a3 s.a1
            have HBE := Lib.hid hbest
            have hff : (f != f) = false := by simp
            have hfb : (fb != fb) = false := by simp
            have hkk : (kb != kb) = false := by simp
            clear hat hbest
            clear HX
            go_wp2_with (first
              | ((with_reducible refine (xz_xput HXb.out s.a1 s.a2 s.a3 F1.out HN.out bb HBB.out L2 HL2.out).mono ?_); rintro e w3 ⟨rfl, HX3⟩; obtain ⟨d0, d1, d2, d3, d4, d5, d6⟩ := xz_sev (n0 := wr.heap.size) (n1 := wr.heap.size + 1) (s := s) HX3.out (by simp) (by simp); clear c0 c1 c2 c3 c4 c5 c6)
              | ((with_reducible refine (xz_yput HX3.out s.a1 s.a2 s.a3 F1.out HS0.out bb HBB.out L2 HL2.out).mono ?_); rintro e w4 ⟨rfl, HX4⟩; obtain ⟨e0, e1, e2, e3, e4, e5, e6⟩ := xz_sev (n0 := wr.heap.size) (n1 := wr.heap.size + 1) (s := s) HX4.out (by simp) (by simp); clear d0 d1 d2 d3 d4 d5 d6)
              | ((with_reducible refine (p_xat HX4.out s.a1 F1.out px py f HAT.out).mono ?_); rintro e w5 ⟨rfl, HX5⟩; have HS := Lib.hid (show ((List.length L2 : Nat) : Int) < 1000 from (by have := HX5.out.info.2.1; have := HX5.out.info.2.2; have := HI9.out; omega)); have HX6 := Lib.hid (HX5.out.new (.cells #[.int .i64 px, .int .i64 py] 32)); obtain ⟨g0, g1, g2, g3, g4, g5, g6⟩ := xz_sev (n0 := wr.heap.size) (n1 := wr.heap.size + 1) (s := s) HX6.out (by simp) (by simp); clear e0 e1 e2 e3 e4 e5 e6)
              | ((with_reducible refine (p_yat HX6.out s.a1 HS.out px py f HAT.out).mono ?_); rintro e w6 ⟨rfl, HX7⟩; have HX8 := Lib.hid (HX7.out.new (.cells #[.int .i64 px, .int .i64 py] 32)); obtain ⟨h0, h1, h2, h3, h4, h5, h6⟩ := xz_sev (n0 := wr.heap.size) (n1 := wr.heap.size + 1) (s := s) HX8.out (by simp) (by simp); clear g0 g1 g2 g3 g4 g5 g6)
              | ((with_reducible refine (xz_xclosest HX8.out s.a2 s.a3 s.a1 F2.out F3.out fb db kb HBE.out).mono ?_); rintro e w7 ⟨rfl, HX9⟩; obtain ⟨k0, k1, k2, k3, k4, k5, k6⟩ := xz_sev (n0 := wr.heap.size) (n1 := wr.heap.size + 1) (s := s) HX9.out (by simp) (by simp); clear h0 h1 h2 h3 h4 h5 h6)
              | ((with_reducible refine (xz_yclosest HX9.out HS.out s.a2 s.a3 s.a1 F2.out F3.out fb db kb HBE.out).mono ?_); rintro e V ⟨rfl, HX⟩; clear k0 k1 k2 k3 k4 k5 k6))
            have HC : Hid (∀ wz, Below V.heap.size V wz → wz.cell? ⟨wr.heap.size, 0, none⟩ = some (.int .i64 s.a0) ∧ wz.cell? ⟨wr.heap.size, 1, none⟩ = some (.int .i64 s.a1) ∧ wz.cell? ⟨wr.heap.size, 2, none⟩ = some (.int .i64 s.a2) ∧ wz.cell? ⟨wr.heap.size, 3, none⟩ = some (.int .i64 s.a3) ∧ wz.cell? ⟨wr.heap.size, 4, none⟩ = some (.int .i64 s.a4) ∧ wz.cell? ⟨wr.heap.size + 1, 0, none⟩ = some (.int .i64 s.a2) ∧ wz.cell? ⟨wr.heap.size + 1, 1, none⟩ = some (.int .i64 s.a3) ∧ wz.cell? ⟨w5.heap.size, 0, none⟩ = some (.int .i64 px) ∧ wz.cell? ⟨w5.heap.size, 1, none⟩ = some (.int .i64 py) ∧ wz.cell? ⟨w6.heap.size, 0, none⟩ = some (.int .i64 px) ∧ wz.cell? ⟨w6.heap.size, 1, none⟩ = some (.int .i64 py)) := Lib.hid (fun wz hz => by
              have hh := HX.out.step hz
              obtain ⟨a0, a1, a2, a3, a4, b0, b1⟩ := xz_sev (n0 := wr.heap.size) (n1 := wr.heap.size + 1) (s := s) hh (by simp) (by simp)
              obtain ⟨p0, p1⟩ := two_of (hh.obj (p := (w5.heap.size, (.cells #[.int .i64 px, .int .i64 py] 32))) (by simp))
              obtain ⟨q0, q1⟩ := two_of (hh.obj (p := (w6.heap.size, (.cells #[.int .i64 px, .int .i64 py] 32))) (by simp))
              exact ⟨a0, a1, a2, a3, a4, b0, b1, p0, p1, q0, q1⟩)
            obtain ⟨lN, hlN⟩ : ∃ l, ids L2 (nr s.a2 s.a3 s.a4) = l := ⟨_, rfl⟩
            obtain ⟨lI, hlI⟩ : ∃ l, ids L2 (fun _ => true) = l := ⟨_, rfl⟩
            have hN9 : (lN.length : Int) ≤ 5000 := by rw [← hlN]; have := ids_le L2 (nr s.a2 s.a3 s.a4); have := HS.out; omega
            have hI9 : (lI.length : Int) ≤ 5000 := by rw [← hlI]; have := ids_le L2 (fun _ => true); have := HS.out; omega
            have HlN := Lib.hid hlN
            have HlI := Lib.hid hlI
            clear hlN hlI
            have hpe := neq32s px py
            have hS0 : Below V.heap.size V V.drew := (Below.refl _ _).drew
            refine wp_region_noPanic ?_
            refine wp_region_held_drew (S := fun w' => Below V.heap.size V w') (by kernel_rfl) hS0 (fun _ => ?_)
            refine wpAnyH_take (i := 0) (oi := ⟨some 111, Op.move (Operand.tmp 9), 4, _, _, none⟩) (v := ?vrb0) rfl (by kernel_rfl) (by kernel_rfl) (by kernel_rfl) (fun _ _ _ h => h) (Or.inl ⟨by rfl, ?hrb0⟩) hS0 ?rrb0
            case hrb0 => (intro wz hSw; go_simp <;> with_reducible rfl)
            (try simp only [Act.put, List.setIfInBounds_toArray, List.set_cons_zero, List.set_cons_succ])
            refine wpAnyH_take (i := 1) (oi := ⟨some 112, Op.unOp UnOp.not 4 (Operand.tmp 111), 4, _, _, none⟩) (v := ?vrb1) rfl (by kernel_rfl) (by kernel_rfl) (by kernel_rfl) (fun _ _ _ h => h) (Or.inl ⟨by rfl, ?hrb1⟩) hS0 ?rrb1
            case hrb1 => (intro wz hSw; go_simp <;> with_reducible rfl)
            (try simp only [Act.put, List.setIfInBounds_toArray, List.set_cons_zero, List.set_cons_succ])
            refine wpAnyH_take (i := 2) (oi := ⟨some 113, Op.move (Operand.tmp 112), 4, _, _, none⟩) (v := ?vrb2) rfl (by kernel_rfl) (by kernel_rfl) (by kernel_rfl) (fun _ _ _ h => h) (Or.inl ⟨by rfl, ?hrb2⟩) hS0 ?rrb2
            case hrb2 => (intro wz hSw; go_simp <;> with_reducible rfl)
            (try simp only [Act.put, List.setIfInBounds_toArray, List.set_cons_zero, List.set_cons_succ])
            refine wpAnyH_take (i := 3) (oi := ⟨some 114, Op.load 32 (Operand.tmp 12), 32, _, _, some (2, false)⟩) (v := ?vrb3) rfl (by kernel_rfl) (by kernel_rfl) (by kernel_rfl) (fun _ _ _ h => h) (Or.inl ⟨by rfl, ?hrb3⟩) hS0 ?rrb3
            case hrb3 => (intro wz hSw; obtain ⟨x0, x1, x2, x3, x4, y0, y1, p0, p1, q0, q1⟩ := HC.out wz hSw; go_simp <;> with_reducible rfl)
            (try simp only [Act.put, List.setIfInBounds_toArray, List.set_cons_zero, List.set_cons_succ])
            refine wpAnyH_take (i := 4) (oi := ⟨some 115, Op.load 32 (Operand.tmp 14), 32, _, _, some (2, false)⟩) (v := ?vrb4) rfl (by kernel_rfl) (by kernel_rfl) (by kernel_rfl) (fun _ _ _ h => h) (Or.inl ⟨by rfl, ?hrb4⟩) hS0 ?rrb4
            case hrb4 => (intro wz hSw; obtain ⟨x0, x1, x2, x3, x4, y0, y1, p0, p1, q0, q1⟩ := HC.out wz hSw; go_simp <;> with_reducible rfl)
            (try simp only [Act.put, List.setIfInBounds_toArray, List.set_cons_zero, List.set_cons_succ])
            refine wpAnyH_take (i := 5) (oi := ⟨some 116, Op.binOp BinOp.neq 32 (Operand.tmp 114) (Operand.tmp 115) 32, 4, _, _, some (2, false)⟩) (v := ?vrb5) rfl (by kernel_rfl) (by kernel_rfl) (by kernel_rfl) (fun _ _ _ h => h) (Or.inl ⟨by rfl, ?hrb5⟩) hS0 ?rrb5
            case hrb5 => (intro wz hSw; go_simp <;> with_reducible rfl)
            (try simp only [Act.put, List.setIfInBounds_toArray, List.set_cons_zero, List.set_cons_succ])
            refine wpAnyH_take (i := 6) (oi := ⟨some 117, Op.pick (Operand.tmp 113) (Operand.const (Value.bool true)) (Operand.tmp 116), 4, _, _, none⟩) (v := ?vrb6) rfl (by kernel_rfl) (by kernel_rfl) (by kernel_rfl) (fun _ _ _ h => h) (Or.inl ⟨by rfl, ?hrb6⟩) hS0 ?rrb6
            case hrb6 => (intro wz hSw; go_simp <;> with_reducible rfl)
            (try simp only [Act.put, List.setIfInBounds_toArray, List.set_cons_zero, List.set_cons_succ])
            refine wpAnyH_take (i := 7) (oi := ⟨some 118, Op.move (Operand.tmp 117), 4, _, _, none⟩) (v := ?vrb7) rfl (by kernel_rfl) (by kernel_rfl) (by kernel_rfl) (fun _ _ _ h => h) (Or.inl ⟨by rfl, ?hrb7⟩) hS0 ?rrb7
            case hrb7 => (intro wz hSw; go_simp <;> with_reducible rfl)
            (try simp only [Act.put, List.setIfInBounds_toArray, List.set_cons_zero, List.set_cons_succ])
            refine wpAnyH_take (i := 8) (oi := ⟨some 119, Op.move (Operand.tmp 13), 4, _, _, some (7, false)⟩) (v := ?vrb8) rfl (by kernel_rfl) (by kernel_rfl) (by kernel_rfl) (fun _ _ _ h => h) (Or.inl ⟨by rfl, ?hrb8⟩) hS0 ?rrb8
            case hrb8 => (intro wz hSw; go_simp <;> with_reducible rfl)
            (try simp only [Act.put, List.setIfInBounds_toArray, List.set_cons_zero, List.set_cons_succ])
            refine wpAnyH_take (i := 9) (oi := ⟨some 120, Op.move (Operand.tmp 15), 4, _, _, some (7, false)⟩) (v := ?vrb9) rfl (by kernel_rfl) (by kernel_rfl) (by kernel_rfl) (fun _ _ _ h => h) (Or.inl ⟨by rfl, ?hrb9⟩) hS0 ?rrb9
            case hrb9 => (intro wz hSw; go_simp <;> with_reducible rfl)
            (try simp only [Act.put, List.setIfInBounds_toArray, List.set_cons_zero, List.set_cons_succ])
            refine wpAnyH_take (i := 10) (oi := ⟨some 121, Op.binOp BinOp.neq 4 (Operand.tmp 119) (Operand.tmp 120) 4, 4, _, _, some (7, false)⟩) (v := ?vrb10) rfl (by kernel_rfl) (by kernel_rfl) (by kernel_rfl) (fun _ _ _ h => h) (Or.inl ⟨by rfl, ?hrb10⟩) hS0 ?rrb10
            case hrb10 => (intro wz hSw; go_simp <;> with_reducible rfl)
            (try simp only [Act.put, List.setIfInBounds_toArray, List.set_cons_zero, List.set_cons_succ])
            refine wpAnyH_take (i := 11) (oi := ⟨some 122, Op.pick (Operand.tmp 118) (Operand.const (Value.bool true)) (Operand.tmp 121), 4, _, _, none⟩) (v := ?vrb11) rfl (by kernel_rfl) (by kernel_rfl) (by kernel_rfl) (fun _ _ _ h => h) (Or.inl ⟨by rfl, ?hrb11⟩) hS0 ?rrb11
            case hrb11 => (intro wz hSw; go_simp <;> with_reducible rfl)
            (try simp only [Act.put, List.setIfInBounds_toArray, List.set_cons_zero, List.set_cons_succ])
            refine wpAnyH_take (i := 12) (oi := ⟨some 123, Op.move (Operand.tmp 122), 4, _, _, none⟩) (v := ?vrb12) rfl (by kernel_rfl) (by kernel_rfl) (by kernel_rfl) (fun _ _ _ h => h) (Or.inl ⟨by rfl, ?hrb12⟩) hS0 ?rrb12
            case hrb12 => (intro wz hSw; go_simp <;> with_reducible rfl)
            (try simp only [Act.put, List.setIfInBounds_toArray, List.set_cons_zero, List.set_cons_succ])
            refine wpAnyH_take (i := 13) (oi := ⟨some 124, Op.move (Operand.tmp 16), 3, _, _, some (12, false)⟩) (v := ?vrb13) rfl (by kernel_rfl) (by kernel_rfl) (by kernel_rfl) (fun _ _ _ h => h) (Or.inl ⟨by rfl, ?hrb13⟩) hS0 ?rrb13
            case hrb13 => (intro wz hSw; go_simp <;> with_reducible rfl)
            (try simp only [Act.put, List.setIfInBounds_toArray, List.set_cons_zero, List.set_cons_succ])
            refine wpAnyH_take (i := 14) (oi := ⟨some 125, Op.move (Operand.tmp 18), 3, _, _, some (12, false)⟩) (v := ?vrb14) rfl (by kernel_rfl) (by kernel_rfl) (by kernel_rfl) (fun _ _ _ h => h) (Or.inl ⟨by rfl, ?hrb14⟩) hS0 ?rrb14
            case hrb14 => (intro wz hSw; go_simp <;> with_reducible rfl)
            (try simp only [Act.put, List.setIfInBounds_toArray, List.set_cons_zero, List.set_cons_succ])
            refine wpAnyH_take (i := 15) (oi := ⟨some 126, Op.binOp BinOp.neq 3 (Operand.tmp 124) (Operand.tmp 125) 3, 4, _, _, some (12, false)⟩) (v := ?vrb15) rfl (by kernel_rfl) (by kernel_rfl) (by kernel_rfl) (fun _ _ _ h => h) (Or.inl ⟨by rfl, ?hrb15⟩) hS0 ?rrb15
            case hrb15 => (intro wz hSw; go_simp <;> with_reducible rfl)
            (try simp only [Act.put, List.setIfInBounds_toArray, List.set_cons_zero, List.set_cons_succ])
            refine wpAnyH_take (i := 16) (oi := ⟨some 127, Op.pick (Operand.tmp 123) (Operand.const (Value.bool true)) (Operand.tmp 126), 4, _, _, none⟩) (v := ?vrb16) rfl (by kernel_rfl) (by kernel_rfl) (by kernel_rfl) (fun _ _ _ h => h) (Or.inl ⟨by rfl, ?hrb16⟩) hS0 ?rrb16
            case hrb16 => (intro wz hSw; go_simp <;> with_reducible rfl)
            (try simp only [Act.put, List.setIfInBounds_toArray, List.set_cons_zero, List.set_cons_succ])
            refine wpAnyH_take (i := 17) (oi := ⟨some 128, Op.move (Operand.tmp 127), 4, _, _, none⟩) (v := ?vrb17) rfl (by kernel_rfl) (by kernel_rfl) (by kernel_rfl) (fun _ _ _ h => h) (Or.inl ⟨by rfl, ?hrb17⟩) hS0 ?rrb17
            case hrb17 => (intro wz hSw; go_simp <;> with_reducible rfl)
            (try simp only [Act.put, List.setIfInBounds_toArray, List.set_cons_zero, List.set_cons_succ])
            refine wpAnyH_take (i := 18) (oi := ⟨some 129, Op.move (Operand.tmp 17), 4, _, _, some (17, false)⟩) (v := ?vrb18) rfl (by kernel_rfl) (by kernel_rfl) (by kernel_rfl) (fun _ _ _ h => h) (Or.inl ⟨by rfl, ?hrb18⟩) hS0 ?rrb18
            case hrb18 => (intro wz hSw; go_simp <;> with_reducible rfl)
            (try simp only [Act.put, List.setIfInBounds_toArray, List.set_cons_zero, List.set_cons_succ])
            refine wpAnyH_take (i := 19) (oi := ⟨some 130, Op.move (Operand.tmp 19), 4, _, _, some (17, false)⟩) (v := ?vrb19) rfl (by kernel_rfl) (by kernel_rfl) (by kernel_rfl) (fun _ _ _ h => h) (Or.inl ⟨by rfl, ?hrb19⟩) hS0 ?rrb19
            case hrb19 => (intro wz hSw; go_simp <;> with_reducible rfl)
            (try simp only [Act.put, List.setIfInBounds_toArray, List.set_cons_zero, List.set_cons_succ])
            refine wpAnyH_take (i := 20) (oi := ⟨some 131, Op.binOp BinOp.neq 4 (Operand.tmp 129) (Operand.tmp 130) 4, 4, _, _, some (17, false)⟩) (v := ?vrb20) rfl (by kernel_rfl) (by kernel_rfl) (by kernel_rfl) (fun _ _ _ h => h) (Or.inl ⟨by rfl, ?hrb20⟩) hS0 ?rrb20
            case hrb20 => (intro wz hSw; go_simp <;> with_reducible rfl)
            (try simp only [Act.put, List.setIfInBounds_toArray, List.set_cons_zero, List.set_cons_succ])
            refine wpAnyH_take (i := 21) (oi := ⟨some 132, Op.pick (Operand.tmp 128) (Operand.const (Value.bool true)) (Operand.tmp 131), 4, _, _, none⟩) (v := ?vrb21) rfl (by kernel_rfl) (by kernel_rfl) (by kernel_rfl) (fun _ _ _ h => h) (Or.inl ⟨by rfl, ?hrb21⟩) hS0 ?rrb21
            case hrb21 => (intro wz hSw; go_simp <;> with_reducible rfl)
            (try simp only [Act.put, List.setIfInBounds_toArray, List.set_cons_zero, List.set_cons_succ])
            refine wpAnyH_take (i := 22) (oi := ⟨some 133, Op.move (Operand.tmp 132), 4, _, _, none⟩) (v := ?vrb22) rfl (by kernel_rfl) (by kernel_rfl) (by kernel_rfl) (fun _ _ _ h => h) (Or.inl ⟨by rfl, ?hrb22⟩) hS0 ?rrb22
            case hrb22 => (intro wz hSw; go_simp <;> with_reducible rfl)
            (try simp only [Act.put, List.setIfInBounds_toArray, List.set_cons_zero, List.set_cons_succ])
            refine wpAnyH_take (i := 23) (oi := ⟨some 134, Op.move (Operand.tmp 4), 24, _, _, some (22, false)⟩) (v := ?vrb23) rfl (by kernel_rfl) (by kernel_rfl) (by kernel_rfl) (fun _ _ _ h => h) (Or.inl ⟨by rfl, ?hrb23⟩) hS0 ?rrb23
            case hrb23 => (intro wz hSw; go_simp <;> with_reducible rfl)
            (try simp only [Act.put, List.setIfInBounds_toArray, List.set_cons_zero, List.set_cons_succ])
            refine wpAnyH_take (i := 24) (oi := ⟨some 135, Op.load 32 (Operand.tmp 8), 32, _, _, some (22, false)⟩) (v := ?vrb24) rfl (by kernel_rfl) (by kernel_rfl) (by kernel_rfl) (fun _ _ _ h => h) (Or.inl ⟨by rfl, ?hrb24⟩) hS0 ?rrb24
            case hrb24 => (intro wz hSw; obtain ⟨x0, x1, x2, x3, x4, y0, y1, p0, p1, q0, q1⟩ := HC.out wz hSw; go_simp <;> with_reducible rfl)
            (try simp only [Act.put, List.setIfInBounds_toArray, List.set_cons_zero, List.set_cons_succ])
            refine wpAnyH_take (i := 25) (oi := ⟨some 136, Op.indexAddr 30 (Operand.tmp 7) (Operand.const (Value.int IntKind.i64 4)), 0, _, _, some (22, false)⟩) (v := ?vrb25) rfl (by kernel_rfl) (by kernel_rfl) (by kernel_rfl) (fun _ _ _ h => h) (Or.inl ⟨by rfl, ?hrb25⟩) hS0 ?rrb25
            case hrb25 => (intro wz hSw; go_simp <;> with_reducible rfl)
            (try simp only [Act.put, List.setIfInBounds_toArray, List.set_cons_zero, List.set_cons_succ])
            refine wpAnyH_take (i := 26) (oi := ⟨some 137, Op.load 3 (Operand.tmp 136), 3, _, _, some (22, false)⟩) (v := ?vrb26) rfl (by kernel_rfl) (by kernel_rfl) (by kernel_rfl) (fun _ _ _ h => h) (Or.inl ⟨by rfl, ?hrb26⟩) hS0 ?rrb26
            case hrb26 => (intro wz hSw; obtain ⟨x0, x1, x2, x3, x4, y0, y1, p0, p1, q0, q1⟩ := HC.out wz hSw; go_simp <;> with_reducible rfl)
            (try simp only [Act.put, List.setIfInBounds_toArray, List.set_cons_zero, List.set_cons_succ])
            refine wpAnyH_take (i := 28) (oi := ⟨some 139, Op.move (Operand.tmp 5), 26, _, _, some (22, false)⟩) (v := ?vrb28) rfl (by kernel_rfl) (by kernel_rfl) (by kernel_rfl) (fun _ _ _ h => h) (Or.inl ⟨by rfl, ?hrb28⟩) hS0 ?rrb28
            case hrb28 => (intro wz hSw; go_simp <;> with_reducible rfl)
            (try simp only [Act.put, List.setIfInBounds_toArray, List.set_cons_zero, List.set_cons_succ])
            refine wpAnyH_take (i := 29) (oi := ⟨some 140, Op.load 32 (Operand.tmp 8), 32, _, _, some (22, false)⟩) (v := ?vrb29) rfl (by kernel_rfl) (by kernel_rfl) (by kernel_rfl) (fun _ _ _ h => h) (Or.inl ⟨by rfl, ?hrb29⟩) hS0 ?rrb29
            case hrb29 => (intro wz hSw; obtain ⟨x0, x1, x2, x3, x4, y0, y1, p0, p1, q0, q1⟩ := HC.out wz hSw; go_simp <;> with_reducible rfl)
            (try simp only [Act.put, List.setIfInBounds_toArray, List.set_cons_zero, List.set_cons_succ])
            refine wpAnyH_take (i := 30) (oi := ⟨some 141, Op.indexAddr 30 (Operand.tmp 7) (Operand.const (Value.int IntKind.i64 4)), 0, _, _, some (22, false)⟩) (v := ?vrb30) rfl (by kernel_rfl) (by kernel_rfl) (by kernel_rfl) (fun _ _ _ h => h) (Or.inl ⟨by rfl, ?hrb30⟩) hS0 ?rrb30
            case hrb30 => (intro wz hSw; go_simp <;> with_reducible rfl)
            (try simp only [Act.put, List.setIfInBounds_toArray, List.set_cons_zero, List.set_cons_succ])
            refine wpAnyH_take (i := 31) (oi := ⟨some 142, Op.load 3 (Operand.tmp 141), 3, _, _, some (22, false)⟩) (v := ?vrb31) rfl (by kernel_rfl) (by kernel_rfl) (by kernel_rfl) (fun _ _ _ h => h) (Or.inl ⟨by rfl, ?hrb31⟩) hS0 ?rrb31
            case hrb31 => (intro wz hSw; obtain ⟨x0, x1, x2, x3, x4, y0, y1, p0, p1, q0, q1⟩ := HC.out wz hSw; go_simp <;> with_reducible rfl)
            (try simp only [Act.put, List.setIfInBounds_toArray, List.set_cons_zero, List.set_cons_succ])
            refine wpAnyH_ready (rs := [27]) (by kernel_rfl) (by simp) ?_
            refine AllReadyH.cons (o := ⟨some 138, Op.call { callee := Callee.value (Operand.func 17), args := #[Operand.tmp 134, Operand.tmp 135, Operand.tmp 137], argTypes := #[24, 32, 3] }, 40, _, _, some (22, false)⟩) rfl (fun K hK => ?_) AllReadyH.nil
            go_simp
            (with_reducible refine (xz_xnear (HX.out.step hS0) s.a2 s.a3 s.a4 F2.out F3.out F4.out lN HlN.out).mono ?_); rintro e v1 ⟨A1, c1, rfl, HR1, _, HB1⟩; have hS1 := hS0.trans (HB1.out.mono hS0.size)
            refine hK.out _ _ hS1 (fun _ => ?_)
            clear hK K
            (try simp only [Act.put, List.setIfInBounds_toArray, List.set_cons_zero, List.set_cons_succ])
            refine wpAnyH_ready (rs := [32]) (by kernel_rfl) (by simp) ?_
            refine AllReadyH.cons (o := ⟨some 143, Op.call { callee := Callee.value (Operand.func 18), args := #[Operand.tmp 139, Operand.tmp 140, Operand.tmp 142], argTypes := #[26, 32, 3] }, 40, _, _, some (22, false)⟩) rfl (fun K hK => ?_) AllReadyH.nil
            go_simp
            (with_reducible refine (xz_ynear (HX.out.step hS1) HS.out s.a2 s.a3 s.a4 F2.out F3.out F4.out lN HlN.out).mono ?_); rintro e v2 ⟨A2, c2, rfl, HR2, _, HB2⟩; have hS2 := hS1.trans (HB2.out.mono hS1.size)
            refine hK.out _ _ hS2 (fun _ => ?_)
            clear hK K
            (try simp only [Act.put, List.setIfInBounds_toArray, List.set_cons_zero, List.set_cons_succ])
            refine wpAnyH_ready (rs := [33]) (by kernel_rfl) (by simp) ?_
            refine AllReadyH.cons (o := ⟨some 144, Op.call { callee := Callee.value (Operand.func 16), args := #[Operand.tmp 138, Operand.tmp 143], argTypes := #[40, 40] }, 4, _, _, some (22, false)⟩) rfl (fun K hK => ?_) AllReadyH.nil
            go_simp
            (with_reducible refine (p_same (HR1.out.below HB2.out (Nat.le_refl _)) HR2.out hN9).mono ?_); rintro e v3 ⟨rfl, hb3⟩; have hS3 := hS2.trans (hb3.mono hS2.size)
            refine hK.out _ _ hS3 (fun _ => ?_)
            clear hK K
            (try simp only [Act.put, List.setIfInBounds_toArray, List.set_cons_zero, List.set_cons_succ])
            refine wpAnyH_take (i := 34) (oi := ⟨some 145, Op.unOp UnOp.not 4 (Operand.tmp 144), 4, _, _, some (22, false)⟩) (v := ?vrb34) rfl (by kernel_rfl) (by kernel_rfl) (by kernel_rfl) (fun _ _ _ h => h) (Or.inl ⟨by rfl, ?hrb34⟩) hS3 ?rrb34
            case hrb34 => (intro wz hSw; go_simp <;> with_reducible rfl)
            (try simp only [Act.put, List.setIfInBounds_toArray, List.set_cons_zero, List.set_cons_succ])
            refine wpAnyH_take (i := 35) (oi := ⟨some 146, Op.pick (Operand.tmp 133) (Operand.const (Value.bool true)) (Operand.tmp 145), 4, _, _, none⟩) (v := ?vrb35) rfl (by kernel_rfl) (by kernel_rfl) (by kernel_rfl) (fun _ _ _ h => h) (Or.inl ⟨by rfl, ?hrb35⟩) hS3 ?rrb35
            case hrb35 => (intro wz hSw; go_simp <;> with_reducible rfl)
            (try simp only [Act.put, List.setIfInBounds_toArray, List.set_cons_zero, List.set_cons_succ])
            refine wpAnyH_take (i := 36) (oi := ⟨some 147, Op.move (Operand.tmp 146), 4, _, _, none⟩) (v := ?vrb36) rfl (by kernel_rfl) (by kernel_rfl) (by kernel_rfl) (fun _ _ _ h => h) (Or.inl ⟨by rfl, ?hrb36⟩) hS3 ?rrb36
            case hrb36 => (intro wz hSw; go_simp <;> with_reducible rfl)
            (try simp only [Act.put, List.setIfInBounds_toArray, List.set_cons_zero, List.set_cons_succ])
            refine wpAnyH_take (i := 37) (oi := ⟨some 148, Op.move (Operand.tmp 4), 24, _, _, some (36, false)⟩) (v := ?vrb37) rfl (by kernel_rfl) (by kernel_rfl) (by kernel_rfl) (fun _ _ _ h => h) (Or.inl ⟨by rfl, ?hrb37⟩) hS3 ?rrb37
            case hrb37 => (intro wz hSw; go_simp <;> with_reducible rfl)
            (try simp only [Act.put, List.setIfInBounds_toArray, List.set_cons_zero, List.set_cons_succ])
            refine wpAnyH_take (i := 39) (oi := ⟨some 150, Op.move (Operand.tmp 5), 26, _, _, some (36, false)⟩) (v := ?vrb39) rfl (by kernel_rfl) (by kernel_rfl) (by kernel_rfl) (fun _ _ _ h => h) (Or.inl ⟨by rfl, ?hrb39⟩) hS3 ?rrb39
            case hrb39 => (intro wz hSw; go_simp <;> with_reducible rfl)
            (try simp only [Act.put, List.setIfInBounds_toArray, List.set_cons_zero, List.set_cons_succ])
            refine wpAnyH_ready (rs := [38]) (by kernel_rfl) (by simp) ?_
            refine AllReadyH.cons (o := ⟨some 149, Op.call { callee := Callee.value (Operand.func 19), args := #[Operand.tmp 148], argTypes := #[24] }, 40, _, _, some (36, false)⟩) rfl (fun K hK => ?_) AllReadyH.nil
            go_simp
            (with_reducible refine (xz_xids (HX.out.step hS3) lI HlI.out).mono ?_); rintro e v4 ⟨A4, c4, rfl, HR4, _, HB4⟩; have hS4 := hS3.trans (HB4.out.mono hS3.size)
            refine hK.out _ _ hS4 (fun _ => ?_)
            clear hK K
            (try simp only [Act.put, List.setIfInBounds_toArray, List.set_cons_zero, List.set_cons_succ])
            refine wpAnyH_ready (rs := [40]) (by kernel_rfl) (by simp) ?_
            refine AllReadyH.cons (o := ⟨some 151, Op.call { callee := Callee.value (Operand.func 20), args := #[Operand.tmp 150], argTypes := #[26] }, 40, _, _, some (36, false)⟩) rfl (fun K hK => ?_) AllReadyH.nil
            go_simp
            (with_reducible refine (xz_yids (HX.out.step hS4) HS.out lI HlI.out).mono ?_); rintro e v5 ⟨A5, c5, rfl, HR5, _, HB5⟩; have hS5 := hS4.trans (HB5.out.mono hS4.size)
            refine hK.out _ _ hS5 (fun _ => ?_)
            clear hK K
            (try simp only [Act.put, List.setIfInBounds_toArray, List.set_cons_zero, List.set_cons_succ])
            refine wpAnyH_ready (rs := [41]) (by kernel_rfl) (by simp) ?_
            refine AllReadyH.cons (o := ⟨some 152, Op.call { callee := Callee.value (Operand.func 16), args := #[Operand.tmp 149, Operand.tmp 151], argTypes := #[40, 40] }, 4, _, _, some (36, false)⟩) rfl (fun K hK => ?_) AllReadyH.nil
            go_simp
            (with_reducible refine (p_same (HR4.out.below HB5.out (Nat.le_refl _)) HR5.out hI9).mono ?_); rintro e v6 ⟨rfl, hb6⟩; have hS6 := hS5.trans (hb6.mono hS5.size)
            refine hK.out _ _ hS6 (fun _ => ?_)
            clear hK K
            (try simp only [Act.put, List.setIfInBounds_toArray, List.set_cons_zero, List.set_cons_succ])
            refine wpAnyH_take (i := 42) (oi := ⟨some 153, Op.unOp UnOp.not 4 (Operand.tmp 152), 4, _, _, some (36, false)⟩) (v := ?vrb42) rfl (by kernel_rfl) (by kernel_rfl) (by kernel_rfl) (fun _ _ _ h => h) (Or.inl ⟨by rfl, ?hrb42⟩) hS6 ?rrb42
            case hrb42 => (intro wz hSw; go_simp <;> with_reducible rfl)
            (try simp only [Act.put, List.setIfInBounds_toArray, List.set_cons_zero, List.set_cons_succ])
            refine wpAnyH_take (i := 43) (oi := ⟨some 154, Op.pick (Operand.tmp 147) (Operand.const (Value.bool true)) (Operand.tmp 153), 4, _, _, none⟩) (v := ?vrb43) rfl (by kernel_rfl) (by kernel_rfl) (by kernel_rfl) (fun _ _ _ h => h) (Or.inl ⟨by rfl, ?hrb43⟩) hS6 ?rrb43
            case hrb43 => (intro wz hSw; go_simp <;> with_reducible rfl)
            (try simp only [Act.put, List.setIfInBounds_toArray, List.set_cons_zero, List.set_cons_succ])
            refine wpAnyH_done (by kernel_rfl) ?_ _
            refine NoPanic.normal ?_
            have HV := Lib.hid hS6
            generalize hv9 : v6 = V2 at HV ⊢
            clear hv9
            have HXE := Lib.hid (HX.out.step HV.out)
            go_wp2
            go_roundg (l0.length - (i + 1))
            · exact ⟨i + 1, L2, hi1, rfl, by go_num, Lib.hid ((HXE.out.less).more (by omega) (by have := HI9.out; omega))⟩
            · omega
          · have z1 : (q == 1) = false := by simpa using h1
            clear h1
            by_cases h2 : q = 2
            · have z2 : (q == 2) = true := by simpa using h2
              clear h2
              obtain ⟨bb, hbb⟩ : ∃ b, hasId L s.a1 = b := ⟨_, rfl⟩
              have HBB := Lib.hid hbb
              obtain ⟨L2, hL2⟩ : ∃ l, del L s.a1 = l := ⟨_, rfl⟩
              have HL2 := Lib.hid hL2
              have hbe : (bb == bb) = true := by simp
              clear hbb hL2
              obtain ⟨px, py, f, hat⟩ := atf_ex L2 s.a1
              have HAT := Lib.hid hat
              obtain ⟨fb, db, kb, hbest⟩ := best_ex L2 s.a2 s.a3 s.a1
              have HBE := Lib.hid hbest
              have hff : (f != f) = false := by simp
              have hfb : (fb != fb) = false := by simp
              have hkk : (kb != kb) = false := by simp
              clear hat hbest
              clear HX
              go_wp2_with (first
                | ((with_reducible refine (xz_xdrop HXb.out s.a1 F1.out bb HBB.out L2 HL2.out).mono ?_); rintro e w3 ⟨rfl, HX3⟩; obtain ⟨d0, d1, d2, d3, d4, d5, d6⟩ := xz_sev (n0 := wr.heap.size) (n1 := wr.heap.size + 1) (s := s) HX3.out (by simp) (by simp); clear c0 c1 c2 c3 c4 c5 c6)
                | ((with_reducible refine (xz_ydrop HX3.out s.a1 HS0.out bb HBB.out L2 HL2.out).mono ?_); rintro e w4 ⟨rfl, HX4⟩; obtain ⟨e0, e1, e2, e3, e4, e5, e6⟩ := xz_sev (n0 := wr.heap.size) (n1 := wr.heap.size + 1) (s := s) HX4.out (by simp) (by simp); clear d0 d1 d2 d3 d4 d5 d6)
                | ((with_reducible refine (p_xat HX4.out s.a1 F1.out px py f HAT.out).mono ?_); rintro e w5 ⟨rfl, HX5⟩; have HS := Lib.hid (show ((List.length L2 : Nat) : Int) < 1000 from (by have := HX5.out.info.2.1; have := HX5.out.info.2.2; have := HI9.out; omega)); have HX6 := Lib.hid (HX5.out.new (.cells #[.int .i64 px, .int .i64 py] 32)); obtain ⟨g0, g1, g2, g3, g4, g5, g6⟩ := xz_sev (n0 := wr.heap.size) (n1 := wr.heap.size + 1) (s := s) HX6.out (by simp) (by simp); clear e0 e1 e2 e3 e4 e5 e6)
                | ((with_reducible refine (p_yat HX6.out s.a1 HS.out px py f HAT.out).mono ?_); rintro e w6 ⟨rfl, HX7⟩; have HX8 := Lib.hid (HX7.out.new (.cells #[.int .i64 px, .int .i64 py] 32)); obtain ⟨h0, h1, h2, h3, h4, h5, h6⟩ := xz_sev (n0 := wr.heap.size) (n1 := wr.heap.size + 1) (s := s) HX8.out (by simp) (by simp); clear g0 g1 g2 g3 g4 g5 g6)
                | ((with_reducible refine (xz_xclosest HX8.out s.a2 s.a3 s.a1 F2.out F3.out fb db kb HBE.out).mono ?_); rintro e w7 ⟨rfl, HX9⟩; obtain ⟨k0, k1, k2, k3, k4, k5, k6⟩ := xz_sev (n0 := wr.heap.size) (n1 := wr.heap.size + 1) (s := s) HX9.out (by simp) (by simp); clear h0 h1 h2 h3 h4 h5 h6)
                | ((with_reducible refine (xz_yclosest HX9.out HS.out s.a2 s.a3 s.a1 F2.out F3.out fb db kb HBE.out).mono ?_); rintro e V ⟨rfl, HX⟩; clear k0 k1 k2 k3 k4 k5 k6))
              have HC : Hid (∀ wz, Below V.heap.size V wz → wz.cell? ⟨wr.heap.size, 0, none⟩ = some (.int .i64 s.a0) ∧ wz.cell? ⟨wr.heap.size, 1, none⟩ = some (.int .i64 s.a1) ∧ wz.cell? ⟨wr.heap.size, 2, none⟩ = some (.int .i64 s.a2) ∧ wz.cell? ⟨wr.heap.size, 3, none⟩ = some (.int .i64 s.a3) ∧ wz.cell? ⟨wr.heap.size, 4, none⟩ = some (.int .i64 s.a4) ∧ wz.cell? ⟨wr.heap.size + 1, 0, none⟩ = some (.int .i64 s.a2) ∧ wz.cell? ⟨wr.heap.size + 1, 1, none⟩ = some (.int .i64 s.a3) ∧ wz.cell? ⟨w5.heap.size, 0, none⟩ = some (.int .i64 px) ∧ wz.cell? ⟨w5.heap.size, 1, none⟩ = some (.int .i64 py) ∧ wz.cell? ⟨w6.heap.size, 0, none⟩ = some (.int .i64 px) ∧ wz.cell? ⟨w6.heap.size, 1, none⟩ = some (.int .i64 py)) := Lib.hid (fun wz hz => by
                have hh := HX.out.step hz
                obtain ⟨a0, a1, a2, a3, a4, b0, b1⟩ := xz_sev (n0 := wr.heap.size) (n1 := wr.heap.size + 1) (s := s) hh (by simp) (by simp)
                obtain ⟨p0, p1⟩ := two_of (hh.obj (p := (w5.heap.size, (.cells #[.int .i64 px, .int .i64 py] 32))) (by simp))
                obtain ⟨q0, q1⟩ := two_of (hh.obj (p := (w6.heap.size, (.cells #[.int .i64 px, .int .i64 py] 32))) (by simp))
                exact ⟨a0, a1, a2, a3, a4, b0, b1, p0, p1, q0, q1⟩)
              obtain ⟨lN, hlN⟩ : ∃ l, ids L2 (nr s.a2 s.a3 s.a4) = l := ⟨_, rfl⟩
              obtain ⟨lI, hlI⟩ : ∃ l, ids L2 (fun _ => true) = l := ⟨_, rfl⟩
              have hN9 : (lN.length : Int) ≤ 5000 := by rw [← hlN]; have := ids_le L2 (nr s.a2 s.a3 s.a4); have := HS.out; omega
              have hI9 : (lI.length : Int) ≤ 5000 := by rw [← hlI]; have := ids_le L2 (fun _ => true); have := HS.out; omega
              have HlN := Lib.hid hlN
              have HlI := Lib.hid hlI
              clear hlN hlI
              have hpe := neq32s px py
              have hS0 : Below V.heap.size V V.drew := (Below.refl _ _).drew
              refine wp_region_noPanic ?_
              refine wp_region_held_drew (S := fun w' => Below V.heap.size V w') (by kernel_rfl) hS0 (fun _ => ?_)
              refine wpAnyH_take (i := 0) (oi := ⟨some 111, Op.move (Operand.tmp 9), 4, _, _, none⟩) (v := ?vrc0) rfl (by kernel_rfl) (by kernel_rfl) (by kernel_rfl) (fun _ _ _ h => h) (Or.inl ⟨by rfl, ?hrc0⟩) hS0 ?rrc0
              case hrc0 => (intro wz hSw; go_simp <;> with_reducible rfl)
              (try simp only [Act.put, List.setIfInBounds_toArray, List.set_cons_zero, List.set_cons_succ])
              refine wpAnyH_take (i := 1) (oi := ⟨some 112, Op.unOp UnOp.not 4 (Operand.tmp 111), 4, _, _, none⟩) (v := ?vrc1) rfl (by kernel_rfl) (by kernel_rfl) (by kernel_rfl) (fun _ _ _ h => h) (Or.inl ⟨by rfl, ?hrc1⟩) hS0 ?rrc1
              case hrc1 => (intro wz hSw; go_simp <;> with_reducible rfl)
              (try simp only [Act.put, List.setIfInBounds_toArray, List.set_cons_zero, List.set_cons_succ])
              refine wpAnyH_take (i := 2) (oi := ⟨some 113, Op.move (Operand.tmp 112), 4, _, _, none⟩) (v := ?vrc2) rfl (by kernel_rfl) (by kernel_rfl) (by kernel_rfl) (fun _ _ _ h => h) (Or.inl ⟨by rfl, ?hrc2⟩) hS0 ?rrc2
              case hrc2 => (intro wz hSw; go_simp <;> with_reducible rfl)
              (try simp only [Act.put, List.setIfInBounds_toArray, List.set_cons_zero, List.set_cons_succ])
              refine wpAnyH_take (i := 3) (oi := ⟨some 114, Op.load 32 (Operand.tmp 12), 32, _, _, some (2, false)⟩) (v := ?vrc3) rfl (by kernel_rfl) (by kernel_rfl) (by kernel_rfl) (fun _ _ _ h => h) (Or.inl ⟨by rfl, ?hrc3⟩) hS0 ?rrc3
              case hrc3 => (intro wz hSw; obtain ⟨x0, x1, x2, x3, x4, y0, y1, p0, p1, q0, q1⟩ := HC.out wz hSw; go_simp <;> with_reducible rfl)
              (try simp only [Act.put, List.setIfInBounds_toArray, List.set_cons_zero, List.set_cons_succ])
              refine wpAnyH_take (i := 4) (oi := ⟨some 115, Op.load 32 (Operand.tmp 14), 32, _, _, some (2, false)⟩) (v := ?vrc4) rfl (by kernel_rfl) (by kernel_rfl) (by kernel_rfl) (fun _ _ _ h => h) (Or.inl ⟨by rfl, ?hrc4⟩) hS0 ?rrc4
              case hrc4 => (intro wz hSw; obtain ⟨x0, x1, x2, x3, x4, y0, y1, p0, p1, q0, q1⟩ := HC.out wz hSw; go_simp <;> with_reducible rfl)
              (try simp only [Act.put, List.setIfInBounds_toArray, List.set_cons_zero, List.set_cons_succ])
              refine wpAnyH_take (i := 5) (oi := ⟨some 116, Op.binOp BinOp.neq 32 (Operand.tmp 114) (Operand.tmp 115) 32, 4, _, _, some (2, false)⟩) (v := ?vrc5) rfl (by kernel_rfl) (by kernel_rfl) (by kernel_rfl) (fun _ _ _ h => h) (Or.inl ⟨by rfl, ?hrc5⟩) hS0 ?rrc5
              case hrc5 => (intro wz hSw; go_simp <;> with_reducible rfl)
              (try simp only [Act.put, List.setIfInBounds_toArray, List.set_cons_zero, List.set_cons_succ])
              refine wpAnyH_take (i := 6) (oi := ⟨some 117, Op.pick (Operand.tmp 113) (Operand.const (Value.bool true)) (Operand.tmp 116), 4, _, _, none⟩) (v := ?vrc6) rfl (by kernel_rfl) (by kernel_rfl) (by kernel_rfl) (fun _ _ _ h => h) (Or.inl ⟨by rfl, ?hrc6⟩) hS0 ?rrc6
              case hrc6 => (intro wz hSw; go_simp <;> with_reducible rfl)
              (try simp only [Act.put, List.setIfInBounds_toArray, List.set_cons_zero, List.set_cons_succ])
              refine wpAnyH_take (i := 7) (oi := ⟨some 118, Op.move (Operand.tmp 117), 4, _, _, none⟩) (v := ?vrc7) rfl (by kernel_rfl) (by kernel_rfl) (by kernel_rfl) (fun _ _ _ h => h) (Or.inl ⟨by rfl, ?hrc7⟩) hS0 ?rrc7
              case hrc7 => (intro wz hSw; go_simp <;> with_reducible rfl)
              (try simp only [Act.put, List.setIfInBounds_toArray, List.set_cons_zero, List.set_cons_succ])
              refine wpAnyH_take (i := 8) (oi := ⟨some 119, Op.move (Operand.tmp 13), 4, _, _, some (7, false)⟩) (v := ?vrc8) rfl (by kernel_rfl) (by kernel_rfl) (by kernel_rfl) (fun _ _ _ h => h) (Or.inl ⟨by rfl, ?hrc8⟩) hS0 ?rrc8
              case hrc8 => (intro wz hSw; go_simp <;> with_reducible rfl)
              (try simp only [Act.put, List.setIfInBounds_toArray, List.set_cons_zero, List.set_cons_succ])
              refine wpAnyH_take (i := 9) (oi := ⟨some 120, Op.move (Operand.tmp 15), 4, _, _, some (7, false)⟩) (v := ?vrc9) rfl (by kernel_rfl) (by kernel_rfl) (by kernel_rfl) (fun _ _ _ h => h) (Or.inl ⟨by rfl, ?hrc9⟩) hS0 ?rrc9
              case hrc9 => (intro wz hSw; go_simp <;> with_reducible rfl)
              (try simp only [Act.put, List.setIfInBounds_toArray, List.set_cons_zero, List.set_cons_succ])
              refine wpAnyH_take (i := 10) (oi := ⟨some 121, Op.binOp BinOp.neq 4 (Operand.tmp 119) (Operand.tmp 120) 4, 4, _, _, some (7, false)⟩) (v := ?vrc10) rfl (by kernel_rfl) (by kernel_rfl) (by kernel_rfl) (fun _ _ _ h => h) (Or.inl ⟨by rfl, ?hrc10⟩) hS0 ?rrc10
              case hrc10 => (intro wz hSw; go_simp <;> with_reducible rfl)
              (try simp only [Act.put, List.setIfInBounds_toArray, List.set_cons_zero, List.set_cons_succ])
              refine wpAnyH_take (i := 11) (oi := ⟨some 122, Op.pick (Operand.tmp 118) (Operand.const (Value.bool true)) (Operand.tmp 121), 4, _, _, none⟩) (v := ?vrc11) rfl (by kernel_rfl) (by kernel_rfl) (by kernel_rfl) (fun _ _ _ h => h) (Or.inl ⟨by rfl, ?hrc11⟩) hS0 ?rrc11
              case hrc11 => (intro wz hSw; go_simp <;> with_reducible rfl)
              (try simp only [Act.put, List.setIfInBounds_toArray, List.set_cons_zero, List.set_cons_succ])
              refine wpAnyH_take (i := 12) (oi := ⟨some 123, Op.move (Operand.tmp 122), 4, _, _, none⟩) (v := ?vrc12) rfl (by kernel_rfl) (by kernel_rfl) (by kernel_rfl) (fun _ _ _ h => h) (Or.inl ⟨by rfl, ?hrc12⟩) hS0 ?rrc12
              case hrc12 => (intro wz hSw; go_simp <;> with_reducible rfl)
              (try simp only [Act.put, List.setIfInBounds_toArray, List.set_cons_zero, List.set_cons_succ])
              refine wpAnyH_take (i := 13) (oi := ⟨some 124, Op.move (Operand.tmp 16), 3, _, _, some (12, false)⟩) (v := ?vrc13) rfl (by kernel_rfl) (by kernel_rfl) (by kernel_rfl) (fun _ _ _ h => h) (Or.inl ⟨by rfl, ?hrc13⟩) hS0 ?rrc13
              case hrc13 => (intro wz hSw; go_simp <;> with_reducible rfl)
              (try simp only [Act.put, List.setIfInBounds_toArray, List.set_cons_zero, List.set_cons_succ])
              refine wpAnyH_take (i := 14) (oi := ⟨some 125, Op.move (Operand.tmp 18), 3, _, _, some (12, false)⟩) (v := ?vrc14) rfl (by kernel_rfl) (by kernel_rfl) (by kernel_rfl) (fun _ _ _ h => h) (Or.inl ⟨by rfl, ?hrc14⟩) hS0 ?rrc14
              case hrc14 => (intro wz hSw; go_simp <;> with_reducible rfl)
              (try simp only [Act.put, List.setIfInBounds_toArray, List.set_cons_zero, List.set_cons_succ])
              refine wpAnyH_take (i := 15) (oi := ⟨some 126, Op.binOp BinOp.neq 3 (Operand.tmp 124) (Operand.tmp 125) 3, 4, _, _, some (12, false)⟩) (v := ?vrc15) rfl (by kernel_rfl) (by kernel_rfl) (by kernel_rfl) (fun _ _ _ h => h) (Or.inl ⟨by rfl, ?hrc15⟩) hS0 ?rrc15
              case hrc15 => (intro wz hSw; go_simp <;> with_reducible rfl)
              (try simp only [Act.put, List.setIfInBounds_toArray, List.set_cons_zero, List.set_cons_succ])
              refine wpAnyH_take (i := 16) (oi := ⟨some 127, Op.pick (Operand.tmp 123) (Operand.const (Value.bool true)) (Operand.tmp 126), 4, _, _, none⟩) (v := ?vrc16) rfl (by kernel_rfl) (by kernel_rfl) (by kernel_rfl) (fun _ _ _ h => h) (Or.inl ⟨by rfl, ?hrc16⟩) hS0 ?rrc16
              case hrc16 => (intro wz hSw; go_simp <;> with_reducible rfl)
              (try simp only [Act.put, List.setIfInBounds_toArray, List.set_cons_zero, List.set_cons_succ])
              refine wpAnyH_take (i := 17) (oi := ⟨some 128, Op.move (Operand.tmp 127), 4, _, _, none⟩) (v := ?vrc17) rfl (by kernel_rfl) (by kernel_rfl) (by kernel_rfl) (fun _ _ _ h => h) (Or.inl ⟨by rfl, ?hrc17⟩) hS0 ?rrc17
              case hrc17 => (intro wz hSw; go_simp <;> with_reducible rfl)
              (try simp only [Act.put, List.setIfInBounds_toArray, List.set_cons_zero, List.set_cons_succ])
              refine wpAnyH_take (i := 18) (oi := ⟨some 129, Op.move (Operand.tmp 17), 4, _, _, some (17, false)⟩) (v := ?vrc18) rfl (by kernel_rfl) (by kernel_rfl) (by kernel_rfl) (fun _ _ _ h => h) (Or.inl ⟨by rfl, ?hrc18⟩) hS0 ?rrc18
              case hrc18 => (intro wz hSw; go_simp <;> with_reducible rfl)
              (try simp only [Act.put, List.setIfInBounds_toArray, List.set_cons_zero, List.set_cons_succ])
              refine wpAnyH_take (i := 19) (oi := ⟨some 130, Op.move (Operand.tmp 19), 4, _, _, some (17, false)⟩) (v := ?vrc19) rfl (by kernel_rfl) (by kernel_rfl) (by kernel_rfl) (fun _ _ _ h => h) (Or.inl ⟨by rfl, ?hrc19⟩) hS0 ?rrc19
              case hrc19 => (intro wz hSw; go_simp <;> with_reducible rfl)
              (try simp only [Act.put, List.setIfInBounds_toArray, List.set_cons_zero, List.set_cons_succ])
              refine wpAnyH_take (i := 20) (oi := ⟨some 131, Op.binOp BinOp.neq 4 (Operand.tmp 129) (Operand.tmp 130) 4, 4, _, _, some (17, false)⟩) (v := ?vrc20) rfl (by kernel_rfl) (by kernel_rfl) (by kernel_rfl) (fun _ _ _ h => h) (Or.inl ⟨by rfl, ?hrc20⟩) hS0 ?rrc20
              case hrc20 => (intro wz hSw; go_simp <;> with_reducible rfl)
              (try simp only [Act.put, List.setIfInBounds_toArray, List.set_cons_zero, List.set_cons_succ])
              refine wpAnyH_take (i := 21) (oi := ⟨some 132, Op.pick (Operand.tmp 128) (Operand.const (Value.bool true)) (Operand.tmp 131), 4, _, _, none⟩) (v := ?vrc21) rfl (by kernel_rfl) (by kernel_rfl) (by kernel_rfl) (fun _ _ _ h => h) (Or.inl ⟨by rfl, ?hrc21⟩) hS0 ?rrc21
              case hrc21 => (intro wz hSw; go_simp <;> with_reducible rfl)
              (try simp only [Act.put, List.setIfInBounds_toArray, List.set_cons_zero, List.set_cons_succ])
              refine wpAnyH_take (i := 22) (oi := ⟨some 133, Op.move (Operand.tmp 132), 4, _, _, none⟩) (v := ?vrc22) rfl (by kernel_rfl) (by kernel_rfl) (by kernel_rfl) (fun _ _ _ h => h) (Or.inl ⟨by rfl, ?hrc22⟩) hS0 ?rrc22
              case hrc22 => (intro wz hSw; go_simp <;> with_reducible rfl)
              (try simp only [Act.put, List.setIfInBounds_toArray, List.set_cons_zero, List.set_cons_succ])
              refine wpAnyH_take (i := 23) (oi := ⟨some 134, Op.move (Operand.tmp 4), 24, _, _, some (22, false)⟩) (v := ?vrc23) rfl (by kernel_rfl) (by kernel_rfl) (by kernel_rfl) (fun _ _ _ h => h) (Or.inl ⟨by rfl, ?hrc23⟩) hS0 ?rrc23
              case hrc23 => (intro wz hSw; go_simp <;> with_reducible rfl)
              (try simp only [Act.put, List.setIfInBounds_toArray, List.set_cons_zero, List.set_cons_succ])
              refine wpAnyH_take (i := 24) (oi := ⟨some 135, Op.load 32 (Operand.tmp 8), 32, _, _, some (22, false)⟩) (v := ?vrc24) rfl (by kernel_rfl) (by kernel_rfl) (by kernel_rfl) (fun _ _ _ h => h) (Or.inl ⟨by rfl, ?hrc24⟩) hS0 ?rrc24
              case hrc24 => (intro wz hSw; obtain ⟨x0, x1, x2, x3, x4, y0, y1, p0, p1, q0, q1⟩ := HC.out wz hSw; go_simp <;> with_reducible rfl)
              (try simp only [Act.put, List.setIfInBounds_toArray, List.set_cons_zero, List.set_cons_succ])
              refine wpAnyH_take (i := 25) (oi := ⟨some 136, Op.indexAddr 30 (Operand.tmp 7) (Operand.const (Value.int IntKind.i64 4)), 0, _, _, some (22, false)⟩) (v := ?vrc25) rfl (by kernel_rfl) (by kernel_rfl) (by kernel_rfl) (fun _ _ _ h => h) (Or.inl ⟨by rfl, ?hrc25⟩) hS0 ?rrc25
              case hrc25 => (intro wz hSw; go_simp <;> with_reducible rfl)
              (try simp only [Act.put, List.setIfInBounds_toArray, List.set_cons_zero, List.set_cons_succ])
              refine wpAnyH_take (i := 26) (oi := ⟨some 137, Op.load 3 (Operand.tmp 136), 3, _, _, some (22, false)⟩) (v := ?vrc26) rfl (by kernel_rfl) (by kernel_rfl) (by kernel_rfl) (fun _ _ _ h => h) (Or.inl ⟨by rfl, ?hrc26⟩) hS0 ?rrc26
              case hrc26 => (intro wz hSw; obtain ⟨x0, x1, x2, x3, x4, y0, y1, p0, p1, q0, q1⟩ := HC.out wz hSw; go_simp <;> with_reducible rfl)
              (try simp only [Act.put, List.setIfInBounds_toArray, List.set_cons_zero, List.set_cons_succ])
              refine wpAnyH_take (i := 28) (oi := ⟨some 139, Op.move (Operand.tmp 5), 26, _, _, some (22, false)⟩) (v := ?vrc28) rfl (by kernel_rfl) (by kernel_rfl) (by kernel_rfl) (fun _ _ _ h => h) (Or.inl ⟨by rfl, ?hrc28⟩) hS0 ?rrc28
              case hrc28 => (intro wz hSw; go_simp <;> with_reducible rfl)
              (try simp only [Act.put, List.setIfInBounds_toArray, List.set_cons_zero, List.set_cons_succ])
              refine wpAnyH_take (i := 29) (oi := ⟨some 140, Op.load 32 (Operand.tmp 8), 32, _, _, some (22, false)⟩) (v := ?vrc29) rfl (by kernel_rfl) (by kernel_rfl) (by kernel_rfl) (fun _ _ _ h => h) (Or.inl ⟨by rfl, ?hrc29⟩) hS0 ?rrc29
              case hrc29 => (intro wz hSw; obtain ⟨x0, x1, x2, x3, x4, y0, y1, p0, p1, q0, q1⟩ := HC.out wz hSw; go_simp <;> with_reducible rfl)
              (try simp only [Act.put, List.setIfInBounds_toArray, List.set_cons_zero, List.set_cons_succ])
              refine wpAnyH_take (i := 30) (oi := ⟨some 141, Op.indexAddr 30 (Operand.tmp 7) (Operand.const (Value.int IntKind.i64 4)), 0, _, _, some (22, false)⟩) (v := ?vrc30) rfl (by kernel_rfl) (by kernel_rfl) (by kernel_rfl) (fun _ _ _ h => h) (Or.inl ⟨by rfl, ?hrc30⟩) hS0 ?rrc30
              case hrc30 => (intro wz hSw; go_simp <;> with_reducible rfl)
              (try simp only [Act.put, List.setIfInBounds_toArray, List.set_cons_zero, List.set_cons_succ])
              refine wpAnyH_take (i := 31) (oi := ⟨some 142, Op.load 3 (Operand.tmp 141), 3, _, _, some (22, false)⟩) (v := ?vrc31) rfl (by kernel_rfl) (by kernel_rfl) (by kernel_rfl) (fun _ _ _ h => h) (Or.inl ⟨by rfl, ?hrc31⟩) hS0 ?rrc31
              case hrc31 => (intro wz hSw; obtain ⟨x0, x1, x2, x3, x4, y0, y1, p0, p1, q0, q1⟩ := HC.out wz hSw; go_simp <;> with_reducible rfl)
              (try simp only [Act.put, List.setIfInBounds_toArray, List.set_cons_zero, List.set_cons_succ])
              refine wpAnyH_ready (rs := [27]) (by kernel_rfl) (by simp) ?_
              refine AllReadyH.cons (o := ⟨some 138, Op.call { callee := Callee.value (Operand.func 17), args := #[Operand.tmp 134, Operand.tmp 135, Operand.tmp 137], argTypes := #[24, 32, 3] }, 40, _, _, some (22, false)⟩) rfl (fun K hK => ?_) AllReadyH.nil
              go_simp
              (with_reducible refine (xz_xnear (HX.out.step hS0) s.a2 s.a3 s.a4 F2.out F3.out F4.out lN HlN.out).mono ?_); rintro e v1 ⟨A1, c1, rfl, HR1, _, HB1⟩; have hS1 := hS0.trans (HB1.out.mono hS0.size)
              refine hK.out _ _ hS1 (fun _ => ?_)
              clear hK K
              (try simp only [Act.put, List.setIfInBounds_toArray, List.set_cons_zero, List.set_cons_succ])
              refine wpAnyH_ready (rs := [32]) (by kernel_rfl) (by simp) ?_
              refine AllReadyH.cons (o := ⟨some 143, Op.call { callee := Callee.value (Operand.func 18), args := #[Operand.tmp 139, Operand.tmp 140, Operand.tmp 142], argTypes := #[26, 32, 3] }, 40, _, _, some (22, false)⟩) rfl (fun K hK => ?_) AllReadyH.nil
              go_simp
              (with_reducible refine (xz_ynear (HX.out.step hS1) HS.out s.a2 s.a3 s.a4 F2.out F3.out F4.out lN HlN.out).mono ?_); rintro e v2 ⟨A2, c2, rfl, HR2, _, HB2⟩; have hS2 := hS1.trans (HB2.out.mono hS1.size)
              refine hK.out _ _ hS2 (fun _ => ?_)
              clear hK K
              (try simp only [Act.put, List.setIfInBounds_toArray, List.set_cons_zero, List.set_cons_succ])
              refine wpAnyH_ready (rs := [33]) (by kernel_rfl) (by simp) ?_
              refine AllReadyH.cons (o := ⟨some 144, Op.call { callee := Callee.value (Operand.func 16), args := #[Operand.tmp 138, Operand.tmp 143], argTypes := #[40, 40] }, 4, _, _, some (22, false)⟩) rfl (fun K hK => ?_) AllReadyH.nil
              go_simp
              (with_reducible refine (p_same (HR1.out.below HB2.out (Nat.le_refl _)) HR2.out hN9).mono ?_); rintro e v3 ⟨rfl, hb3⟩; have hS3 := hS2.trans (hb3.mono hS2.size)
              refine hK.out _ _ hS3 (fun _ => ?_)
              clear hK K
              (try simp only [Act.put, List.setIfInBounds_toArray, List.set_cons_zero, List.set_cons_succ])
              refine wpAnyH_take (i := 34) (oi := ⟨some 145, Op.unOp UnOp.not 4 (Operand.tmp 144), 4, _, _, some (22, false)⟩) (v := ?vrc34) rfl (by kernel_rfl) (by kernel_rfl) (by kernel_rfl) (fun _ _ _ h => h) (Or.inl ⟨by rfl, ?hrc34⟩) hS3 ?rrc34
              case hrc34 => (intro wz hSw; go_simp <;> with_reducible rfl)
              (try simp only [Act.put, List.setIfInBounds_toArray, List.set_cons_zero, List.set_cons_succ])
              refine wpAnyH_take (i := 35) (oi := ⟨some 146, Op.pick (Operand.tmp 133) (Operand.const (Value.bool true)) (Operand.tmp 145), 4, _, _, none⟩) (v := ?vrc35) rfl (by kernel_rfl) (by kernel_rfl) (by kernel_rfl) (fun _ _ _ h => h) (Or.inl ⟨by rfl, ?hrc35⟩) hS3 ?rrc35
              case hrc35 => (intro wz hSw; go_simp <;> with_reducible rfl)
              (try simp only [Act.put, List.setIfInBounds_toArray, List.set_cons_zero, List.set_cons_succ])
              refine wpAnyH_take (i := 36) (oi := ⟨some 147, Op.move (Operand.tmp 146), 4, _, _, none⟩) (v := ?vrc36) rfl (by kernel_rfl) (by kernel_rfl) (by kernel_rfl) (fun _ _ _ h => h) (Or.inl ⟨by rfl, ?hrc36⟩) hS3 ?rrc36
              case hrc36 => (intro wz hSw; go_simp <;> with_reducible rfl)
              (try simp only [Act.put, List.setIfInBounds_toArray, List.set_cons_zero, List.set_cons_succ])
              refine wpAnyH_take (i := 37) (oi := ⟨some 148, Op.move (Operand.tmp 4), 24, _, _, some (36, false)⟩) (v := ?vrc37) rfl (by kernel_rfl) (by kernel_rfl) (by kernel_rfl) (fun _ _ _ h => h) (Or.inl ⟨by rfl, ?hrc37⟩) hS3 ?rrc37
              case hrc37 => (intro wz hSw; go_simp <;> with_reducible rfl)
              (try simp only [Act.put, List.setIfInBounds_toArray, List.set_cons_zero, List.set_cons_succ])
              refine wpAnyH_take (i := 39) (oi := ⟨some 150, Op.move (Operand.tmp 5), 26, _, _, some (36, false)⟩) (v := ?vrc39) rfl (by kernel_rfl) (by kernel_rfl) (by kernel_rfl) (fun _ _ _ h => h) (Or.inl ⟨by rfl, ?hrc39⟩) hS3 ?rrc39
              case hrc39 => (intro wz hSw; go_simp <;> with_reducible rfl)
              (try simp only [Act.put, List.setIfInBounds_toArray, List.set_cons_zero, List.set_cons_succ])
              refine wpAnyH_ready (rs := [38]) (by kernel_rfl) (by simp) ?_
              refine AllReadyH.cons (o := ⟨some 149, Op.call { callee := Callee.value (Operand.func 19), args := #[Operand.tmp 148], argTypes := #[24] }, 40, _, _, some (36, false)⟩) rfl (fun K hK => ?_) AllReadyH.nil
              go_simp
              (with_reducible refine (xz_xids (HX.out.step hS3) lI HlI.out).mono ?_); rintro e v4 ⟨A4, c4, rfl, HR4, _, HB4⟩; have hS4 := hS3.trans (HB4.out.mono hS3.size)
              refine hK.out _ _ hS4 (fun _ => ?_)
              clear hK K
              (try simp only [Act.put, List.setIfInBounds_toArray, List.set_cons_zero, List.set_cons_succ])
              refine wpAnyH_ready (rs := [40]) (by kernel_rfl) (by simp) ?_
              refine AllReadyH.cons (o := ⟨some 151, Op.call { callee := Callee.value (Operand.func 20), args := #[Operand.tmp 150], argTypes := #[26] }, 40, _, _, some (36, false)⟩) rfl (fun K hK => ?_) AllReadyH.nil
              go_simp
              (with_reducible refine (xz_yids (HX.out.step hS4) HS.out lI HlI.out).mono ?_); rintro e v5 ⟨A5, c5, rfl, HR5, _, HB5⟩; have hS5 := hS4.trans (HB5.out.mono hS4.size)
              refine hK.out _ _ hS5 (fun _ => ?_)
              clear hK K
              (try simp only [Act.put, List.setIfInBounds_toArray, List.set_cons_zero, List.set_cons_succ])
              refine wpAnyH_ready (rs := [41]) (by kernel_rfl) (by simp) ?_
              refine AllReadyH.cons (o := ⟨some 152, Op.call { callee := Callee.value (Operand.func 16), args := #[Operand.tmp 149, Operand.tmp 151], argTypes := #[40, 40] }, 4, _, _, some (36, false)⟩) rfl (fun K hK => ?_) AllReadyH.nil
              go_simp
              (with_reducible refine (p_same (HR4.out.below HB5.out (Nat.le_refl _)) HR5.out hI9).mono ?_); rintro e v6 ⟨rfl, hb6⟩; have hS6 := hS5.trans (hb6.mono hS5.size)
              refine hK.out _ _ hS6 (fun _ => ?_)
              clear hK K
              (try simp only [Act.put, List.setIfInBounds_toArray, List.set_cons_zero, List.set_cons_succ])
              refine wpAnyH_take (i := 42) (oi := ⟨some 153, Op.unOp UnOp.not 4 (Operand.tmp 152), 4, _, _, some (36, false)⟩) (v := ?vrc42) rfl (by kernel_rfl) (by kernel_rfl) (by kernel_rfl) (fun _ _ _ h => h) (Or.inl ⟨by rfl, ?hrc42⟩) hS6 ?rrc42
              case hrc42 => (intro wz hSw; go_simp <;> with_reducible rfl)
              (try simp only [Act.put, List.setIfInBounds_toArray, List.set_cons_zero, List.set_cons_succ])
              refine wpAnyH_take (i := 43) (oi := ⟨some 154, Op.pick (Operand.tmp 147) (Operand.const (Value.bool true)) (Operand.tmp 153), 4, _, _, none⟩) (v := ?vrc43) rfl (by kernel_rfl) (by kernel_rfl) (by kernel_rfl) (fun _ _ _ h => h) (Or.inl ⟨by rfl, ?hrc43⟩) hS6 ?rrc43
              case hrc43 => (intro wz hSw; go_simp <;> with_reducible rfl)
              (try simp only [Act.put, List.setIfInBounds_toArray, List.set_cons_zero, List.set_cons_succ])
              refine wpAnyH_done (by kernel_rfl) ?_ _
              refine NoPanic.normal ?_
              have HV := Lib.hid hS6
              generalize hv9 : v6 = V2 at HV ⊢
              clear hv9
              have HXE := Lib.hid (HX.out.step HV.out)
              go_wp2
              go_roundg (l0.length - (i + 1))
              · exact ⟨i + 1, L2, hi1, rfl, by go_num, Lib.hid ((HXE.out.less).more (by omega) (by have := HI9.out; omega))⟩
              · omega
            · have z2 : (q == 2) = false := by simpa using h2
              clear h2
              obtain ⟨px, py, f, hat⟩ := atf_ex L s.a1
              have HAT := Lib.hid hat
              obtain ⟨fb, db, kb, hbest⟩ := best_ex L s.a2 s.a3 s.a1
              have HBE := Lib.hid hbest
              have hff : (f != f) = false := by simp
              have hfb : (fb != fb) = false := by simp
              have hkk : (kb != kb) = false := by simp
              clear hat hbest
              clear HX
              go_wp2_with (first
                | ((with_reducible refine (p_xat HXb.out s.a1 F1.out px py f HAT.out).mono ?_); rintro e w5 ⟨rfl, HX5⟩; have HS := Lib.hid (show ((List.length L : Nat) : Int) < 1000 from (by have := HX5.out.info.2.1; have := HX5.out.info.2.2; have := HI9.out; omega)); have HX6 := Lib.hid (HX5.out.new (.cells #[.int .i64 px, .int .i64 py] 32)); obtain ⟨g0, g1, g2, g3, g4, g5, g6⟩ := xz_sev (n0 := wr.heap.size) (n1 := wr.heap.size + 1) (s := s) HX6.out (by simp) (by simp); clear c0 c1 c2 c3 c4 c5 c6)
                | ((with_reducible refine (p_yat HX6.out s.a1 HS.out px py f HAT.out).mono ?_); rintro e w6 ⟨rfl, HX7⟩; have HX8 := Lib.hid (HX7.out.new (.cells #[.int .i64 px, .int .i64 py] 32)); obtain ⟨h0, h1, h2, h3, h4, h5, h6⟩ := xz_sev (n0 := wr.heap.size) (n1 := wr.heap.size + 1) (s := s) HX8.out (by simp) (by simp); clear g0 g1 g2 g3 g4 g5 g6)
                | ((with_reducible refine (xz_xclosest HX8.out s.a2 s.a3 s.a1 F2.out F3.out fb db kb HBE.out).mono ?_); rintro e w7 ⟨rfl, HX9⟩; obtain ⟨k0, k1, k2, k3, k4, k5, k6⟩ := xz_sev (n0 := wr.heap.size) (n1 := wr.heap.size + 1) (s := s) HX9.out (by simp) (by simp); clear h0 h1 h2 h3 h4 h5 h6)
                | ((with_reducible refine (xz_yclosest HX9.out HS.out s.a2 s.a3 s.a1 F2.out F3.out fb db kb HBE.out).mono ?_); rintro e V ⟨rfl, HX⟩; clear k0 k1 k2 k3 k4 k5 k6))
              have HC : Hid (∀ wz, Below V.heap.size V wz → wz.cell? ⟨wr.heap.size, 0, none⟩ = some (.int .i64 s.a0) ∧ wz.cell? ⟨wr.heap.size, 1, none⟩ = some (.int .i64 s.a1) ∧ wz.cell? ⟨wr.heap.size, 2, none⟩ = some (.int .i64 s.a2) ∧ wz.cell? ⟨wr.heap.size, 3, none⟩ = some (.int .i64 s.a3) ∧ wz.cell? ⟨wr.heap.size, 4, none⟩ = some (.int .i64 s.a4) ∧ wz.cell? ⟨wr.heap.size + 1, 0, none⟩ = some (.int .i64 s.a2) ∧ wz.cell? ⟨wr.heap.size + 1, 1, none⟩ = some (.int .i64 s.a3) ∧ wz.cell? ⟨w5.heap.size, 0, none⟩ = some (.int .i64 px) ∧ wz.cell? ⟨w5.heap.size, 1, none⟩ = some (.int .i64 py) ∧ wz.cell? ⟨w6.heap.size, 0, none⟩ = some (.int .i64 px) ∧ wz.cell? ⟨w6.heap.size, 1, none⟩ = some (.int .i64 py)) := Lib.hid (fun wz hz => by
                have hh := HX.out.step hz
                obtain ⟨a0, a1, a2, a3, a4, b0, b1⟩ := xz_sev (n0 := wr.heap.size) (n1 := wr.heap.size + 1) (s := s) hh (by simp) (by simp)
                obtain ⟨p0, p1⟩ := two_of (hh.obj (p := (w5.heap.size, (.cells #[.int .i64 px, .int .i64 py] 32))) (by simp))
                obtain ⟨q0, q1⟩ := two_of (hh.obj (p := (w6.heap.size, (.cells #[.int .i64 px, .int .i64 py] 32))) (by simp))
                exact ⟨a0, a1, a2, a3, a4, b0, b1, p0, p1, q0, q1⟩)
              obtain ⟨lN, hlN⟩ : ∃ l, ids L (nr s.a2 s.a3 s.a4) = l := ⟨_, rfl⟩
              obtain ⟨lI, hlI⟩ : ∃ l, ids L (fun _ => true) = l := ⟨_, rfl⟩
              have hN9 : (lN.length : Int) ≤ 5000 := by rw [← hlN]; have := ids_le L (nr s.a2 s.a3 s.a4); have := HS.out; omega
              have hI9 : (lI.length : Int) ≤ 5000 := by rw [← hlI]; have := ids_le L (fun _ => true); have := HS.out; omega
              have HlN := Lib.hid hlN
              have HlI := Lib.hid hlI
              clear hlN hlI
              have hpe := neq32s px py
              have hS0 : Below V.heap.size V V.drew := (Below.refl _ _).drew
              refine wp_region_noPanic ?_
              refine wp_region_held_drew (S := fun w' => Below V.heap.size V w') (by kernel_rfl) hS0 (fun _ => ?_)
              refine wpAnyH_take (i := 0) (oi := ⟨some 111, Op.move (Operand.tmp 9), 4, _, _, none⟩) (v := ?vrd0) rfl (by kernel_rfl) (by kernel_rfl) (by kernel_rfl) (fun _ _ _ h => h) (Or.inl ⟨by rfl, ?hrd0⟩) hS0 ?rrd0
              case hrd0 => (intro wz hSw; go_simp <;> with_reducible rfl)
              (try simp only [Act.put, List.setIfInBounds_toArray, List.set_cons_zero, List.set_cons_succ])
              refine wpAnyH_take (i := 1) (oi := ⟨some 112, Op.unOp UnOp.not 4 (Operand.tmp 111), 4, _, _, none⟩) (v := ?vrd1) rfl (by kernel_rfl) (by kernel_rfl) (by kernel_rfl) (fun _ _ _ h => h) (Or.inl ⟨by rfl, ?hrd1⟩) hS0 ?rrd1
              case hrd1 => (intro wz hSw; go_simp <;> with_reducible rfl)
              (try simp only [Act.put, List.setIfInBounds_toArray, List.set_cons_zero, List.set_cons_succ])
              refine wpAnyH_take (i := 2) (oi := ⟨some 113, Op.move (Operand.tmp 112), 4, _, _, none⟩) (v := ?vrd2) rfl (by kernel_rfl) (by kernel_rfl) (by kernel_rfl) (fun _ _ _ h => h) (Or.inl ⟨by rfl, ?hrd2⟩) hS0 ?rrd2
              case hrd2 => (intro wz hSw; go_simp <;> with_reducible rfl)
              (try simp only [Act.put, List.setIfInBounds_toArray, List.set_cons_zero, List.set_cons_succ])
              refine wpAnyH_take (i := 3) (oi := ⟨some 114, Op.load 32 (Operand.tmp 12), 32, _, _, some (2, false)⟩) (v := ?vrd3) rfl (by kernel_rfl) (by kernel_rfl) (by kernel_rfl) (fun _ _ _ h => h) (Or.inl ⟨by rfl, ?hrd3⟩) hS0 ?rrd3
              case hrd3 => (intro wz hSw; obtain ⟨x0, x1, x2, x3, x4, y0, y1, p0, p1, q0, q1⟩ := HC.out wz hSw; go_simp <;> with_reducible rfl)
              (try simp only [Act.put, List.setIfInBounds_toArray, List.set_cons_zero, List.set_cons_succ])
              refine wpAnyH_take (i := 4) (oi := ⟨some 115, Op.load 32 (Operand.tmp 14), 32, _, _, some (2, false)⟩) (v := ?vrd4) rfl (by kernel_rfl) (by kernel_rfl) (by kernel_rfl) (fun _ _ _ h => h) (Or.inl ⟨by rfl, ?hrd4⟩) hS0 ?rrd4
              case hrd4 => (intro wz hSw; obtain ⟨x0, x1, x2, x3, x4, y0, y1, p0, p1, q0, q1⟩ := HC.out wz hSw; go_simp <;> with_reducible rfl)
              (try simp only [Act.put, List.setIfInBounds_toArray, List.set_cons_zero, List.set_cons_succ])
              refine wpAnyH_take (i := 5) (oi := ⟨some 116, Op.binOp BinOp.neq 32 (Operand.tmp 114) (Operand.tmp 115) 32, 4, _, _, some (2, false)⟩) (v := ?vrd5) rfl (by kernel_rfl) (by kernel_rfl) (by kernel_rfl) (fun _ _ _ h => h) (Or.inl ⟨by rfl, ?hrd5⟩) hS0 ?rrd5
              case hrd5 => (intro wz hSw; go_simp <;> with_reducible rfl)
              (try simp only [Act.put, List.setIfInBounds_toArray, List.set_cons_zero, List.set_cons_succ])
              refine wpAnyH_take (i := 6) (oi := ⟨some 117, Op.pick (Operand.tmp 113) (Operand.const (Value.bool true)) (Operand.tmp 116), 4, _, _, none⟩) (v := ?vrd6) rfl (by kernel_rfl) (by kernel_rfl) (by kernel_rfl) (fun _ _ _ h => h) (Or.inl ⟨by rfl, ?hrd6⟩) hS0 ?rrd6
              case hrd6 => (intro wz hSw; go_simp <;> with_reducible rfl)
              (try simp only [Act.put, List.setIfInBounds_toArray, List.set_cons_zero, List.set_cons_succ])
              refine wpAnyH_take (i := 7) (oi := ⟨some 118, Op.move (Operand.tmp 117), 4, _, _, none⟩) (v := ?vrd7) rfl (by kernel_rfl) (by kernel_rfl) (by kernel_rfl) (fun _ _ _ h => h) (Or.inl ⟨by rfl, ?hrd7⟩) hS0 ?rrd7
              case hrd7 => (intro wz hSw; go_simp <;> with_reducible rfl)
              (try simp only [Act.put, List.setIfInBounds_toArray, List.set_cons_zero, List.set_cons_succ])
              refine wpAnyH_take (i := 8) (oi := ⟨some 119, Op.move (Operand.tmp 13), 4, _, _, some (7, false)⟩) (v := ?vrd8) rfl (by kernel_rfl) (by kernel_rfl) (by kernel_rfl) (fun _ _ _ h => h) (Or.inl ⟨by rfl, ?hrd8⟩) hS0 ?rrd8
              case hrd8 => (intro wz hSw; go_simp <;> with_reducible rfl)
              (try simp only [Act.put, List.setIfInBounds_toArray, List.set_cons_zero, List.set_cons_succ])
              refine wpAnyH_take (i := 9) (oi := ⟨some 120, Op.move (Operand.tmp 15), 4, _, _, some (7, false)⟩) (v := ?vrd9) rfl (by kernel_rfl) (by kernel_rfl) (by kernel_rfl) (fun _ _ _ h => h) (Or.inl ⟨by rfl, ?hrd9⟩) hS0 ?rrd9
              case hrd9 => (intro wz hSw; go_simp <;> with_reducible rfl)
              (try simp only [Act.put, List.setIfInBounds_toArray, List.set_cons_zero, List.set_cons_succ])
              refine wpAnyH_take (i := 10) (oi := ⟨some 121, Op.binOp BinOp.neq 4 (Operand.tmp 119) (Operand.tmp 120) 4, 4, _, _, some (7, false)⟩) (v := ?vrd10) rfl (by kernel_rfl) (by kernel_rfl) (by kernel_rfl) (fun _ _ _ h => h) (Or.inl ⟨by rfl, ?hrd10⟩) hS0 ?rrd10
              case hrd10 => (intro wz hSw; go_simp <;> with_reducible rfl)
              (try simp only [Act.put, List.setIfInBounds_toArray, List.set_cons_zero, List.set_cons_succ])
              refine wpAnyH_take (i := 11) (oi := ⟨some 122, Op.pick (Operand.tmp 118) (Operand.const (Value.bool true)) (Operand.tmp 121), 4, _, _, none⟩) (v := ?vrd11) rfl (by kernel_rfl) (by kernel_rfl) (by kernel_rfl) (fun _ _ _ h => h) (Or.inl ⟨by rfl, ?hrd11⟩) hS0 ?rrd11
              case hrd11 => (intro wz hSw; go_simp <;> with_reducible rfl)
              (try simp only [Act.put, List.setIfInBounds_toArray, List.set_cons_zero, List.set_cons_succ])
              refine wpAnyH_take (i := 12) (oi := ⟨some 123, Op.move (Operand.tmp 122), 4, _, _, none⟩) (v := ?vrd12) rfl (by kernel_rfl) (by kernel_rfl) (by kernel_rfl) (fun _ _ _ h => h) (Or.inl ⟨by rfl, ?hrd12⟩) hS0 ?rrd12
              case hrd12 => (intro wz hSw; go_simp <;> with_reducible rfl)
              (try simp only [Act.put, List.setIfInBounds_toArray, List.set_cons_zero, List.set_cons_succ])
              refine wpAnyH_take (i := 13) (oi := ⟨some 124, Op.move (Operand.tmp 16), 3, _, _, some (12, false)⟩) (v := ?vrd13) rfl (by kernel_rfl) (by kernel_rfl) (by kernel_rfl) (fun _ _ _ h => h) (Or.inl ⟨by rfl, ?hrd13⟩) hS0 ?rrd13
              case hrd13 => (intro wz hSw; go_simp <;> with_reducible rfl)
              (try simp only [Act.put, List.setIfInBounds_toArray, List.set_cons_zero, List.set_cons_succ])
              refine wpAnyH_take (i := 14) (oi := ⟨some 125, Op.move (Operand.tmp 18), 3, _, _, some (12, false)⟩) (v := ?vrd14) rfl (by kernel_rfl) (by kernel_rfl) (by kernel_rfl) (fun _ _ _ h => h) (Or.inl ⟨by rfl, ?hrd14⟩) hS0 ?rrd14
              case hrd14 => (intro wz hSw; go_simp <;> with_reducible rfl)
              (try simp only [Act.put, List.setIfInBounds_toArray, List.set_cons_zero, List.set_cons_succ])
              refine wpAnyH_take (i := 15) (oi := ⟨some 126, Op.binOp BinOp.neq 3 (Operand.tmp 124) (Operand.tmp 125) 3, 4, _, _, some (12, false)⟩) (v := ?vrd15) rfl (by kernel_rfl) (by kernel_rfl) (by kernel_rfl) (fun _ _ _ h => h) (Or.inl ⟨by rfl, ?hrd15⟩) hS0 ?rrd15
              case hrd15 => (intro wz hSw; go_simp <;> with_reducible rfl)
              (try simp only [Act.put, List.setIfInBounds_toArray, List.set_cons_zero, List.set_cons_succ])
              refine wpAnyH_take (i := 16) (oi := ⟨some 127, Op.pick (Operand.tmp 123) (Operand.const (Value.bool true)) (Operand.tmp 126), 4, _, _, none⟩) (v := ?vrd16) rfl (by kernel_rfl) (by kernel_rfl) (by kernel_rfl) (fun _ _ _ h => h) (Or.inl ⟨by rfl, ?hrd16⟩) hS0 ?rrd16
              case hrd16 => (intro wz hSw; go_simp <;> with_reducible rfl)
              (try simp only [Act.put, List.setIfInBounds_toArray, List.set_cons_zero, List.set_cons_succ])
              refine wpAnyH_take (i := 17) (oi := ⟨some 128, Op.move (Operand.tmp 127), 4, _, _, none⟩) (v := ?vrd17) rfl (by kernel_rfl) (by kernel_rfl) (by kernel_rfl) (fun _ _ _ h => h) (Or.inl ⟨by rfl, ?hrd17⟩) hS0 ?rrd17
              case hrd17 => (intro wz hSw; go_simp <;> with_reducible rfl)
              (try simp only [Act.put, List.setIfInBounds_toArray, List.set_cons_zero, List.set_cons_succ])
              refine wpAnyH_take (i := 18) (oi := ⟨some 129, Op.move (Operand.tmp 17), 4, _, _, some (17, false)⟩) (v := ?vrd18) rfl (by kernel_rfl) (by kernel_rfl) (by kernel_rfl) (fun _ _ _ h => h) (Or.inl ⟨by rfl, ?hrd18⟩) hS0 ?rrd18
              case hrd18 => (intro wz hSw; go_simp <;> with_reducible rfl)
              (try simp only [Act.put, List.setIfInBounds_toArray, List.set_cons_zero, List.set_cons_succ])
              refine wpAnyH_take (i := 19) (oi := ⟨some 130, Op.move (Operand.tmp 19), 4, _, _, some (17, false)⟩) (v := ?vrd19) rfl (by kernel_rfl) (by kernel_rfl) (by kernel_rfl) (fun _ _ _ h => h) (Or.inl ⟨by rfl, ?hrd19⟩) hS0 ?rrd19
              case hrd19 => (intro wz hSw; go_simp <;> with_reducible rfl)
              (try simp only [Act.put, List.setIfInBounds_toArray, List.set_cons_zero, List.set_cons_succ])
              refine wpAnyH_take (i := 20) (oi := ⟨some 131, Op.binOp BinOp.neq 4 (Operand.tmp 129) (Operand.tmp 130) 4, 4, _, _, some (17, false)⟩) (v := ?vrd20) rfl (by kernel_rfl) (by kernel_rfl) (by kernel_rfl) (fun _ _ _ h => h) (Or.inl ⟨by rfl, ?hrd20⟩) hS0 ?rrd20
              case hrd20 => (intro wz hSw; go_simp <;> with_reducible rfl)
              (try simp only [Act.put, List.setIfInBounds_toArray, List.set_cons_zero, List.set_cons_succ])
              refine wpAnyH_take (i := 21) (oi := ⟨some 132, Op.pick (Operand.tmp 128) (Operand.const (Value.bool true)) (Operand.tmp 131), 4, _, _, none⟩) (v := ?vrd21) rfl (by kernel_rfl) (by kernel_rfl) (by kernel_rfl) (fun _ _ _ h => h) (Or.inl ⟨by rfl, ?hrd21⟩) hS0 ?rrd21
              case hrd21 => (intro wz hSw; go_simp <;> with_reducible rfl)
              (try simp only [Act.put, List.setIfInBounds_toArray, List.set_cons_zero, List.set_cons_succ])
              refine wpAnyH_take (i := 22) (oi := ⟨some 133, Op.move (Operand.tmp 132), 4, _, _, none⟩) (v := ?vrd22) rfl (by kernel_rfl) (by kernel_rfl) (by kernel_rfl) (fun _ _ _ h => h) (Or.inl ⟨by rfl, ?hrd22⟩) hS0 ?rrd22
              case hrd22 => (intro wz hSw; go_simp <;> with_reducible rfl)
              (try simp only [Act.put, List.setIfInBounds_toArray, List.set_cons_zero, List.set_cons_succ])
              refine wpAnyH_take (i := 23) (oi := ⟨some 134, Op.move (Operand.tmp 4), 24, _, _, some (22, false)⟩) (v := ?vrd23) rfl (by kernel_rfl) (by kernel_rfl) (by kernel_rfl) (fun _ _ _ h => h) (Or.inl ⟨by rfl, ?hrd23⟩) hS0 ?rrd23
              case hrd23 => (intro wz hSw; go_simp <;> with_reducible rfl)
              (try simp only [Act.put, List.setIfInBounds_toArray, List.set_cons_zero, List.set_cons_succ])
              refine wpAnyH_take (i := 24) (oi := ⟨some 135, Op.load 32 (Operand.tmp 8), 32, _, _, some (22, false)⟩) (v := ?vrd24) rfl (by kernel_rfl) (by kernel_rfl) (by kernel_rfl) (fun _ _ _ h => h) (Or.inl ⟨by rfl, ?hrd24⟩) hS0 ?rrd24
              case hrd24 => (intro wz hSw; obtain ⟨x0, x1, x2, x3, x4, y0, y1, p0, p1, q0, q1⟩ := HC.out wz hSw; go_simp <;> with_reducible rfl)
              (try simp only [Act.put, List.setIfInBounds_toArray, List.set_cons_zero, List.set_cons_succ])
              refine wpAnyH_take (i := 25) (oi := ⟨some 136, Op.indexAddr 30 (Operand.tmp 7) (Operand.const (Value.int IntKind.i64 4)), 0, _, _, some (22, false)⟩) (v := ?vrd25) rfl (by kernel_rfl) (by kernel_rfl) (by kernel_rfl) (fun _ _ _ h => h) (Or.inl ⟨by rfl, ?hrd25⟩) hS0 ?rrd25
              case hrd25 => (intro wz hSw; go_simp <;> with_reducible rfl)
              (try simp only [Act.put, List.setIfInBounds_toArray, List.set_cons_zero, List.set_cons_succ])
              refine wpAnyH_take (i := 26) (oi := ⟨some 137, Op.load 3 (Operand.tmp 136), 3, _, _, some (22, false)⟩) (v := ?vrd26) rfl (by kernel_rfl) (by kernel_rfl) (by kernel_rfl) (fun _ _ _ h => h) (Or.inl ⟨by rfl, ?hrd26⟩) hS0 ?rrd26
              case hrd26 => (intro wz hSw; obtain ⟨x0, x1, x2, x3, x4, y0, y1, p0, p1, q0, q1⟩ := HC.out wz hSw; go_simp <;> with_reducible rfl)
              (try simp only [Act.put, List.setIfInBounds_toArray, List.set_cons_zero, List.set_cons_succ])
              refine wpAnyH_take (i := 28) (oi := ⟨some 139, Op.move (Operand.tmp 5), 26, _, _, some (22, false)⟩) (v := ?vrd28) rfl (by kernel_rfl) (by kernel_rfl) (by kernel_rfl) (fun _ _ _ h => h) (Or.inl ⟨by rfl, ?hrd28⟩) hS0 ?rrd28
              case hrd28 => (intro wz hSw; go_simp <;> with_reducible rfl)
              (try simp only [Act.put, List.setIfInBounds_toArray, List.set_cons_zero, List.set_cons_succ])
              refine wpAnyH_take (i := 29) (oi := ⟨some 140, Op.load 32 (Operand.tmp 8), 32, _, _, some (22, false)⟩) (v := ?vrd29) rfl (by kernel_rfl) (by kernel_rfl) (by kernel_rfl) (fun _ _ _ h => h) (Or.inl ⟨by rfl, ?hrd29⟩) hS0 ?rrd29
              case hrd29 => (intro wz hSw; obtain ⟨x0, x1, x2, x3, x4, y0, y1, p0, p1, q0, q1⟩ := HC.out wz hSw; go_simp <;> with_reducible rfl)
              (try simp only [Act.put, List.setIfInBounds_toArray, List.set_cons_zero, List.set_cons_succ])
              refine wpAnyH_take (i := 30) (oi := ⟨some 141, Op.indexAddr 30 (Operand.tmp 7) (Operand.const (Value.int IntKind.i64 4)), 0, _, _, some (22, false)⟩) (v := ?vrd30) rfl (by kernel_rfl) (by kernel_rfl) (by kernel_rfl) (fun _ _ _ h => h) (Or.inl ⟨by rfl, ?hrd30⟩) hS0 ?rrd30
              case hrd30 => (intro wz hSw; go_simp <;> with_reducible rfl)
              (try simp only [Act.put, List.setIfInBounds_toArray, List.set_cons_zero, List.set_cons_succ])
              refine wpAnyH_take (i := 31) (oi := ⟨some 142, Op.load 3 (Operand.tmp 141), 3, _, _, some (22, false)⟩) (v := ?vrd31) rfl (by kernel_rfl) (by kernel_rfl) (by kernel_rfl) (fun _ _ _ h => h) (Or.inl ⟨by rfl, ?hrd31⟩) hS0 ?rrd31
              case hrd31 => (intro wz hSw; obtain ⟨x0, x1, x2, x3, x4, y0, y1, p0, p1, q0, q1⟩ := HC.out wz hSw; go_simp <;> with_reducible rfl)
              (try simp only [Act.put, List.setIfInBounds_toArray, List.set_cons_zero, List.set_cons_succ])
              refine wpAnyH_ready (rs := [27]) (by kernel_rfl) (by simp) ?_
              refine AllReadyH.cons (o := ⟨some 138, Op.call { callee := Callee.value (Operand.func 17), args := #[Operand.tmp 134, Operand.tmp 135, Operand.tmp 137], argTypes := #[24, 32, 3] }, 40, _, _, some (22, false)⟩) rfl (fun K hK => ?_) AllReadyH.nil
              go_simp
              (with_reducible refine (xz_xnear (HX.out.step hS0) s.a2 s.a3 s.a4 F2.out F3.out F4.out lN HlN.out).mono ?_); rintro e v1 ⟨A1, c1, rfl, HR1, _, HB1⟩; have hS1 := hS0.trans (HB1.out.mono hS0.size)
              refine hK.out _ _ hS1 (fun _ => ?_)
              clear hK K
              (try simp only [Act.put, List.setIfInBounds_toArray, List.set_cons_zero, List.set_cons_succ])
              refine wpAnyH_ready (rs := [32]) (by kernel_rfl) (by simp) ?_
              refine AllReadyH.cons (o := ⟨some 143, Op.call { callee := Callee.value (Operand.func 18), args := #[Operand.tmp 139, Operand.tmp 140, Operand.tmp 142], argTypes := #[26, 32, 3] }, 40, _, _, some (22, false)⟩) rfl (fun K hK => ?_) AllReadyH.nil
              go_simp
              (with_reducible refine (xz_ynear (HX.out.step hS1) HS.out s.a2 s.a3 s.a4 F2.out F3.out F4.out lN HlN.out).mono ?_); rintro e v2 ⟨A2, c2, rfl, HR2, _, HB2⟩; have hS2 := hS1.trans (HB2.out.mono hS1.size)
              refine hK.out _ _ hS2 (fun _ => ?_)
              clear hK K
              (try simp only [Act.put, List.setIfInBounds_toArray, List.set_cons_zero, List.set_cons_succ])
              refine wpAnyH_ready (rs := [33]) (by kernel_rfl) (by simp) ?_
              refine AllReadyH.cons (o := ⟨some 144, Op.call { callee := Callee.value (Operand.func 16), args := #[Operand.tmp 138, Operand.tmp 143], argTypes := #[40, 40] }, 4, _, _, some (22, false)⟩) rfl (fun K hK => ?_) AllReadyH.nil
              go_simp
              (with_reducible refine (p_same (HR1.out.below HB2.out (Nat.le_refl _)) HR2.out hN9).mono ?_); rintro e v3 ⟨rfl, hb3⟩; have hS3 := hS2.trans (hb3.mono hS2.size)
              refine hK.out _ _ hS3 (fun _ => ?_)
              clear hK K
              (try simp only [Act.put, List.setIfInBounds_toArray, List.set_cons_zero, List.set_cons_succ])
              refine wpAnyH_take (i := 34) (oi := ⟨some 145, Op.unOp UnOp.not 4 (Operand.tmp 144), 4, _, _, some (22, false)⟩) (v := ?vrd34) rfl (by kernel_rfl) (by kernel_rfl) (by kernel_rfl) (fun _ _ _ h => h) (Or.inl ⟨by rfl, ?hrd34⟩) hS3 ?rrd34
              case hrd34 => (intro wz hSw; go_simp <;> with_reducible rfl)
              (try simp only [Act.put, List.setIfInBounds_toArray, List.set_cons_zero, List.set_cons_succ])
              refine wpAnyH_take (i := 35) (oi := ⟨some 146, Op.pick (Operand.tmp 133) (Operand.const (Value.bool true)) (Operand.tmp 145), 4, _, _, none⟩) (v := ?vrd35) rfl (by kernel_rfl) (by kernel_rfl) (by kernel_rfl) (fun _ _ _ h => h) (Or.inl ⟨by rfl, ?hrd35⟩) hS3 ?rrd35
              case hrd35 => (intro wz hSw; go_simp <;> with_reducible rfl)
              (try simp only [Act.put, List.setIfInBounds_toArray, List.set_cons_zero, List.set_cons_succ])
              refine wpAnyH_take (i := 36) (oi := ⟨some 147, Op.move (Operand.tmp 146), 4, _, _, none⟩) (v := ?vrd36) rfl (by kernel_rfl) (by kernel_rfl) (by kernel_rfl) (fun _ _ _ h => h) (Or.inl ⟨by rfl, ?hrd36⟩) hS3 ?rrd36
              case hrd36 => (intro wz hSw; go_simp <;> with_reducible rfl)
              (try simp only [Act.put, List.setIfInBounds_toArray, List.set_cons_zero, List.set_cons_succ])
              refine wpAnyH_take (i := 37) (oi := ⟨some 148, Op.move (Operand.tmp 4), 24, _, _, some (36, false)⟩) (v := ?vrd37) rfl (by kernel_rfl) (by kernel_rfl) (by kernel_rfl) (fun _ _ _ h => h) (Or.inl ⟨by rfl, ?hrd37⟩) hS3 ?rrd37
              case hrd37 => (intro wz hSw; go_simp <;> with_reducible rfl)
              (try simp only [Act.put, List.setIfInBounds_toArray, List.set_cons_zero, List.set_cons_succ])
              refine wpAnyH_take (i := 39) (oi := ⟨some 150, Op.move (Operand.tmp 5), 26, _, _, some (36, false)⟩) (v := ?vrd39) rfl (by kernel_rfl) (by kernel_rfl) (by kernel_rfl) (fun _ _ _ h => h) (Or.inl ⟨by rfl, ?hrd39⟩) hS3 ?rrd39
              case hrd39 => (intro wz hSw; go_simp <;> with_reducible rfl)
              (try simp only [Act.put, List.setIfInBounds_toArray, List.set_cons_zero, List.set_cons_succ])
              refine wpAnyH_ready (rs := [38]) (by kernel_rfl) (by simp) ?_
              refine AllReadyH.cons (o := ⟨some 149, Op.call { callee := Callee.value (Operand.func 19), args := #[Operand.tmp 148], argTypes := #[24] }, 40, _, _, some (36, false)⟩) rfl (fun K hK => ?_) AllReadyH.nil
              go_simp
              (with_reducible refine (xz_xids (HX.out.step hS3) lI HlI.out).mono ?_); rintro e v4 ⟨A4, c4, rfl, HR4, _, HB4⟩; have hS4 := hS3.trans (HB4.out.mono hS3.size)
              refine hK.out _ _ hS4 (fun _ => ?_)
              clear hK K
              (try simp only [Act.put, List.setIfInBounds_toArray, List.set_cons_zero, List.set_cons_succ])
              refine wpAnyH_ready (rs := [40]) (by kernel_rfl) (by simp) ?_
              refine AllReadyH.cons (o := ⟨some 151, Op.call { callee := Callee.value (Operand.func 20), args := #[Operand.tmp 150], argTypes := #[26] }, 40, _, _, some (36, false)⟩) rfl (fun K hK => ?_) AllReadyH.nil
              go_simp
              (with_reducible refine (xz_yids (HX.out.step hS4) HS.out lI HlI.out).mono ?_); rintro e v5 ⟨A5, c5, rfl, HR5, _, HB5⟩; have hS5 := hS4.trans (HB5.out.mono hS4.size)
              refine hK.out _ _ hS5 (fun _ => ?_)
              clear hK K
              (try simp only [Act.put, List.setIfInBounds_toArray, List.set_cons_zero, List.set_cons_succ])
              refine wpAnyH_ready (rs := [41]) (by kernel_rfl) (by simp) ?_
              refine AllReadyH.cons (o := ⟨some 152, Op.call { callee := Callee.value (Operand.func 16), args := #[Operand.tmp 149, Operand.tmp 151], argTypes := #[40, 40] }, 4, _, _, some (36, false)⟩) rfl (fun K hK => ?_) AllReadyH.nil
              go_simp
              (with_reducible refine (p_same (HR4.out.below HB5.out (Nat.le_refl _)) HR5.out hI9).mono ?_); rintro e v6 ⟨rfl, hb6⟩; have hS6 := hS5.trans (hb6.mono hS5.size)
              refine hK.out _ _ hS6 (fun _ => ?_)
              clear hK K
              (try simp only [Act.put, List.setIfInBounds_toArray, List.set_cons_zero, List.set_cons_succ])
              refine wpAnyH_take (i := 42) (oi := ⟨some 153, Op.unOp UnOp.not 4 (Operand.tmp 152), 4, _, _, some (36, false)⟩) (v := ?vrd42) rfl (by kernel_rfl) (by kernel_rfl) (by kernel_rfl) (fun _ _ _ h => h) (Or.inl ⟨by rfl, ?hrd42⟩) hS6 ?rrd42
              case hrd42 => (intro wz hSw; go_simp <;> with_reducible rfl)
              (try simp only [Act.put, List.setIfInBounds_toArray, List.set_cons_zero, List.set_cons_succ])
              refine wpAnyH_take (i := 43) (oi := ⟨some 154, Op.pick (Operand.tmp 147) (Operand.const (Value.bool true)) (Operand.tmp 153), 4, _, _, none⟩) (v := ?vrd43) rfl (by kernel_rfl) (by kernel_rfl) (by kernel_rfl) (fun _ _ _ h => h) (Or.inl ⟨by rfl, ?hrd43⟩) hS6 ?rrd43
              case hrd43 => (intro wz hSw; go_simp <;> with_reducible rfl)
              (try simp only [Act.put, List.setIfInBounds_toArray, List.set_cons_zero, List.set_cons_succ])
              refine wpAnyH_done (by kernel_rfl) ?_ _
              refine NoPanic.normal ?_
              have HV := Lib.hid hS6
              generalize hv9 : v6 = V2 at HV ⊢
              clear hv9
              have HXE := Lib.hid (HX.out.step HV.out)
              go_wp2
              go_roundg (l0.length - (i + 1))
              · exact ⟨i + 1, L, hi1, rfl, by go_num, Lib.hid ((HXE.out.less).more (by omega) (by have := HI9.out; omega))⟩
              · omega
      · have hll : decide ((i : Int) < l0.length) = false := by simp; omega
        go_wp2
        go_ret
        exact ⟨rfl, HX.out.bel⟩


set_option maxRecDepth 100000 in
theorem lifted (os : Os) (started : os.Started) (H : Type) (enc : TypeId × Value → H) :
    ReturnsInHanded {} Try.checked os 3 .any (Rows.cellsPlaysSpec.pre6 enc Try.prog Try.f3 Rows.cellsPlaysRow.domain false) (Rows.cellsPlaysSpec.post enc Try.prog Try.f3 false true false false) := by
  refine returnsInHanded_of_change (C := Try.checked) own started (by kernel_rfl) Try.func3
    (ChangeSpec.witness6 (enc := enc) (C := Try.checked) false ⟨#[], #[.slice none 0 0], []⟩ 8 (by kernel_rfl) (by kernel_rfl) (by kernel_rfl) (by kernel_rfl)) ?_
  intro W base args ds gs before hval0 hW hcnd _
  have hval : ∀ (j : Nat) t v, Try.f3.params[j]? = some t → args[j]? = some v → Value.okWide Try.prog W .any base t v := hval0
  have hW' := hW
  obtain ⟨p, q, hA0, hV, rfl, hfz, hnd⟩ := hW
  have hA : DataW.TrodAll enc Try.prog W 0 (fun _ => true) true Try.f3.params.toList args.toList ds p := hA0
  rw [Try.params3] at hA hval
  obtain ⟨v0, vs0, d0, ds0, p0, q0, hargs, rfl, rfl, h0, r0⟩ := trodAll_cons hA
  obtain ⟨rfl, rfl, rfl⟩ := trodAll_nil r0
  obtain rfl : args = #[v0] := by cases args; simp_all
  obtain ⟨rfl, rfl⟩ := trodVars_none hV
  clear hA0 hval0
  have hlt0 : ∀ x ∈ p0, x.block < W.heap.size := fun x hx => hW'.lt x (by simp [hx])
  have hk0 := h0
  obtain ⟨A0, c0, l0, rfl, hr0, hc0, hm0, hx0⟩ := Open.view5 (hval 0 22 v0 rfl rfl) h0 hlt0
  simp only [List.append_nil] at hW'
  refine (walk W A0 c0 l0 hr0 hc0 hm0 hx0).mono fun e W' ⟨he, hg⟩ => ?_
  subst he
  exact ⟨_, rfl, _, _, _, [], _, [], hW', (trodAll_cons_mk (shut_bool Try.underlying4 _) trodAll_mk0), (trodAll_cons_mk (Below.trod Open.laidOut (by kernel_rfl) (of_decide_eq_true (by kernel_rfl)) hk0 hg hlt0) trodAll_mk0), rfl, hg.frame _, fun h => by cases h⟩

theorem over : Rows.cellsPlaysRow.holds Try.pinned (OpenSpec.ofChange Rows.cellsPlaysSpec) :=
  OpenClaim.holds_of_wide 3 Try.f3 rfl rfl rfl rfl rfl rfl rfl ⟨rfl, rfl, rfl, rfl, rfl⟩ rfl rfl rfl rfl rfl (by kernel_rfl) Try.func3 (by kernel_rfl)
    (of_decide_eq_true (by kernel_rfl)) (by unfold Func.isWrapper; first | (rw [if_pos (by decide +kernel)]; kernel_rfl) | (rw [if_neg (by decide +kernel)]; exact ⟨rfl, rfl⟩))
    (fun os started H enc _ => lifted os started H enc)

/-- The given statement. -/
theorem proved : Rows.CellsPlaysSaid :=
  over
#print axioms proved
end Go.Proofs.Ytehllnbpianpfaa.cellsPlays
