/-
  Contracts of the program's reader: grids, abilities, foes, rows of them, content; and of Unflat.
-/
import Derived.Test.YtpjenkgimkndaaaGreatRdc
namespace Go.Proofs.YtpjenkgimkndaaaGreat.Con
open Go.RowKit Go.Maps Pm Mth

theorem setCells_other {b k : Nat} (hk : k ≠ b) : ∀ (vs : List Value) (o : Nat) (W : World), (W.setCells b o vs).heap[k]? = W.heap[k]?
  | [], _, _ => rfl
  | v :: r, o, W => by rw [World.setCells, setCells_other hk r]; exact heap_setCell_other _ _ _ _ (by simpa using hk)
theorem kp_sets {P b M : Nat} {w w' : World} (h : Tn P w w') (hP : P < M) (hb : b < M) (vs : List Value) (o : Nat) : Kp w (w'.setCells b o vs) (fun k => k < M) :=
  ⟨by rw [size_setCells]; exact h.size, fun k hk hn => (setCells_other (by omega) vs o w').trans (h.block k hk (fun e => by injection e with e; omega))⟩
/-- Content whose rows lie in blocks from N on. -/
structure NC (w : World) (N : Nat) (c : Cn) : Prop where
  abs : AW ab w (fun b => b < N) c.aA c.ab
  aus : AW au w (fun b => b < N) c.uA c.au
  fos : AW fo w (fun b => b < N) c.fA c.fo
  wls : AW bo w (fun b => b < N) c.gA c.wl
  effs : ∀ a ∈ c.ab, FrA a w (fun b => b < N)
  foes : ∀ a ∈ c.fo, FrF a w (fun b => b < N)
theorem NC.rc {w : World} {N : Nat} {c : Cn} (h : NC w N c) : RC w w.heap.size c :=
  ⟨h.abs.rw', h.aus.rw', h.fos.rw', rw_rb h.wls.rw', fun a ha => (h.effs a ha).rw', fun a ha => (h.foes a ha).1.rw', fun a ha => (h.foes a ha).2.rw'⟩
theorem NC.kp {w w' : World} {N : Nat} {c : Cn} (h : NC w N c) (hk : Kp w w' (fun k => k < N)) : NC w' N c :=
  ⟨h.abs.kp hk (fun _ _ h => h), h.aus.kp hk (fun _ _ h => h), h.fos.kp hk (fun _ _ h => h), h.wls.kp hk (fun _ _ h => h), fun a ha => frA_stab _ _ _ _ _ (h.effs a ha) hk (fun _ _ h => h), fun a ha => frF_stab _ _ _ _ _ (h.foes a ha) hk (fun _ _ h => h)⟩
theorem kp_tn {P M : Nat} {w w' : World} (h : Tn P w w') (hP : P < M) : Kp w w' (fun k => k < M) :=
  ⟨h.size, fun k hk hn => h.block k hk (fun e => by injection e with e; omega)⟩
set_option maxRecDepth 20000 in
set_option maxHeartbeats 8000000 in
theorem gr_take (s0 : St) (w : World) (B P : Nat) (h : RS w B P s0) (hl : s0.l.length ≤ 400000) : Calls Tryz.prog 75 #[pt P] w fun e w' => ∃ (W H : Int) (l : List Bool) (A : Option Addr) (c : Nat), e = .returned (gv W H A l.length c) ∧ Hid (AW bo w' (fun b => b < w.heap.size) A l) ∧ Rn pGr B P w s0 (W, H, l) w' := by
  have hN := heap_alloc_new w (.cells #[.int .i64 0, .int .i64 0, .slice none 0 0] 27)
  have HS0 := Lib.hid (h.alloc (.cells #[.int .i64 0, .int .i64 0, .slice none 0 0] 27)); have hP := h.lt; have hBP := h.le; have HLim := Lib.hid hl
  have HT0 : Hid (Tn P w (w.alloc (.cells #[.int .i64 0, .int .i64 0, .slice none 0 0] 27))) := Lib.hid (tn_alloc (tn_refl P w) _)
  have HNe : Hid (w.heap.size ≠ P) := Lib.hid (by omega)
  have HLn0 : Hid (s0.l.length ≤ s0.l.length) := Lib.hid (Nat.le_refl _)
  clear h hl
  go_enter Tryz.func75, Tryz.ntmps75
  go_wp2_with (fail)
  generalize hw0 : w.alloc (.cells #[.int .i64 0, .int .i64 0, .slice none 0 0] 27) = w0 at *
  have HZ0 := Lib.hid hN; have HW0 : Hid (Tn P w0 w0) := Lib.hid (tn_refl P w0)
  clear hN hw0
  have hz := cellOf' HZ0.out; have hy := frozOf' HZ0.out; have hlt := lt_of_block HZ0.out; have HLt0 := Lib.hid hlt
  go_wp2_with (first
    | ((with_reducible refine (num_any s0 _ B P HS0.out).mono ?_); rintro e w1 ⟨x1, rfl, s1, HR1, HS1, HT1⟩; have HLn1 : Hid (s1.l.length ≤ s0.l.length) := Lib.hid (Nat.le_trans HR1.out.2 HLn0.out); have HZ1 := Lib.hid (tn_box HT1.out HZ0.out HNe.out); have HW1 : Hid (Tn P w0 w1) := Lib.hid (tn_trans HW0.out HT1.out); have hz := cellOf' HZ1.out; have hy := frozOf' HZ1.out; have hlt := lt_of_block HZ1.out; have HLt1 := Lib.hid hlt)
    | ((with_reducible refine (num_any s1 _ B P HS1.out).mono ?_); rintro e w2 ⟨x2, rfl, s2, HR2, HS2, HT2⟩; have HLn2 : Hid (s2.l.length ≤ s0.l.length) := Lib.hid (Nat.le_trans HR2.out.2 HLn1.out); have HZ2 := Lib.hid (tn_box HT2.out HZ1.out HNe.out); have HW2 : Hid (Tn P w0 w2) := Lib.hid (tn_trans HW1.out HT2.out); have hz := cellOf' HZ2.out; have hy := frozOf' HZ2.out; have hlt := lt_of_block HZ2.out; have HLt2 := Lib.hid hlt)
    | ((with_reducible refine (rows_bo s2 _ B P HS2.out (by have := HLn2.out; have := HLim.out; omega)).mono ?_); rintro e w3 ⟨x3, A3, c3, rfl, HA3, HE3, s3, HR3, HS3, HT3⟩; have HLn3 : Hid (s3.l.length ≤ s0.l.length) := Lib.hid (Nat.le_trans HR3.out.2 HLn2.out); have HZ3 := Lib.hid (tn_box HT3.out HZ2.out HNe.out); have HW3 : Hid (Tn P w0 w3) := Lib.hid (tn_trans HW2.out HT3.out); have hz := cellOf' HZ3.out; have hy := frozOf' HZ3.out; have hlt := lt_of_block HZ3.out; have HLt3 := Lib.hid hlt))
  refine bodyPost_ret (by simp [results, Tryz.results75, go_sem, hz]; try rfl) rfl ?_
  have hS := HS3.out.set (b := w.heap.size) hP [.int .i64 x1, .int .i64 x2, .slice A3 x3.length c3] 0
  have hT := tn_sets (tn_trans HT0.out HW3.out) (Nat.le_refl _) [.int .i64 x1, .int .i64 x2, .slice A3 x3.length c3] 0
  exact ⟨x1, x2, x3, A3, c3, rfl, Lib.hid (HA3.out.kp (kp_sets (tn_refl P w3) (by have := HLt2.out; omega) HLt2.out [.int .i64 x1, .int .i64 x2, .slice A3 x3.length c3] 0) (fun k _ hk => by have := HLt2.out; omega)), rn_of (HR1.out.bind (HR2.out.bind (HR3.out.bind (Rp.pure _ _)))) hS hT⟩
set_option maxRecDepth 20000 in
set_option maxHeartbeats 8000000 in
theorem ab_take (s0 : St) (w : World) (B P : Nat) (h : RS w B P s0) (hl : s0.l.length ≤ 400000) : Calls Tryz.prog 70 #[pt P] w fun e w' => ∃ x : Ab, e = .returned (abv x) ∧ Hid (FrA x w' (fun b => b < w.heap.size)) ∧ Rn pAb B P w s0 x.pl w' := by
  have hN := heap_alloc_new w (.cells #[.int .i64 0, .int .i64 0, .int .i64 0, .int .i64 0, .int .i64 0, .int .i64 0, .bool false, .slice none 0 0] 52)
  have HS0 := Lib.hid (h.alloc (.cells #[.int .i64 0, .int .i64 0, .int .i64 0, .int .i64 0, .int .i64 0, .int .i64 0, .bool false, .slice none 0 0] 52)); have hP := h.lt; have hBP := h.le; have HLim := Lib.hid hl
  have HT0 : Hid (Tn P w (w.alloc (.cells #[.int .i64 0, .int .i64 0, .int .i64 0, .int .i64 0, .int .i64 0, .int .i64 0, .bool false, .slice none 0 0] 52))) := Lib.hid (tn_alloc (tn_refl P w) _)
  have HNe : Hid (w.heap.size ≠ P) := Lib.hid (by omega)
  have HLn0 : Hid (s0.l.length ≤ s0.l.length) := Lib.hid (Nat.le_refl _)
  clear h hl
  go_enter Tryz.func70, Tryz.ntmps70
  go_wp2_with (fail)
  generalize hw0 : w.alloc (.cells #[.int .i64 0, .int .i64 0, .int .i64 0, .int .i64 0, .int .i64 0, .int .i64 0, .bool false, .slice none 0 0] 52) = w0 at *
  have HZ0 := Lib.hid hN; have HW0 : Hid (Tn P w0 w0) := Lib.hid (tn_refl P w0)
  clear hN hw0
  have hz := cellOf' HZ0.out; have hy := frozOf' HZ0.out; have hlt := lt_of_block HZ0.out; have HLt0 := Lib.hid hlt
  go_wp2_with (first
    | ((with_reducible refine (num_any s0 _ B P HS0.out).mono ?_); rintro e w1 ⟨x1, rfl, s1, HR1, HS1, HT1⟩; have HLn1 : Hid (s1.l.length ≤ s0.l.length) := Lib.hid (Nat.le_trans HR1.out.2 HLn0.out); have HZ1 := Lib.hid (tn_box HT1.out HZ0.out HNe.out); have HW1 : Hid (Tn P w0 w1) := Lib.hid (tn_trans HW0.out HT1.out); have hz := cellOf' HZ1.out; have hy := frozOf' HZ1.out; have hlt := lt_of_block HZ1.out; have HLt1 := Lib.hid hlt)
    | ((with_reducible refine (num_any s1 _ B P HS1.out).mono ?_); rintro e w2 ⟨x2, rfl, s2, HR2, HS2, HT2⟩; have HLn2 : Hid (s2.l.length ≤ s0.l.length) := Lib.hid (Nat.le_trans HR2.out.2 HLn1.out); have HZ2 := Lib.hid (tn_box HT2.out HZ1.out HNe.out); have HW2 : Hid (Tn P w0 w2) := Lib.hid (tn_trans HW1.out HT2.out); have hz := cellOf' HZ2.out; have hy := frozOf' HZ2.out; have hlt := lt_of_block HZ2.out; have HLt2 := Lib.hid hlt)
    | ((with_reducible refine (num_any s2 _ B P HS2.out).mono ?_); rintro e w3 ⟨x3, rfl, s3, HR3, HS3, HT3⟩; have HLn3 : Hid (s3.l.length ≤ s0.l.length) := Lib.hid (Nat.le_trans HR3.out.2 HLn2.out); have HZ3 := Lib.hid (tn_box HT3.out HZ2.out HNe.out); have HW3 : Hid (Tn P w0 w3) := Lib.hid (tn_trans HW2.out HT3.out); have hz := cellOf' HZ3.out; have hy := frozOf' HZ3.out; have hlt := lt_of_block HZ3.out; have HLt3 := Lib.hid hlt)
    | ((with_reducible refine (num_any s3 _ B P HS3.out).mono ?_); rintro e w4 ⟨x4, rfl, s4, HR4, HS4, HT4⟩; have HLn4 : Hid (s4.l.length ≤ s0.l.length) := Lib.hid (Nat.le_trans HR4.out.2 HLn3.out); have HZ4 := Lib.hid (tn_box HT4.out HZ3.out HNe.out); have HW4 : Hid (Tn P w0 w4) := Lib.hid (tn_trans HW3.out HT4.out); have hz := cellOf' HZ4.out; have hy := frozOf' HZ4.out; have hlt := lt_of_block HZ4.out; have HLt4 := Lib.hid hlt)
    | ((with_reducible refine (num_any s4 _ B P HS4.out).mono ?_); rintro e w5 ⟨x5, rfl, s5, HR5, HS5, HT5⟩; have HLn5 : Hid (s5.l.length ≤ s0.l.length) := Lib.hid (Nat.le_trans HR5.out.2 HLn4.out); have HZ5 := Lib.hid (tn_box HT5.out HZ4.out HNe.out); have HW5 : Hid (Tn P w0 w5) := Lib.hid (tn_trans HW4.out HT5.out); have hz := cellOf' HZ5.out; have hy := frozOf' HZ5.out; have hlt := lt_of_block HZ5.out; have HLt5 := Lib.hid hlt)
    | ((with_reducible refine (num_any s5 _ B P HS5.out).mono ?_); rintro e w6 ⟨x6, rfl, s6, HR6, HS6, HT6⟩; have HLn6 : Hid (s6.l.length ≤ s0.l.length) := Lib.hid (Nat.le_trans HR6.out.2 HLn5.out); have HZ6 := Lib.hid (tn_box HT6.out HZ5.out HNe.out); have HW6 : Hid (Tn P w0 w6) := Lib.hid (tn_trans HW5.out HT6.out); have hz := cellOf' HZ6.out; have hy := frozOf' HZ6.out; have hlt := lt_of_block HZ6.out; have HLt6 := Lib.hid hlt)
    | ((with_reducible refine (tru_any s6 _ B P HS6.out).mono ?_); rintro e w7 ⟨x7, rfl, s7, HR7, HS7, HT7⟩; have HLn7 : Hid (s7.l.length ≤ s0.l.length) := Lib.hid (Nat.le_trans HR7.out.2 HLn6.out); have HZ7 := Lib.hid (tn_box HT7.out HZ6.out HNe.out); have HW7 : Hid (Tn P w0 w7) := Lib.hid (tn_trans HW6.out HT7.out); have hz := cellOf' HZ7.out; have hy := frozOf' HZ7.out; have hlt := lt_of_block HZ7.out; have HLt7 := Lib.hid hlt)
    | ((with_reducible refine (rows_ef s7 _ B P HS7.out (by have := HLn7.out; have := HLim.out; omega)).mono ?_); rintro e w8 ⟨x8, A8, c8, rfl, HA8, HE8, s8, HR8, HS8, HT8⟩; have HLn8 : Hid (s8.l.length ≤ s0.l.length) := Lib.hid (Nat.le_trans HR8.out.2 HLn7.out); have HZ8 := Lib.hid (tn_box HT8.out HZ7.out HNe.out); have HW8 : Hid (Tn P w0 w8) := Lib.hid (tn_trans HW7.out HT8.out); have hz := cellOf' HZ8.out; have hy := frozOf' HZ8.out; have hlt := lt_of_block HZ8.out; have HLt8 := Lib.hid hlt))
  refine bodyPost_ret (by simp [results, Tryz.results70, go_sem, hz]; try rfl) rfl ?_
  have hS := HS8.out.set (b := w.heap.size) hP [.int .i64 x1, .int .i64 x2, .int .i64 x3, .int .i64 x4, .int .i64 x5, .int .i64 x6, .bool x7, .slice A8 x8.length c8] 0
  have hT := tn_sets (tn_trans HT0.out HW8.out) (Nat.le_refl _) [.int .i64 x1, .int .i64 x2, .int .i64 x3, .int .i64 x4, .int .i64 x5, .int .i64 x6, .bool x7, .slice A8 x8.length c8] 0
  exact ⟨⟨x1, x2, x3, x4, x5, x6, x7, A8, c8, x8⟩, rfl, Lib.hid (HA8.out.kp (kp_sets (tn_refl P w8) (by have := HLt7.out; omega) HLt7.out [.int .i64 x1, .int .i64 x2, .int .i64 x3, .int .i64 x4, .int .i64 x5, .int .i64 x6, .bool x7, .slice A8 x8.length c8] 0) (fun k _ hk => by have := HLt7.out; omega)), rn_of (HR1.out.bind (HR2.out.bind (HR3.out.bind (HR4.out.bind (HR5.out.bind (HR6.out.bind (HR7.out.bind (HR8.out.bind (Rp.pure _ _))))))))) hS hT⟩
set_option maxRecDepth 20000 in
set_option maxHeartbeats 8000000 in
theorem fo_take (s0 : St) (w : World) (B P : Nat) (h : RS w B P s0) (hl : s0.l.length ≤ 400000) : Calls Tryz.prog 74 #[pt P] w fun e w' => ∃ x : Fo, e = .returned (fov x) ∧ Hid (FrF x w' (fun b => b < w.heap.size)) ∧ Rn pFo B P w s0 x.pl w' := by
  have hN := heap_alloc_new w (.cells #[.int .i64 0, .int .i64 0, .int .i64 0, .int .i64 0, .int .i64 0, .slice none 0 0, .slice none 0 0, .int .i64 0] 56)
  have HS0 := Lib.hid (h.alloc (.cells #[.int .i64 0, .int .i64 0, .int .i64 0, .int .i64 0, .int .i64 0, .slice none 0 0, .slice none 0 0, .int .i64 0] 56)); have hP := h.lt; have hBP := h.le; have HLim := Lib.hid hl
  have HT0 : Hid (Tn P w (w.alloc (.cells #[.int .i64 0, .int .i64 0, .int .i64 0, .int .i64 0, .int .i64 0, .slice none 0 0, .slice none 0 0, .int .i64 0] 56))) := Lib.hid (tn_alloc (tn_refl P w) _)
  have HNe : Hid (w.heap.size ≠ P) := Lib.hid (by omega)
  have HLn0 : Hid (s0.l.length ≤ s0.l.length) := Lib.hid (Nat.le_refl _)
  clear h hl
  go_enter Tryz.func74, Tryz.ntmps74
  go_wp2_with (fail)
  generalize hw0 : w.alloc (.cells #[.int .i64 0, .int .i64 0, .int .i64 0, .int .i64 0, .int .i64 0, .slice none 0 0, .slice none 0 0, .int .i64 0] 56) = w0 at *
  have HZ0 := Lib.hid hN; have HW0 : Hid (Tn P w0 w0) := Lib.hid (tn_refl P w0)
  clear hN hw0
  have hz := cellOf' HZ0.out; have hy := frozOf' HZ0.out; have hlt := lt_of_block HZ0.out; have HLt0 := Lib.hid hlt
  go_wp2_with (first
    | ((with_reducible refine (num_any s0 _ B P HS0.out).mono ?_); rintro e w1 ⟨x1, rfl, s1, HR1, HS1, HT1⟩; have HLn1 : Hid (s1.l.length ≤ s0.l.length) := Lib.hid (Nat.le_trans HR1.out.2 HLn0.out); have HZ1 := Lib.hid (tn_box HT1.out HZ0.out HNe.out); have HW1 : Hid (Tn P w0 w1) := Lib.hid (tn_trans HW0.out HT1.out); have hz := cellOf' HZ1.out; have hy := frozOf' HZ1.out; have hlt := lt_of_block HZ1.out; have HLt1 := Lib.hid hlt)
    | ((with_reducible refine (num_any s1 _ B P HS1.out).mono ?_); rintro e w2 ⟨x2, rfl, s2, HR2, HS2, HT2⟩; have HLn2 : Hid (s2.l.length ≤ s0.l.length) := Lib.hid (Nat.le_trans HR2.out.2 HLn1.out); have HZ2 := Lib.hid (tn_box HT2.out HZ1.out HNe.out); have HW2 : Hid (Tn P w0 w2) := Lib.hid (tn_trans HW1.out HT2.out); have hz := cellOf' HZ2.out; have hy := frozOf' HZ2.out; have hlt := lt_of_block HZ2.out; have HLt2 := Lib.hid hlt)
    | ((with_reducible refine (num_any s2 _ B P HS2.out).mono ?_); rintro e w3 ⟨x3, rfl, s3, HR3, HS3, HT3⟩; have HLn3 : Hid (s3.l.length ≤ s0.l.length) := Lib.hid (Nat.le_trans HR3.out.2 HLn2.out); have HZ3 := Lib.hid (tn_box HT3.out HZ2.out HNe.out); have HW3 : Hid (Tn P w0 w3) := Lib.hid (tn_trans HW2.out HT3.out); have hz := cellOf' HZ3.out; have hy := frozOf' HZ3.out; have hlt := lt_of_block HZ3.out; have HLt3 := Lib.hid hlt)
    | ((with_reducible refine (num_any s3 _ B P HS3.out).mono ?_); rintro e w4 ⟨x4, rfl, s4, HR4, HS4, HT4⟩; have HLn4 : Hid (s4.l.length ≤ s0.l.length) := Lib.hid (Nat.le_trans HR4.out.2 HLn3.out); have HZ4 := Lib.hid (tn_box HT4.out HZ3.out HNe.out); have HW4 : Hid (Tn P w0 w4) := Lib.hid (tn_trans HW3.out HT4.out); have hz := cellOf' HZ4.out; have hy := frozOf' HZ4.out; have hlt := lt_of_block HZ4.out; have HLt4 := Lib.hid hlt)
    | ((with_reducible refine (num_any s4 _ B P HS4.out).mono ?_); rintro e w5 ⟨x5, rfl, s5, HR5, HS5, HT5⟩; have HLn5 : Hid (s5.l.length ≤ s0.l.length) := Lib.hid (Nat.le_trans HR5.out.2 HLn4.out); have HZ5 := Lib.hid (tn_box HT5.out HZ4.out HNe.out); have HW5 : Hid (Tn P w0 w5) := Lib.hid (tn_trans HW4.out HT5.out); have hz := cellOf' HZ5.out; have hy := frozOf' HZ5.out; have hlt := lt_of_block HZ5.out; have HLt5 := Lib.hid hlt)
    | ((with_reducible refine (num_any s5 _ B P HS5.out).mono ?_); rintro e w6 ⟨x6, rfl, s6, HR6, HS6, HT6⟩; have HLn6 : Hid (s6.l.length ≤ s0.l.length) := Lib.hid (Nat.le_trans HR6.out.2 HLn5.out); have HZ6 := Lib.hid (tn_box HT6.out HZ5.out HNe.out); have HW6 : Hid (Tn P w0 w6) := Lib.hid (tn_trans HW5.out HT6.out); have hz := cellOf' HZ6.out; have hy := frozOf' HZ6.out; have hlt := lt_of_block HZ6.out; have HLt6 := Lib.hid hlt)
    | ((with_reducible refine (rows_ln s6 _ B P HS6.out (by have := HLn6.out; have := HLim.out; omega)).mono ?_); rintro e w7 ⟨x7, A7, c7, rfl, HA7, HE7, s7, HR7, HS7, HT7⟩; have HLn7 : Hid (s7.l.length ≤ s0.l.length) := Lib.hid (Nat.le_trans HR7.out.2 HLn6.out); have HZ7 := Lib.hid (tn_box HT7.out HZ6.out HNe.out); have HW7 : Hid (Tn P w0 w7) := Lib.hid (tn_trans HW6.out HT7.out); have hz := cellOf' HZ7.out; have hy := frozOf' HZ7.out; have hlt := lt_of_block HZ7.out; have HLt7 := Lib.hid hlt)
    | ((with_reducible refine (rows_pz s7 _ B P HS7.out (by have := HLn7.out; have := HLim.out; omega)).mono ?_); rintro e w8 ⟨x8, A8, c8, rfl, HA8, HE8, s8, HR8, HS8, HT8⟩; have HLn8 : Hid (s8.l.length ≤ s0.l.length) := Lib.hid (Nat.le_trans HR8.out.2 HLn7.out); have HZ8 := Lib.hid (tn_box HT8.out HZ7.out HNe.out); have HW8 : Hid (Tn P w0 w8) := Lib.hid (tn_trans HW7.out HT8.out); have hz := cellOf' HZ8.out; have hy := frozOf' HZ8.out; have hlt := lt_of_block HZ8.out; have HLt8 := Lib.hid hlt))
  refine bodyPost_ret (by simp [results, Tryz.results74, go_sem, hz]; try rfl) rfl ?_
  have hS := HS8.out.set (b := w.heap.size) hP [.int .i64 x1, .int .i64 x2, .int .i64 x3, .int .i64 x4, .int .i64 x5, .slice A7 x7.length c7, .slice A8 x8.length c8, .int .i64 x6] 0
  have hT := tn_sets (tn_trans HT0.out HW8.out) (Nat.le_refl _) [.int .i64 x1, .int .i64 x2, .int .i64 x3, .int .i64 x4, .int .i64 x5, .slice A7 x7.length c7, .slice A8 x8.length c8, .int .i64 x6] 0
  exact ⟨⟨x1, x2, x3, x4, x5, A7, c7, x7, A8, c8, x8, x6⟩, rfl, Lib.hid ⟨HA7.out.kp (kp_sets HT8.out (by have := HLt6.out; omega) HLt6.out [.int .i64 x1, .int .i64 x2, .int .i64 x3, .int .i64 x4, .int .i64 x5, .slice A7 x7.length c7, .slice A8 x8.length c8, .int .i64 x6] 0) (fun k _ hk => by have := HLt6.out; omega), HA8.out.kp (kp_sets (tn_refl P w8) (by have := HLt7.out; omega) HLt7.out [.int .i64 x1, .int .i64 x2, .int .i64 x3, .int .i64 x4, .int .i64 x5, .slice A7 x7.length c7, .slice A8 x8.length c8, .int .i64 x6] 0) (fun k _ hk => by have := HLt7.out; omega)⟩, rn_of (HR1.out.bind (HR2.out.bind (HR3.out.bind (HR4.out.bind (HR5.out.bind (HR6.out.bind (HR7.out.bind (HR8.out.bind (Rp.pure _ _))))))))) hS hT⟩
set_option maxRecDepth 20000 in
set_option maxHeartbeats 8000000 in
theorem rows_ab (s0 : St) (w : World) (B P : Nat) (h : RS w B P s0) (hl : s0.l.length ≤ 400000) : Calls Tryz.prog 69 #[pt P, .func (.func 70) #[pt P] #[]] w fun e w' => ∃ (out : List Ab) (A : Option Addr) (c : Nat), e = .returned (.slice A out.length c) ∧ Hid (AW ab w' (fun b => b < w.heap.size) A out) ∧ Hid (∀ a ∈ out, FrA a w' (fun b => b < w.heap.size)) ∧ Rn (pRows pAb) B P w s0 (out.map Ab.pl) w' := by
  have hP := h.lt
  have HS0 := Lib.hid h; have HL0 := Lib.hid hl
  clear h hl
  go_enter Tryz.func69, Tryz.ntmps69
  go_wp2_with (fail)
  (with_reducible refine (num_any s0 _ B P HS0.out).mono ?_); rintro e w1 ⟨n, rfl, s1, HR1, HS1, HT1⟩
  by_cases hn : n < 0
  · have Hn := Lib.hid hn
    obtain ⟨A, c, hz, hy, hP1⟩ := HS1.out.cells
    go_wp2
    generalize hw : w1.setCell ⟨P, 1, none⟩ (.bool true) = w2 at *
    have HS2 : Hid (RS w2 B P ⟨s1.l, true⟩) := Lib.hid (hw ▸ HS1.out.fail)
    have HT2 : Hid (Tn P w w2) := Lib.hid (hw ▸ tn_trans HT1.out (tn_set w1 1 _))
    clear hw hz hy
    go_loopg [6, 16] 0 (fun g s6 s16 wr => g = 0 ∧ s6 = .slice none 0 0 ∧ s16 = .int .i64 0 ∧ Hid (wr = w2))
    case atStart => exact ⟨rfl, rfl, rfl, Lib.hid rfl⟩
    case round =>
      obtain ⟨rfl, rfl, rfl, HW⟩ := hrel
      have hn' : decide (0 < n) = false := by have := Hn.out; simp; omega
      go_wp2
      go_ret
      refine ⟨[], none, 0, rfl, Lib.hid (.inl rfl), Lib.hid (by simp), ⟨⟨s1.l, true⟩, Lib.hid (HR1.out.rows_neg Hn.out _), Lib.hid ?_, Lib.hid ?_⟩⟩
      · rw [HW.out]; exact HS2.out
      · rw [HW.out]; exact HT2.out
  · obtain ⟨K, rfl⟩ := Int.eq_ofNat_of_zero_le (show 0 ≤ n by omega)
    have hn' : decide ((K : Int) < 0) = false := by simp
    clear hn
    have HL1 : Hid (s1.l.length ≤ 400000) := Lib.hid (Nat.le_trans HR1.out.2 HL0.out)
    go_wp2_with (fail)
    go_loopg [6, 16] K (fun g s6 s16 wr => ∃ (k : Nat) (out : List Ab) (A1 : Option Addr) (c1 : Nat) (sk : St), k ≤ K ∧ g = K - k ∧ s6 = .slice A1 out.length c1 ∧ s16 = .int .i64 (k : Int) ∧ (k : Int) ≤ 400000 ∧ Hid (GR ab FrA w.heap.size wr A1 c1 out) ∧ Hid (RS wr B P sk) ∧ Hid (Tn P w wr) ∧ Hid (Rp (pMany pAb k) s1 (out.map Ab.pl) sk) ∧ Hid (k = out.length ∧ out.length ≤ s1.l.length) ∧ Hid (k = 0 ∨ sk.f = false) ∧ Hid (sk.l.length ≤ 400000))
    case atStart => exact ⟨0, [], none, 0, s1, by omega, rfl, rfl, rfl, by omega, Lib.hid (GR.nil _), HS1, HT1, Lib.hid (Rp.pure _ _), Lib.hid ⟨rfl, by simp⟩, Lib.hid (.inl rfl), HL1⟩
    case round =>
      obtain ⟨k, out, A1, c1, sk, hk, rfl, rfl, rfl, hkb, HG, HSk, HTk, HRk, HKo, HKf, HLk⟩ := hrel
      by_cases hlt : k < K
      · have hkl' : (k : Int) < K := by omega
        have hPw : P < wr.heap.size := HSk.out.lt
        go_wp2_with (fail)
        (with_reducible refine (ab_take sk _ B P HSk.out (by have := HLk.out; omega)).mono ?_); rintro e w2 ⟨x, rfl, HX, s2, HR2, HS2, HT2⟩
        obtain ⟨l2, f2⟩ := s2
        cases f2 with
        | true =>
          obtain ⟨A, c, hz, hy, hP2⟩ := HS2.out.cells
          go_wp2
          go_ret
          exact ⟨[], none, 0, rfl, Lib.hid (.inl rfl), Lib.hid (by simp), rn_of (HR1.out.rows (Rp.stop (HRk.out.snoc HR2.out) rfl (by omega))) (HS2.out.alloc _) (tn_alloc (tn_trans HTk.out HT2.out) _)⟩
        | false =>
          obtain ⟨A, c, hz, hy, hP2⟩ := HS2.out.cells
          have HM : Hid (∃ r, pMany pAb (k + 1) s1.l = some (r, l2) ∧ r.length = out.length + 1) := Lib.hid ⟨_, ((HRk.out.snoc HR2.out).ok rfl).2, by simp⟩
          have HB := Lib.hid (many_len (eatsAb.less (d := 1) (by omega)) HM.out.choose_spec.1)
          have hout : out.length + 1 ≤ 400000 := by have := HB.out; have := HM.out.choose_spec.2; have := HL1.out; omega
          have HG2 : Hid (GR ab FrA w.heap.size w2 A1 c1 out) := Lib.hid (HG.out.turn frA_stab HT2.out hP)
          have hww : w.heap.size ≤ wr.heap.size := HTk.out.size
          have hw2 : wr.heap.size ≤ w2.heap.size := HT2.out.size
          have HG2 : Hid (GR ab FrA w.heap.size (w2.alloc (.cells #[.int .i64 x.id, .int .i64 x.cast, .int .i64 x.cool, .int .i64 x.charges, .int .i64 x.range, .int .i64 x.cost, .bool x.sight, .slice x.ea x.eff.length x.ec] 52)) A1 c1 out) := Lib.hid (HG2.out.turn (P := P) frA_stab (tn_alloc (tn_refl P w2) _) hP)
          have HGp : Hid (GR ab FrA w.heap.size ((w2.alloc (.cells #[.int .i64 x.id, .int .i64 x.cast, .int .i64 x.cool, .int .i64 x.charges, .int .i64 x.range, .int .i64 x.cost, .bool x.sight, .slice x.ea x.eff.length x.ec] 52)).alloc (.cells #[.int .i64 x.id, .int .i64 x.cast, .int .i64 x.cool, .int .i64 x.charges, .int .i64 x.range, .int .i64 x.cost, .bool x.sight, .slice x.ea x.eff.length x.ec] 52)) A1 c1 out) := Lib.hid (HG2.out.turn (P := P) frA_stab (tn_alloc (tn_refl P _) _) hP)
          have HAp : Hid (OW ab ((w2.alloc (.cells #[.int .i64 x.id, .int .i64 x.cast, .int .i64 x.cool, .int .i64 x.charges, .int .i64 x.range, .int .i64 x.cost, .bool x.sight, .slice x.ea x.eff.length x.ec] 52)).alloc (.cells #[.int .i64 x.id, .int .i64 x.cast, .int .i64 x.cool, .int .i64 x.charges, .int .i64 x.range, .int .i64 x.cost, .bool x.sight, .slice x.ea x.eff.length x.ec] 52)) w.heap.size (.slice A1 out.length c1) out) := Lib.hid HGp.out.own
          go_wp2_with (at_builtin; refine Con.wpList_app ab rfl 22 rfl (.tmp 24) (.tmp 26) rfl w.heap.size (w2.heap.size + 2) (.slice A1 out.length c1) out [x] (some ⟨w2.heap.size + 1, 0, none⟩) 1 1 rfl rfl rfl HAp.out (rw_one1 rfl (by simp) (by simp)) (by simp; omega) (by simp; omega) ?_; intro A3 c3 w3 lm HLm HO3 HG3 HW3)
          go_roundg (K - (k + 1))
          case measure => omega
          case rel =>
            have hP3 : P < w.heap.size := hP
            have hRS : RS w3 B P ⟨l2, false⟩ := ((HS2.out.alloc _).alloc _).grown HG3.out (N := w.heap.size) (fun b hb => (HGp.out.own.blk hb).1) hP3
            have hTn : Tn P w w3 := tn_app (tn_alloc (tn_alloc (tn_trans HTk.out HT2.out) _) _) HGp.out.own HG3.out
            exact ⟨k + 1, lm, A3, c3, ⟨l2, false⟩, by omega, rfl, rfl, by go_num, (by have h1 := HKo.out; omega), Lib.hid (GR.app HGp.out frA_stab (M := wr.heap.size) (frA_stab _ _ _ _ _ HX.out ⟨by simp; omega, fun k9 hk9 _ => by rw [Below.heap_alloc _ _ _ (by simp; omega), Below.heap_alloc _ _ _ hk9]⟩ (fun _ _ h => h)) (by omega) (fun b hb => (HG.out.own.blk hb).2.1) (HG3.out) HO3.out HLm.out HW3.out), Lib.hid hRS, Lib.hid hTn, Lib.hid (by rw [HLm.out, List.map_append]; exact HRk.out.snoc HR2.out), Lib.hid (by have h1 := HKo.out; have h2 := HB.out; have h3 := HM.out.choose_spec.2; rw [HLm.out]; simp; omega), Lib.hid (.inr rfl), Lib.hid (Nat.le_trans HR2.out.2 HLk.out)⟩
      · have hkk : k = K := by omega
        subst hkk
        have hkl' : decide ((k : Int) < k) = false := by simp
        go_wp2
        go_ret
        obtain ⟨g1, g2⟩ := HG.out.fin frA_stab
        exact ⟨out, A1, c1, rfl, Lib.hid g1, Lib.hid g2, rn_of (HR1.out.rows HRk.out) HSk.out HTk.out⟩
set_option maxRecDepth 20000 in
set_option maxHeartbeats 8000000 in
theorem rows_fo (s0 : St) (w : World) (B P : Nat) (h : RS w B P s0) (hl : s0.l.length ≤ 400000) : Calls Tryz.prog 73 #[pt P, .func (.func 74) #[pt P] #[]] w fun e w' => ∃ (out : List Fo) (A : Option Addr) (c : Nat), e = .returned (.slice A out.length c) ∧ Hid (AW fo w' (fun b => b < w.heap.size) A out) ∧ Hid (∀ a ∈ out, FrF a w' (fun b => b < w.heap.size)) ∧ Rn (pRows pFo) B P w s0 (out.map Fo.pl) w' := by
  have hP := h.lt
  have HS0 := Lib.hid h; have HL0 := Lib.hid hl
  clear h hl
  go_enter Tryz.func73, Tryz.ntmps73
  go_wp2_with (fail)
  (with_reducible refine (num_any s0 _ B P HS0.out).mono ?_); rintro e w1 ⟨n, rfl, s1, HR1, HS1, HT1⟩
  by_cases hn : n < 0
  · have Hn := Lib.hid hn
    obtain ⟨A, c, hz, hy, hP1⟩ := HS1.out.cells
    go_wp2
    generalize hw : w1.setCell ⟨P, 1, none⟩ (.bool true) = w2 at *
    have HS2 : Hid (RS w2 B P ⟨s1.l, true⟩) := Lib.hid (hw ▸ HS1.out.fail)
    have HT2 : Hid (Tn P w w2) := Lib.hid (hw ▸ tn_trans HT1.out (tn_set w1 1 _))
    clear hw hz hy
    go_loopg [6, 16] 0 (fun g s6 s16 wr => g = 0 ∧ s6 = .slice none 0 0 ∧ s16 = .int .i64 0 ∧ Hid (wr = w2))
    case atStart => exact ⟨rfl, rfl, rfl, Lib.hid rfl⟩
    case round =>
      obtain ⟨rfl, rfl, rfl, HW⟩ := hrel
      have hn' : decide (0 < n) = false := by have := Hn.out; simp; omega
      go_wp2
      go_ret
      refine ⟨[], none, 0, rfl, Lib.hid (.inl rfl), Lib.hid (by simp), ⟨⟨s1.l, true⟩, Lib.hid (HR1.out.rows_neg Hn.out _), Lib.hid ?_, Lib.hid ?_⟩⟩
      · rw [HW.out]; exact HS2.out
      · rw [HW.out]; exact HT2.out
  · obtain ⟨K, rfl⟩ := Int.eq_ofNat_of_zero_le (show 0 ≤ n by omega)
    have hn' : decide ((K : Int) < 0) = false := by simp
    clear hn
    have HL1 : Hid (s1.l.length ≤ 400000) := Lib.hid (Nat.le_trans HR1.out.2 HL0.out)
    go_wp2_with (fail)
    go_loopg [6, 16] K (fun g s6 s16 wr => ∃ (k : Nat) (out : List Fo) (A1 : Option Addr) (c1 : Nat) (sk : St), k ≤ K ∧ g = K - k ∧ s6 = .slice A1 out.length c1 ∧ s16 = .int .i64 (k : Int) ∧ (k : Int) ≤ 400000 ∧ Hid (GR fo FrF w.heap.size wr A1 c1 out) ∧ Hid (RS wr B P sk) ∧ Hid (Tn P w wr) ∧ Hid (Rp (pMany pFo k) s1 (out.map Fo.pl) sk) ∧ Hid (k = out.length ∧ out.length ≤ s1.l.length) ∧ Hid (k = 0 ∨ sk.f = false) ∧ Hid (sk.l.length ≤ 400000))
    case atStart => exact ⟨0, [], none, 0, s1, by omega, rfl, rfl, rfl, by omega, Lib.hid (GR.nil _), HS1, HT1, Lib.hid (Rp.pure _ _), Lib.hid ⟨rfl, by simp⟩, Lib.hid (.inl rfl), HL1⟩
    case round =>
      obtain ⟨k, out, A1, c1, sk, hk, rfl, rfl, rfl, hkb, HG, HSk, HTk, HRk, HKo, HKf, HLk⟩ := hrel
      by_cases hlt : k < K
      · have hkl' : (k : Int) < K := by omega
        have hPw : P < wr.heap.size := HSk.out.lt
        go_wp2_with (fail)
        (with_reducible refine (fo_take sk _ B P HSk.out (by have := HLk.out; omega)).mono ?_); rintro e w2 ⟨x, rfl, HX, s2, HR2, HS2, HT2⟩
        obtain ⟨l2, f2⟩ := s2
        cases f2 with
        | true =>
          obtain ⟨A, c, hz, hy, hP2⟩ := HS2.out.cells
          go_wp2
          go_ret
          exact ⟨[], none, 0, rfl, Lib.hid (.inl rfl), Lib.hid (by simp), rn_of (HR1.out.rows (Rp.stop (HRk.out.snoc HR2.out) rfl (by omega))) (HS2.out.alloc _) (tn_alloc (tn_trans HTk.out HT2.out) _)⟩
        | false =>
          obtain ⟨A, c, hz, hy, hP2⟩ := HS2.out.cells
          have HM : Hid (∃ r, pMany pFo (k + 1) s1.l = some (r, l2) ∧ r.length = out.length + 1) := Lib.hid ⟨_, ((HRk.out.snoc HR2.out).ok rfl).2, by simp⟩
          have HB := Lib.hid (many_len (eatsFo.less (d := 1) (by omega)) HM.out.choose_spec.1)
          have hout : out.length + 1 ≤ 400000 := by have := HB.out; have := HM.out.choose_spec.2; have := HL1.out; omega
          have HG2 : Hid (GR fo FrF w.heap.size w2 A1 c1 out) := Lib.hid (HG.out.turn frF_stab HT2.out hP)
          have hww : w.heap.size ≤ wr.heap.size := HTk.out.size
          have hw2 : wr.heap.size ≤ w2.heap.size := HT2.out.size
          have HG2 : Hid (GR fo FrF w.heap.size (w2.alloc (.cells #[.int .i64 x.id, .int .i64 x.health, .int .i64 x.hit, .int .i64 x.every, .int .i64 x.reach, .slice x.sa x.script.length x.sc, .slice x.ha x.hoard.length x.hc, .int .i64 x.drops] 56)) A1 c1 out) := Lib.hid (HG2.out.turn (P := P) frF_stab (tn_alloc (tn_refl P w2) _) hP)
          have HGp : Hid (GR fo FrF w.heap.size ((w2.alloc (.cells #[.int .i64 x.id, .int .i64 x.health, .int .i64 x.hit, .int .i64 x.every, .int .i64 x.reach, .slice x.sa x.script.length x.sc, .slice x.ha x.hoard.length x.hc, .int .i64 x.drops] 56)).alloc (.cells #[.int .i64 x.id, .int .i64 x.health, .int .i64 x.hit, .int .i64 x.every, .int .i64 x.reach, .slice x.sa x.script.length x.sc, .slice x.ha x.hoard.length x.hc, .int .i64 x.drops] 56)) A1 c1 out) := Lib.hid (HG2.out.turn (P := P) frF_stab (tn_alloc (tn_refl P _) _) hP)
          have HAp : Hid (OW fo ((w2.alloc (.cells #[.int .i64 x.id, .int .i64 x.health, .int .i64 x.hit, .int .i64 x.every, .int .i64 x.reach, .slice x.sa x.script.length x.sc, .slice x.ha x.hoard.length x.hc, .int .i64 x.drops] 56)).alloc (.cells #[.int .i64 x.id, .int .i64 x.health, .int .i64 x.hit, .int .i64 x.every, .int .i64 x.reach, .slice x.sa x.script.length x.sc, .slice x.ha x.hoard.length x.hc, .int .i64 x.drops] 56)) w.heap.size (.slice A1 out.length c1) out) := Lib.hid HGp.out.own
          go_wp2_with (at_builtin; refine Con.wpList_app fo rfl 24 rfl (.tmp 24) (.tmp 26) rfl w.heap.size (w2.heap.size + 2) (.slice A1 out.length c1) out [x] (some ⟨w2.heap.size + 1, 0, none⟩) 1 1 rfl rfl rfl HAp.out (rw_one1 rfl (by simp) (by simp)) (by simp; omega) (by simp; omega) ?_; intro A3 c3 w3 lm HLm HO3 HG3 HW3)
          go_roundg (K - (k + 1))
          case measure => omega
          case rel =>
            have hP3 : P < w.heap.size := hP
            have hRS : RS w3 B P ⟨l2, false⟩ := ((HS2.out.alloc _).alloc _).grown HG3.out (N := w.heap.size) (fun b hb => (HGp.out.own.blk hb).1) hP3
            have hTn : Tn P w w3 := tn_app (tn_alloc (tn_alloc (tn_trans HTk.out HT2.out) _) _) HGp.out.own HG3.out
            exact ⟨k + 1, lm, A3, c3, ⟨l2, false⟩, by omega, rfl, rfl, by go_num, (by have h1 := HKo.out; omega), Lib.hid (GR.app HGp.out frF_stab (M := wr.heap.size) (frF_stab _ _ _ _ _ HX.out ⟨by simp; omega, fun k9 hk9 _ => by rw [Below.heap_alloc _ _ _ (by simp; omega), Below.heap_alloc _ _ _ hk9]⟩ (fun _ _ h => h)) (by omega) (fun b hb => (HG.out.own.blk hb).2.1) (HG3.out) HO3.out HLm.out HW3.out), Lib.hid hRS, Lib.hid hTn, Lib.hid (by rw [HLm.out, List.map_append]; exact HRk.out.snoc HR2.out), Lib.hid (by have h1 := HKo.out; have h2 := HB.out; have h3 := HM.out.choose_spec.2; rw [HLm.out]; simp; omega), Lib.hid (.inr rfl), Lib.hid (Nat.le_trans HR2.out.2 HLk.out)⟩
      · have hkk : k = K := by omega
        subst hkk
        have hkl' : decide ((k : Int) < k) = false := by simp
        go_wp2
        go_ret
        obtain ⟨g1, g2⟩ := HG.out.fin frF_stab
        exact ⟨out, A1, c1, rfl, Lib.hid g1, Lib.hid g2, rn_of (HR1.out.rows HRk.out) HSk.out HTk.out⟩
set_option maxRecDepth 20000 in
set_option maxHeartbeats 8000000 in
theorem cn_take (s0 : St) (w : World) (B P : Nat) (h : RS w B P s0) (hl : s0.l.length ≤ 400000) : Calls Tryz.prog 38 #[pt P] w fun e w' => ∃ k : Cn, e = .returned (cnv k) ∧ Hid (NC w' w.heap.size k) ∧ Rn pCn B P w s0 k.pl w' := by
  have hN := heap_alloc_new w (.cells #[.slice none 0 0, .slice none 0 0, .slice none 0 0, .int .i64 0, .int .i64 0, .slice none 0 0, .int .i64 0, .int .i64 0, .int .i64 0, .int .i64 0] 31)
  have HS0 := Lib.hid (h.alloc (.cells #[.slice none 0 0, .slice none 0 0, .slice none 0 0, .int .i64 0, .int .i64 0, .slice none 0 0, .int .i64 0, .int .i64 0, .int .i64 0, .int .i64 0] 31)); have hP := h.lt; have hBP := h.le; have HLim := Lib.hid hl
  have HT0 : Hid (Tn P w (w.alloc (.cells #[.slice none 0 0, .slice none 0 0, .slice none 0 0, .int .i64 0, .int .i64 0, .slice none 0 0, .int .i64 0, .int .i64 0, .int .i64 0, .int .i64 0] 31))) := Lib.hid (tn_alloc (tn_refl P w) _)
  have HNe : Hid (w.heap.size ≠ P) := Lib.hid (by omega)
  have HLn0 : Hid (s0.l.length ≤ s0.l.length) := Lib.hid (Nat.le_refl _)
  clear h hl
  go_enter Tryz.func38, Tryz.ntmps38
  go_wp2_with (fail)
  generalize hw0 : w.alloc (.cells #[.slice none 0 0, .slice none 0 0, .slice none 0 0, .int .i64 0, .int .i64 0, .slice none 0 0, .int .i64 0, .int .i64 0, .int .i64 0, .int .i64 0] 31) = w0 at *
  have HZ0 := Lib.hid hN; have HW0 : Hid (Tn P w0 w0) := Lib.hid (tn_refl P w0)
  clear hN hw0
  have hz := cellOf' HZ0.out; have hy := frozOf' HZ0.out; have hlt := lt_of_block HZ0.out; have HLt0 := Lib.hid hlt
  go_wp2_with (first
    | ((with_reducible refine (rows_ab s0 _ B P HS0.out (by have := HLn0.out; have := HLim.out; omega)).mono ?_); rintro e w1 ⟨x1, A1, c1, rfl, HA1, HE1, s1, HR1, HS1, HT1⟩; have HLn1 : Hid (s1.l.length ≤ s0.l.length) := Lib.hid (Nat.le_trans HR1.out.2 HLn0.out); have HZ1 := Lib.hid (tn_box HT1.out HZ0.out HNe.out); have HW1 : Hid (Tn P w0 w1) := Lib.hid (tn_trans HW0.out HT1.out); have hz := cellOf' HZ1.out; have hy := frozOf' HZ1.out; have hlt := lt_of_block HZ1.out; have HLt1 := Lib.hid hlt)
    | ((with_reducible refine (rows_au s1 _ B P HS1.out (by have := HLn1.out; have := HLim.out; omega)).mono ?_); rintro e w2 ⟨x2, A2, c2, rfl, HA2, HE2, s2, HR2, HS2, HT2⟩; have HLn2 : Hid (s2.l.length ≤ s0.l.length) := Lib.hid (Nat.le_trans HR2.out.2 HLn1.out); have HZ2 := Lib.hid (tn_box HT2.out HZ1.out HNe.out); have HW2 : Hid (Tn P w0 w2) := Lib.hid (tn_trans HW1.out HT2.out); have hz := cellOf' HZ2.out; have hy := frozOf' HZ2.out; have hlt := lt_of_block HZ2.out; have HLt2 := Lib.hid hlt)
    | ((with_reducible refine (rows_fo s2 _ B P HS2.out (by have := HLn2.out; have := HLim.out; omega)).mono ?_); rintro e w3 ⟨x3, A3, c3, rfl, HA3, HE3, s3, HR3, HS3, HT3⟩; have HLn3 : Hid (s3.l.length ≤ s0.l.length) := Lib.hid (Nat.le_trans HR3.out.2 HLn2.out); have HZ3 := Lib.hid (tn_box HT3.out HZ2.out HNe.out); have HW3 : Hid (Tn P w0 w3) := Lib.hid (tn_trans HW2.out HT3.out); have hz := cellOf' HZ3.out; have hy := frozOf' HZ3.out; have hlt := lt_of_block HZ3.out; have HLt3 := Lib.hid hlt)
    | ((with_reducible refine (gr_take s3 _ B P HS3.out (by have := HLn3.out; have := HLim.out; omega)).mono ?_); rintro e w4 ⟨x4, y4, z4, A4, c4, rfl, HA4, s4, HR4, HS4, HT4⟩; have HLn4 : Hid (s4.l.length ≤ s0.l.length) := Lib.hid (Nat.le_trans HR4.out.2 HLn3.out); have HZ4 := Lib.hid (tn_box HT4.out HZ3.out HNe.out); have HW4 : Hid (Tn P w0 w4) := Lib.hid (tn_trans HW3.out HT4.out); have hz := cellOf' HZ4.out; have hy := frozOf' HZ4.out; have hlt := lt_of_block HZ4.out; have HLt4 := Lib.hid hlt)
    | ((with_reducible refine (po_take s4 _ B P HS4.out).mono ?_); rintro e w5 ⟨x5, y5, rfl, s5, HR5, HS5, HT5⟩; have HLn5 : Hid (s5.l.length ≤ s0.l.length) := Lib.hid (Nat.le_trans HR5.out.2 HLn4.out); have HZ5 := Lib.hid (tn_box HT5.out HZ4.out HNe.out); have HW5 : Hid (Tn P w0 w5) := Lib.hid (tn_trans HW4.out HT5.out); have hz := cellOf' HZ5.out; have hy := frozOf' HZ5.out; have hlt := lt_of_block HZ5.out; have HLt5 := Lib.hid hlt)
    | ((with_reducible refine (po_take s5 _ B P HS5.out).mono ?_); rintro e w6 ⟨x6, y6, rfl, s6, HR6, HS6, HT6⟩; have HLn6 : Hid (s6.l.length ≤ s0.l.length) := Lib.hid (Nat.le_trans HR6.out.2 HLn5.out); have HZ6 := Lib.hid (tn_box HT6.out HZ5.out HNe.out); have HW6 : Hid (Tn P w0 w6) := Lib.hid (tn_trans HW5.out HT6.out); have hz := cellOf' HZ6.out; have hy := frozOf' HZ6.out; have hlt := lt_of_block HZ6.out; have HLt6 := Lib.hid hlt))
  refine bodyPost_ret (by simp [results, Tryz.results38, go_sem, hz]; try rfl) rfl ?_
  have hS := HS6.out.set (b := w.heap.size) hP [.slice A1 x1.length c1, .slice A2 x2.length c2, .slice A3 x3.length c3, .int .i64 x4, .int .i64 y4, .slice A4 z4.length c4, .int .i64 x5, .int .i64 y5, .int .i64 x6, .int .i64 y6] 0
  have hT := tn_sets (tn_trans HT0.out HW6.out) (Nat.le_refl _) [.slice A1 x1.length c1, .slice A2 x2.length c2, .slice A3 x3.length c3, .int .i64 x4, .int .i64 y4, .slice A4 z4.length c4, .int .i64 x5, .int .i64 y5, .int .i64 x6, .int .i64 y6] 0
  refine ⟨⟨A1, c1, x1, A2, c2, x2, A3, c3, x3, x4, y4, A4, c4, z4, x5, y5, x6, y6⟩, rfl, Lib.hid ⟨(HA1.out.kp (kp_sets (tn_trans HT2.out (tn_trans HT3.out (tn_trans HT4.out (tn_trans HT5.out HT6.out)))) (by have := HLt0.out; omega) HLt0.out [.slice A1 x1.length c1, .slice A2 x2.length c2, .slice A3 x3.length c3, .int .i64 x4, .int .i64 y4, .slice A4 z4.length c4, .int .i64 x5, .int .i64 y5, .int .i64 x6, .int .i64 y6] 0) (fun k _ hk => by have := HLt0.out; omega)), (HA2.out.kp (kp_sets (tn_trans HT3.out (tn_trans HT4.out (tn_trans HT5.out HT6.out))) (by have := HLt1.out; omega) HLt1.out [.slice A1 x1.length c1, .slice A2 x2.length c2, .slice A3 x3.length c3, .int .i64 x4, .int .i64 y4, .slice A4 z4.length c4, .int .i64 x5, .int .i64 y5, .int .i64 x6, .int .i64 y6] 0) (fun k _ hk => by have := HLt1.out; omega)), (HA3.out.kp (kp_sets (tn_trans HT4.out (tn_trans HT5.out HT6.out)) (by have := HLt2.out; omega) HLt2.out [.slice A1 x1.length c1, .slice A2 x2.length c2, .slice A3 x3.length c3, .int .i64 x4, .int .i64 y4, .slice A4 z4.length c4, .int .i64 x5, .int .i64 y5, .int .i64 x6, .int .i64 y6] 0) (fun k _ hk => by have := HLt2.out; omega)), (HA4.out.kp (kp_sets (tn_trans HT5.out HT6.out) (by have := HLt3.out; omega) HLt3.out [.slice A1 x1.length c1, .slice A2 x2.length c2, .slice A3 x3.length c3, .int .i64 x4, .int .i64 y4, .slice A4 z4.length c4, .int .i64 x5, .int .i64 y5, .int .i64 x6, .int .i64 y6] 0) (fun k _ hk => by have := HLt3.out; omega)), fun a ha => ?_, fun a ha => ?_⟩, rn_of ?_ hS hT⟩
  · exact frA_stab a _ _ _ (fun b => b < w.heap.size) (HE1.out a ha) (kp_sets (tn_trans HT2.out (tn_trans HT3.out (tn_trans HT4.out (tn_trans HT5.out HT6.out)))) (by have := HLt0.out; omega) HLt0.out [.slice A1 x1.length c1, .slice A2 x2.length c2, .slice A3 x3.length c3, .int .i64 x4, .int .i64 y4, .slice A4 z4.length c4, .int .i64 x5, .int .i64 y5, .int .i64 x6, .int .i64 y6] 0) (fun k _ hk => by have := HLt0.out; omega)
  · exact frF_stab a _ _ _ (fun b => b < w.heap.size) (HE3.out a ha) (kp_sets (tn_trans HT4.out (tn_trans HT5.out HT6.out)) (by have := HLt2.out; omega) HLt2.out [.slice A1 x1.length c1, .slice A2 x2.length c2, .slice A3 x3.length c3, .int .i64 x4, .int .i64 y4, .slice A4 z4.length c4, .int .i64 x5, .int .i64 y5, .int .i64 x6, .int .i64 y6] 0) (fun k _ hk => by have := HLt2.out; omega)
  · rw [pCn_eq]
    exact HR1.out.bind (HR2.out.bind (HR3.out.bind (HR4.out.bind (HR5.out.bind (HR6.out.bind (Rp.pure _ _))))))
def zCn : Cn := ⟨none, 0, [], none, 0, [], none, 0, [], 0, 0, none, 0, [], 0, 0, 0, 0⟩
theorem rc_zero (w : World) (B : Nat) : RC w B zCn := ⟨.inl rfl, .inl rfl, .inl rfl, .inl rfl, fun _ ha => (by cases ha), fun _ ha => (by cases ha), fun _ ha => (by cases ha)⟩
theorem NC.mono {w : World} {N N' : Nat} {c : Cn} (h : NC w N c) (hN : N' ≤ N) : NC w N' c := by
  have s : ∀ k, k < w.heap.size → k < N' → k < N := fun k _ hk => by omega
  have r : Kp w w (fun k => k < N) := ⟨Nat.le_refl _, fun _ _ _ => rfl⟩
  exact ⟨h.abs.kp r s, h.aus.kp r s, h.fos.kp r s, h.wls.kp r s, fun a ha => frA_stab _ _ _ _ _ (h.effs a ha) r s, fun a ha => frF_stab _ _ _ _ _ (h.foes a ha) r s⟩
theorem nc_zero (w : World) (N : Nat) : NC w N zCn := ⟨.inl rfl, .inl rfl, .inl rfl, .inl rfl, fun _ ha => (by cases ha), fun _ ha => (by cases ha)⟩
/-- What Unflat answers. -/
def UN (w : World) (l : List Int) (e : Ending) (w' : World) : Prop :=
  ∃ (k : Cn) (x : Bool), e = .returned (.tuple #[cnv k, .bool x]) ∧ Hid (NC w' w.heap.size k) ∧ Hid ((x = true ∧ unfl l = some k.pl) ∨ (x = false ∧ unfl l = none ∧ k = zCn)) ∧ Hid (Below w.heap.size w w')
set_option maxRecDepth 20000 in
set_option maxHeartbeats 8000000 in
theorem unflat_any (A : Option Addr) (c : Nat) (l : List Int) (w : World) (B : Nat) (hr : Rd .i64 w B A l) (hB : B ≤ w.heap.size) (hc : l.length ≤ c) (hl : l.length ≤ 400000) : Calls Tryz.prog 16 #[.slice A l.length c] w (UN w l) := by
  have hN := heap_alloc_new w (.cells #[.slice none 0 0, .slice none 0 0, .slice none 0 0, .int .i64 0, .int .i64 0, .slice none 0 0, .int .i64 0, .int .i64 0, .int .i64 0, .int .i64 0] 31)
  have hb2 : Below w.heap.size w ((w.alloc (.cells #[.slice none 0 0, .slice none 0 0, .slice none 0 0, .int .i64 0, .int .i64 0, .slice none 0 0, .int .i64 0, .int .i64 0, .int .i64 0, .int .i64 0] 31)).alloc (.cells #[.slice A l.length c, .bool false] 81)) := by go_grown
  have HRS : Hid (RS ((w.alloc (.cells #[.slice none 0 0, .slice none 0 0, .slice none 0 0, .int .i64 0, .int .i64 0, .slice none 0 0, .int .i64 0, .int .i64 0, .int .i64 0, .int .i64 0] 31)).alloc (.cells #[.slice A l.length c, .bool false] 81)) B (w.heap.size + 1) ⟨l, false⟩) := Lib.hid ⟨A, c, by have := heap_alloc_new (w.alloc (.cells #[.slice none 0 0, .slice none 0 0, .slice none 0 0, .int .i64 0, .int .i64 0, .slice none 0 0, .int .i64 0, .int .i64 0, .int .i64 0, .int .i64 0] 31)) (.cells #[.slice A l.length c, .bool false] 81); simpa using this, (hr.alloc hB _).alloc (by simp; omega) _, by omega, hc⟩
  have HN2 : Hid (((w.alloc (.cells #[.slice none 0 0, .slice none 0 0, .slice none 0 0, .int .i64 0, .int .i64 0, .slice none 0 0, .int .i64 0, .int .i64 0, .int .i64 0, .int .i64 0] 31)).alloc (.cells #[.slice A l.length c, .bool false] 81)).heap[w.heap.size]? = some (.cells #[.slice none 0 0, .slice none 0 0, .slice none 0 0, .int .i64 0, .int .i64 0, .slice none 0 0, .int .i64 0, .int .i64 0, .int .i64 0, .int .i64 0] 31)) := Lib.hid ((Below.heap_alloc _ _ _ (by simp)).trans hN)
  have HSz : Hid (((w.alloc (.cells #[.slice none 0 0, .slice none 0 0, .slice none 0 0, .int .i64 0, .int .i64 0, .slice none 0 0, .int .i64 0, .int .i64 0, .int .i64 0, .int .i64 0] 31)).alloc (.cells #[.slice A l.length c, .bool false] 81)).heap.size = w.heap.size + 2) := Lib.hid (by simp)
  have HB2 := Lib.hid hb2
  have HL := Lib.hid hl
  clear hr hl hc hB hN hb2
  go_enter Tryz.func16, Tryz.ntmps16
  go_wp2_with (fail)
  generalize ((w.alloc (.cells #[.slice none 0 0, .slice none 0 0, .slice none 0 0, .int .i64 0, .int .i64 0, .slice none 0 0, .int .i64 0, .int .i64 0, .int .i64 0, .int .i64 0] 31)).alloc (.cells #[.slice A l.length c, .bool false] 81)) = w2 at *
  (with_reducible refine (cn_take ⟨l, false⟩ _ B (w.heap.size + 1) HRS.out HL.out).mono ?_); rintro e w3 ⟨k, rfl, HK, s', HR', HS', HT'⟩
  have HZ := Lib.hid (tn_box HT'.out HN2.out (by omega))
  have hs3 : w.heap.size + 2 ≤ w3.heap.size := by have := HT'.out.size; have := HSz.out; omega
  have HS4 := Lib.hid (HS'.out.alloc (.cells #[.slice k.aA k.ab.length k.aC, .slice k.uA k.au.length k.uC, .slice k.fA k.fo.length k.fC, .int .i64 k.W, .int .i64 k.H, .slice k.gA k.wl.length k.gC, .int .i64 k.dx, .int .i64 k.dy, .int .i64 k.lx, .int .i64 k.ly] 31))
  have HKc : Hid (∀ vs, Kp w3 ((w3.alloc (.cells #[.slice k.aA k.ab.length k.aC, .slice k.uA k.au.length k.uC, .slice k.fA k.fo.length k.fC, .int .i64 k.W, .int .i64 k.H, .slice k.gA k.wl.length k.gC, .int .i64 k.dx, .int .i64 k.dy, .int .i64 k.lx, .int .i64 k.ly] 31)).setCells w.heap.size 0 vs) (fun j => j < w2.heap.size)) := Lib.hid (fun vs => kp_sets (P := w.heap.size + 1) (tn_alloc (tn_refl _ w3) _) (by have := HSz.out; omega) (by have := HSz.out; omega) vs 0)
  have HBl : Hid (∀ vs, Below w.heap.size w ((w3.alloc (.cells #[.slice k.aA k.ab.length k.aC, .slice k.uA k.au.length k.uC, .slice k.fA k.fo.length k.fC, .int .i64 k.W, .int .i64 k.H, .slice k.gA k.wl.length k.gC, .int .i64 k.dx, .int .i64 k.dy, .int .i64 k.lx, .int .i64 k.ly] 31)).setCells w.heap.size 0 vs)) := Lib.hid (fun vs => below_setCells _ (Nat.le_refl _) vs 0 _ ((HB2.out.trans (tn_below HT'.out (by omega) (by have := HSz.out; omega))).alloc (by omega) _))
  have HZ4 : Hid ((w3.alloc (.cells #[.slice k.aA k.ab.length k.aC, .slice k.uA k.au.length k.uC, .slice k.fA k.fo.length k.fC, .int .i64 k.W, .int .i64 k.H, .slice k.gA k.wl.length k.gC, .int .i64 k.dx, .int .i64 k.dy, .int .i64 k.lx, .int .i64 k.ly] 31)).heap[w.heap.size]? = some (.cells #[.slice none 0 0, .slice none 0 0, .slice none 0 0, .int .i64 0, .int .i64 0, .slice none 0 0, .int .i64 0, .int .i64 0, .int .i64 0, .int .i64 0] 31)) := Lib.hid ((Below.heap_alloc _ _ _ (by omega)).trans HZ.out)
  obtain ⟨A', c', hz, hy, hP⟩ := HS4.out.cells
  have hz9 := cellOf' HZ4.out; have hy9 := frozOf' HZ4.out
  have hall := rp_all HR'.out
  have HAll := Lib.hid hall
  clear hall
  obtain ⟨l', f'⟩ := s'
  cases f' with
  | true =>
    go_wp2
    refine bodyPost_ret (by simp [results, Tryz.results16, go_sem, hz9]; try rfl) rfl ?_
    refine ⟨zCn, false, rfl, Lib.hid (nc_zero _ _), Lib.hid (.inr ⟨rfl, ?_, rfl⟩), Lib.hid (HBl.out [.slice none 0 0, .slice none 0 0, .slice none 0 0, .int .i64 0, .int .i64 0, .slice none 0 0, .int .i64 0, .int .i64 0, .int .i64 0, .int .i64 0])⟩
    rcases HAll.out with ⟨h, _⟩ | ⟨_, h⟩
    · cases h
    · exact h
  | false =>
    cases l' with
    | nil =>
      go_wp2
      refine bodyPost_ret (by simp [results, Tryz.results16, go_sem, hz9]; try rfl) rfl ?_
      refine ⟨k, true, rfl, Lib.hid ((HK.out.kp (HKc.out [.slice k.aA k.ab.length k.aC, .slice k.uA k.au.length k.uC, .slice k.fA k.fo.length k.fC, .int .i64 k.W, .int .i64 k.H, .slice k.gA k.wl.length k.gC, .int .i64 k.dx, .int .i64 k.dy, .int .i64 k.lx, .int .i64 k.ly])).mono (by have := HSz.out; omega)), Lib.hid (.inl ⟨rfl, ?_⟩), Lib.hid (HBl.out [.slice k.aA k.ab.length k.aC, .slice k.uA k.au.length k.uC, .slice k.fA k.fo.length k.fC, .int .i64 k.W, .int .i64 k.H, .slice k.gA k.wl.length k.gC, .int .i64 k.dx, .int .i64 k.dy, .int .i64 k.lx, .int .i64 k.ly])⟩
      rcases HAll.out with ⟨_, _, h⟩ | ⟨h, _⟩
      · exact h
      · rcases h with h | h
        · cases h
        · exact absurd rfl h
    | cons n r =>
      have hgt : decide ((((n :: r).length : Nat) : Int) > 0) = true := by simp
      go_wp2
      refine bodyPost_ret (by simp [results, Tryz.results16, go_sem, hz9]; try rfl) rfl ?_
      refine ⟨zCn, false, rfl, Lib.hid (nc_zero _ _), Lib.hid (.inr ⟨rfl, ?_, rfl⟩), Lib.hid (HBl.out [.slice none 0 0, .slice none 0 0, .slice none 0 0, .int .i64 0, .int .i64 0, .slice none 0 0, .int .i64 0, .int .i64 0, .int .i64 0, .int .i64 0])⟩
      rcases HAll.out with ⟨_, h, _⟩ | ⟨_, h⟩
      · cases h
      · exact h
end Go.Proofs.YtpjenkgimkndaaaGreat.Con
