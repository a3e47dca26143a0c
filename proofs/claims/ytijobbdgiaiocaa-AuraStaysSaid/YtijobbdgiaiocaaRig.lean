/-
  Contracts of Check and Right: the first flaw of content, for all content whose rows are short.
-/
import Derived.Test.YtijobbdgiaiocaaFlw
namespace Go.Proofs.Ytijobbdgiaiocaa.Con
open Go.RowKit Go.Maps

/-- What Check answers. -/
def Ckd (c : Cn) (P T : Int) (Y : Bool) : Prop :=
  ∃ ra ru rf, Flaw (AbOk c) Ab.id c.ab 0 0 ra ∧ Flaw AuOk Au.id c.au 0 0 ru ∧ Flaw (FoOk c) Fo.id c.fo 0 0 rf ∧
    ((∃ k : Nat, ra = some k ∧ P = 1 ∧ T = k ∧ Y = false) ∨ (ra = none ∧ ∃ k : Nat, ru = some k ∧ P = 2 ∧ T = k ∧ Y = false) ∨ (ra = none ∧ ru = none ∧ ∃ k : Nat, rf = some k ∧ P = 3 ∧ T = k ∧ Y = false) ∨
     (ra = none ∧ ru = none ∧ rf = none ∧ ¬ MapOk c ∧ P = 4 ∧ T = 0 ∧ Y = false) ∨ (ra = none ∧ ru = none ∧ rf = none ∧ MapOk c ∧ P = 0 ∧ T = 0 ∧ Y = true))
/-- Content that is right. -/
def RightC (c : Cn) : Prop := Flaw (AbOk c) Ab.id c.ab 0 0 none ∧ Flaw AuOk Au.id c.au 0 0 none ∧ Flaw (FoOk c) Fo.id c.fo 0 0 none ∧ MapOk c
theorem flaw_uniq {α : Type} {ok : α → Prop} {id : α → Int} : ∀ {l : List α} {last : Int} {i : Nat} {r s : Option Nat}, Flaw ok id l last i r → Flaw ok id l last i s → r = s
  | [], _, _, _, _, h1, h2 => by rw [show _ = none from h1, show _ = none from h2]
  | x :: l, last, i, r, s, h1, h2 => by
    rcases h1 with ⟨a, b⟩ | ⟨a, b⟩ <;> rcases h2 with ⟨c, d⟩ | ⟨c, d⟩
    · rw [b, d]
    · exact absurd a c
    · exact absurd c a
    · exact flaw_uniq b d
theorem ckd_ex (c : Cn) : ∃ P T Y, Ckd c P T Y := by
  obtain ⟨ra, ha⟩ := flaw_ex (AbOk c) Ab.id c.ab 0 0
  obtain ⟨ru, hu⟩ := flaw_ex AuOk Au.id c.au 0 0
  obtain ⟨rf, hf⟩ := flaw_ex (FoOk c) Fo.id c.fo 0 0
  cases ra with
  | some k => exact ⟨1, k, false, _, _, _, ha, hu, hf, .inl ⟨k, rfl, rfl, rfl, rfl⟩⟩
  | none =>
    cases ru with
    | some k => exact ⟨2, k, false, _, _, _, ha, hu, hf, .inr (.inl ⟨rfl, k, rfl, rfl, rfl, rfl⟩)⟩
    | none =>
      cases rf with
      | some k => exact ⟨3, k, false, _, _, _, ha, hu, hf, .inr (.inr (.inl ⟨rfl, rfl, k, rfl, rfl, rfl, rfl⟩))⟩
      | none =>
        by_cases hm : MapOk c
        · exact ⟨0, 0, true, _, _, _, ha, hu, hf, .inr (.inr (.inr (.inr ⟨rfl, rfl, rfl, hm, rfl, rfl, rfl⟩)))⟩
        · exact ⟨4, 0, false, _, _, _, ha, hu, hf, .inr (.inr (.inr (.inl ⟨rfl, rfl, rfl, hm, rfl, rfl, rfl⟩)))⟩
theorem ckd_right {c : Cn} {P T : Int} {Y : Bool} (h : Ckd c P T Y) : Y = true ↔ RightC c := by
  obtain ⟨ra, ru, rf, ha, hu, hf, h⟩ := h
  constructor
  · intro hy
    rcases h with ⟨k, e1, e2, e3, e4⟩ | ⟨e0, k, e1, e2, e3, e4⟩ | ⟨e0, e00, k, e1, e2, e3, e4⟩ | ⟨e1, e2, e3, e4, e5, e6, e7⟩ | ⟨e1, e2, e3, e4, e5, e6, e7⟩
    · rw [hy] at e4; cases e4
    · rw [hy] at e4; cases e4
    · rw [hy] at e4; cases e4
    · rw [hy] at e7; cases e7
    · subst e1; subst e2; subst e3; exact ⟨ha, hu, hf, e4⟩
  · rintro ⟨ga, gu, gf, gm⟩
    have a := flaw_uniq ha ga; have b := flaw_uniq hu gu; have d := flaw_uniq hf gf
    subst a; subst b; subst d
    rcases h with ⟨k, e1, e2, e3, e4⟩ | ⟨e0, k, e1, e2, e3, e4⟩ | ⟨e0, e00, k, e1, e2, e3, e4⟩ | ⟨e1, e2, e3, e4, e5, e6, e7⟩ | ⟨e1, e2, e3, e4, e5, e6, e7⟩
    · cases e1
    · cases e1
    · cases e1
    · exact absurd gm e4
    · exact e7

abbrev oFl : Obj := .cells #[.int .i64 0, .int .i64 0] 88
/-- What Check's calls say, each in the worlds behind the boxes. -/
structure CkC (w : World) (c : Cn) (pa pu pf : Int) (ya yu yf ym : Bool) : Prop where
  a : Calls Try.prog 60 #[.slice c.aA c.ab.length c.aC, .func (.func 61) #[] #[], .func (.func 62) #[] #[pt w.heap.size]] ((w.alloc (oCn c)).alloc oFl) fun e w' => e = .returned (.tuple #[.int .i64 pa, .bool ya]) ∧ Below ((w.alloc (oCn c)).alloc oFl).heap.size ((w.alloc (oCn c)).alloc oFl) w'
  u : ∀ V, Below w.heap.size w V → Calls Try.prog 64 #[.slice c.uA c.au.length c.uC, .func (.func 52) #[] #[], .func (.func 65) #[] #[]] V fun e w' => e = .returned (.tuple #[.int .i64 pu, .bool yu]) ∧ Below V.heap.size V w'
  f : ∀ V, Below ((w.alloc (oCn c)).alloc oFl).heap.size ((w.alloc (oCn c)).alloc oFl) V → Calls Try.prog 66 #[.slice c.fA c.fo.length c.fC, .func (.func 67) #[] #[], .func (.func 68) #[] #[pt w.heap.size]] V fun e w' => e = .returned (.tuple #[.int .i64 pf, .bool yf]) ∧ Below V.heap.size V w'
  m : ∀ V, Below w.heap.size w V → Calls Try.prog 70 #[cnv c] V fun e w' => e = .returned (.bool ym) ∧ Below V.heap.size V w'
def PY (r : Option Nat) (p : Int) (y : Bool) : Prop := (r = none ∧ p = 0 ∧ y = false) ∨ ∃ k : Nat, r = some k ∧ p = (k : Int) ∧ y = true
theorem py_ex (r : Option Nat) : ∃ p y, PY r p y := by
  cases r with
  | none => exact ⟨0, false, .inl ⟨rfl, rfl, rfl⟩⟩
  | some k => exact ⟨k, true, .inr ⟨k, rfl, rfl, rfl⟩⟩
theorem ckc {w : World} {B : Nat} {c : Cn} (hr : RC w B c) (hB : B ≤ w.heap.size) (hs : Sm c) {ra ru rf : Option Nat} (ha : Flaw (AbOk c) Ab.id c.ab 0 0 ra) (hu : Flaw AuOk Au.id c.au 0 0 ru) (hf : Flaw (FoOk c) Fo.id c.fo 0 0 rf) {pa pu pf : Int} {ya yu yf ym : Bool} (ka : PY ra pa ya) (ku : PY ru pu yu) (kf : PY rf pf yf) (km : ym = true ↔ MapOk c) : CkC w c pa pu pf ya yu yf ym := by
  have hb1 : Below w.heap.size w (w.alloc (oCn c)) := by go_grown
  have hb : Below w.heap.size w ((w.alloc (oCn c)).alloc oFl) := by go_grown
  have hA := (at_cn w c).of (w' := (w.alloc (oCn c)).alloc oFl) (B := (w.alloc (oCn c)).heap.size) (by go_grown) (by simp)
  have h1 := hs.abs; have h2 := hs.aus; have h3 := hs.fos
  refine ⟨?_, ?_, ?_, ?_⟩
  · exact flaw_ab (w := (w.alloc (oCn c)).alloc oFl) (t := w.heap.size) rfl (by omega) (hr.abs.below hb hB) (Nat.le_trans hB hb.size) (AbOk c) (fun V hV q hq x hx => by
      have h2 := hb.trans (hV.mono hb.size)
      exact chk1 (hr.below h2 hB) (Nat.le_trans hB h2.size) hs (hA.of hV (by simp; omega)) (Nat.lt_of_lt_of_le (by simp; omega) hV.size) q ((hr.effs q hq).below h2 hB) (hs.effs q hq) x hx) ra ha pa ya ka
  · intro V hV
    exact flaw_au rfl (by omega) (hr.aus.below hV hB) (Nat.le_trans hB hV.size) AuOk (fun V' hV' q _ x hx => isAura_any q V' x hx) ru hu pu yu ku
  · intro V hXV
    have hwV := hb.trans (hXV.mono hb.size)
    have hlt : w.heap.size < V.heap.size := Nat.lt_of_lt_of_le (by simp; omega) hXV.size
    have hA2 := hA.of hXV (by simp; omega)
    exact flaw_fo (t := w.heap.size) rfl (by omega) (hr.fos.below hwV hB) (Nat.le_trans hB hwV.size) (FoOk c) (fun V' hV' q hq x hx => by
      have h2 := hwV.trans (hV'.mono hwV.size)
      exact chk2 (hr.below h2 hB) (Nat.le_trans hB h2.size) hs (hA2.of hV' hlt) (Nat.lt_of_lt_of_le hlt hV'.size) q ((hr.scrs q hq).below h2 hB) ((hr.hors q hq).below h2 hB) (hs.scrs q hq) (hs.hors q hq) x hx) rf hf pf yf kf
  · intro V hV
    exact isMap_any (hr.below hV hB) (Nat.le_trans hB hV.size) ym km

set_option maxRecDepth 20000 in
set_option maxHeartbeats 4000000 in
theorem check_go {w : World} {c : Cn} {pa pu pf : Int} {ya yu yf ym : Bool} (h : CkC w c pa pu pf ya yu yf ym) (P T : Int) (Y : Bool)
    (hp : (ya = true ∧ P = 1 ∧ T = pa ∧ Y = false) ∨ (ya = false ∧ yu = true ∧ P = 2 ∧ T = pu ∧ Y = false) ∨ (ya = false ∧ yu = false ∧ yf = true ∧ P = 3 ∧ T = pf ∧ Y = false) ∨ (ya = false ∧ yu = false ∧ yf = false ∧ ym = false ∧ P = 4 ∧ T = 0 ∧ Y = false) ∨ (ya = false ∧ yu = false ∧ yf = false ∧ ym = true ∧ P = 0 ∧ T = 0 ∧ Y = true)) :
    Calls Try.prog 55 #[cnv c] w fun e w' => e = .returned (.tuple #[.agg #[.int .i64 P, .int .i64 T], .bool Y]) ∧ Below w.heap.size w w' := by
  have hX : Below w.heap.size w ((w.alloc (oCn c)).alloc oFl) := by go_grown
  have hnew : ((w.alloc (oCn c)).alloc oFl).heap[w.heap.size + 1]? = some oFl := by have := heap_alloc_new (w.alloc (oCn c)) oFl; simpa using this
  have hnw2 := (at_cn w c).of (w' := (w.alloc (oCn c)).alloc oFl) (B := (w.alloc (oCn c)).heap.size) (by go_grown) (by simp)
  have hsz : ((w.alloc (oCn c)).alloc oFl).heap.size = w.heap.size + 1 + 1 := by simp
  have HA := Lib.hid h.a; have HU := Lib.hid h.u; have HF := Lib.hid h.f; have HM := Lib.hid h.m; have HP := Lib.hid hp; have HN := Lib.hid hnew; have HX := Lib.hid hX; have HS := Lib.hid hsz; have HN2 := Lib.hid hnw2
  clear h hp hnew hX hsz hnw2
  go_enter Try.func55, Try.ntmps55
  go_wp2_with (first
    | ((with_reducible refine HA.out.mono ?_); rintro e w1 ⟨rfl, hB1⟩; have hV1 : Below w.heap.size w w1 := HX.out.trans (hB1.mono HX.out.size); have z1 := blk_cell HN.out hB1 (by rw [HS.out]; omega); have y1 := blk_froz HN.out hB1 (by rw [HS.out]; omega); have hs1 : w.heap.size + 1 < w1.heap.size := Nat.lt_of_lt_of_le (by rw [HS.out]; omega) hB1.size; have hc1 := HN2.out.of hB1 (by rw [HS.out]; omega); obtain ⟨c0, c1, c2, c3, c4, c5, c6, c7, c8, c9⟩ := hc1.ten; clear hc1)
    | ((with_reducible refine (HU.out _ hV1).mono ?_); rintro e w2 ⟨rfl, hB2⟩; have hV2 : Below w.heap.size w w2 := bstep hB2 hV1; have z2 := fun o => hB2.cell (p := ⟨w.heap.size + 1, o, none⟩) hs1; have y2 := fun o => hB2.frozen (p := ⟨w.heap.size + 1, o, none⟩) hs1; have g2 := fun o => hB2.cell (p := ⟨w.heap.size, o, none⟩) (by go_size); have hX2 := hB1.trans (hB2.mono hB1.size); have hs2 : w.heap.size + 1 < w2.heap.size := Nat.lt_of_lt_of_le hs1 hB2.size)
    | ((with_reducible refine (HF.out _ hX2).mono ?_); rintro e w3 ⟨rfl, hB3⟩; have hV3 : Below w.heap.size w w3 := bstep hB3 hV2; have z3 := fun o => hB3.cell (p := ⟨w.heap.size + 1, o, none⟩) hs2; have y3 := fun o => hB3.frozen (p := ⟨w.heap.size + 1, o, none⟩) hs2; have g3 := fun o => hB3.cell (p := ⟨w.heap.size, o, none⟩) (by go_size); have hs3 : w.heap.size + 1 < w3.heap.size := Nat.lt_of_lt_of_le hs2 hB3.size)
    | ((with_reducible refine (HM.out _ hV3).mono ?_); rintro e w4 ⟨rfl, hB4⟩; have hV4 : Below w.heap.size w w4 := bstep hB4 hV3; have z4 := fun o => hB4.cell (p := ⟨w.heap.size + 1, o, none⟩) hs3; have y4 := fun o => hB4.frozen (p := ⟨w.heap.size + 1, o, none⟩) hs3))
  all_goals
    rcases HP.out with ⟨q1, rfl, rfl, rfl⟩ | ⟨q1, q2, rfl, rfl, rfl⟩ | ⟨q1, q2, q3, rfl, rfl, rfl⟩ | ⟨q1, q2, q3, q4, rfl, rfl, rfl⟩ | ⟨q1, q2, q3, q4, rfl, rfl, rfl⟩ <;> first
      | (exfalso; simp_all; done)
      | (refine bodyPost_ret (by first | (simp [results, Try.results55, go_sem, z4, z3, z2, z1]; rfl) | (simp [results, Try.results55, go_sem, z3, z2, z1]; rfl) | (simp [results, Try.results55, go_sem, z2, z1]; rfl) | (simp [results, Try.results55, go_sem, z1]; rfl)) rfl ?_
         exact ⟨rfl, by go_grown⟩)
theorem check_any {w : World} {B : Nat} {c : Cn} (hr : RC w B c) (hB : B ≤ w.heap.size) (hs : Sm c) (P T : Int) (Y : Bool) (h : Ckd c P T Y) :
    Calls Try.prog 55 #[cnv c] w fun e w' => e = .returned (.tuple #[.agg #[.int .i64 P, .int .i64 T], .bool Y]) ∧ Below w.heap.size w w' := by
  obtain ⟨ra, ru, rf, ha, hu, hf, h⟩ := h
  obtain ⟨pa, ya, ka⟩ := py_ex ra
  obtain ⟨pu, yu, ku⟩ := py_ex ru
  obtain ⟨pf, yf, kf⟩ := py_ex rf
  obtain ⟨ym, km⟩ := bex (MapOk c)
  refine check_go (ckc hr hB hs ha hu hf ka ku kf km) P T Y ?_
  have yes : ∀ {r : Option Nat} {p : Int} {y : Bool} {k : Nat}, PY r p y → r = some k → p = k ∧ y = true := by
    intro r p y k h1 h2
    rcases h1 with ⟨e, _⟩ | ⟨k', e, e1, e2⟩
    · rw [h2] at e; cases e
    · rw [h2] at e; cases e; exact ⟨e1, e2⟩
  have no : ∀ {r : Option Nat} {p : Int} {y : Bool}, PY r p y → r = none → y = false := by
    intro r p y h1 h2
    rcases h1 with ⟨_, _, e⟩ | ⟨k', e, e1, e2⟩
    · exact e
    · rw [h2] at e; cases e
  rcases h with ⟨k, e1, rfl, rfl, rfl⟩ | ⟨e0, k, e1, rfl, rfl, rfl⟩ | ⟨e0, e00, k, e1, rfl, rfl, rfl⟩ | ⟨e1, e2, e3, e4, rfl, rfl, rfl⟩ | ⟨e1, e2, e3, e4, rfl, rfl, rfl⟩
  · obtain ⟨h1, h2⟩ := yes ka e1; exact .inl ⟨h2, rfl, h1.symm, rfl⟩
  · obtain ⟨h1, h2⟩ := yes ku e1; exact .inr (.inl ⟨no ka e0, h2, rfl, h1.symm, rfl⟩)
  · obtain ⟨h1, h2⟩ := yes kf e1; exact .inr (.inr (.inl ⟨no ka e0, no ku e00, h2, rfl, h1.symm, rfl⟩))
  · exact .inr (.inr (.inr (.inl ⟨no ka e1, no ku e2, no kf e3, by cases ym; rfl; exact absurd (km.1 rfl) e4, rfl, rfl, rfl⟩)))
  · exact .inr (.inr (.inr (.inr ⟨no ka e1, no ku e2, no kf e3, km.2 e4, rfl, rfl, rfl⟩)))

set_option maxRecDepth 20000 in
theorem right_c {w : World} {B : Nat} {c : Cn} (hr : RC w B c) (hB : B ≤ w.heap.size) (hs : Sm c) (x : Bool) (hx : x = true ↔ RightC c) :
    Calls Try.prog 40 #[cnv c] w fun e w' => e = .returned (.bool x) ∧ Below w.heap.size w w' := by
  obtain ⟨P, T, Y, h⟩ := ckd_ex c
  have hxy : x = Y := iff_eq hx (ckd_right h)
  subst hxy
  have hb1 : Below w.heap.size w (w.alloc (oCn c)) := by go_grown
  have HC := Lib.hid (check_any (w := w.alloc (oCn c)) (hr.below hb1 hB) (Nat.le_trans hB hb1.size) hs P T x h)
  clear hr hs h hx
  go_enter Try.func40, Try.ntmps40
  go_wp2_with (first | ((with_reducible refine HC.out.mono ?_); rintro e w1 ⟨rfl, hB1⟩; have hV1 : Below w.heap.size w w1 := bstep hB1 hb1; have hs1 := hV1.size))
  go_ret
  exact ⟨rfl, by go_grown⟩
end Go.Proofs.Ytijobbdgiaiocaa.Con
