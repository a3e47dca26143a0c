/-
  Contract of the program's Begin, of a right Casting: for every ability of an Id of 1 at least and a Cast of 0 at least (and nothing else).
-/
import Derived.Test.YtmhnkjjcipcjlaaPgc
namespace Go.Proofs.Ytmhnkjjcipcjlaa.Con
open Go.RowKit Go.Maps
set_option linter.unusedVariables false

def beV (o : Option Cg) : Value := match o with
  | none => .tuple #[cgv ⟨zCa, zCa, 0⟩, .int .i64 7]
  | some u => .tuple #[cgv u, .int .i64 0]
theorem be_of (s : Cg) (id c tgt t : Int) : beG s id c tgt t = if bsyB s t = true then none else if s.now.ability = 0 then some ⟨⟨id, tgt, mx t s.wait, held (mx t s.wait + c)⟩, s.next, held (mx t s.wait + 3)⟩ else some ⟨s.now, ⟨id, tgt, s.now.untl, held (s.now.untl + c)⟩, s.wait⟩ := by
  have e : max t s.wait = mx t s.wait := by unfold mx; split <;> omega
  unfold beG bsyB
  rw [e]
  by_cases h : s.now.ability = 0
  · simp only [if_pos h, decide_eq_true_eq]
  · simp only [if_neg h, Bool.or_eq_true, Bool.not_eq_true', decide_eq_true_eq, decide_eq_false_iff_not]
    by_cases h1 : s.next.ability = 0 <;> by_cases h2 : held (t + 2) < s.now.untl <;> by_cases h3 : s.now.untl < s.wait <;> simp [h1, h2, h3]
/-- The three boxes at the head of Begin. -/
theorem three_new (w : World) (s : Cg) (id c : Int) : Below w.heap.size w (((w.alloc (oCg s)).alloc (oAb id c)).alloc (oCg ⟨zCa, zCa, 0⟩)) ∧ Gx (((w.alloc (oCg s)).alloc (oAb id c)).alloc (oCg ⟨zCa, zCa, 0⟩)) w.heap.size s ∧ (((w.alloc (oCg s)).alloc (oAb id c)).alloc (oCg ⟨zCa, zCa, 0⟩)).heap[w.heap.size + 1]? = some (oAb id c) ∧ Gx (((w.alloc (oCg s)).alloc (oAb id c)).alloc (oCg ⟨zCa, zCa, 0⟩)) (w.heap.size + 1 + 1) ⟨zCa, zCa, 0⟩ :=
  ⟨((below_box w (oCg s)).alloc (by simp) _).alloc (by simp; omega) _, ((Gx.new w s).alloc _).alloc _, (by
    have h := heap_alloc_new (w.alloc (oCg s)) (oAb id c)
    have e : (w.alloc (oCg s)).heap.size = w.heap.size + 1 := by simp
    rw [e] at h
    exact (Below.heap_alloc _ _ _ (lt_of_block h)).trans h), (by
    have h := Gx.new ((w.alloc (oCg s)).alloc (oAb id c)) ⟨zCa, zCa, 0⟩
    have e : ((w.alloc (oCg s)).alloc (oAb id c)).heap.size = w.heap.size + 1 + 1 := by simp
    rw [e] at h; exact h)⟩
set_option maxRecDepth 20000 in
set_option maxHeartbeats 4000000 in
theorem pbegin_any (s : Cg) (hs : RtG s) (fs : FCg s) (id c tgt t : Int) (hid : 1 ≤ id) (hc : 0 ≤ c) (fc : Fits c) (ft : Fits t) (w : World) :
    Calls Try.prog 6 #[cgv s, abv id c, .int .i64 tgt, .int .i64 t] w fun e w' => e = .returned (beV (beG s id c tgt t)) ∧ Below w.heap.size w w' := by
  obtain ⟨hB0, hX0, hA0, hY0⟩ := three_new w s id c
  have HB0 := Lib.hid hB0; have HX0 := Lib.hid hX0; have HA0 := Lib.hid hA0; have HY0 := Lib.hid hY0
  have HE := Lib.hid (be_of s id c tgt t)
  generalize beG s id c tgt t = be at HE ⊢
  have HT := Lib.hid (fun (c : Ca) V => pthere_any c V)
  have HR := Lib.hid (fun V => (pright_any s V))
  rw [(rg_iff s).2 hs] at HR
  have HY := Lib.hid (fun V => pbusy_any s t ft V)
  obtain ⟨z0, z1, z2, z3, z4, z5, z6, z7, z8⟩ := HX0.out.at
  have a0 := cellOf' HA0.out
  clear hB0 hX0 hA0 hY0
  have HFs := Lib.hid fs
  have hid' : decide (id < 1) = false := by simpa using hid
  have hc' : decide (c < 0) = false := by simpa using hc
  go_enter Try.func6, Try.ntmps6
  go_wp2_with (fail)
  generalize ((w.alloc (oCg s)).alloc (oAb id c)).alloc (oCg ⟨zCa, zCa, 0⟩) = w0 at *
  (with_reducible refine (HR.out _).mono ?_); rintro e w1 ⟨rfl, hB1⟩
  have HX1 := Lib.hid (HX0.out.of hB1 HX0.out.lt)
  have HY1 := Lib.hid (HY0.out.of hB1 HY0.out.lt)
  have HA1 := Lib.hid ((hB1.block _ (lt_of_block HA0.out)).trans HA0.out)
  have HB1 := Lib.hid (below_step HB0.out hB1)
  clear hB1 z0 z1 z2 z3 z4 z5 z6 z7 z8 a0
  have a0 := cellOf' HA1.out
  obtain ⟨z0, z1, z2, z3, z4, z5, z6, z7, z8⟩ := HX1.out.at
  go_wp2_with (fail)
  (with_reducible refine (HY.out _).mono ?_); rintro e w2 ⟨rfl, hB2⟩
  have HX2 := Lib.hid (HX1.out.of hB2 HX1.out.lt)
  have HY2 := Lib.hid (HY1.out.of hB2 HY1.out.lt)
  have HA2 := Lib.hid ((hB2.block _ (lt_of_block HA1.out)).trans HA1.out)
  have HB2 := Lib.hid (below_step HB1.out hB2)
  clear hB2 z0 z1 z2 z3 z4 z5 z6 z7 z8 a0
  have a0 := cellOf' HA2.out
  obtain ⟨z0, z1, z2, z3, z4, z5, z6, z7, z8⟩ := HX2.out.at
  cases hb : bsyB s t with
  | true =>
    rw [hb, if_pos rfl] at HE
    clear hb
    have hG := frozOf' HY2.out
    have hyz := cellOf' HY2.out
    have hyl := HY2.out.lt
    have HR3 : Hid (Gx (wrG w2 (w.heap.size + 1 + 1) ⟨zCa, zCa, 0⟩) (w.heap.size + 1 + 1) ⟨zCa, zCa, 0⟩) := Lib.hid (HY2.out.putG _)
    have HS3 : Hid (Below w.heap.size w (wrG w2 (w.heap.size + 1 + 1) ⟨zCa, zCa, 0⟩)) := Lib.hid (below_putG HB2.out (by omega) _)
    go_wp2
    obtain ⟨q0, q1, q2, q3, q4, q5, q6, q7, q8⟩ := HR3.out.at
    refine bodyPost_ret (by simp [results, Try.results6, go_sem, q0, q1, q2, q3, q4, q5, q6, q7, q8]; try rfl) rfl ?_
    exact ⟨by rw [HE.out]; rfl, HS3.out⟩
  | false =>
    rw [hb, if_neg (by simp)] at HE
    clear hb
    go_wp2_with (fail)
    (with_reducible refine (HT.out s.now _).mono ?_); rintro e w3 ⟨rfl, hB3⟩
    have HX3 := Lib.hid (HX2.out.of hB3 HX2.out.lt)
    have HY3 := Lib.hid (HY2.out.of hB3 HY2.out.lt)
    have HA3 := Lib.hid ((hB3.block _ (lt_of_block HA2.out)).trans HA2.out)
    have HB3 := Lib.hid (below_step HB2.out hB3)
    clear hB3 z0 z1 z2 z3 z4 z5 z6 z7 z8 a0
    have a0 := cellOf' HA3.out
    obtain ⟨z0, z1, z2, z3, z4, z5, z6, z7, z8⟩ := HX3.out.at
    cases h1 : decide (s.now.ability = 0) with
    | true =>
      rw [if_pos (by simpa using h1)] at HE
      obtain ⟨f, HF⟩ : ∃ f, Hid (mx t s.wait = f) := ⟨_, Lib.hid rfl⟩
      have ff : Fits f := by rw [← HF.out]; unfold mx; split; exact HFs.out.2.2; exact ft
      rw [HF.out] at HE
      have HBg := Lib.hid (fun V => pbegun_any id c tgt f ff fc V)
      have HWt := Lib.hid (fun g V => pwait_any ⟨id, tgt, f, g⟩ ff V)
      obtain ⟨g, HG⟩ : ∃ g, Hid (held (f + c) = g) := ⟨_, Lib.hid rfl⟩
      obtain ⟨h3, HH⟩ : ∃ h3, Hid (held (f + 3) = h3) := ⟨_, Lib.hid rfl⟩
      rw [HG.out] at HE HBg
      rw [HH.out] at HE
      have HWt : Hid (∀ V, Calls Try.prog 16 #[cav ⟨id, tgt, f, g⟩] V fun e w' => e = .returned (.int .i64 h3) ∧ Below V.heap.size V w') := Lib.hid (by rw [← HH.out]; exact fun V => HWt.out g V)
      clear ff
      go_wp2_with (first
        | (with_reducible refine wpList_max rfl (.tmp 12) (.tmp 14) t s.wait f rfl (by simp [Act.eval]) (by simp [Act.eval]) HF.out ?_)
        | fail)
      (with_reducible refine (HBg.out _).mono ?_); rintro e w4 ⟨rfl, hB4⟩
      have HX4 := Lib.hid (HX3.out.of hB4 HX3.out.lt)
      have HY4 := Lib.hid (HY3.out.of hB4 HY3.out.lt)
      have HB4 := Lib.hid (below_step HB3.out hB4)
      clear hB4 z0 z1 z2 z3 z4 z5 z6 z7 z8 a0
      have hG := frozOf' HX4.out
      have hyz := cellOf' HX4.out
      have hyl := HX4.out.lt
      have HX5 : Hid (Gx (wrN w4 w.heap.size ⟨id, tgt, f, g⟩) w.heap.size ⟨⟨id, tgt, f, g⟩, s.next, s.wait⟩) := Lib.hid (HX4.out.putN ⟨id, tgt, f, g⟩)
      have HY5 : Hid (Gx (wrN w4 w.heap.size ⟨id, tgt, f, g⟩) (w.heap.size + 1 + 1) ⟨zCa, zCa, 0⟩) := Lib.hid (HY4.out.putNOther (by omega) ⟨id, tgt, f, g⟩)
      have HB5 : Hid (Below w.heap.size w (wrN w4 w.heap.size ⟨id, tgt, f, g⟩)) := Lib.hid (below_putN HB4.out (Nat.le_refl _) ⟨id, tgt, f, g⟩)
      obtain ⟨z0, z1, z2, z3, z4, z5, z6, z7, z8⟩ := HX5.out.at
      go_wp2_with (fail)
      (with_reducible refine (HWt.out _).mono ?_); rintro e w6 ⟨rfl, hB6⟩
      have HX6 := Lib.hid (HX5.out.of hB6 HX5.out.lt)
      have HY6 := Lib.hid (HY5.out.of hB6 HY5.out.lt)
      have HB6 := Lib.hid (below_step HB5.out hB6)
      clear hB6 z0 z1 z2 z3 z4 z5 z6 z7 z8 hG hyz hyl HX5 HY5 HB5
      have hG := frozOf' HX6.out
      have hyz := cellOf' HX6.out
      have hyl := HX6.out.lt
      have HX7 : Hid (Gx (w6.setCell ⟨w.heap.size, 8, none⟩ (.int .i64 h3)) w.heap.size ⟨⟨id, tgt, f, g⟩, s.next, h3⟩) := Lib.hid (HX6.out.set8 h3)
      have HY7 : Hid (Gx (w6.setCell ⟨w.heap.size, 8, none⟩ (.int .i64 h3)) (w.heap.size + 1 + 1) ⟨zCa, zCa, 0⟩) := Lib.hid (HY6.out.other (by omega) _ 8)
      have HB7 : Hid (Below w.heap.size w (w6.setCell ⟨w.heap.size, 8, none⟩ (.int .i64 h3))) := Lib.hid (HB6.out.setCell (p := ⟨w.heap.size, 8, none⟩) (Nat.le_refl _) _)
      obtain ⟨z0, z1, z2, z3, z4, z5, z6, z7, z8⟩ := HX7.out.at
      have hG5 := frozOf' HY7.out
      have hyz5 := cellOf' HY7.out
      have hyl5 := HY7.out.lt
      have HR6 : Hid (Gx (wrG (w6.setCell ⟨w.heap.size, 8, none⟩ (.int .i64 h3)) (w.heap.size + 1 + 1) ⟨⟨id, tgt, f, g⟩, s.next, h3⟩) (w.heap.size + 1 + 1) ⟨⟨id, tgt, f, g⟩, s.next, h3⟩) := Lib.hid (HY7.out.putG _)
      have HS6 : Hid (Below w.heap.size w (wrG (w6.setCell ⟨w.heap.size, 8, none⟩ (.int .i64 h3)) (w.heap.size + 1 + 1) ⟨⟨id, tgt, f, g⟩, s.next, h3⟩)) := Lib.hid (below_putG HB7.out (by omega) _)
      go_wp2
      obtain ⟨q0, q1, q2, q3, q4, q5, q6, q7, q8⟩ := HR6.out.at
      refine bodyPost_ret (by simp [results, Try.results6, go_sem, q0, q1, q2, q3, q4, q5, q6, q7, q8]; try rfl) rfl ?_
      exact ⟨by rw [HE.out]; rfl, HS6.out⟩
    | false =>
      rw [if_neg (by simpa using h1)] at HE
      have HBg := Lib.hid (fun V => pbegun_any id c tgt s.now.untl HFs.out.1.2.2.2.1 fc V)
      obtain ⟨g, HG⟩ : ∃ g, Hid (held (s.now.untl + c) = g) := ⟨_, Lib.hid rfl⟩
      rw [HG.out] at HE HBg
      go_wp2_with (fail)
      (with_reducible refine (HBg.out _).mono ?_); rintro e w4 ⟨rfl, hB4⟩
      have HX4 := Lib.hid (HX3.out.of hB4 HX3.out.lt)
      have HY4 := Lib.hid (HY3.out.of hB4 HY3.out.lt)
      have HB4 := Lib.hid (below_step HB3.out hB4)
      clear hB4 z0 z1 z2 z3 z4 z5 z6 z7 z8 a0
      have hG := frozOf' HX4.out
      have hyz := cellOf' HX4.out
      have hyl := HX4.out.lt
      have HX5 : Hid (Gx (wrX w4 w.heap.size ⟨id, tgt, s.now.untl, g⟩) w.heap.size ⟨s.now, ⟨id, tgt, s.now.untl, g⟩, s.wait⟩) := Lib.hid (HX4.out.putX ⟨id, tgt, s.now.untl, g⟩)
      have HY5 : Hid (Gx (wrX w4 w.heap.size ⟨id, tgt, s.now.untl, g⟩) (w.heap.size + 1 + 1) ⟨zCa, zCa, 0⟩) := Lib.hid (HY4.out.putXOther (by omega) ⟨id, tgt, s.now.untl, g⟩)
      have HB5 : Hid (Below w.heap.size w (wrX w4 w.heap.size ⟨id, tgt, s.now.untl, g⟩)) := Lib.hid (below_putX HB4.out (Nat.le_refl _) ⟨id, tgt, s.now.untl, g⟩)
      obtain ⟨z0, z1, z2, z3, z4, z5, z6, z7, z8⟩ := HX5.out.at
      have hG5 := frozOf' HY5.out
      have hyz5 := cellOf' HY5.out
      have hyl5 := HY5.out.lt
      have HR6 : Hid (Gx (wrG (wrX w4 w.heap.size ⟨id, tgt, s.now.untl, g⟩) (w.heap.size + 1 + 1) ⟨s.now, ⟨id, tgt, s.now.untl, g⟩, s.wait⟩) (w.heap.size + 1 + 1) ⟨s.now, ⟨id, tgt, s.now.untl, g⟩, s.wait⟩) := Lib.hid (HY5.out.putG _)
      have HS6 : Hid (Below w.heap.size w (wrG (wrX w4 w.heap.size ⟨id, tgt, s.now.untl, g⟩) (w.heap.size + 1 + 1) ⟨s.now, ⟨id, tgt, s.now.untl, g⟩, s.wait⟩)) := Lib.hid (below_putG HB5.out (by omega) _)
      go_wp2
      obtain ⟨q0, q1, q2, q3, q4, q5, q6, q7, q8⟩ := HR6.out.at
      refine bodyPost_ret (by simp [results, Try.results6, go_sem, q0, q1, q2, q3, q4, q5, q6, q7, q8]; try rfl) rfl ?_
      exact ⟨by rw [HE.out]; rfl, HS6.out⟩
end Go.Proofs.Ytmhnkjjcipcjlaa.Con
