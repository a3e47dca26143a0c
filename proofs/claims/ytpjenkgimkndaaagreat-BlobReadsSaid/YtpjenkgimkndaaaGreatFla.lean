/-
  Contracts of the program's calls that write content as numbers behind a row of the caller's own: one of each kind, and rows of each.
-/
import Derived.Test.YtpjenkgimkndaaaGreatBfl
import Derived.Test.YtpjenkgimkndaaaGreatPdi
import Derived.Test.YtpjenkgimkndaaaGreatVls
import Derived.Deep.LoopGhost
namespace Go.Proofs.YtpjenkgimkndaaaGreat.Con
open Go.RowKit Go.Maps Pm Mth

/-- What a call leaves that writes numbers behind a row of its caller's own. -/
def WI (w : World) (base : Nat) (r : Option Nat) (l : List Int) (e : Ending) (w' : World) : Prop :=
  ∃ lm A c, Hid (lm = l) ∧ e = .returned (.slice A lm.length c) ∧ Hid (Own w' base .i64 3 A c lm) ∧ Hid (Step w w' r A)
theorem wi_of {w w1 w2 : World} {base : Nat} {A A2 : Option Addr} {c2 : Nat} {m lm : List Int} (h1 : Step w w1 (blk A) A) (h2 : Step w1 w2 (blk A) A2) (ho : Own w2 base .i64 3 A2 c2 lm) (hl : lm = m) : WI w base (blk A) m (.returned (.slice A2 lm.length c2)) w2 :=
  ⟨lm, A2, c2, Lib.hid hl, rfl, Lib.hid ho, Lib.hid (h1.trans h2)⟩
theorem wi_at {w w2 : World} {base : Nat} {A A2 : Option Addr} {c2 : Nat} {m lm : List Int} (h : Step w w2 (blk A) A2) (ho : Own w2 base .i64 3 A2 c2 lm) (hl : lm = m) : WI w base (blk A) m (.returned (.slice A2 lm.length c2)) w2 :=
  ⟨lm, A2, c2, Lib.hid hl, rfl, Lib.hid ho, Lib.hid h⟩
theorem step_low {w w' : World} {base : Nat} {A A' : Option Addr} {c : Nat} {l : List Int} (h : Step w w' (blk A) A') (ho : Own w base .i64 3 A c l) (hb : base ≤ w.heap.size) : Below base w w' :=
  h.below (fun k hk => (ho.lt k hk).1) hb
theorem step_le {w w' : World} {base : Nat} {A A' : Option Addr} (h : Step w w' (blk A) A') (hb : base ≤ w.heap.size) : base ≤ w'.heap.size := Nat.le_trans hb h.grown.size
/-- A box that was laid behind the row is as it was. -/
theorem step_box {w V w' : World} {base : Nat} {A A' : Option Addr} {c : Nat} {l : List Int} {b : Nat} {cs : Array Value} {t : TypeId} {z : Nat × Nat} (h : Step V w' (blk A) A') (ho : Own w base .i64 3 A c l) (hb : w.heap.size ≤ b) (hc : V.heap[b]? = some (.cells cs t z)) : ∀ o, w'.cell? ⟨b, o, none⟩ = cs[o]? := by
  intro o
  have hlt : b < V.heap.size := (Array.getElem?_eq_some_iff.1 hc).1
  rw [World.cell?_of_block (w := V) (h.grown.block b hlt (fun e => by have := (ho.lt b e.symm).2; omega))]
  simp [World.cell?, hc]
theorem rd_at {K : IntKind} {w : World} {l : List Int} {cs : Array Value} {t : TypeId} {b B : Nat} (h : cs.toList = vs K l) (hb : w.heap.size = b) (hB : b < B) : Rd K (w.alloc (.cells cs t)) B (some ⟨b, 0, none⟩) l := by
  subst hb
  exact (rd_new w l cs t h).more hB
theorem room1 {l m : List Int} (h : ((l ++ m).length : Int) ≤ 1000000) : l.length + m.length ≤ 17179869184 := by rw [List.length_append] at h; omega
theorem room2 {l a b lm : List Int} (h : ((l ++ (a ++ b)).length : Int) ≤ 1000000) (e : lm = l ++ a) : ((lm ++ b).length : Int) ≤ 1000000 := by rw [e, List.append_assoc]; exact h
theorem room3 {l a b : List Int} (h : ((l ++ (a ++ b)).length : Int) ≤ 1000000) : ((l ++ a).length : Int) ≤ 1000000 := by
  rw [← List.append_assoc, List.length_append] at h; omega
theorem join2 {l l2 l3 a b : List Int} (h3 : l3 = l2 ++ b) (h2 : l2 = l ++ a) : l3 = l ++ (a ++ b) := by rw [h3, h2, List.append_assoc]
theorem rowBo {w W : World} {B B' : Nat} {A : Option Addr} {l : List Bool} (hr : RB w B A l) {k : Nat} {x : Bool} (hx : l[k]? = some x) (hb : Below B' w W) (hB : B ≤ B') :
    ∃ p off, A = some ⟨p, off, none⟩ ∧ p < B ∧ W.cell? ⟨p, off + k, none⟩ = some (.bool x) := by
  rcases hr with rfl | ⟨p, off, hA, hlt, hc⟩
  · simp at hx
  · exact ⟨p, off, hA, hlt, (World.cell?_of_block (w := w) (hb.block p (by omega))).trans (hc k x hx)⟩
theorem at_take {α : Type} {g : α → List Int} {m : List α} {l l1 : List Int} {h : Int} {k : Nat} {x : α} (hx : m[k]? = some x) (h1 : l1 = l ++ (h :: (m.take k).flatMap g)) : l1 ++ g x = l ++ (h :: (m.take (k + 1)).flatMap g) := by
  rw [h1, List.take_add_one, hx]; simp
theorem room_take {α : Type} {g : α → List Int} {m : List α} {l l1 : List Int} {h : Int} {k : Nat} {x : α} (hx : m[k]? = some x) (h1 : l1 = l ++ (h :: (m.take k).flatMap g)) (hr : ((l ++ (h :: m.flatMap g)).length : Int) ≤ 1000000) : ((l1 ++ g x).length : Int) ≤ 1000000 := by
  rw [at_take hx h1]
  have e : m.flatMap g = (m.take (k + 1)).flatMap g ++ (m.drop (k + 1)).flatMap g := by rw [← List.flatMap_append, List.take_append_drop]
  rw [e] at hr
  simp only [List.length_append, List.length_cons] at hr ⊢
  omega
theorem all_take {α : Type} {g : α → List Int} {m : List α} {l l1 : List Int} {h : Int} {k : Nat} (hk : m.length ≤ k) (h1 : l1 = l ++ (h :: (m.take k).flatMap g)) : l1 = l ++ (h :: m.flatMap g) := by
  rw [h1, List.take_of_length_le hk]
set_option maxHeartbeats 400000 in
theorem flatEffect_any (x : Ef) (w : World) (base : Nat) (A : Option Addr) (c : Nat) (l : List Int) (ho : Own w base .i64 3 A c l) (hl : ((l ++ fEf x).length : Int) ≤ 1000000) (hb : base ≤ w.heap.size) :
    Calls Tryz.prog 56 #[.slice A l.length c, efv x] w (WI w base (blk A) (l ++ fEf x)) := by
  have HO := Lib.hid ho; have HL := Lib.hid (room1 hl); have HB9 := Lib.hid hb; clear ho hl hb
  go_enter Tryz.func56, Tryz.ntmps56
  go_wp2_with (at_builtin; refine Pm.wpList_app (K := .i64) (t := 35) (e := 3) Tryz.underlying35 int_info rfl (by omega) rfl (.tmp 5) (.tmp 12) rfl base (w.heap.size + 2) A c l (fEf x) _ _ rfl rfl ((HO.out.alloc _).alloc _) (rd_at rfl (by simp) (by simp)) HL.out (by have := HB9.out; simp <;> omega) ?_; intro A2 c2 w2 l2 HL2 HO2 HS2)
  go_ret
  exact wi_of (((Step.refl w A).alloc _).alloc _) HS2.out HO2.out HL2.out
set_option maxHeartbeats 400000 in
theorem flatLine_any (x : Ln) (w : World) (base : Nat) (A : Option Addr) (c : Nat) (l : List Int) (ho : Own w base .i64 3 A c l) (hl : ((l ++ fLn x).length : Int) ≤ 1000000) (hb : base ≤ w.heap.size) :
    Calls Tryz.prog 58 #[.slice A l.length c, lnv x] w (WI w base (blk A) (l ++ fLn x)) := by
  have HO := Lib.hid ho; have HL := Lib.hid (room1 hl); have HB9 := Lib.hid hb; clear ho hl hb
  go_enter Tryz.func58, Tryz.ntmps58
  go_wp2_with (at_builtin; refine Pm.wpList_app (K := .i64) (t := 35) (e := 3) Tryz.underlying35 int_info rfl (by omega) rfl (.tmp 5) (.tmp 16) rfl base (w.heap.size + 2) A c l (fLn x) _ _ rfl rfl ((HO.out.alloc _).alloc _) (rd_at rfl (by simp) (by simp)) HL.out (by have := HB9.out; simp <;> omega) ?_; intro A2 c2 w2 l2 HL2 HO2 HS2)
  go_ret
  exact wi_of (((Step.refl w A).alloc _).alloc _) HS2.out HO2.out HL2.out
set_option maxHeartbeats 400000 in
theorem flatPrize_any (x : Pz) (w : World) (base : Nat) (A : Option Addr) (c : Nat) (l : List Int) (ho : Own w base .i64 3 A c l) (hl : ((l ++ fPz x).length : Int) ≤ 1000000) (hb : base ≤ w.heap.size) :
    Calls Tryz.prog 60 #[.slice A l.length c, pzv x] w (WI w base (blk A) (l ++ fPz x)) := by
  have HO := Lib.hid ho; have HL := Lib.hid (room1 hl); have HB9 := Lib.hid hb; clear ho hl hb
  go_enter Tryz.func60, Tryz.ntmps60
  go_wp2_with (at_builtin; refine Pm.wpList_app (K := .i64) (t := 35) (e := 3) Tryz.underlying35 int_info rfl (by omega) rfl (.tmp 5) (.tmp 10) rfl base (w.heap.size + 2) A c l (fPz x) _ _ rfl rfl ((HO.out.alloc _).alloc _) (rd_at rfl (by simp) (by simp)) HL.out (by have := HB9.out; simp <;> omega) ?_; intro A2 c2 w2 l2 HL2 HO2 HS2)
  go_ret
  exact wi_of (((Step.refl w A).alloc _).alloc _) HS2.out HO2.out HL2.out
set_option maxHeartbeats 400000 in
theorem flatPos_any (x y : Int) (w : World) (base : Nat) (A : Option Addr) (c : Nat) (l : List Int) (ho : Own w base .i64 3 A c l) (hl : ((l ++ [x, y]).length : Int) ≤ 1000000) (hb : base ≤ w.heap.size) :
    Calls Tryz.prog 31 #[.slice A l.length c, pv x y] w (WI w base (blk A) (l ++ [x, y])) := by
  have HO := Lib.hid ho; have HL := Lib.hid (room1 hl); have HB9 := Lib.hid hb; clear ho hl hb
  go_enter Tryz.func31, Tryz.ntmps31
  go_wp2_with (at_builtin; refine Pm.wpList_app (K := .i64) (t := 35) (e := 3) Tryz.underlying35 int_info rfl (by omega) rfl (.tmp 5) (.tmp 10) rfl base (w.heap.size + 2) A c l [x, y] _ _ rfl rfl ((HO.out.alloc _).alloc _) (rd_at rfl (by simp) (by simp)) HL.out (by have := HB9.out; simp <;> omega) ?_; intro A2 c2 w2 l2 HL2 HO2 HS2)
  go_ret
  exact wi_of (((Step.refl w A).alloc _).alloc _) HS2.out HO2.out HL2.out
set_option maxHeartbeats 400000 in
theorem flatTruth_any (x : Bool) (w : World) (base : Nat) (A : Option Addr) (c : Nat) (l : List Int) (ho : Own w base .i64 3 A c l) (hl : ((l ++ fTr x).length : Int) ≤ 1000000) (hb : base ≤ w.heap.size) :
    Calls Tryz.prog 54 #[.slice A l.length c, .bool x] w (WI w base (blk A) (l ++ fTr x)) := by
  have HO := Lib.hid ho; have HL : Hid (l.length + [b2i x].length ≤ 17179869184) := Lib.hid (room1 (m := fTr x) hl); have HB9 := Lib.hid hb; clear ho hl hb
  cases x with
  | true =>
    go_enter Tryz.func54, Tryz.ntmps54
    go_wp2_with (at_builtin; refine Pm.wpList_app (K := .i64) (t := 35) (e := 3) Tryz.underlying35 int_info rfl (by omega) rfl (.tmp 6) (.tmp 7) rfl base (w.heap.size + 1) A c l [1] _ _ rfl rfl (HO.out.alloc _) (rd_at rfl (by simp) (by simp)) HL.out (by have := HB9.out; simp <;> omega) ?_; intro A2 c2 w2 l2 HL2 HO2 HS2)
    go_ret
    exact wi_of ((Step.refl w A).alloc _) HS2.out HO2.out HL2.out
  | false =>
    go_enter Tryz.func54, Tryz.ntmps54
    go_wp2_with (at_builtin; refine Pm.wpList_app (K := .i64) (t := 35) (e := 3) Tryz.underlying35 int_info rfl (by omega) rfl (.tmp 9) (.tmp 10) rfl base (w.heap.size + 1) A c l [0] _ _ rfl rfl (HO.out.alloc _) (rd_at rfl (by simp) (by simp)) HL.out (by have := HB9.out; simp <;> omega) ?_; intro A2 c2 w2 l2 HL2 HO2 HS2)
    go_ret
    exact wi_of ((Step.refl w A).alloc _) HS2.out HO2.out HL2.out
set_option maxRecDepth 20000 in
set_option maxHeartbeats 4000000 in
theorem flatRows_ef (m : List Ef) (A2 : Option Addr) (c2 : Nat) (w : World) (base : Nat) (A : Option Addr) (c : Nat) (l : List Int) (ho : Own w base .i64 3 A c l) (hl : ((l ++ fRows fEf m).length : Int) ≤ 1000000) (hb : base ≤ w.heap.size) (B : Nat) (hr : RW ef w B A2 m) (hB : B ≤ base) :
    Calls Tryz.prog 55 #[.slice A l.length c, .slice A2 m.length c2, .func (.func 56) #[] #[]] w (WI w base (blk A) (l ++ fRows fEf m)) := by
  have hm1 : (m.length : Int) ≤ 1000000 := by
    have h9 := hl; unfold fRows at h9; simp only [List.length_append, List.length_cons] at h9
    have : m.length ≤ (m.flatMap fEf).length := by
      clear h9 hl hr
      induction m with
      | nil => simp
      | cons x r ih => rw [List.flatMap_cons, List.length_append, List.length_cons]; have : 1 ≤ (fEf x).length := by simp [fEf]
                       omega
    omega
  have HO := Lib.hid ho; have HL := Lib.hid hl; have HB9 := Lib.hid hb; have HR := Lib.hid hr; have HB := Lib.hid hB
  clear ho hl hb hr hB
  have HL1 : Hid (l.length + [(m.length : Int)].length ≤ 17179869184) := Lib.hid (by have h9 := HL.out; unfold fRows at h9; simp only [List.length_append, List.length_cons] at h9; simp; omega)
  go_enter Tryz.func55, Tryz.ntmps55
  go_wp2_with (at_builtin; refine Pm.wpList_app (K := .i64) (t := 35) (e := 3) Tryz.underlying35 int_info rfl (by omega) rfl (.tmp 9) (.tmp 12) rfl base (w.heap.size + 1) A c l [(m.length : Int)] _ _ rfl rfl (HO.out.alloc _) (rd_at rfl (by simp) (by simp)) HL1.out (by have := HB9.out; simp <;> omega) ?_; intro A3 c3 w3 l3 HL3 HO3 HS3)
  have HT : Hid (Step w w3 (blk A) A3) := Lib.hid (((Step.refl w A).alloc _).trans HS3.out)
  go_loopg [0, 16] m.length (fun g s0 s16 wr => ∃ (k : Nat) (l1 : List Int) (A1 : Option Addr) (c1 : Nat), k ≤ m.length ∧ g = m.length - k ∧ s0 = .slice A1 l1.length c1 ∧ s16 = .int .i64 (k : Int) ∧ Hid (Own wr base .i64 3 A1 c1 l1) ∧ Hid (Step w wr (blk A) A1) ∧ Hid (l1 = l ++ ((m.length : Int) :: (m.take k).flatMap fEf)))
  case atStart => exact ⟨0, l3, A3, c3, by omega, rfl, rfl, rfl, HO3, HT, Lib.hid (by rw [HL3.out]; simp)⟩
  case round =>
    obtain ⟨k, l1, A1, c1, hk, rfl, rfl, rfl, HO1, HS1, HE⟩ := hrel
    by_cases hlt : k < m.length
    · have hkl' : (k : Int) < m.length := by omega
      obtain ⟨x, hx⟩ : ∃ x, m[k]? = some x := ⟨_, List.getElem?_eq_getElem hlt⟩
      have hlow := step_low HS1.out HO.out HB9.out
      obtain ⟨p, off, hA, hpl, q0, q1, q2⟩ := rowEf HR.out hx hlow HB.out
      subst hA
      have HX := Lib.hid hx; have HLow := Lib.hid hlow
      have hws : base ≤ wr.heap.size := step_le HS1.out HB9.out
      have hpw : p < wr.heap.size := by have := HB.out; omega
      have HRoom := Lib.hid (room_take HX.out HE.out HL.out)
      clear hx hlow
      go_wp2_with (first | ((with_reducible refine (flatEffect_any x _ base A1 c1 l1 (HO1.out.alloc _) HRoom.out (by simp <;> omega)).mono ?_); rintro e w4 ⟨l4, A4, c4, HL4, rfl, HO4, HS4⟩))
      go_roundg (m.length - (k + 1))
      case measure => omega
      case rel => exact ⟨k + 1, l4, A4, c4, by omega, rfl, rfl, by go_num, HO4, Lib.hid ((HS1.out.alloc _).trans HS4.out), Lib.hid (by rw [HL4.out]; exact at_take HX.out HE.out)⟩
    · have hkl' : decide ((k : Int) < m.length) = false := by simp; omega
      go_wp2
      go_ret
      exact wi_at HS1.out HO1.out (all_take (by omega) HE.out)
set_option maxRecDepth 20000 in
set_option maxHeartbeats 4000000 in
theorem flatRows_ln (m : List Ln) (A2 : Option Addr) (c2 : Nat) (w : World) (base : Nat) (A : Option Addr) (c : Nat) (l : List Int) (ho : Own w base .i64 3 A c l) (hl : ((l ++ fRows fLn m).length : Int) ≤ 1000000) (hb : base ≤ w.heap.size) (B : Nat) (hr : RW ln w B A2 m) (hB : B ≤ base) :
    Calls Tryz.prog 57 #[.slice A l.length c, .slice A2 m.length c2, .func (.func 58) #[] #[]] w (WI w base (blk A) (l ++ fRows fLn m)) := by
  have hm1 : (m.length : Int) ≤ 1000000 := by
    have h9 := hl; unfold fRows at h9; simp only [List.length_append, List.length_cons] at h9
    have : m.length ≤ (m.flatMap fLn).length := by
      clear h9 hl hr
      induction m with
      | nil => simp
      | cons x r ih => rw [List.flatMap_cons, List.length_append, List.length_cons]; have : 1 ≤ (fLn x).length := by simp [fLn]
                       omega
    omega
  have HO := Lib.hid ho; have HL := Lib.hid hl; have HB9 := Lib.hid hb; have HR := Lib.hid hr; have HB := Lib.hid hB
  clear ho hl hb hr hB
  have HL1 : Hid (l.length + [(m.length : Int)].length ≤ 17179869184) := Lib.hid (by have h9 := HL.out; unfold fRows at h9; simp only [List.length_append, List.length_cons] at h9; simp; omega)
  go_enter Tryz.func57, Tryz.ntmps57
  go_wp2_with (at_builtin; refine Pm.wpList_app (K := .i64) (t := 35) (e := 3) Tryz.underlying35 int_info rfl (by omega) rfl (.tmp 9) (.tmp 12) rfl base (w.heap.size + 1) A c l [(m.length : Int)] _ _ rfl rfl (HO.out.alloc _) (rd_at rfl (by simp) (by simp)) HL1.out (by have := HB9.out; simp <;> omega) ?_; intro A3 c3 w3 l3 HL3 HO3 HS3)
  have HT : Hid (Step w w3 (blk A) A3) := Lib.hid (((Step.refl w A).alloc _).trans HS3.out)
  go_loopg [0, 16] m.length (fun g s0 s16 wr => ∃ (k : Nat) (l1 : List Int) (A1 : Option Addr) (c1 : Nat), k ≤ m.length ∧ g = m.length - k ∧ s0 = .slice A1 l1.length c1 ∧ s16 = .int .i64 (k : Int) ∧ Hid (Own wr base .i64 3 A1 c1 l1) ∧ Hid (Step w wr (blk A) A1) ∧ Hid (l1 = l ++ ((m.length : Int) :: (m.take k).flatMap fLn)))
  case atStart => exact ⟨0, l3, A3, c3, by omega, rfl, rfl, rfl, HO3, HT, Lib.hid (by rw [HL3.out]; simp)⟩
  case round =>
    obtain ⟨k, l1, A1, c1, hk, rfl, rfl, rfl, HO1, HS1, HE⟩ := hrel
    by_cases hlt : k < m.length
    · have hkl' : (k : Int) < m.length := by omega
      obtain ⟨x, hx⟩ : ∃ x, m[k]? = some x := ⟨_, List.getElem?_eq_getElem hlt⟩
      have hlow := step_low HS1.out HO.out HB9.out
      obtain ⟨p, off, hA, hpl, q0, q1, q2, q3, q4⟩ := rowLn HR.out hx hlow HB.out
      subst hA
      have HX := Lib.hid hx; have HLow := Lib.hid hlow
      have hws : base ≤ wr.heap.size := step_le HS1.out HB9.out
      have hpw : p < wr.heap.size := by have := HB.out; omega
      have HRoom := Lib.hid (room_take HX.out HE.out HL.out)
      clear hx hlow
      go_wp2_with (first | ((with_reducible refine (flatLine_any x _ base A1 c1 l1 (HO1.out.alloc _) HRoom.out (by simp <;> omega)).mono ?_); rintro e w4 ⟨l4, A4, c4, HL4, rfl, HO4, HS4⟩))
      go_roundg (m.length - (k + 1))
      case measure => omega
      case rel => exact ⟨k + 1, l4, A4, c4, by omega, rfl, rfl, by go_num, HO4, Lib.hid ((HS1.out.alloc _).trans HS4.out), Lib.hid (by rw [HL4.out]; exact at_take HX.out HE.out)⟩
    · have hkl' : decide ((k : Int) < m.length) = false := by simp; omega
      go_wp2
      go_ret
      exact wi_at HS1.out HO1.out (all_take (by omega) HE.out)
set_option maxRecDepth 20000 in
set_option maxHeartbeats 4000000 in
theorem flatRows_pz (m : List Pz) (A2 : Option Addr) (c2 : Nat) (w : World) (base : Nat) (A : Option Addr) (c : Nat) (l : List Int) (ho : Own w base .i64 3 A c l) (hl : ((l ++ fRows fPz m).length : Int) ≤ 1000000) (hb : base ≤ w.heap.size) (B : Nat) (hr : RW pz w B A2 m) (hB : B ≤ base) :
    Calls Tryz.prog 59 #[.slice A l.length c, .slice A2 m.length c2, .func (.func 60) #[] #[]] w (WI w base (blk A) (l ++ fRows fPz m)) := by
  have hm1 : (m.length : Int) ≤ 1000000 := by
    have h9 := hl; unfold fRows at h9; simp only [List.length_append, List.length_cons] at h9
    have : m.length ≤ (m.flatMap fPz).length := by
      clear h9 hl hr
      induction m with
      | nil => simp
      | cons x r ih => rw [List.flatMap_cons, List.length_append, List.length_cons]; have : 1 ≤ (fPz x).length := by simp [fPz]
                       omega
    omega
  have HO := Lib.hid ho; have HL := Lib.hid hl; have HB9 := Lib.hid hb; have HR := Lib.hid hr; have HB := Lib.hid hB
  clear ho hl hb hr hB
  have HL1 : Hid (l.length + [(m.length : Int)].length ≤ 17179869184) := Lib.hid (by have h9 := HL.out; unfold fRows at h9; simp only [List.length_append, List.length_cons] at h9; simp; omega)
  go_enter Tryz.func59, Tryz.ntmps59
  go_wp2_with (at_builtin; refine Pm.wpList_app (K := .i64) (t := 35) (e := 3) Tryz.underlying35 int_info rfl (by omega) rfl (.tmp 9) (.tmp 12) rfl base (w.heap.size + 1) A c l [(m.length : Int)] _ _ rfl rfl (HO.out.alloc _) (rd_at rfl (by simp) (by simp)) HL1.out (by have := HB9.out; simp <;> omega) ?_; intro A3 c3 w3 l3 HL3 HO3 HS3)
  have HT : Hid (Step w w3 (blk A) A3) := Lib.hid (((Step.refl w A).alloc _).trans HS3.out)
  go_loopg [0, 16] m.length (fun g s0 s16 wr => ∃ (k : Nat) (l1 : List Int) (A1 : Option Addr) (c1 : Nat), k ≤ m.length ∧ g = m.length - k ∧ s0 = .slice A1 l1.length c1 ∧ s16 = .int .i64 (k : Int) ∧ Hid (Own wr base .i64 3 A1 c1 l1) ∧ Hid (Step w wr (blk A) A1) ∧ Hid (l1 = l ++ ((m.length : Int) :: (m.take k).flatMap fPz)))
  case atStart => exact ⟨0, l3, A3, c3, by omega, rfl, rfl, rfl, HO3, HT, Lib.hid (by rw [HL3.out]; simp)⟩
  case round =>
    obtain ⟨k, l1, A1, c1, hk, rfl, rfl, rfl, HO1, HS1, HE⟩ := hrel
    by_cases hlt : k < m.length
    · have hkl' : (k : Int) < m.length := by omega
      obtain ⟨x, hx⟩ : ∃ x, m[k]? = some x := ⟨_, List.getElem?_eq_getElem hlt⟩
      have hlow := step_low HS1.out HO.out HB9.out
      obtain ⟨p, off, hA, hpl, q0, q1⟩ := rowPz HR.out hx hlow HB.out
      subst hA
      have HX := Lib.hid hx; have HLow := Lib.hid hlow
      have hws : base ≤ wr.heap.size := step_le HS1.out HB9.out
      have hpw : p < wr.heap.size := by have := HB.out; omega
      have HRoom := Lib.hid (room_take HX.out HE.out HL.out)
      clear hx hlow
      go_wp2_with (first | ((with_reducible refine (flatPrize_any x _ base A1 c1 l1 (HO1.out.alloc _) HRoom.out (by simp <;> omega)).mono ?_); rintro e w4 ⟨l4, A4, c4, HL4, rfl, HO4, HS4⟩))
      go_roundg (m.length - (k + 1))
      case measure => omega
      case rel => exact ⟨k + 1, l4, A4, c4, by omega, rfl, rfl, by go_num, HO4, Lib.hid ((HS1.out.alloc _).trans HS4.out), Lib.hid (by rw [HL4.out]; exact at_take HX.out HE.out)⟩
    · have hkl' : decide ((k : Int) < m.length) = false := by simp; omega
      go_wp2
      go_ret
      exact wi_at HS1.out HO1.out (all_take (by omega) HE.out)
set_option maxRecDepth 20000 in
set_option maxHeartbeats 4000000 in
theorem flatRows_bo (m : List Bool) (A2 : Option Addr) (c2 : Nat) (w : World) (base : Nat) (A : Option Addr) (c : Nat) (l : List Int) (ho : Own w base .i64 3 A c l) (hl : ((l ++ fRows fTr m).length : Int) ≤ 1000000) (hb : base ≤ w.heap.size) (B : Nat) (hr : RB w B A2 m) (hB : B ≤ base) :
    Calls Tryz.prog 61 #[.slice A l.length c, .slice A2 m.length c2, .func (.func 54) #[] #[]] w (WI w base (blk A) (l ++ fRows fTr m)) := by
  have hm1 : (m.length : Int) ≤ 1000000 := by
    have h9 := hl; unfold fRows at h9; simp only [List.length_append, List.length_cons] at h9
    have : m.length ≤ (m.flatMap fTr).length := by
      clear h9 hl hr
      induction m with
      | nil => simp
      | cons x r ih => rw [List.flatMap_cons, List.length_append, List.length_cons]; have : 1 ≤ (fTr x).length := by simp [fTr]
                       omega
    omega
  have HO := Lib.hid ho; have HL := Lib.hid hl; have HB9 := Lib.hid hb; have HR := Lib.hid hr; have HB := Lib.hid hB
  clear ho hl hb hr hB
  have HL1 : Hid (l.length + [(m.length : Int)].length ≤ 17179869184) := Lib.hid (by have h9 := HL.out; unfold fRows at h9; simp only [List.length_append, List.length_cons] at h9; simp; omega)
  go_enter Tryz.func61, Tryz.ntmps61
  go_wp2_with (at_builtin; refine Pm.wpList_app (K := .i64) (t := 35) (e := 3) Tryz.underlying35 int_info rfl (by omega) rfl (.tmp 9) (.tmp 12) rfl base (w.heap.size + 1) A c l [(m.length : Int)] _ _ rfl rfl (HO.out.alloc _) (rd_at rfl (by simp) (by simp)) HL1.out (by have := HB9.out; simp <;> omega) ?_; intro A3 c3 w3 l3 HL3 HO3 HS3)
  have HT : Hid (Step w w3 (blk A) A3) := Lib.hid (((Step.refl w A).alloc _).trans HS3.out)
  go_loopg [0, 16] m.length (fun g s0 s16 wr => ∃ (k : Nat) (l1 : List Int) (A1 : Option Addr) (c1 : Nat), k ≤ m.length ∧ g = m.length - k ∧ s0 = .slice A1 l1.length c1 ∧ s16 = .int .i64 (k : Int) ∧ Hid (Own wr base .i64 3 A1 c1 l1) ∧ Hid (Step w wr (blk A) A1) ∧ Hid (l1 = l ++ ((m.length : Int) :: (m.take k).flatMap fTr)))
  case atStart => exact ⟨0, l3, A3, c3, by omega, rfl, rfl, rfl, HO3, HT, Lib.hid (by rw [HL3.out]; simp)⟩
  case round =>
    obtain ⟨k, l1, A1, c1, hk, rfl, rfl, rfl, HO1, HS1, HE⟩ := hrel
    by_cases hlt : k < m.length
    · have hkl' : (k : Int) < m.length := by omega
      obtain ⟨x, hx⟩ : ∃ x, m[k]? = some x := ⟨_, List.getElem?_eq_getElem hlt⟩
      have hlow := step_low HS1.out HO.out HB9.out
      obtain ⟨p, off, hA, hpl, q0⟩ := rowBo HR.out hx hlow HB.out
      subst hA
      have HX := Lib.hid hx; have HLow := Lib.hid hlow
      have hws : base ≤ wr.heap.size := step_le HS1.out HB9.out
      have hpw : p < wr.heap.size := by have := HB.out; omega
      have HRoom := Lib.hid (room_take HX.out HE.out HL.out)
      clear hx hlow
      go_wp2_with (first | ((with_reducible refine (flatTruth_any x _ base A1 c1 l1 HO1.out HRoom.out hws).mono ?_); rintro e w4 ⟨l4, A4, c4, HL4, rfl, HO4, HS4⟩))
      go_roundg (m.length - (k + 1))
      case measure => omega
      case rel => exact ⟨k + 1, l4, A4, c4, by omega, rfl, rfl, by go_num, HO4, Lib.hid (HS1.out.trans HS4.out), Lib.hid (by rw [HL4.out]; exact at_take HX.out HE.out)⟩
    · have hkl' : decide ((k : Int) < m.length) = false := by simp; omega
      go_wp2
      go_ret
      exact wi_at HS1.out HO1.out (all_take (by omega) HE.out)
end Go.Proofs.YtpjenkgimkndaaaGreat.Con
