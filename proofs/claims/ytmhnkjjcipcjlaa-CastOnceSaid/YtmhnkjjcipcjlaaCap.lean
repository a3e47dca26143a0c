/-
  Casts, one behind the other, as plain mathematics. No memory, no program.
-/
import Derived.Test.YtmhnkjjcipcjlaaKnd
namespace Go.Proofs.Ytmhnkjjcipcjlaa.Con

abbrev zCa : Ca := ⟨0, 0, 0, 0⟩
structure Cg where
  now : Ca
  next : Ca
  wait : Int
deriving DecidableEq
def OneC (c : Ca) : Prop := (c.ability = 0 → c = zCa) ∧ (c.ability ≠ 0 → 1 ≤ c.ability ∧ c.since ≤ c.untl)
def RtG (s : Cg) : Prop := OneC s.now ∧ OneC s.next ∧ (s.next.ability ≠ 0 → s.now.ability ≠ 0 ∧ s.next.since = s.now.untl)
/-- Is one done at t? -/
abbrev due (s : Cg) (t : Int) : Prop := s.now.ability ≠ 0 ∧ s.now.untl ≤ t
/-- Behind the first one. -/
def nxG (s : Cg) : Cg := ⟨s.next, zCa, if s.next.ability = 0 then s.wait else held (s.next.since + 3)⟩
def stG (s : Cg) (t : Int) : List Ca × Cg := if due s t then (if due (nxG s) t then ([s.now, s.next], nxG (nxG s)) else ([s.now], nxG s)) else ([], s)
def dnG (s : Cg) : Int := if s.next.ability = 0 then (if s.now.ability = 0 then s.wait else s.now.untl) else s.next.untl
/-- The casts that are there, in order. -/
def pend (s : Cg) : List Ca := (if s.now.ability = 0 then [] else [s.now]) ++ (if s.next.ability = 0 then [] else [s.next])
/-- Begin, of a right Casting, an ability of Id 1 at least and Cast 0 at least: none where it is busy. -/
def beG (s : Cg) (id cast tgt t : Int) : Option Cg :=
  if s.now.ability = 0 then (if held (t + 2) < s.wait then none else some ⟨⟨id, tgt, max t s.wait, held (max t s.wait + cast)⟩, s.next, held (max t s.wait + 3)⟩)
  else if s.next.ability ≠ 0 ∨ held (t + 2) < s.now.untl ∨ s.now.untl < s.wait then none
  else some ⟨s.now, ⟨id, tgt, s.now.untl, held (s.now.untl + cast)⟩, s.wait⟩

/-! ### steps -/
theorem one_z : OneC zCa := ⟨fun _ => rfl, fun h => absurd rfl h⟩
theorem rt_nx {s : Cg} (h : RtG s) : RtG (nxG s) := ⟨h.2.1, one_z, fun h => absurd rfl h⟩
theorem nx_due (s : Cg) (t : Int) : ¬ due (nxG (nxG s)) t := fun h => absurd rfl h.1
theorem st_rt {s : Cg} (h : RtG s) (t : Int) : RtG (stG s t).2 := by
  unfold stG
  split
  · split
    · exact rt_nx (rt_nx h)
    · exact rt_nx h
  · exact h
theorem st_no {s : Cg} {t : Int} (h : ¬ due s t) : stG s t = ([], s) := by unfold stG; rw [if_neg h]
/-- Step at a time is Step at one ahead of it, and then at it. -/
theorem st_join (s : Cg) {t u : Int} (h : t ≤ u) : (stG (stG s t).2 u).2 = (stG s u).2 ∧ (stG s t).1 ++ (stG (stG s t).2 u).1 = (stG s u).1 := by
  by_cases h1 : due s t
  · have h1u : due s u := ⟨h1.1, by have := h1.2; omega⟩
    by_cases h2 : due (nxG s) t
    · have h2u : due (nxG s) u := ⟨h2.1, by have := h2.2; omega⟩
      have e : stG s t = ([s.now, s.next], nxG (nxG s)) := by unfold stG; rw [if_pos h1, if_pos h2]
      have f : stG s u = ([s.now, s.next], nxG (nxG s)) := by unfold stG; rw [if_pos h1u, if_pos h2u]
      rw [e, f, st_no (nx_due s u)]; exact ⟨rfl, rfl⟩
    · have e : stG s t = ([s.now], nxG s) := by unfold stG; rw [if_pos h1, if_neg h2]
      rw [e]
      by_cases h2u : due (nxG s) u
      · have f : stG s u = ([s.now, s.next], nxG (nxG s)) := by unfold stG; rw [if_pos h1u, if_pos h2u]
        have g : stG (nxG s) u = ([s.next], nxG (nxG s)) := by unfold stG; rw [if_pos h2u, if_neg (nx_due s u)]; rfl
        rw [f, g]; exact ⟨rfl, rfl⟩
      · have f : stG s u = ([s.now], nxG s) := by unfold stG; rw [if_pos h1u, if_neg h2u]
        rw [f, st_no h2u]; exact ⟨rfl, rfl⟩
  · rw [st_no h1]; exact ⟨rfl, rfl⟩
theorem st_len (s : Cg) (t : Int) : (stG s t).1.length ≤ 2 := by
  unfold stG
  split
  · split <;> simp
  · simp
/-- Nothing is cast any more behind Done. -/
theorem st_done {s : Cg} (h : RtG s) {t : Int} (h1 : dnG s ≤ t) (h2 : s.now.untl ≤ t) : (stG s t).2.now = zCa := by
  obtain ⟨q1, q2, q3⟩ := h
  unfold dnG at h1
  by_cases e : s.now.ability = 0
  · rw [st_no (fun g => g.1 e)]; exact q1.1 e
  · have hd : due s t := ⟨e, h2⟩
    by_cases f : s.next.ability = 0
    · have hn : ¬ due (nxG s) t := fun g => g.1 f
      have : stG s t = ([s.now], nxG s) := by unfold stG; rw [if_pos hd, if_neg hn]
      rw [this]; exact q2.1 f
    · rw [if_neg f] at h1
      have hn : due (nxG s) t := ⟨f, h1⟩
      have : stG s t = ([s.now, s.next], nxG (nxG s)) := by unfold stG; rw [if_pos hd, if_pos hn]
      rw [this]; rfl
theorem st_pend (s : Cg) (t : Int) : (stG s t).1 ++ pend (stG s t).2 = pend s ∧ (∀ c ∈ (stG s t).1, c.untl ≤ t) ∧ ¬ due (stG s t).2 t := by
  by_cases h1 : due s t
  · have hp : pend s = [s.now] ++ pend (nxG s) := by
      unfold pend
      rw [if_neg h1.1]
      show _ = [s.now] ++ ((if s.next.ability = 0 then [] else [s.next]) ++ (if (0 : Int) = 0 then [] else [zCa]))
      simp
    by_cases h2 : due (nxG s) t
    · have e : stG s t = ([s.now, s.next], nxG (nxG s)) := by unfold stG; rw [if_pos h1, if_pos h2]
      rw [e]
      refine ⟨?_, fun c hc => ?_, nx_due s t⟩
      · rw [hp]
        have h3 : s.next.ability ≠ 0 := h2.1
        have : pend (nxG s) = [s.next] := by show (if s.next.ability = 0 then [] else [s.next]) ++ _ = _; rw [if_neg h3]; rfl
        rw [this]; rfl
      · rcases List.mem_cons.1 hc with rfl | hc
        · exact h1.2
        · rcases List.mem_singleton.1 hc with rfl; exact h2.2
    · have e : stG s t = ([s.now], nxG s) := by unfold stG; rw [if_pos h1, if_neg h2]
      rw [e]
      exact ⟨hp.symm, fun c hc => by rcases List.mem_singleton.1 hc with rfl; exact h1.2, h2⟩
  · rw [st_no h1]
    exact ⟨rfl, fun c hc => (by cases hc), h1⟩
/-- At the end of numbers all is done. -/
theorem st_all {s : Cg} (h : RtG s) {t : Int} (hu : ∀ c ∈ pend s, c.untl ≤ t) : (stG s t).1 = pend s := by
  obtain ⟨h1, _, h3⟩ := st_pend s t
  have h4 : pend (stG s t).2 = [] := by
    have hr := st_rt h t
    have hn : (stG s t).2.now.ability = 0 := by
      refine Classical.byContradiction (fun e => h3 ⟨e, hu _ ?_⟩)
      rw [← h1]
      refine List.mem_append_right _ ?_
      unfold pend
      rw [if_neg e]; simp
    have hx : (stG s t).2.next.ability = 0 := Classical.byContradiction (fun e => (hr.2.2 e).1 hn)
    unfold pend
    rw [if_pos hn, if_pos hx]; rfl
  rw [h4, List.append_nil] at h1; exact h1

/-! ### what holds behind any steps at rising times -/
structure Once (s : Cg) (D : List Ca) (t : Int) : Prop where
  rt : RtG s
  t0 : 0 ≤ t
  dn : ∀ c ∈ D, c.since ≤ t
  sm : ∀ c ∈ pend s, 0 ≤ c.since ∧ c.since ≤ t + 2 ∧ c.since ≤ c.untl ∧ c.untl ≤ t + 17
  wb : 0 ≤ s.wait ∧ s.wait ≤ t + 5
  wt : s.next.ability = 0 → ∀ c, (D ++ pend s).getLast? = some c → c.since + 3 ≤ s.wait
theorem once_nil : Once ⟨zCa, zCa, 0⟩ [] 0 := ⟨⟨one_z, one_z, fun h => absurd rfl h⟩, Int.le_refl _, fun c hc => (by cases hc), fun c hc => (by cases hc), ⟨by show (0 : Int) ≤ 0; omega, by show (0 : Int) ≤ _; omega⟩, fun _ c hc => by cases hc⟩
theorem Once.later {s : Cg} {D : List Ca} {t u : Int} (h : Once s D t) (hu : t ≤ u) : Once s D u :=
  ⟨h.rt, Int.le_trans h.t0 hu, fun c hc => Int.le_trans (h.dn c hc) hu, fun c hc => by have := h.sm c hc; omega, by have := h.wb; omega, h.wt⟩
theorem Once.stop {s : Cg} {D : List Ca} {t : Int} (h : Once s D t) : Once ⟨zCa, zCa, t + 3⟩ D t :=
  ⟨⟨one_z, one_z, fun h => absurd rfl h⟩, h.t0, h.dn, fun c hc => (by cases hc), ⟨by have := h.t0; show 0 ≤ t + 3; omega, by show t + 3 ≤ _; omega⟩, fun _ c hc => by
    have e : pend (⟨zCa, zCa, t + 3⟩ : Cg) = [] := rfl
    rw [e, List.append_nil] at hc
    have := h.dn c (List.mem_of_getLast? hc)
    show _ ≤ t + 3; omega⟩
theorem held_small {x : Int} (h : 0 ≤ x) (h2 : x ≤ 9000000) : held x = x := held_in ⟨by omega, by omega⟩
theorem Once.step {s : Cg} {D : List Ca} {t : Int} (h : Once s D t) (ht : t ≤ 1000000) : Once (stG s t).2 (D ++ (stG s t).1) t := by
  obtain ⟨h1, h2, h3⟩ := st_pend s t
  have hsub : ∀ c ∈ (stG s t).1, c ∈ pend s := fun c hc => by rw [← h1]; exact List.mem_append_left _ hc
  have hsub2 : ∀ c ∈ pend (stG s t).2, c ∈ pend s := fun c hc => by rw [← h1]; exact List.mem_append_right _ hc
  have hl : D ++ (stG s t).1 ++ pend (stG s t).2 = D ++ pend s := by rw [List.append_assoc, h1]
  refine ⟨st_rt h.rt t, h.t0, fun c hc => ?_, fun c hc => h.sm c (hsub2 c hc), ?_, fun hn c hc => ?_⟩
  · rcases List.mem_append.1 hc with hc | hc
    · exact h.dn c hc
    · have := h.sm c (hsub c hc); have := h2 c hc; omega
  · unfold stG
    split
    · have hw : 0 ≤ (nxG s).wait ∧ (nxG s).wait ≤ t + 5 := by
        show 0 ≤ (if s.next.ability = 0 then s.wait else held (s.next.since + 3)) ∧ (if s.next.ability = 0 then s.wait else held (s.next.since + 3)) ≤ t + 5
        by_cases e : s.next.ability = 0
        · rw [if_pos e]; exact h.wb
        · rw [if_neg e]
          have := h.sm s.next (by unfold pend; rw [if_neg e]; simp)
          rw [held_small (by omega) (by omega)]; omega
      split
      · exact hw
      · exact hw
    · exact h.wb
  · rw [hl] at hc
    by_cases h4 : due s t
    · by_cases e : s.next.ability = 0
      · have hnd : ¬ due (nxG s) t := fun g => g.1 e
        have es : stG s t = ([s.now], nxG s) := by unfold stG; rw [if_pos h4, if_neg hnd]
        rw [es]
        show _ ≤ (if s.next.ability = 0 then s.wait else held (s.next.since + 3))
        rw [if_pos e]
        exact h.wt e c hc
      · have hq := h.sm s.next (by unfold pend; rw [if_neg e]; simp)
        have hlast : c = s.next := by
          have ep : D ++ pend s = (D ++ (if s.now.ability = 0 then [] else [s.now])) ++ [s.next] := by unfold pend; rw [if_neg e, List.append_assoc]
          rw [ep, List.getLast?_concat] at hc
          simpa using hc.symm
        have hw : (nxG s).wait = s.next.since + 3 := by
          show (if s.next.ability = 0 then s.wait else held (s.next.since + 3)) = _
          rw [if_neg e, held_small (by omega) (by omega)]
        rw [hlast]
        unfold stG
        rw [if_pos h4]
        split
        · show _ ≤ (nxG s).wait; rw [hw]; exact Int.le_refl _
        · show _ ≤ (nxG s).wait; rw [hw]; exact Int.le_refl _
    · rw [st_no h4] at hn ⊢
      exact h.wt hn c hc
/-- One that begins. -/
theorem Once.beg {s : Cg} {D : List Ca} {t id cast tgt : Int} (h : Once s D t) (ht : t ≤ 1000000) (hid : 1 ≤ id) (hc : 0 ≤ cast) (hc2 : cast ≤ 15) {u : Cg} (hu : beG s id cast tgt t = some u) :
    ∃ c : Ca, c = (if s.now.ability = 0 then u.now else u.next) ∧ c.ability = id ∧ c.target = tgt ∧ c.untl - c.since = cast ∧ (s.now.ability = 0 → t ≤ c.since) ∧ c.since ≤ t + 2 ∧ (∀ x, (D ++ pend s).getLast? = some x → x.since + 3 ≤ c.since) ∧ pend u = pend s ++ [c] ∧ Once u D t := by
  have h0 := h.t0
  have hwb := h.wb
  have h2 : held (t + 2) = t + 2 := held_small (by omega) (by omega)
  unfold beG at hu
  rw [h2] at hu
  have hid0 : id ≠ 0 := by omega
  by_cases e : s.now.ability = 0
  · rw [if_pos e] at hu
    have en : s.next.ability = 0 := Classical.byContradiction (fun g => (h.rt.2.2 g).1 e)
    by_cases g : t + 2 < s.wait
    · rw [if_pos g] at hu; cases hu
    · rw [if_neg g] at hu
      obtain ⟨f, hf⟩ : ∃ f, max t s.wait = f := ⟨_, rfl⟩
      have hf1 : t ≤ f ∧ s.wait ≤ f ∧ f ≤ t + 2 := by omega
      rw [hf, held_small (x := f + cast) (by omega) (by omega), held_small (x := f + 3) (by omega) (by omega)] at hu
      injection hu with hu
      subst hu
      have hp : pend s = [] := by unfold pend; rw [if_pos e, if_pos en]; rfl
      have hpu : pend (⟨⟨id, tgt, f, f + cast⟩, s.next, f + 3⟩ : Cg) = [⟨id, tgt, f, f + cast⟩] := by
        show (if id = 0 then [] else [_]) ++ (if s.next.ability = 0 then [] else [s.next]) = _
        rw [if_neg hid0, if_pos en]; rfl
      refine ⟨⟨id, tgt, f, f + cast⟩, by rw [if_pos e], rfl, rfl, by show f + cast - f = cast; omega, fun _ => hf1.1, hf1.2.2, fun x hx => ?_, by rw [hpu, hp]; rfl, ⟨⟨⟨fun g => absurd g hid0, fun _ => ⟨hid, by show f ≤ f + cast; omega⟩⟩, h.rt.2.1, fun g => absurd en g⟩, h0, h.dn, fun c hc => ?_, ⟨by show 0 ≤ f + 3; omega, by show f + 3 ≤ _; omega⟩, fun _ c hc => ?_⟩⟩
      · have := h.wt en x hx; show _ ≤ f; omega
      · rw [hpu] at hc
        rcases List.mem_singleton.1 hc with rfl
        exact ⟨by show 0 ≤ f; omega, by show f ≤ _; omega, by show f ≤ f + cast; omega, by show f + cast ≤ _; omega⟩
      · rw [hpu, List.getLast?_concat] at hc
        have : c = ⟨id, tgt, f, f + cast⟩ := by simpa using hc.symm
        rw [this]; show f + 3 ≤ f + 3; exact Int.le_refl _
  · rw [if_neg e] at hu
    by_cases g : s.next.ability ≠ 0 ∨ t + 2 < s.now.untl ∨ s.now.untl < s.wait
    · rw [if_pos g] at hu; cases hu
    · rw [if_neg g] at hu
      have en : s.next.ability = 0 := Classical.byContradiction (fun k => g (.inl k))
      have g2 : s.now.untl ≤ t + 2 := by omega
      have g3 : s.wait ≤ s.now.untl := by omega
      have hp : pend s = [s.now] := by unfold pend; rw [if_neg e, if_pos en]; rfl
      have hq := h.sm s.now (by rw [hp]; simp)
      rw [held_small (x := s.now.untl + cast) (by omega) (by omega)] at hu
      injection hu with hu
      subst hu
      have hpu : pend (⟨s.now, ⟨id, tgt, s.now.untl, s.now.untl + cast⟩, s.wait⟩ : Cg) = [s.now, ⟨id, tgt, s.now.untl, s.now.untl + cast⟩] := by
        show (if s.now.ability = 0 then [] else [s.now]) ++ (if id = 0 then [] else [_]) = _
        rw [if_neg e, if_neg hid0]; rfl
      refine ⟨⟨id, tgt, s.now.untl, s.now.untl + cast⟩, by rw [if_neg e], rfl, rfl, by show s.now.untl + cast - s.now.untl = cast; omega, fun k => absurd k e, g2, fun x hx => ?_, by rw [hpu, hp]; rfl, ⟨⟨h.rt.1, ⟨fun k => absurd k hid0, fun _ => ⟨hid, by show s.now.untl ≤ s.now.untl + cast; omega⟩⟩, fun _ => ⟨e, rfl⟩⟩, h0, h.dn, fun c hc => ?_, h.wb, fun k => absurd k hid0⟩⟩
      · have := h.wt en x hx; show _ ≤ s.now.untl; omega
      · rw [hpu] at hc
        rcases List.mem_cons.1 hc with rfl | hc
        · exact hq
        · rcases List.mem_singleton.1 hc with rfl
          exact ⟨by show 0 ≤ s.now.untl; omega, g2, by show s.now.untl ≤ s.now.untl + cast; omega, by show s.now.untl + cast ≤ _; omega⟩
/-- Busy: not free. -/
theorem be_busy {s : Cg} {id cast tgt t : Int} (ht : 0 ≤ t) (ht2 : t ≤ 1000000) (h : beG s id cast tgt t = none) : ¬ (s.now.ability = 0 ∧ s.wait ≤ t) := by
  rintro ⟨h1, h2⟩
  unfold beG at h
  rw [if_pos h1, held_small (by omega) (by omega), if_neg (by omega)] at h
  cases h
end Go.Proofs.Ytmhnkjjcipcjlaa.Con
