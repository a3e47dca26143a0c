/-
  Plain words for commands: which are right, the load of one, what a load says; right commands and their loads are each other's. No memory.
-/
import Derived.Test.YteiknfhoggoapaaPmt
namespace Go.Proofs.Yteiknfhoggoapaa.Mth

/-- A byte of names. -/
def nmB (x : Int) : Bool := (decide (97 ≤ x) && decide (x ≤ 122)) || (decide (65 ≤ x) && decide (x ≤ 90)) || (decide (48 ≤ x) && decide (x ≤ 57)) || decide (x = 45)
/-- A name. -/
def namB (t : List Int) : Bool := decide (1 ≤ t.length) && decide (t.length ≤ 24) && t.all nmB
/-- Dos with A and B. -/
def twoB (d : Int) : Bool := decide (d = 2) || decide (d = 3) || decide (d = 5) || decide (d = 6)
/-- A command. -/
structure Cm where
  d : Int
  t : List Int
  a : Int
  b : Int
deriving DecidableEq
def zC : Cm := ⟨0, [], 0, 0⟩
/-- Its numbers are of 64 bits, its text of bytes. -/
structure FC (c : Cm) : Prop where
  d : -9223372036854775808 ≤ c.d ∧ c.d ≤ 9223372036854775807
  t : Byt c.t
  a : -9223372036854775808 ≤ c.a ∧ c.a ≤ 9223372036854775807
  b : -9223372036854775808 ≤ c.b ∧ c.b ≤ 9223372036854775807
theorem fc_zero : FC zC := ⟨by simp [zC], Byt.nil, by simp [zC], by simp [zC]⟩
/-- A right command. -/
def rtB (c : Cm) : Bool := decide (1 ≤ c.d) && decide (c.d ≤ 7) && (twoB c.d || (decide (c.a = 0) && decide (c.b = 0))) && (if c.d = 1 then namB c.t else decide (c.t = []))
/-- What stands behind the text. -/
def tl (c : Cm) : List Int := if twoB c.d then dg (sg c.a).toNat ++ dg (sg c.b).toNat else []
/-- The load. -/
def ld (c : Cm) : List Int := c.d :: (c.t ++ tl c)
/-- What Encode answers. -/
def enL (c : Cm) : List Int := if rtB c then ld c else []
def enE (c : Cm) : Int := if rtB c then 0 else 1
def riV : Option (Int × Int) → Int
  | none => 0
  | some (v, _) => v
def riK (a : Int) : Option (Int × Int) → Int
  | none => a
  | some (_, k) => k
/-- What a load says. -/
def say : List Int → Cm
  | [] => zC
  | d :: r => ⟨d, if d = 1 then r else [], if twoB d then riV (ri (d :: r) 1) else 0, if twoB d then riV (ri (d :: r) (riK 1 (ri (d :: r) 1))) else 0⟩
def okB (l : List Int) : Bool := rtB (say l) && decide (ld (say l) = l)
/-- What Decode answers. -/
def deC (l : List Int) : Cm := if okB l then say l else zC
def deE (l : List Int) : Int := if okB l then 0 else 2

theorem byt_one {x : Int} (h : 0 ≤ x ∧ x < 256) : Byt [x] := by intro y hy; simp at hy; omega
theorem riV_in {l : List Int} (hb : Byt l) (a : Int) : -9223372036854775808 ≤ riV (ri l a) ∧ riV (ri l a) ≤ 9223372036854775807 := by
  rcases h : ri l a with _ | ⟨v, k⟩
  · simp [riV]
  · have := ri_bound hb h; simp only [riV]; omega
theorem riK_in {l : List Int} (hb : Byt l) {a : Int} (ha : a ≤ 9223372036854775807) (hl : (l.length : Int) ≤ 10000000) : riK a (ri l a) ≤ 9223372036854775807 := by
  rcases h : ri l a with _ | ⟨v, k⟩
  · simpa [riK] using ha
  · have := ri_bound hb h; simp only [riK]; omega
theorem fc_say {l : List Int} (hb : Byt l) : FC (say l) := by
  cases l with
  | nil => exact fc_zero
  | cons d r =>
    have hd := hb d (by simp)
    refine ⟨by simp only [say]; omega, ?_, ?_, ?_⟩
    · simp only [say]
      split
      · exact fun x hx => hb x (by simp [hx])
      · exact Byt.nil
    · simp only [say]
      split
      · exact riV_in hb _
      · omega
    · simp only [say]
      split
      · exact riV_in hb _
      · omega
theorem say_text {l : List Int} : (say l).t.length ≤ l.length := by
  cases l with
  | nil => simp [say, zC]
  | cons d r =>
    simp only [say]
    split <;> simp
theorem fc_de {l : List Int} (hb : Byt l) : FC (deC l) := by
  unfold deC
  split
  · exact fc_say hb
  · exact fc_zero
theorem de_text {l : List Int} : (deC l).t.length ≤ l.length := by
  unfold deC
  split
  · exact say_text
  · simp [zC]
theorem tl_byt (c : Cm) : Byt (tl c) := by
  unfold tl
  split
  · exact (dg_byt _).app (dg_byt _)
  · exact Byt.nil
theorem sg_nat {n : Int} (h : -9223372036854775808 ≤ n ∧ n ≤ 9223372036854775807) : (sg n).toNat < 18446744073709551616 := by
  have := sg_in h.1 h.2; omega
theorem sg_inj {m n : Int} (h : -9223372036854775808 ≤ n ∧ n ≤ 9223372036854775807) (k : -9223372036854775808 ≤ m ∧ m ≤ 9223372036854775807) (e : (sg n).toNat = (sg m).toNat) : n = m := by
  have h1 := sg_in h.1 h.2
  have h2 := sg_in k.1 k.2
  rw [← ug_sg n, ← ug_sg m, show sg n = sg m by omega]
theorem tl_len {c : Cm} (h : FC c) : (tl c).length ≤ 20 := by
  unfold tl
  split
  · have h1 := dg_len10 (sg_nat h.a)
    have h2 := dg_len10 (sg_nat h.b)
    rw [List.length_append]; omega
  · simp
theorem rt_parts {c : Cm} (h : rtB c = true) : 1 ≤ c.d ∧ c.d ≤ 7 ∧ (twoB c.d = true ∨ (c.a = 0 ∧ c.b = 0)) ∧ ((c.d = 1 ∧ namB c.t = true) ∨ (c.d ≠ 1 ∧ c.t = [])) := by
  unfold rtB at h
  simp only [Bool.and_eq_true, Bool.or_eq_true, decide_eq_true_eq] at h
  obtain ⟨⟨⟨h1, h2⟩, h3⟩, h4⟩ := h
  refine ⟨h1, h2, h3, ?_⟩
  by_cases e : c.d = 1
  · rw [if_pos e] at h4; exact .inl ⟨e, h4⟩
  · rw [if_neg e] at h4; exact .inr ⟨e, by simpa using h4⟩
theorem nam_parts {t : List Int} (h : namB t = true) : 1 ≤ t.length ∧ t.length ≤ 24 ∧ ∀ x ∈ t, nmB x = true := by
  unfold namB at h
  simp only [Bool.and_eq_true, decide_eq_true_eq, List.all_eq_true] at h
  exact ⟨h.1.1, h.1.2, h.2⟩
theorem two_one {d : Int} (h : twoB d = true) : d ≠ 1 := by
  intro e; subst e; simp [twoB] at h
theorem ld_len {c : Cm} (h : FC c) (hr : rtB c = true) : (ld c).length ≤ 25 := by
  obtain ⟨_, _, _, h4⟩ := rt_parts hr
  have := tl_len h
  simp only [ld, List.length_cons, List.length_append]
  rcases h4 with ⟨e, h4⟩ | ⟨e, h4⟩
  · have := (nam_parts h4).2.1
    have h0 : tl c = [] := by unfold tl; rw [e]; simp [twoB]
    rw [h0]; simp; omega
  · rw [h4]; simp; omega
theorem ld_byt {c : Cm} (h : FC c) (hr : rtB c = true) : Byt (ld c) := by
  obtain ⟨h1, h2, _, _⟩ := rt_parts hr
  intro x hx
  rcases List.mem_cons.1 hx with rfl | hx
  · omega
  · exact h.t.app (tl_byt c) x hx
/-- What the load of a right command says: that command. -/
theorem say_ld {c : Cm} (h : FC c) (hr : rtB c = true) : say (ld c) = c := by
  obtain ⟨h1, h2, h3, h4⟩ := rt_parts hr
  obtain ⟨d, t, a, b⟩ := c
  simp only at h1 h2 h3 h4
  by_cases h2d : twoB d = true
  · have hd := two_one h2d
    rcases h4 with ⟨e, _⟩ | ⟨_, rfl⟩
    · exact absurd e hd
    · have e1 : ri (d :: (dg (sg a).toNat ++ dg (sg b).toNat)) 1 = some (a, (([d] ++ dg (sg a).toNat).length : Int)) :=
        ri_back [d] (dg (sg b).toNat) h.a.1 h.a.2 (by simp)
      have e2 : ri (d :: (dg (sg a).toNat ++ dg (sg b).toNat)) (([d] ++ dg (sg a).toNat).length : Int) = some (b, ((([d] ++ dg (sg a).toNat) ++ dg (sg b).toNat).length : Int)) := by
        have := ri_back ([d] ++ dg (sg a).toNat) [] h.b.1 h.b.2 (a := (([d] ++ dg (sg a).toNat).length : Int)) rfl
        simpa using this
      simp only [ld, tl, h2d, if_true, List.nil_append, say, if_neg hd, e1, riV, riK, e2]
  · rcases h3 with h3 | ⟨rfl, rfl⟩
    · exact absurd h3 h2d
    · rcases h4 with ⟨rfl, h4⟩ | ⟨e, rfl⟩
      · simp [ld, tl, h2d, say]
      · simp [ld, tl, h2d, say, e]
theorem ld_inj {c c' : Cm} (h : FC c) (h' : FC c') (hr : rtB c = true) (hr' : rtB c' = true) : ld c = ld c' ↔ c = c' := by
  constructor
  · intro e
    rw [← say_ld h hr, ← say_ld h' hr', e]
  · intro e; rw [e]
theorem ok_ld {c : Cm} (h : FC c) (hr : rtB c = true) : okB (ld c) = true := by
  simp [okB, say_ld h hr, hr]
theorem de_ld {c : Cm} (h : FC c) (hr : rtB c = true) : deC (ld c) = c ∧ deE (ld c) = 0 := by
  simp [deC, deE, ok_ld h hr, say_ld h hr]
theorem ok_parts {l : List Int} (h : okB l = true) : rtB (say l) = true ∧ ld (say l) = l := by
  simpa [okB] using h
/-- A load goes on with no byte 0. -/
theorem no_zero {c : Cm} (h : FC c) (hr : rtB c = true) : okB (ld c ++ [0]) = false := by
  cases hk : okB (ld c ++ [0]) with
  | false => rfl
  | true =>
    exfalso
    obtain ⟨hr', he⟩ := ok_parts hk
    have hb : Byt (ld c ++ [0]) := (ld_byt h hr).app (byt_one (by omega))
    have h' := fc_say hb
    generalize say (ld c ++ [0]) = c' at *
    obtain ⟨_, _, h3, h4⟩ := rt_parts hr
    obtain ⟨_, _, k3, k4⟩ := rt_parts hr'
    obtain ⟨d, t, a, b⟩ := c
    obtain ⟨d', t', a', b'⟩ := c'
    simp only [ld, List.cons_append, List.cons.injEq] at he
    obtain ⟨rfl, he⟩ := he
    simp only at h3 h4 k3 k4
    by_cases h2d : twoB d' = true
    · have hd := two_one h2d
      rcases h4 with ⟨e, _⟩ | ⟨_, rfl⟩
      · exact hd e
      rcases k4 with ⟨e, _⟩ | ⟨_, rfl⟩
      · exact hd e
      simp only [tl, h2d, if_true, List.nil_append, List.append_assoc] at he
      have e1 : (sg a).toNat = (sg a').toNat := by
        have g1 : (dg (sg a').toNat) ++ (dg (sg b').toNat) = dg (sg a).toNat ++ (dg (sg b).toNat ++ [0]) := he
        have q1 := gt_dg (n := (sg a').toNat) (i := 0) (by omega) (by have := sg_nat h'.a; omega) (by omega) (dg (sg b').toNat)
        have q2 := gt_dg (n := (sg a).toNat) (i := 0) (by omega) (by have := sg_nat h.a; omega) (by omega) (dg (sg b).toNat ++ [0])
        rw [g1, q2] at q1
        injection q1 with q1
        injection q1 with q1 _
        omega
      rw [← e1] at he
      have he2 := List.append_cancel_left he
      have e2 := dg_apart (sg_nat h.b) (sg_nat h'.b) he2
      rw [← e2] at he2
      have := congrArg List.length he2
      simp at this
    · have t0 : tl ⟨d', t, a, b⟩ = [] := by simp [tl, h2d]
      have t1 : tl ⟨d', t', a', b'⟩ = [] := by simp [tl, h2d]
      rw [t0, t1, List.append_nil, List.append_nil] at he
      subst he
      rcases k4 with ⟨_, k4⟩ | ⟨_, k4⟩
      · have := (nam_parts k4).2.2 0 (by simp)
        simp [nmB] at this
      · simp at k4
theorem de_zero {c : Cm} (h : FC c) (hr : rtB c = true) : deC (ld c ++ [0]) = zC ∧ deE (ld c ++ [0]) = 2 := by
  simp [deC, deE, no_zero h hr]
theorem de_no {l : List Int} (h : deE l ≠ 0) : deC l = zC := by
  unfold deE at h; unfold deC
  split at h
  · exact absurd rfl h
  · next k => rw [if_neg k]
theorem de_yes {l : List Int} (h : deE l = 0) : rtB (deC l) = true ∧ ld (deC l) = l := by
  unfold deE at h; unfold deC
  split at h
  · next k => rw [if_pos k]; exact ok_parts k
  · cases h
theorem en_yes {c : Cm} (h : enE c = 0) : rtB c = true ∧ enL c = ld c := by
  unfold enE at h; unfold enL
  split at h
  · next k => exact ⟨k, by rw [if_pos k]⟩
  · cases h
theorem en_iff (c : Cm) : enE c = 0 ↔ rtB c = true := by
  unfold enE; split <;> simp_all
theorem en_byt {c : Cm} (h : FC c) : Byt (enL c) := by
  unfold enL
  split
  · next k => exact ld_byt h k
  · exact Byt.nil
theorem en_len {c : Cm} (h : FC c) : (enL c).length ≤ 25 := by
  unfold enL
  split
  · next k => exact ld_len h k
  · simp
end Go.Proofs.Yteiknfhoggoapaa.Mth
