/-
  Content as bytes: plain mathematics: what is read is written alike; which bytes are a row of numbers, and which content.
-/
import Derived.Test.YtpjenkgimkndaaaGreatPro
import Derived.Test.YtpjenkgimkndaaaGreatPwr
import Derived.Test.YtpjenkgimkndaaaGreatRig
import Derived.Test.YtpjenkgimkndaaaGreatBfl
namespace Go.Proofs.YtpjenkgimkndaaaGreat.Con
open Mth

theorem sg_ug {v : Int} (h : 0 ≤ v) : sg (ug v) = v := by unfold sg ug; split <;> split <;> omega
/-- What is read is written alike. -/
theorem gt_canon : ∀ {m : List Int}, Byt m → ∀ {i : Nat} {v : Int} {s : Nat}, gt i m = some (v, s) → 0 ≤ v ∧ (0 < i → 0 < v) ∧ m = dg v.toNat ++ m.drop s
  | [], _, i, v, s, h => by simp [gt] at h
  | d :: r, hb, i, v, s, h => by
    have hd := hb d (by simp)
    unfold gt at h
    split at h
    · next h128 =>
      split at h
      · cases h
      · split at h
        · cases h
        · next v' s' hg =>
          injection h with h
          injection h with h1 h2
          subst h1; subst h2
          obtain ⟨a1, a2, a3⟩ := gt_canon (fun x hx => hb x (List.mem_cons_of_mem _ hx)) hg
          have a2 := a2 (by omega)
          refine ⟨by omega, by omega, ?_⟩
          rw [dg_ge (by omega), List.drop_succ_cons]
          have e1 : (((d - 128 + 128 * v').toNat % 128 + 128 : Nat) : Int) = d := by omega
          have e2 : (d - 128 + 128 * v').toNat / 128 = v'.toNat := by omega
          rw [e1, e2, List.cons_append, ← a3]
    · next h128 =>
      split at h
      · cases h
      · next h0 =>
        split at h
        · cases h
        · injection h with h
          injection h with h1 h2
          subst h1; subst h2
          refine ⟨by omega, by omega, ?_⟩
          rw [dg_lt (by omega), List.drop_succ_cons, List.drop_zero]
          simp; omega
theorem rd_canon {l : List Int} (hb : Byt l) {a v : Int} {s : Nat} (h : rd l a = some (v, s)) : 0 ≤ a ∧ 0 ≤ v ∧ l.drop a.toNat = dg v.toNat ++ l.drop (a + s).toNat := by
  have b := rd_bound hb h
  rw [rd_pos b.1] at h
  obtain ⟨h1, _, h3⟩ := gt_canon (hb.drop _) h
  refine ⟨b.1, h1, ?_⟩
  rw [show (a + (s : Int)).toNat = a.toNat + s by omega, ← List.drop_drop]
  exact h3
theorem ru_canon {l : List Int} (hb : Byt l) {a v k : Int} (h : ru l a = some (v, k)) : 0 ≤ a ∧ 0 ≤ v ∧ l.drop a.toNat = dg v.toNat ++ l.drop k.toNat := by
  unfold ru at h
  split at h
  · cases h
  · next v' s' hr =>
    split at h
    · cases h
    · injection h with h
      injection h with h1 h2
      subst h1; subst h2
      exact rd_canon hb hr
theorem ri_canon {l : List Int} (hb : Byt l) {a v k : Int} (h : ri l a = some (v, k)) : 0 ≤ a ∧ l.drop a.toNat = dg (sg v).toNat ++ l.drop k.toNat := by
  unfold ri at h
  split at h
  · cases h
  · next v' s' hr =>
    injection h with h
    injection h with h1 h2
    subst h1; subst h2
    obtain ⟨a1, a2, a3⟩ := rd_canon hb hr
    rw [sg_ug a2]
    exact ⟨a1, a3⟩
def Fit (l : List Int) : Prop := ∀ x ∈ l, -9223372036854775808 ≤ x ∧ x ≤ 9223372036854775807
theorem rl_canon {l : List Int} (hb : Byt l) : ∀ {n : Nat} {a z : Int} {r : List Int}, rl l n a = some (r, z) → r.length = n ∧ Fit r ∧ l.drop a.toNat = wl r ++ l.drop z.toNat
  | 0, a, z, r, h => by simp [rl] at h; obtain ⟨rfl, rfl⟩ := h; exact ⟨rfl, fun x hx => (by cases hx), by simp [wl]⟩
  | n + 1, a, z, r, h => by
    unfold rl at h
    split at h
    · cases h
    · next v k hr =>
      split at h
      · cases h
      · next r' z' hr2 =>
        injection h with h
        injection h with h1 h2
        subst h1; subst h2
        obtain ⟨a1, a2, a3⟩ := rl_canon hb hr2
        obtain ⟨b1, b2⟩ := ri_canon hb hr
        have b3 := ri_bound hb hr
        refine ⟨by simp [a1], fun x hx => ?_, ?_⟩
        · rcases List.mem_cons.1 hx with rfl | hx
          · omega
          · exact a2 x hx
        · rw [b2, a3]; simp [wl]

/-- The first bytes. -/
def mk4 : List Int := [66, 82, 87, 49]
/-- Numbers, written. -/
def En (l : List Int) : List Int := mk4 ++ dg l.length ++ wl l
theorem wl_long (l : List Int) : l.length ≤ (wl l).length := by
  induction l with
  | nil => simp [wl]
  | cons x r ih => have := dg_pos (sg x).toNat; simp only [wl, List.length_append, List.length_cons]; omega
theorem en_long (l : List Int) : l.length + 5 ≤ (En l).length := by
  have := wl_long l; have := dg_pos l.length
  unfold En mk4; simp only [List.length_append, List.length_cons, List.length_nil]; omega
theorem en_byt (l : List Int) : Byt (En l) := by
  refine (Byt.app (Byt.app ?_ (dg_byt _)) (wl_byt l))
  intro x hx; simp [mk4] at hx; omega
/-- The bytes are a row of numbers, or of none. -/
def DL (b : List Int) : Option (List Int) → Prop
  | some l => b = En l ∧ Fit l
  | none => ∀ l, Fit l → b ≠ En l
theorem ix_en {l t : List Int} {m : Int} (hl : Fit l) (h1 : (l.length : Int) ≤ 9223372036854775807) (hm : (l.length : Int) ≤ m) : Pk.ix (En l ++ t) 4 m = (l, ((En l).length : Int), 0) := by
  have e : En l ++ t = mk4 ++ (dg l.length ++ (wl l ++ t)) := by simp [En]
  have r1 : ru (En l ++ t) 4 = some ((l.length : Int), ((mk4 ++ dg l.length).length : Int)) := by
    rw [e]; exact ru_back mk4 (wl l ++ t) (n := l.length) (by omega) rfl
  have r2 : rl (En l ++ t) l.length ((mk4 ++ dg l.length).length : Int) = some (l, ((En l).length : Int)) := by
    have e2 : En l ++ t = (mk4 ++ dg l.length) ++ (wl l ++ t) := by simp [En]
    rw [e2, rl_back t l (mk4 ++ dg l.length) rfl hl]
    simp [En]
  exact Pk.ix_some r1 hm r2
theorem ix_ok {b : List Int} (hb : Byt b) {m : Int} {l : List Int} {z : Int} (h : Pk.ix b 4 m = (l, z, 0)) : Fit l ∧ b.drop 4 = dg l.length ++ wl l ++ b.drop z.toNat ∧ (l.length : Int) ≤ m := by
  unfold Pk.ix at h
  split at h
  · injection h with _ h; injection h with _ h; cases h
  · next n k hr =>
    split at h
    · injection h with _ h; injection h with _ h; cases h
    · next hm =>
      split at h
      · injection h with _ h; injection h with _ h; cases h
      · next r z' hr2 =>
        injection h with h1 h2
        injection h2 with h2 _
        subst h1; subst h2
        obtain ⟨a1, a2, a3⟩ := ru_canon hb hr
        obtain ⟨b1, b2, b3⟩ := rl_canon hb hr2
        refine ⟨b2, ?_, by omega⟩
        rw [b1, List.append_assoc, ← b3]
        exact a3
theorem dl_some {b t : List Int} (hb : Byt b) (hm : b = mk4 ++ t) {m : Int} {l : List Int} (h : Pk.ix b 4 m = (l, (b.length : Int), 0)) : DL b (some l) := by
  obtain ⟨h1, h2, _⟩ := ix_ok hb h
  refine ⟨?_, h1⟩
  rw [Int.toNat_natCast, List.drop_length, List.append_nil] at h2
  have e : b.drop 4 = t := by rw [hm]; rfl
  rw [e] at h2
  rw [hm, h2]; simp [En]
theorem dl_none1 {b : List Int} (h : ∀ t, b ≠ mk4 ++ t) : DL b none := fun l _ e => h (dg l.length ++ wl l) (by rw [e]; simp [En])
theorem dl_none2 {b : List Int} {m z e : Int} {l : List Int} (h : Pk.ix b 4 m = (l, z, e)) (hm : (b.length : Int) ≤ m) (h1 : (b.length : Int) ≤ 9223372036854775807) (he : e ≠ 0 ∨ z ≠ (b.length : Int)) : DL b none := by
  intro r hr eb
  have hlen := en_long r
  rw [← eb] at hlen
  have := ix_en (t := []) hr (by omega) (m := m) (by omega)
  rw [List.append_nil, ← eb, h] at this
  injection this with _ h2
  injection h2 with h2 h3
  rcases he with he | he
  · exact he h3
  · exact he h2
theorem en_inj {l m : List Int} (hl : Fit l) (hm : Fit m) (h1 : (l.length : Int) ≤ 9223372036854775807) (h2 : (m.length : Int) ≤ 9223372036854775807) {t : List Int} (h : En l ++ t = En m) : l = m ∧ t = [] := by
  have a := ix_en (t := t) hl h1 (m := 9223372036854775807) h1
  have b := ix_en (t := []) hm h2 (m := 9223372036854775807) h2
  rw [h] at a
  rw [List.append_nil, a] at b
  injection b with b1 b2
  injection b2 with b2 _
  refine ⟨b1, ?_⟩
  have e := congrArg List.length h
  rw [List.length_append] at e
  exact List.eq_nil_of_length_eq_zero (by omega)
theorem dl_uniq {b : List Int} (hb : (b.length : Int) ≤ 9223372036854775807) {o o' : Option (List Int)} (h : DL b o) (h' : DL b o') : o = o' := by
  cases o with
  | none => cases o' with
    | none => rfl
    | some l => exact absurd h'.1 (h l h'.2)
  | some l => cases o' with
    | none => exact absurd h.1 (h' l h.2)
    | some m =>
      have e1 := en_long l; have e2 := en_long m
      rw [← h.1] at e1; rw [← h'.1] at e2
      have := en_inj (t := []) h.2 h'.2 (by omega) (by omega) (by rw [List.append_nil, ← h.1, ← h'.1])
      rw [this.1]
theorem dl_ex (b : List Int) : ∃ o, DL b o := by
  by_cases h : ∃ l, b = En l ∧ Fit l
  · obtain ⟨l, h⟩ := h; exact ⟨some l, h⟩
  · exact ⟨none, fun l hl e => h ⟨l, e, hl⟩⟩

/-- Which content the bytes are. -/
def DC (b : List Int) (o : Option Cn) : Prop := (∃ l, DL b (some l) ∧ o = unfl l) ∨ (DL b none ∧ o = none)
theorem dc_uniq {b : List Int} (hb : (b.length : Int) ≤ 9223372036854775807) {o o' : Option Cn} (h : DC b o) (h' : DC b o') : o = o' := by
  rcases h with ⟨l, h1, h2⟩ | ⟨h1, h2⟩
  · rcases h' with ⟨m, k1, k2⟩ | ⟨k1, k2⟩
    · have := dl_uniq hb h1 k1
      injection this with this
      rw [h2, k2, this]
    · have := dl_uniq hb h1 k1; cases this
  · rcases h' with ⟨m, k1, k2⟩ | ⟨k1, k2⟩
    · have := dl_uniq hb h1 k1; cases this
    · rw [h2, k2]
theorem dc_some {b : List Int} {c : Cn} (h : DC b (some c)) : b = En (fCn c) ∧ Fit (fCn c) ∧ c.pl = c := by
  rcases h with ⟨l, h1, h2⟩ | ⟨_, h2⟩
  · obtain ⟨e1, e2⟩ := unfl_some h2.symm
    rw [e1]
    exact ⟨h1.1, h1.2, e2⟩
  · cases h2
theorem dc_en {c : Cn} (h : Fit (fCn c)) : DC (En (fCn c)) (some c.pl) := .inl ⟨fCn c, ⟨rfl, h⟩, (unfl_flat c).symm⟩

/-! ### what is right does not hang on addresses -/
theorem flaw_map {α : Type} {ok ok' : α → Prop} {id : α → Int} {f : α → α} (h1 : ∀ x, ok' (f x) ↔ ok x) (h2 : ∀ x, id (f x) = id x) : ∀ (l : List α) (last : Int) (i : Nat) (r : Option Nat), Flaw ok' id (l.map f) last i r ↔ Flaw ok id l last i r
  | [], _, _, _ => Iff.rfl
  | x :: s, last, i, r => by
    rw [List.map_cons]
    unfold Flaw
    rw [h2, flaw_map h1 h2 s (id x) (i + 1) r, h1]
theorem hasAb_pl (c : Cn) (id : Int) : HasAb c.pl id ↔ HasAb c id := by
  unfold HasAb Cn.pl
  constructor
  · rintro ⟨a, ha, e⟩
    obtain ⟨b, hb, rfl⟩ := List.mem_map.1 ha
    exact ⟨b, hb, e⟩
  · rintro ⟨a, ha, e⟩
    exact ⟨a.pl, List.mem_map_of_mem ha, e⟩
theorem rightC_pl (c : Cn) : RightC c.pl ↔ RightC c := by
  unfold RightC
  have e1 : Flaw (AbOk c.pl) Ab.id c.pl.ab 0 0 none ↔ Flaw (AbOk c) Ab.id c.ab 0 0 none := flaw_map (f := Ab.pl) (fun x => Iff.rfl) (fun x => rfl) _ _ _ _
  have e2 : Flaw (FoOk c.pl) Fo.id c.pl.fo 0 0 none ↔ Flaw (FoOk c) Fo.id c.fo 0 0 none := flaw_map (f := Fo.pl) (fun x => by
    unfold FoOk LnOk DoOk
    simp only [hasAb_pl]
    exact Iff.rfl) (fun x => rfl) _ _ _ _
  rw [e1, e2]
  exact Iff.rfl
theorem rightC_of {c d : Cn} (h : c.pl = d.pl) : RightC c ↔ RightC d := by rw [← rightC_pl c, h, rightC_pl]
end Go.Proofs.YtpjenkgimkndaaaGreat.Con
