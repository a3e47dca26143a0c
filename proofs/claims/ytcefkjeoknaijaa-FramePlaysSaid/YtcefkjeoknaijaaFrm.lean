/-
  Plain mathematics of frames: what stands at the head of bytes, the loads of a stream, and that they do not hang on how it is cut; nothing of the program.
-/
import Derived.Test.YtcefkjeoknaijaaMth
namespace Go.Proofs.Ytcefkjeoknaijaa.Mth

/-- Bytes with which no number is written yet, that others behind them could make one. -/
def opn (l : List Int) : Bool := decide (l.length < 9) && l.all (fun x => decide (128 ≤ x))

theorem gt_app {l : List Int} (b : List Int) : ∀ {i : Nat} {x : Int × Nat}, gt i l = some x → gt i (l ++ b) = some x := by
  induction l with
  | nil => intro i x h; cases h
  | cons d r ih =>
    intro i x h
    simp only [List.cons_append, gt] at h ⊢
    split at h
    · next hd =>
      rw [if_pos hd]
      split at h
      · cases h
      · next h9 =>
        rw [if_neg h9]
        split at h
        · cases h
        · next v s hg => rw [ih hg]; exact h
    · next hd => rw [if_neg hd]; exact h

theorem gt_none_app {l : List Int} (b : List Int) : ∀ {i : Nat}, i ≤ 9 → gt i l = none → ¬ ((∀ x ∈ l, 128 ≤ x) ∧ i + l.length ≤ 9) → gt i (l ++ b) = none := by
  induction l with
  | nil => intro i hi _ hno; exact absurd ⟨by simp, by simpa using hi⟩ hno
  | cons d r ih =>
    intro i hi h hno
    simp only [List.cons_append, gt] at h ⊢
    split at h
    · next hd =>
      rw [if_pos hd]
      by_cases h9 : i = 9
      · rw [if_pos h9]
      · rw [if_neg h9] at h ⊢
        split at h
        · next hg =>
          have := ih (i := i + 1) (by omega) hg (fun ⟨k1, k2⟩ => hno ⟨fun x hx => by
            rcases List.mem_cons.1 hx with rfl | hx
            · exact hd
            · exact k1 x hx, by simp only [List.length_cons]; omega⟩)
          rw [this]
        · cases h
    · next hd => rw [if_neg hd]; exact h

theorem gt_all_none {l : List Int} : ∀ {i : Nat}, (∀ x ∈ l, 128 ≤ x) → gt i l = none := by
  induction l with
  | nil => intro i _; rfl
  | cons d r ih =>
    intro i h
    have hd := h d (by simp)
    simp only [gt]
    rw [if_pos hd]
    by_cases h9 : i = 9
    · rw [if_pos h9]
    · rw [if_neg h9, ih (fun x hx => h x (List.mem_cons_of_mem _ hx))]

/-- A number of several bytes is not small. -/
theorem gt_size {m : List Int} : ∀ {i : Nat} {v : Int} {s : Nat}, Byt m → gt i m = some (v, s) → (0 < i ∨ 2 ≤ s) → 1 ≤ s ∧ ((128 ^ (s - 1) : Nat) : Int) ≤ v := by
  induction m with
  | nil => intro i v s _ h; cases h
  | cons d r ih =>
    intro i v s hb h hi
    have hd := hb d (by simp)
    simp only [gt] at h
    split at h
    · split at h
      · cases h
      · split at h
        · cases h
        · next v' s' hg =>
          injection h with h
          injection h with h1 h2
          subst h1; subst h2
          obtain ⟨k1, k2⟩ := ih (fun x hx => hb x (List.mem_cons_of_mem _ hx)) hg (.inl (by omega))
          refine ⟨by omega, ?_⟩
          have e : 128 ^ (s' + 1 - 1) = 128 * 128 ^ (s' - 1) := by
            rw [show s' + 1 - 1 = (s' - 1) + 1 by omega, Nat.pow_succ, Nat.mul_comm]
          rw [e]
          omega
    · split at h
      · cases h
      · split at h
        · cases h
        · injection h with h
          injection h with h1 h2
          subst h1; subst h2
          refine ⟨by omega, ?_⟩
          simp only [Nat.sub_self, Nat.pow_zero]
          omega
/-- A number is below what its bytes could hold. -/
theorem gt_less {m : List Int} : ∀ {i : Nat} {v : Int} {s : Nat}, Byt m → gt i m = some (v, s) → v < ((128 ^ s : Nat) : Int) := by
  induction m with
  | nil => intro i v s _ h; cases h
  | cons d r ih =>
    intro i v s hb h
    have hd := hb d (by simp)
    simp only [gt] at h
    split at h
    · split at h
      · cases h
      · split at h
        · cases h
        · next v' s' hg =>
          injection h with h
          injection h with h1 h2
          subst h1; subst h2
          have := ih (fun x hx => hb x (List.mem_cons_of_mem _ hx)) hg
          rw [Nat.pow_succ]
          omega
    · split at h
      · cases h
      · split at h
        · cases h
        · injection h with h
          injection h with h1 h2
          subst h1; subst h2
          simp only [Nat.pow_one]
          omega
theorem gt_lead {l b : List Int} : ∀ {i : Nat} {v : Int} {s : Nat}, (∀ x ∈ l, 128 ≤ x) → gt i (l ++ b) = some (v, s) → l.length ≤ s := by
  induction l with
  | nil => intro i v s _ _; simp
  | cons d r ih =>
    intro i v s h hg
    have hd := h d (by simp)
    simp only [List.cons_append, gt] at hg
    rw [if_pos hd] at hg
    split at hg
    · cases hg
    · split at hg
      · cases hg
      · next v' s' hg' =>
        injection hg with hg
        injection hg with _ h2
        subst h2
        have := ih (fun x hx => h x (List.mem_cons_of_mem _ hx)) hg'
        simp only [List.length_cons]
        omega
theorem gt_open {l : List Int} : ∀ {i : Nat}, (∀ x ∈ l, 128 ≤ x) → i + l.length ≤ 9 → ∃ v, gt i (l ++ [1]) = some (v, l.length + 1) := by
  induction l with
  | nil => intro i _ hi; exact ⟨1, by simp [gt]⟩
  | cons d r ih =>
    intro i h hi
    have hd := h d (by simp)
    simp only [List.length_cons] at hi
    obtain ⟨v, hv⟩ := ih (i := i + 1) (fun x hx => h x (List.mem_cons_of_mem _ hx)) (by omega)
    refine ⟨d - 128 + 128 * v, ?_⟩
    simp only [List.cons_append, gt, hv]
    rw [if_pos hd, if_neg (by omega)]
    rfl

theorem opn_iff {l : List Int} : opn l = true ↔ l.length < 9 ∧ ∀ x ∈ l, 128 ≤ x := by
  unfold opn
  simp [List.all_eq_true]
theorem rd_zero (l : List Int) : rd l 0 = gt 0 l := by rw [rd_pos (by omega)]; simp
theorem ru_app {l : List Int} (b : List Int) {x : Int × Int} (h : ru l 0 = some x) : ru (l ++ b) 0 = some x := by
  unfold ru at h ⊢
  rw [rd_zero] at h ⊢
  split at h
  · cases h
  · next v s hg => rw [gt_app b hg]; exact h
theorem ru_app_none {l : List Int} (b : List Int) (hb : Byt (l ++ b)) (h : ru l 0 = none) (ho : opn l = false) : ru (l ++ b) 0 = none := by
  rcases hg : gt 0 l with _ | ⟨v, s⟩
  · by_cases ha : ∀ x ∈ l, 128 ≤ x
    · have hl : 9 ≤ l.length := by
        by_cases h9 : l.length < 9
        · exact absurd (opn_iff.2 ⟨h9, ha⟩) (by rw [ho]; simp)
        · omega
      rcases hg2 : gt 0 (l ++ b) with _ | ⟨v, s⟩
      · exact ru_none (by rw [rd_zero]; exact hg2)
      · have h1 := gt_lead ha hg2
        have h2 := gt_size hb hg2 (.inr (by omega))
        by_cases hs : s = 9
        · -- nine bytes of 128 and more, and no tenth: not a number
          have hl9 : l.length = 9 := by omega
          obtain ⟨b1, b2, b3, b4⟩ := gt_bound hb (by omega) hg2
          exfalso
          have key : ∀ (m : List Int) (i : Nat) (v : Int) (s : Nat), (∀ x ∈ m, 128 ≤ x) → gt i (m ++ b) = some (v, s) → m.length + 1 ≤ s := by
            intro m
            induction m with
            | nil =>
              intro i v s _ hgm
              rcases b with _ | ⟨d, r⟩
              · cases hgm
              · simp only [List.nil_append, gt] at hgm
                split at hgm
                · split at hgm
                  · cases hgm
                  · split at hgm
                    · cases hgm
                    · injection hgm with hgm; injection hgm with _ h2; simp only [List.length_nil]; omega
                · split at hgm
                  · cases hgm
                  · split at hgm
                    · cases hgm
                    · injection hgm with hgm; injection hgm with _ h2; simp only [List.length_nil]; omega
            | cons d r ih =>
              intro i v s hm hgm
              have hd := hm d (by simp)
              simp only [List.cons_append, gt] at hgm
              rw [if_pos hd] at hgm
              split at hgm
              · cases hgm
              · split at hgm
                · cases hgm
                · next v' s' hg' =>
                  injection hgm with hgm
                  injection hgm with _ h2
                  have := ih _ _ _ (fun x hx => hm x (List.mem_cons_of_mem _ hx)) hg'
                  simp only [List.length_cons]
                  omega
          have := key l 0 v s ha hg2
          omega
        · have h3 : 128 ^ 9 ≤ 128 ^ (s - 1) := Nat.pow_le_pow_right (by omega) (by omega)
          have e9 : (128 : Nat) ^ 9 = 9223372036854775808 := by decide
          exact ru_big (by rw [rd_zero]; exact hg2) (by omega)
    · exact ru_none (by rw [rd_zero]; exact gt_none_app b (by omega) hg (fun k => ha k.1))
  · by_cases hv : 9223372036854775807 < v
    · exact ru_big (by rw [rd_zero]; exact gt_app b hg) hv
    · rw [ru_some (by rw [rd_zero]; exact hg) (by omega)] at h; cases h
theorem opn_app {l : List Int} (b : List Int) (h : opn l = false) : opn (l ++ b) = false := by
  cases ho : opn (l ++ b) with
  | false => rfl
  | true =>
    obtain ⟨h1, h2⟩ := opn_iff.1 ho
    have : opn l = true := opn_iff.2 ⟨by simp at h1; omega, fun x hx => h2 x (by simp [hx])⟩
    rw [h] at this; cases this
/-- Whether a last byte of 1 makes it a number. -/
theorem may_yes {l : List Int} (hb : Byt l) (h : opn l = true) : ∃ v k, ru (l ++ [1]) 0 = some (v, k) := by
  obtain ⟨h1, h2⟩ := opn_iff.1 h
  obtain ⟨v, hv⟩ := gt_open (i := 0) h2 (by omega)
  have hb' : Byt (l ++ [1]) := hb.app (by intro x hx; simp at hx; omega)
  have hlt := gt_less hb' hv
  have h3 : 128 ^ (l.length + 1) ≤ 128 ^ 9 := Nat.pow_le_pow_right (by omega) (by omega)
  have e9 : (128 : Nat) ^ 9 = 9223372036854775808 := by decide
  exact ⟨v, _, ru_some (by rw [rd_zero]; exact hv) (by omega)⟩
theorem may_no {l : List Int} (hb : Byt l) (h : ru l 0 = none) (ho : opn l = false) : ru (l ++ [1]) 0 = none :=
  ru_app_none [1] (hb.app (by intro x hx; simp at hx; omega)) h ho

/-- Read from a place on. -/
theorem ru_drop_none {l : List Int} {a : Nat} (h : ru (l.drop a) 0 = none) : ru l (a : Int) = none := by
  unfold ru at h ⊢
  rw [rd_zero] at h
  rw [rd_pos (by omega), Int.toNat_natCast]
  rcases hg : gt 0 (l.drop a) with _ | ⟨v, s⟩
  · rfl
  · rw [hg] at h
    simp only at h ⊢
    split at h
    · next hv => rw [if_pos hv]
    · cases h
theorem ru_drop_some {l : List Int} {a : Nat} {v k : Int} (h : ru (l.drop a) 0 = some (v, k)) : ru l (a : Int) = some (v, a + k) := by
  unfold ru at h ⊢
  rw [rd_zero] at h
  rw [rd_pos (by omega), Int.toNat_natCast]
  rcases hg : gt 0 (l.drop a) with _ | ⟨v', s⟩
  · rw [hg] at h; cases h
  · rw [hg] at h
    simp only at h ⊢
    split at h
    · cases h
    · next hv =>
      injection h with h
      injection h with h1 h2
      subst h1
      rw [if_neg hv]
      congr 2
      omega

/-- What stands at the head: no whole frame yet, none at all, or one whose load begins at s and has n bytes. -/
inductive St where
  | wait
  | bad (e : Int)
  | load (s n : Nat)

def st (l : List Int) : St :=
  match ru l 0 with
  | none => if opn l then .wait else .bad 2
  | some (v, k) => if 4096 < v then .bad 3 else if (l.length : Int) - k < v then .wait else .load k.toNat v.toNat

theorem st_load {l : List Int} (hb : Byt l) {s n : Nat} (h : st l = .load s n) : ru l 0 = some ((n : Int), (s : Int)) ∧ 1 ≤ s ∧ s + n ≤ l.length ∧ n ≤ 4096 := by
  unfold st at h
  split at h
  · split at h <;> cases h
  · next v k hr =>
    have := ru_bound hb hr
    split at h
    · cases h
    · split at h
      · cases h
      · injection h with h1 h2
        subst h1; subst h2
        refine ⟨by rw [hr]; congr 2 <;> omega, by omega, by omega, by omega⟩
theorem st_load_mk {l : List Int} {s n : Nat} (h : ru l 0 = some ((n : Int), (s : Int))) (h1 : s + n ≤ l.length) (h2 : n ≤ 4096) : st l = .load s n := by
  unfold st
  rw [h]
  simp only
  rw [if_neg (by omega), if_neg (by omega)]
  simp
theorem st_app_load {l : List Int} (b : List Int) (hb : Byt l) {s n : Nat} (h : st l = .load s n) : st (l ++ b) = .load s n := by
  obtain ⟨h1, h2, h3, h4⟩ := st_load hb h
  exact st_load_mk (ru_app b h1) (by simp; omega) h4
theorem st_app_bad {l : List Int} (b : List Int) (hb : Byt (l ++ b)) {e : Int} (h : st l = .bad e) : st (l ++ b) = .bad e := by
  unfold st at h ⊢
  split at h
  · next hr =>
    split at h
    · cases h
    · next ho =>
      have ho' : opn l = false := by simpa using ho
      rw [ru_app_none b hb hr ho', opn_app b ho']
      exact h
  · next v k hr =>
    rw [ru_app b hr]
    simp only
    split at h
    · next hv => rw [if_pos hv]; exact h
    · split at h <;> cases h
theorem st_bad {l : List Int} {e : Int} (h : st l = .bad e) : e = 2 ∨ e = 3 := by
  unfold st at h
  split at h
  · split at h
    · cases h
    · injection h with h; omega
  · split at h
    · injection h with h; omega
    · split at h <;> cases h
theorem st_wait {l : List Int} (hb : Byt l) (h : st l = .wait) : l.length ≤ 4104 := by
  unfold st at h
  split at h
  · split at h
    · next ho => have := (opn_iff.1 ho).1; omega
    · cases h
  · next v k hr =>
    have hbd := ru_bound hb hr
    split at h
    · cases h
    · split at h
      · next h1 h2 =>
        unfold ru at hr
        split at hr
        · cases hr
        · next v' s hg =>
          split at hr
          · cases hr
          · injection hr with hr
            injection hr with e1 e2
            subst e1
            rw [rd_zero] at hg
            by_cases hs : s ≤ 2
            · omega
            · have := gt_size hb hg (.inr (by omega))
              have h3 : 128 ^ 2 ≤ 128 ^ (s - 1) := Nat.pow_le_pow_right (by omega) (by omega)
              have e9 : (128 : Nat) ^ 2 = 16384 := by decide
              omega
      · cases h

/-- The loads of bytes, what is left, and the error. -/
def parse (l : List Int) : List (List Int) × List Int × Int :=
  match st l with
  | .wait => ([], l, 0)
  | .bad e => ([], [], e)
  | .load s n =>
    if _h : 0 < s ∧ 0 < l.length then
      let p := parse (l.drop (s + n))
      ((l.drop s).take n :: p.1, p.2.1, p.2.2)
    else ([], [], 0)
termination_by l.length
decreasing_by rw [List.length_drop]; omega

theorem parse_wait {l : List Int} (h : st l = .wait) : parse l = ([], l, 0) := by rw [parse, h]
theorem parse_bad {l : List Int} {e : Int} (h : st l = .bad e) : parse l = ([], [], e) := by rw [parse, h]
theorem parse_load {l : List Int} (hb : Byt l) {s n : Nat} (h : st l = .load s n) : parse l = ((l.drop s).take n :: (parse (l.drop (s + n))).1, (parse (l.drop (s + n))).2.1, (parse (l.drop (s + n))).2.2) := by
  obtain ⟨_, h2, h3, _⟩ := st_load hb h
  rw [parse, h]
  simp only
  rw [dif_pos ⟨by omega, by omega⟩]

/-- What is known of the loads of any bytes. -/
structure Parsed (l : List Int) (L : List (List Int)) (r : List Int) (e : Int) : Prop where
  err : e = 0 ∨ e = 2 ∨ e = 3
  gone : e ≠ 0 → r = []
  few : r.length ≤ 4104
  less : r.length + L.length ≤ l.length
  byt : Byt r
  loads : ∀ x ∈ L, x.length ≤ 4096 ∧ Byt x
theorem parse_any {l : List Int} (hb : Byt l) : Parsed l (parse l).1 (parse l).2.1 (parse l).2.2 := by
  generalize hk : l.length = k
  induction k using Nat.strongRecOn generalizing l with
  | _ k ih =>
    rcases hs : st l with _ | e | ⟨s, n⟩
    · rw [parse_wait hs]
      exact ⟨.inl rfl, fun h => absurd rfl h, st_wait hb hs, by simp, hb, by simp⟩
    · rw [parse_bad hs]
      have := st_bad hs
      exact ⟨by simp only; omega, fun _ => rfl, by simp, by simp, Byt.nil, by simp⟩
    · obtain ⟨_, h2, h3, h4⟩ := st_load hb hs
      rw [parse_load hb hs]
      have P := ih (l.drop (s + n)).length (by rw [List.length_drop]; omega) (hb.drop _) rfl
      have hless := P.less
      rw [List.length_drop] at hless
      refine ⟨P.err, P.gone, P.few, ?_, P.byt, ?_⟩
      · simp only [List.length_cons]; omega
      · intro x hx
        rcases List.mem_cons.1 hx with rfl | hx
        · exact ⟨by simp; omega, (hb.drop _).take _⟩
        · exact P.loads x hx

/-- However bytes come in parts, the same loads come out. -/
theorem parse_app {l : List Int} (b : List Int) (hb : Byt (l ++ b)) :
    ((parse l).2.2 ≠ 0 → parse (l ++ b) = parse l) ∧ ((parse l).2.2 = 0 → parse (l ++ b) = ((parse l).1 ++ (parse ((parse l).2.1 ++ b)).1, (parse ((parse l).2.1 ++ b)).2)) := by
  generalize hk : l.length = k
  induction k using Nat.strongRecOn generalizing l with
  | _ k ih =>
    have hbl : Byt l := fun x hx => hb x (by simp [hx])
    rcases hs : st l with _ | e | ⟨s, n⟩
    · rw [parse_wait hs]
      exact ⟨fun h => absurd rfl h, fun _ => by simp⟩
    · rw [parse_bad hs, parse_bad (st_app_bad b hb hs)]
      have := st_bad hs
      exact ⟨fun _ => rfl, fun h => by simp only at h; omega⟩
    · obtain ⟨_, h2, h3, h4⟩ := st_load hbl hs
      have e1 : (l ++ b).drop (s + n) = l.drop (s + n) ++ b := List.drop_append_of_le_length h3
      have e2 : ((l ++ b).drop s).take n = (l.drop s).take n := by
        rw [List.drop_append_of_le_length (by omega), List.take_append_of_le_length (by rw [List.length_drop]; omega)]
      rw [parse_load hbl hs, parse_load hb (st_app_load b hbl hs), e1, e2]
      have I := ih (l.drop (s + n)).length (by rw [List.length_drop]; omega) (l := l.drop (s + n)) (by rw [← e1]; exact hb.drop _) rfl
      constructor
      · intro h
        simp only at h
        rw [I.1 h]
      · intro h
        simp only at h
        rw [I.2 h]
        simp

/-- A load as a frame. -/
def frm (x : List Int) : List Int := dg x.length ++ x
def frames (L : List (List Int)) : List Int := (L.map frm).flatten
theorem frm_len {x : List Int} (h : x.length ≤ 4096) : (frm x).length ≤ x.length + 10 := by
  have := dg_len10 (n := x.length) (by omega)
  simp only [frm, List.length_append]
  omega
theorem frm_byt {x : List Int} (h : Byt x) : Byt (frm x) := (dg_byt _).app h
theorem st_frm (x r : List Int) (h : x.length ≤ 4096) : st (frm x ++ r) = .load (dg x.length).length x.length := by
  refine st_load_mk ?_ (by simp [frm]) h
  have := ru_back [] (x ++ r) (n := x.length) (by omega) (a := 0) (by simp)
  simpa [frm] using this
theorem parse_nil : parse [] = ([], [], 0) := parse_wait rfl
theorem frames_byt {L : List (List Int)} (h : ∀ x ∈ L, x.length ≤ 4096 ∧ Byt x) : Byt (frames L) := by
  induction L with
  | nil => exact Byt.nil
  | cons x L ih => exact (frm_byt (h x (by simp)).2).app (ih fun y hy => h y (List.mem_cons_of_mem _ hy))
theorem parse_frames {L : List (List Int)} (h : ∀ x ∈ L, x.length ≤ 4096 ∧ Byt x) : parse (frames L) = (L, [], 0) := by
  induction L with
  | nil => exact parse_nil
  | cons x L ih =>
    have hx := h x (by simp)
    have hr : ∀ y ∈ L, y.length ≤ 4096 ∧ Byt y := fun y hy => h y (List.mem_cons_of_mem _ hy)
    have e : frames (x :: L) = frm x ++ frames L := rfl
    have hb : Byt (frm x ++ frames L) := by rw [← e]; exact frames_byt h
    rw [e, parse_load hb (st_frm x (frames L) hx.1)]
    have e1 : (frm x ++ frames L).drop ((dg x.length).length + x.length) = frames L := by
      rw [show (dg x.length).length + x.length = (frm x).length by simp [frm]]
      exact List.drop_left
    have e2 : ((frm x ++ frames L).drop (dg x.length).length).take x.length = x := by
      simp [frm]
    rw [e1, e2, ih hr]
end Go.Proofs.Ytcefkjeoknaijaa.Mth
