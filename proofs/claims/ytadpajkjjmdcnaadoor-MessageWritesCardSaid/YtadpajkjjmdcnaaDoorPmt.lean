/-
  Plain mathematics of written numbers: base-128 digits, how they are read, numbers with a sign; over lists of integers; nothing of the program.
-/
namespace Go.Proofs.YtadpajkjjmdcnaaDoor.Mth

/-- The digits of a number, the lowest first, with 128 more in all but the last one. -/
def dg (n : Nat) : List Int := if n < 128 then [(n : Int)] else (((n % 128 + 128 : Nat)) : Int) :: dg (n / 128)
termination_by n
decreasing_by omega

theorem dg_lt {n : Nat} (h : n < 128) : dg n = [(n : Int)] := by rw [dg, if_pos h]
theorem dg_ge {n : Nat} (h : 128 ≤ n) : dg n = (((n % 128 + 128 : Nat)) : Int) :: dg (n / 128) := by rw [dg, if_neg (by omega)]

/-- All are bytes. -/
def Byt (l : List Int) : Prop := ∀ x ∈ l, 0 ≤ x ∧ x < 256
theorem Byt.nil : Byt [] := by intro x h; cases h
theorem Byt.app {l m : List Int} (h : Byt l) (k : Byt m) : Byt (l ++ m) := by
  intro x hx
  rcases List.mem_append.1 hx with hx | hx
  · exact h x hx
  · exact k x hx
theorem Byt.take {l : List Int} (h : Byt l) (n : Nat) : Byt (l.take n) := fun x hx => h x (List.mem_of_mem_take hx)
theorem Byt.drop {l : List Int} (h : Byt l) (n : Nat) : Byt (l.drop n) := fun x hx => h x (List.mem_of_mem_drop hx)
theorem Byt.at {l : List Int} (h : Byt l) {k : Nat} {x : Int} (hx : l[k]? = some x) : 0 ≤ x ∧ x < 256 := h x (List.mem_of_getElem? hx)

theorem dg_byt (n : Nat) : Byt (dg n) := by
  induction n using Nat.strongRecOn with
  | _ n ih =>
    by_cases h : n < 128
    · rw [dg_lt h]; intro x hx; simp at hx; omega
    · rw [dg_ge (by omega)]
      intro x hx
      rcases List.mem_cons.1 hx with rfl | hx
      · omega
      · exact ih (n / 128) (by omega) x hx
theorem dg_pos (n : Nat) : 1 ≤ (dg n).length := by
  by_cases h : n < 128
  · rw [dg_lt h]; simp
  · rw [dg_ge (by omega)]; simp
theorem dg_len {k : Nat} : ∀ {n : Nat}, n < 128 ^ (k + 1) → (dg n).length ≤ k + 1 := by
  induction k with
  | zero => intro n h; rw [dg_lt (by omega)]; simp
  | succ k ih =>
    intro n h
    by_cases h1 : n < 128
    · rw [dg_lt h1]; simp
    · rw [dg_ge (by omega)]
      have : n / 128 < 128 ^ (k + 1) := by
        rw [Nat.pow_succ] at h
        exact Nat.div_lt_of_lt_mul (by omega)
      have := ih this
      simp only [List.length_cons]
      omega
theorem dg_len10 {n : Nat} (h : n < 18446744073709551616) : (dg n).length ≤ 10 := dg_len (k := 9) (by omega)
theorem dg_len9 {n : Nat} (h : n < 9223372036854775808) : (dg n).length ≤ 9 := dg_len (k := 8) (by omega)
theorem dg_mono {n m : Nat} (h : n ≤ m) : (dg n).length ≤ (dg m).length := by
  induction n using Nat.strongRecOn generalizing m with
  | _ n ih =>
    by_cases h1 : n < 128
    · rw [dg_lt h1]; exact dg_pos m
    · rw [dg_ge (n := n) (by omega), dg_ge (n := m) (by omega)]
      have hnm : n / 128 ≤ m / 128 := Nat.div_le_div_right h
      have := ih (n / 128) (by omega) hnm
      simp only [List.length_cons]
      omega
theorem dg_last (n : Nat) : ∃ x, (dg n)[(dg n).length - 1]? = some x ∧ 0 ≤ x ∧ x < 128 := by
  induction n using Nat.strongRecOn with
  | _ n ih =>
    by_cases h : n < 128
    · exact ⟨n, by rw [dg_lt h]; simp, by omega, by omega⟩
    · obtain ⟨x, h1, h2, h3⟩ := ih (n / 128) (by omega)
      refine ⟨x, ?_, h2, h3⟩
      rw [dg_ge (by omega)]
      have := dg_pos (n / 128)
      simp only [List.length_cons]
      rw [show (dg (n / 128)).length + 1 - 1 = ((dg (n / 128)).length - 1) + 1 by omega]
      simpa using h1

/-- The number that is written at the head, where i digits were ahead of it, and how many bytes it has. -/
def gt : Nat → List Int → Option (Int × Nat)
  | _, [] => none
  | i, d :: r =>
    if 128 ≤ d then
      (if i = 9 then none else
        match gt (i + 1) r with
        | none => none
        | some (v, s) => some (d - 128 + 128 * v, s + 1))
    else if d = 0 ∧ 0 < i then none
    else if i = 9 ∧ 1 < d then none
    else some (d, 1)

theorem pw (i : Nat) (h : i < 9) : (2 : Nat) ^ (64 - 7 * i) = 128 * 2 ^ (64 - 7 * (i + 1)) := by
  rw [show 64 - 7 * i = 7 + (64 - 7 * (i + 1)) by omega, Nat.pow_add]

theorem gt_bound {m : List Int} (hb : Byt m) {i : Nat} (hi : i ≤ 9) {v : Int} {s : Nat} (h : gt i m = some (v, s)) :
    0 ≤ v ∧ v < ((2 ^ (64 - 7 * i) : Nat) : Int) ∧ 1 ≤ s ∧ s ≤ m.length := by
  induction m generalizing i v s with
  | nil => simp [gt] at h
  | cons d r ih =>
    have hd := hb d (by simp)
    unfold gt at h
    split at h
    · split at h
      · cases h
      · next h9 =>
        split at h
        · cases h
        · next v' s' hg =>
          injection h with h
          injection h with h1 h2
          subst h1; subst h2
          have := ih (fun x hx => hb x (List.mem_cons_of_mem _ hx)) (by omega) hg
          have hp := pw i (by omega)
          simp only [List.length_cons]
          rw [hp]
          omega
    · next hlt =>
      split at h
      · cases h
      · split at h
        · cases h
        · next h9 =>
          injection h with h
          injection h with h1 h2
          subst h1; subst h2
          refine ⟨by omega, ?_, by omega, by simp⟩
          by_cases e : i = 9
          · subst e
            have : (2 : Nat) ^ (64 - 7 * 9) = 2 := by decide
            omega
          · have hp := pw i (by omega)
            have : 0 < (2 : Nat) ^ (64 - 7 * (i + 1)) := Nat.pow_pos (by omega)
            omega

theorem gt_dg {n i : Nat} (hi : i ≤ 9) (hn : n < 2 ^ (64 - 7 * i)) (h0 : 0 < i → 0 < n) (r : List Int) : gt i (dg n ++ r) = some ((n : Int), (dg n).length) := by
  induction n using Nat.strongRecOn generalizing i with
  | _ n ih =>
    by_cases h : n < 128
    · rw [dg_lt h]
      simp only [List.cons_append, List.nil_append, gt, List.length_singleton]
      rw [if_neg (by omega), if_neg (by omega), if_neg]
      rintro ⟨rfl, h1⟩
      have : (2 : Nat) ^ (64 - 7 * 9) = 2 := by decide
      omega
    · rw [dg_ge (by omega)]
      have h9 : i ≠ 9 := by
        rintro rfl
        have : (2 : Nat) ^ (64 - 7 * 9) = 2 := by decide
        omega
      have hp := pw i (by omega)
      have := ih (n / 128) (by omega) (i := i + 1) (by omega) (Nat.div_lt_of_lt_mul (by omega)) (by omega)
      simp only [List.cons_append, gt, this, List.length_cons]
      rw [if_pos (by omega), if_neg h9]
      have e : (((n % 128 + 128 : Nat)) : Int) - 128 + 128 * ((n / 128 : Nat) : Int) = (n : Int) := by omega
      rw [e]

/-- No written number begins another one. -/
theorem dg_apart {n m : Nat} (hn : n < 18446744073709551616) (hm : m < 18446744073709551616) {r : List Int} (h : dg m = dg n ++ r) : n = m := by
  have h1 := gt_dg (n := n) (i := 0) (by omega) (by omega) (by omega) r
  have h2 := gt_dg (n := m) (i := 0) (by omega) (by omega) (by omega) []
  rw [← h] at h1
  rw [List.append_nil, h1] at h2
  injection h2 with h2
  injection h2 with h2 _
  omega

/-- What is known of the first i digits, joined with what comes of the rest. -/
def comb (i : Nat) (acc : Int) : Option (Int × Nat) → Option (Int × Nat)
  | none => none
  | some (v, s) => some (acc + 2 ^ (7 * i) * v, i + s)

theorem drop_at {l : List Int} {k : Nat} {x : Int} (h : l[k]? = some x) : l.drop k = x :: l.drop (k + 1) := by
  obtain ⟨hk, rfl⟩ := List.getElem?_eq_some_iff.1 h
  exact List.drop_eq_getElem_cons hk

theorem comb_zero (x : Option (Int × Nat)) : comb 0 0 x = x := by
  rcases x with _ | ⟨v, s⟩
  · rfl
  · simp [comb]
theorem comb_nil {m : List Int} {i : Nat} {acc : Int} (h : m.length ≤ i) : comb i acc (gt i (m.drop i)) = none := by
  rw [List.drop_eq_nil_of_le h]; rfl
theorem comb_big {m : List Int} {acc d : Int} (h : m[9]? = some d) (hd : 1 < d) : comb 9 acc (gt 9 (m.drop 9)) = none := by
  rw [drop_at h]
  simp only [gt]
  by_cases h1 : 128 ≤ d
  · rw [if_pos h1]; rfl
  · rw [if_neg h1, if_neg (by omega)]; simp [hd, comb]
theorem comb_zero_end {m : List Int} {i : Nat} {acc : Int} (h : m[i]? = some 0) (hi : 0 < i) : comb i acc (gt i (m.drop i)) = none := by
  rw [drop_at h]
  simp only [gt]
  rw [if_neg (by omega), if_pos (by simp [hi])]; rfl
theorem comb_more {m : List Int} {i : Nat} {acc d : Int} (h : m[i]? = some d) (hd : 128 ≤ d) (hi : i ≠ 9) : comb i acc (gt i (m.drop i)) = comb (i + 1) (acc + (d - 128) * 2 ^ (7 * i)) (gt (i + 1) (m.drop (i + 1))) := by
  rw [drop_at h]
  simp only [gt]
  rw [if_pos hd, if_neg hi]
  rcases gt (i + 1) (m.drop (i + 1)) with _ | ⟨v, s⟩
  · rfl
  · simp only [comb]
    have : (2 : Int) ^ (7 * (i + 1)) = 2 ^ (7 * i) * 128 := by rw [show 7 * (i + 1) = 7 * i + 7 by omega, Int.pow_add]; rfl
    rw [this]
    generalize (2 : Int) ^ (7 * i) = p
    congr 2
    · grind
    · omega
theorem comb_end {m : List Int} {i : Nat} {acc d : Int} (h : m[i]? = some d) (hd : d < 128) (h0 : ¬ (d = 0 ∧ 0 < i)) (h9 : ¬ (i = 9 ∧ 1 < d)) : comb i acc (gt i (m.drop i)) = some (acc + d * 2 ^ (7 * i), i + 1) := by
  rw [drop_at h]
  simp only [gt]
  rw [if_neg (by omega), if_neg h0, if_neg h9]
  simp only [comb]
  rw [Int.mul_comm]

/-- Behind k bytes of 128 and more: what comes of the rest decides. -/
theorem lead_none {m : List Int} : ∀ {k : Nat}, k ≤ 9 → (∀ j d, j < k → m[j]? = some d → 128 ≤ d) → k ≤ m.length → gt k (m.drop k) = none → gt 0 m = none := by
  intro k
  induction k with
  | zero => intro _ _ _ h; simpa using h
  | succ k ih =>
    intro hk hl hlen h
    refine ih (by omega) (fun j d hj => hl j d (by omega)) (by omega) ?_
    have hx : m[k]? = some m[k] := List.getElem?_eq_getElem (by omega)
    rw [drop_at hx]
    simp only [gt, h]
    rw [if_pos (hl k _ (by omega) hx)]
    split <;> rfl
theorem lead_many {m : List Int} {k : Nat} (hk : 9 < k) (hl : ∀ j d, j < k → m[j]? = some d → 128 ≤ d) (hlen : k ≤ m.length) : gt 0 m = none := by
  refine lead_none (k := 9) (by omega) (fun j d hj => hl j d (by omega)) (by omega) ?_
  have hx : m[9]? = some m[9] := List.getElem?_eq_getElem (by omega)
  rw [drop_at hx]
  simp only [gt]
  rw [if_pos (hl 9 _ (by omega) hx)]; rfl
theorem gt_end {m : List Int} {k : Nat} (h : m.length ≤ k) : gt k (m.drop k) = none := by rw [List.drop_eq_nil_of_le h]; rfl
theorem gt_back {m : List Int} {j : Nat} {d v : Int} {s : Nat} (h : m[j]? = some d) (hd : 128 ≤ d) (hj : j < 9) (hg : gt (j + 1) (m.drop (j + 1)) = some (v, s)) : gt j (m.drop j) = some (d - 128 + 128 * v, s + 1) := by
  rw [drop_at h]
  simp only [gt, hg]
  rw [if_pos hd, if_neg (by omega)]
theorem gt_last {m : List Int} {j : Nat} {d : Int} (h : m[j]? = some d) (hd : d < 128) (h0 : ¬ (d = 0 ∧ 0 < j)) (h9 : ¬ (j = 9 ∧ 1 < d)) : gt j (m.drop j) = some (d, 1) := by
  rw [drop_at h]
  simp only [gt]
  rw [if_neg (by omega), if_neg h0, if_neg h9]
theorem gt_zero {m : List Int} {j : Nat} (h : m[j]? = some 0) (hj : 0 < j) : gt j (m.drop j) = none := by
  rw [drop_at h]
  simp only [gt]
  rw [if_neg (by omega), if_pos (by simp [hj])]
theorem gt_big {m : List Int} {d : Int} (h : m[9]? = some d) (hd : 1 < d) : gt 9 (m.drop 9) = none := by
  rw [drop_at h]
  simp only [gt]
  by_cases h1 : 128 ≤ d
  · rw [if_pos h1]; rfl
  · rw [if_neg h1, if_neg (by omega), if_pos (by simp [hd])]

/-- A number with a sign as one from 0 on, and back. -/
def sg (n : Int) : Int := if n < 0 then -2 * n - 1 else 2 * n
def ug (v : Int) : Int := if v % 2 = 1 then -(v / 2) - 1 else v / 2
theorem ug_sg (n : Int) : ug (sg n) = n := by
  unfold ug sg
  by_cases h : n < 0
  · rw [if_pos h, if_pos (by omega)]; omega
  · rw [if_neg h, if_neg (by omega)]; omega
theorem sg_in {n : Int} (h0 : -9223372036854775808 ≤ n) (h1 : n ≤ 9223372036854775807) : 0 ≤ sg n ∧ sg n < 18446744073709551616 := by
  unfold sg; split <;> omega
theorem ug_in {v : Int} (h0 : 0 ≤ v) (h1 : v < 18446744073709551616) : -9223372036854775808 ≤ ug v ∧ ug v ≤ 9223372036854775807 := by
  unfold ug; split <;> omega

/-- What is read from a place on, as a number of 64 bits and how many bytes it has. -/
def rd (l : List Int) (a : Int) : Option (Int × Nat) := if a < 0 then none else gt 0 (l.drop a.toNat)
theorem rd_neg {l : List Int} {a : Int} (h : a < 0) : rd l a = none := by unfold rd; rw [if_pos h]
theorem rd_pos {l : List Int} {a : Int} (h : 0 ≤ a) : rd l a = gt 0 (l.drop a.toNat) := by unfold rd; rw [if_neg (by omega)]
theorem rd_bound {l : List Int} (hb : Byt l) {a v : Int} {s : Nat} (h : rd l a = some (v, s)) : 0 ≤ a ∧ 0 ≤ v ∧ v < 18446744073709551616 ∧ 1 ≤ s ∧ a + s ≤ l.length := by
  unfold rd at h
  split at h
  · cases h
  · have := gt_bound (hb.drop _) (by omega) h
    rw [List.length_drop] at this
    have e : (2 : Nat) ^ (64 - 7 * 0) = 18446744073709551616 := by decide
    rw [e] at this
    omega

/-- ReadUint and ReadInt: the number and the byte behind it. -/
def ru (l : List Int) (a : Int) : Option (Int × Int) :=
  match rd l a with
  | none => none
  | some (v, s) => if 9223372036854775807 < v then none else some (v, a + s)
def ri (l : List Int) (a : Int) : Option (Int × Int) :=
  match rd l a with
  | none => none
  | some (v, s) => some (ug v, a + s)
theorem ru_bound {l : List Int} (hb : Byt l) {a v k : Int} (h : ru l a = some (v, k)) : 0 ≤ a ∧ 0 ≤ v ∧ v ≤ 9223372036854775807 ∧ a < k ∧ k ≤ l.length := by
  unfold ru at h
  split at h
  · cases h
  · next v' s' hr =>
    split at h
    · cases h
    · injection h with h
      injection h with h1 h2
      have := rd_bound hb hr
      omega
theorem ri_bound {l : List Int} (hb : Byt l) {a v k : Int} (h : ri l a = some (v, k)) : 0 ≤ a ∧ -9223372036854775808 ≤ v ∧ v ≤ 9223372036854775807 ∧ a < k ∧ k ≤ l.length := by
  unfold ri at h
  split at h
  · cases h
  · next v' s' hr =>
    injection h with h
    injection h with h1 h2
    have := rd_bound hb hr
    have := ug_in this.2.1 this.2.2.1
    omega
theorem ru_none {l : List Int} {a : Int} (h : rd l a = none) : ru l a = none := by unfold ru; rw [h]
theorem ru_big {l : List Int} {a v : Int} {s : Nat} (h : rd l a = some (v, s)) (hv : 9223372036854775807 < v) : ru l a = none := by unfold ru; rw [h]; simp [hv]
theorem ru_some {l : List Int} {a v : Int} {s : Nat} (h : rd l a = some (v, s)) (hv : v ≤ 9223372036854775807) : ru l a = some (v, a + s) := by
  unfold ru; rw [h]; simp only; rw [if_neg (by omega)]
theorem ri_none {l : List Int} {a : Int} (h : rd l a = none) : ri l a = none := by unfold ri; rw [h]
theorem ri_some {l : List Int} {a v : Int} {s : Nat} (h : rd l a = some (v, s)) : ri l a = some (ug v, a + s) := by unfold ri; rw [h]

/-- n numbers with a sign, one behind the other. -/
def rl (l : List Int) : Nat → Int → Option (List Int × Int)
  | 0, a => some ([], a)
  | n + 1, a =>
    match ri l a with
    | none => none
    | some (v, k) =>
      match rl l n k with
      | none => none
      | some (r, z) => some (v :: r, z)

/-- A row written: its numbers with their signs. -/
def wl : List Int → List Int
  | [] => []
  | x :: r => dg (sg x).toNat ++ wl r
theorem wl_app (l m : List Int) : wl (l ++ m) = wl l ++ wl m := by
  induction l with
  | nil => rfl
  | cons x r ih => simp only [List.cons_append, wl, ih, List.append_assoc]
theorem wl_byt (l : List Int) : Byt (wl l) := by
  induction l with
  | nil => exact Byt.nil
  | cons x r ih => exact (dg_byt _).app ih
theorem wl_len {l : List Int} (h : ∀ x ∈ l, -9223372036854775808 ≤ x ∧ x ≤ 9223372036854775807) : (wl l).length ≤ 10 * l.length := by
  induction l with
  | nil => simp [wl]
  | cons x r ih =>
    have := ih (fun y hy => h y (List.mem_cons_of_mem _ hy))
    have hx := h x (by simp)
    have := sg_in hx.1 hx.2
    have := dg_len10 (n := (sg x).toNat) (by omega)
    simp only [wl, List.length_append, List.length_cons]
    omega

/-- What is written is read, whatever stands ahead and behind. -/
theorem rd_back (f r : List Int) {n : Nat} (hn : n < 18446744073709551616) : rd (f ++ (dg n ++ r)) f.length = some ((n : Int), (dg n).length) := by
  rw [rd_pos (by omega)]
  simp only [Int.toNat_natCast, List.drop_left]
  exact gt_dg (by omega) (by omega) (by omega) r
theorem ru_back (f r : List Int) {n : Nat} (hn : n ≤ 9223372036854775807) {a : Int} (ha : a = f.length) : ru (f ++ (dg n ++ r)) a = some ((n : Int), ((f ++ dg n).length : Int)) := by
  subst ha
  rw [ru_some (rd_back f r (n := n) (by omega)) (by omega)]
  simp
theorem ri_back (f r : List Int) {n : Int} (h0 : -9223372036854775808 ≤ n) (h1 : n ≤ 9223372036854775807) {a : Int} (ha : a = f.length) : ri (f ++ (dg (sg n).toNat ++ r)) a = some (n, ((f ++ dg (sg n).toNat).length : Int)) := by
  subst ha
  have := sg_in h0 h1
  rw [ri_some (rd_back f r (n := (sg n).toNat) (by omega))]
  rw [Int.toNat_of_nonneg this.1, ug_sg]
  simp
theorem rl_back (r : List Int) : ∀ (l f : List Int) {a : Int}, a = f.length → (∀ x ∈ l, -9223372036854775808 ≤ x ∧ x ≤ 9223372036854775807) → rl (f ++ (wl l ++ r)) l.length a = some (l, ((f ++ wl l).length : Int)) := by
  intro l
  induction l with
  | nil => intro f a ha _; subst ha; simp [rl, wl]
  | cons x l ih =>
    intro f a ha hx
    have h1 := hx x (by simp)
    have e : f ++ (wl (x :: l) ++ r) = f ++ (dg (sg x).toNat ++ (wl l ++ r)) := by simp [wl]
    simp only [List.length_cons, rl]
    rw [e, ri_back f (wl l ++ r) h1.1 h1.2 ha]
    have e2 : f ++ (dg (sg x).toNat ++ (wl l ++ r)) = (f ++ dg (sg x).toNat) ++ (wl l ++ r) := by simp
    simp only
    rw [e2, ih (f ++ dg (sg x).toNat) rfl (fun y hy => hx y (List.mem_cons_of_mem _ hy))]
    simp [wl]
end Go.Proofs.YtadpajkjjmdcnaaDoor.Mth
