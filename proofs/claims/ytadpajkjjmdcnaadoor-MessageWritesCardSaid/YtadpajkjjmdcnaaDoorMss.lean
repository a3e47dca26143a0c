/-
  Plain words for messages: names, how many numbers, which messages are right, the load of one, what a load says; right messages and their loads are each other's. No memory.
-/
import Derived.Test.YtadpajkjjmdcnaaDoorPmt
namespace Go.Proofs.YtadpajkjjmdcnaaDoor.Mth

theorem sg_ug {v : Int} (h : 0 ≤ v) : sg (ug v) = v := by unfold sg ug; split <;> split <;> omega
/-- What is read is written alike. -/
theorem gt_canon : ∀ {m : List Int}, Byt m → ∀ {i : Nat} {v : Int} {s : Nat}, gt i m = some (v, s) → 0 ≤ v ∧ (0 < i → 0 < v) ∧ m = dg v.toNat ++ m.drop s
  | [], _, i, v, s, h => by simp [gt] at h
  | d :: r, hb, i, v, s, h => by
    have hd := hb d (by simp)
    unfold gt at h
    split at h
    · next h128 =>
      split at h
      · cases h
      · split at h
        · cases h
        · next v' s' hg =>
          injection h with h
          injection h with h1 h2
          subst h1; subst h2
          obtain ⟨a1, a2, a3⟩ := gt_canon (fun x hx => hb x (List.mem_cons_of_mem _ hx)) hg
          have a2 := a2 (by omega)
          refine ⟨by omega, by omega, ?_⟩
          rw [dg_ge (by omega), List.drop_succ_cons]
          have e1 : (((d - 128 + 128 * v').toNat % 128 + 128 : Nat) : Int) = d := by omega
          have e2 : (d - 128 + 128 * v').toNat / 128 = v'.toNat := by omega
          rw [e1, e2, List.cons_append, ← a3]
    · next h128 =>
      split at h
      · cases h
      · next h0 =>
        split at h
        · cases h
        · injection h with h
          injection h with h1 h2
          subst h1; subst h2
          refine ⟨by omega, by omega, ?_⟩
          rw [dg_lt (by omega), List.drop_succ_cons, List.drop_zero]
          simp; omega
theorem rd_canon {l : List Int} (hb : Byt l) {a v : Int} {s : Nat} (h : rd l a = some (v, s)) : 0 ≤ a ∧ 0 ≤ v ∧ l.drop a.toNat = dg v.toNat ++ l.drop (a + s).toNat := by
  have b := rd_bound hb h
  rw [rd_pos b.1] at h
  obtain ⟨h1, _, h3⟩ := gt_canon (hb.drop _) h
  refine ⟨b.1, h1, ?_⟩
  rw [show (a + (s : Int)).toNat = a.toNat + s by omega, ← List.drop_drop]
  exact h3
theorem ru_canon {l : List Int} (hb : Byt l) {a v k : Int} (h : ru l a = some (v, k)) : 0 ≤ a ∧ 0 ≤ v ∧ l.drop a.toNat = dg v.toNat ++ l.drop k.toNat := by
  unfold ru at h
  split at h
  · cases h
  · next v' s' hr =>
    split at h
    · cases h
    · injection h with h
      injection h with h1 h2
      subst h1; subst h2
      exact rd_canon hb hr
theorem ri_canon {l : List Int} (hb : Byt l) {a v k : Int} (h : ri l a = some (v, k)) : 0 ≤ a ∧ l.drop a.toNat = dg (sg v).toNat ++ l.drop k.toNat := by
  unfold ri at h
  split at h
  · cases h
  · next v' s' hr =>
    injection h with h
    injection h with h1 h2
    subst h1; subst h2
    obtain ⟨a1, a2, a3⟩ := rd_canon hb hr
    rw [sg_ug a2]
    exact ⟨a1, a3⟩
def Fit (l : List Int) : Prop := ∀ x ∈ l, -9223372036854775808 ≤ x ∧ x ≤ 9223372036854775807
theorem rl_canon {l : List Int} (hb : Byt l) : ∀ {n : Nat} {a z : Int} {r : List Int}, rl l n a = some (r, z) → r.length = n ∧ Fit r ∧ l.drop a.toNat = wl r ++ l.drop z.toNat
  | 0, a, z, r, h => by simp [rl] at h; obtain ⟨rfl, rfl⟩ := h; exact ⟨rfl, fun x hx => (by cases hx), by simp [wl]⟩
  | n + 1, a, z, r, h => by
    unfold rl at h
    split at h
    · cases h
    · next v k hr =>
      split at h
      · cases h
      · next r' z' hr2 =>
        injection h with h
        injection h with h1 h2
        subst h1; subst h2
        obtain ⟨a1, a2, a3⟩ := rl_canon hb hr2
        obtain ⟨b1, b2⟩ := ri_canon hb hr
        have b3 := ri_bound hb hr
        refine ⟨by simp [a1], fun x hx => ?_, ?_⟩
        · rcases List.mem_cons.1 hx with rfl | hx
          · omega
          · exact a2 x hx
        · rw [b2, a3]; simp [wl]


/-- A byte of names. -/
def nmB (x : Int) : Bool := (decide (97 ≤ x) && decide (x ≤ 122)) || (decide (65 ≤ x) && decide (x ≤ 90)) || (decide (48 ≤ x) && decide (x ≤ 57)) || decide (x = 45)
/-- A name. -/
def namB (t : List Int) : Bool := decide (1 ≤ t.length) && decide (t.length ≤ 24) && t.all nmB
/-- How many numbers, at the place of the Do. -/
def szL : List Int := [0, 2, 1, 0, 10, 1, 3, 5, 3, 2, 0]
def isD (d : Int) : Bool := decide (1 ≤ d) && decide (d ≤ 10)
def szN (d : Int) : Nat := if d = 1 then 2 else if d = 2 then 1 else if d = 4 then 10 else if d = 5 then 1 else if d = 6 then 3 else if d = 7 then 5 else if d = 8 then 3 else if d = 9 then 2 else 0
theorem szL_at {d : Int} (h : 1 ≤ d) (h2 : d ≤ 10) : szL[d.toNat]? = some ((szN d : Nat) : Int) := by
  have : d = 1 ∨ d = 2 ∨ d = 3 ∨ d = 4 ∨ d = 5 ∨ d = 6 ∨ d = 7 ∨ d = 8 ∨ d = 9 ∨ d = 10 := by omega
  rcases this with rfl | rfl | rfl | rfl | rfl | rfl | rfl | rfl | rfl | rfl <;> rfl
theorem szN_le (d : Int) : szN d ≤ 10 := by unfold szN; (repeat' split) <;> omega
theorem szN_out {d : Int} (h : isD d = false) : szN d = 0 := by
  simp only [isD, Bool.and_eq_false_iff, decide_eq_false_iff_not] at h
  unfold szN; (repeat' split) <;> omega

/-- A message. -/
structure Ms where
  d : Int
  l : List Int
  t : List Int
deriving DecidableEq
def zM : Ms := ⟨0, [], []⟩
/-- Its numbers are of 64 bits, its text of bytes. -/
structure FM (m : Ms) : Prop where
  d : -9223372036854775808 ≤ m.d ∧ m.d ≤ 9223372036854775807
  l : Fit m.l
  t : Byt m.t
theorem Fit.nil : Fit [] := fun x h => by cases h
theorem fm_zero : FM zM := ⟨by simp [zM], Fit.nil, Byt.nil⟩
/-- May have the text. -/
def txB (d : Int) (t : List Int) : Bool := decide (t = []) || (decide (d = 4) && namB t)
/-- A right message. -/
def rtM (m : Ms) : Bool := isD m.d && decide (m.l.length = szN m.d) && txB m.d m.t
/-- The load. -/
def ldM (m : Ms) : List Int := m.d :: (wl m.l ++ m.t)
/-- What Encode answers. -/
def enL (m : Ms) : List Int := if rtM m then ldM m else []
def enE (m : Ms) : Int := if rtM m then 0 else 1
/-- What a load says. -/
def say (b : List Int) : Option Ms :=
  match b with
  | [] => none
  | d :: _ =>
    match rl b (szN d) 1 with
    | none => none
    | some (ns, z) => some ⟨d, ns, b.drop z.toNat⟩
def deO (b : List Int) : Option Ms :=
  match say b with
  | none => none
  | some m => if rtM m then some m else none
/-- What Decode answers. -/
def orZ : Option Ms → Ms
  | none => zM
  | some m => m
def orE : Option Ms → Int
  | none => 2
  | some _ => 0
def deC (b : List Int) : Ms := orZ (deO b)
def deE (b : List Int) : Int := orE (deO b)

theorem fit_byt {l : List Int} (h : Byt l) : Fit l := fun x hx => by have := h x hx; omega
theorem say_nil : say [] = none := rfl
theorem say_none {b : List Int} {d : Int} (hd : b[0]? = some d) (h : rl b (szN d) 1 = none) : say b = none := by
  cases b with
  | nil => cases hd
  | cons x r =>
    simp at hd; subst hd
    simp only [say, h]
theorem say_some {b : List Int} {d : Int} {ns : List Int} {z : Int} (hd : b[0]? = some d) (h : rl b (szN d) 1 = some (ns, z)) : say b = some ⟨d, ns, b.drop z.toNat⟩ := by
  cases b with
  | nil => cases hd
  | cons x r =>
    simp at hd; subst hd
    simp only [say, h]
theorem say_parts {b : List Int} {m : Ms} (h : say b = some m) : ∃ r z, b = m.d :: r ∧ rl b (szN m.d) 1 = some (m.l, z) ∧ m.t = b.drop z.toNat := by
  unfold say at h
  split at h
  · cases h
  · next d r =>
    split at h
    · cases h
    · next ns z hr =>
      injection h with h
      subst h
      exact ⟨r, z, rfl, hr, rfl⟩
/-- What is said is written alike. -/
theorem ld_say {b : List Int} (hb : Byt b) {m : Ms} (h : say b = some m) : FM m ∧ m.l.length = szN m.d ∧ m.t.length ≤ b.length ∧ ldM m = b := by
  obtain ⟨r, z, e, hr, ht⟩ := say_parts h
  obtain ⟨c1, c2, c3⟩ := rl_canon hb hr
  have hd : 0 ≤ m.d ∧ m.d < 256 := hb m.d (by rw [e]; simp)
  refine ⟨⟨by omega, c2, by rw [ht]; exact hb.drop _⟩, c1, by rw [ht, List.length_drop]; omega, ?_⟩
  have e1 : b.drop (1 : Int).toNat = r := by rw [e]; rfl
  rw [e1] at c3
  rw [ldM, ht, ← c3]
  exact e.symm
theorem wl_cap {m : Ms} (h : FM m) (hr : m.l.length ≤ 10) : (wl m.l).length ≤ 100 := by have := wl_len h.l; omega
theorem rt_parts {m : Ms} (h : rtM m = true) : 1 ≤ m.d ∧ m.d ≤ 10 ∧ m.l.length = szN m.d ∧ m.t.length ≤ 24 := by
  simp only [rtM, isD, txB, namB, Bool.and_eq_true, Bool.or_eq_true, decide_eq_true_eq] at h
  obtain ⟨⟨⟨h1, h2⟩, h3⟩, h4⟩ := h
  refine ⟨h1, h2, h3, ?_⟩
  rcases h4 with h4 | h4
  · rw [h4]; simp
  · exact h4.2.1.2
theorem ld_len {m : Ms} (h : FM m) (hr : rtM m = true) : (ldM m).length ≤ 125 := by
  obtain ⟨_, _, h3, h4⟩ := rt_parts hr
  have := szN_le m.d
  have := wl_cap h (by omega)
  simp only [ldM, List.length_cons, List.length_append]
  omega
theorem byt_cons {x : Int} {r : List Int} (h : 0 ≤ x ∧ x < 256) (hr : Byt r) : Byt (x :: r) := by
  intro y hy
  rcases List.mem_cons.1 hy with rfl | hy
  · exact h
  · exact hr y hy
theorem ld_byt {m : Ms} (h : FM m) (hr : rtM m = true) : Byt (ldM m) := by
  obtain ⟨h1, h2, _, _⟩ := rt_parts hr
  exact byt_cons (by omega) ((wl_byt _).app h.t)
/-- What the load of a right message says: that message. -/
theorem say_ld {m : Ms} (h : FM m) (hr : rtM m = true) : say (ldM m) = some m := by
  obtain ⟨_, _, h3, _⟩ := rt_parts hr
  have e : rl (ldM m) (szN m.d) 1 = some (m.l, (([m.d] ++ wl m.l).length : Int)) := by
    rw [← h3]
    exact rl_back m.t m.l [m.d] (by simp) h.l
  rw [say_some (d := m.d) rfl e]
  have : (ldM m).drop ((([m.d] ++ wl m.l).length : Int)).toNat = m.t := by
    rw [Int.toNat_natCast]
    show ([m.d] ++ (wl m.l ++ m.t)).drop _ = _
    rw [← List.append_assoc, List.drop_left]
  rw [this]
theorem de_ld {m : Ms} (h : FM m) (hr : rtM m = true) : deO (ldM m) = some m := by
  simp [deO, say_ld h hr, hr]
theorem de_yes {b : List Int} (hb : Byt b) {m : Ms} (h : deO b = some m) : rtM m = true ∧ FM m ∧ ldM m = b := by
  unfold deO at h
  split at h
  · cases h
  · next m' hs =>
    split at h
    · next k =>
      injection h with h
      subst h
      obtain ⟨h1, _, _, h4⟩ := ld_say hb hs
      exact ⟨k, h1, h4⟩
    · cases h
theorem de_none {b : List Int} (h : say b = none) : deO b = none := by simp [deO, h]
theorem de_bad {b : List Int} {m : Ms} (h : say b = some m) (hr : rtM m = false) : deO b = none := by simp [deO, h, hr]
theorem de_good {b : List Int} {m : Ms} (h : say b = some m) (hr : rtM m = true) : deO b = some m := by simp [deO, h, hr]
theorem fm_de {b : List Int} (hb : Byt b) : FM (deC b) := by
  unfold deC
  cases h : deO b with
  | none => exact fm_zero
  | some m => exact (de_yes hb h).2.1
theorem len_de {b : List Int} (hb : Byt b) : (deC b).l.length ≤ 10 ∧ (deC b).t.length ≤ 24 := by
  unfold deC
  cases h : deO b with
  | none => simp [orZ, zM]
  | some m =>
    obtain ⟨h1, _, _⟩ := de_yes hb h
    obtain ⟨_, _, h3, h4⟩ := rt_parts h1
    have := szN_le m.d
    simp only [orZ]
    omega
theorem en_yes {m : Ms} (h : rtM m = true) : enL m = ldM m ∧ enE m = 0 := by simp [enL, enE, h]
theorem en_no {m : Ms} (h : rtM m = false) : enL m = [] ∧ enE m = 1 := by simp [enL, enE, h]
theorem en_byt {m : Ms} (h : FM m) : Byt (enL m) := by
  cases hr : rtM m with
  | true => rw [(en_yes hr).1]; exact ld_byt h hr
  | false => rw [(en_no hr).1]; exact Byt.nil
theorem en_len {m : Ms} (h : FM m) : (enL m).length ≤ 125 := by
  cases hr : rtM m with
  | true => rw [(en_yes hr).1]; exact ld_len h hr
  | false => rw [(en_no hr).1]; simp

/-! ### reading number by number -/
/-- What is read behind what was read. -/
def pre (ls : List Int) : Option (List Int × Int) → Option (List Int × Int)
  | none => none
  | some (r, z) => some (ls ++ r, z)
theorem pre_nil (o : Option (List Int × Int)) : pre [] o = o := by
  cases o with
  | none => rfl
  | some x => rfl
theorem rl_zero (l : List Int) (a : Int) (ls : List Int) : pre ls (rl l 0 a) = some (ls, a) := by simp [rl, pre]
theorem rl_no {l : List Int} {n : Nat} {a : Int} (ls : List Int) (h : ri l a = none) : pre ls (rl l (n + 1) a) = none := by simp [rl, h, pre]
theorem rl_yes {l : List Int} {n : Nat} {a v k : Int} (ls : List Int) (h : ri l a = some (v, k)) : pre ls (rl l (n + 1) a) = pre (ls ++ [v]) (rl l n k) := by
  simp only [rl, h]
  cases rl l n k with
  | none => rfl
  | some x => obtain ⟨r, z⟩ := x; simp [pre]
theorem fit_snoc {ls : List Int} {v : Int} (h : Fit ls) (hv : -9223372036854775808 ≤ v ∧ v ≤ 9223372036854775807) : Fit (ls ++ [v]) := by
  intro x hx
  rcases List.mem_append.1 hx with hx | hx
  · exact h x hx
  · simp at hx; omega
end Go.Proofs.YtadpajkjjmdcnaaDoor.Mth
