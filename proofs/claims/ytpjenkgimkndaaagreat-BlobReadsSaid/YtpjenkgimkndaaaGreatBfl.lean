/-
  Content as numbers, and how numbers are taken one behind another: plain mathematics over lists, no program, no memory.
-/
import Derived.Test.YtpjenkgimkndaaaGreatDat
namespace Go.Proofs.YtpjenkgimkndaaaGreat.Con

/-! ### content as numbers -/
def b2i (b : Bool) : Int := if b then 1 else 0
def fEf (x : Ef) : List Int := [x.kind, x.amount, x.aura]
def fLn (x : Ln) : List Int := [x.phase, x.whn, x.arg, x.dos, x.value]
def fPz (x : Pz) : List Int := [x.item, x.weight]
def fTr (b : Bool) : List Int := [b2i b]
def fAu (x : Au) : List Int := [x.id, x.kind, x.ticks, x.every, x.stacks, x.amount, b2i x.harm]
def fRows {α : Type} (g : α → List Int) (l : List α) : List Int := (l.length : Int) :: l.flatMap g
def fAb (x : Ab) : List Int := [x.id, x.cast, x.cool, x.charges, x.range, x.cost, b2i x.sight] ++ fRows fEf x.eff
def fFo (x : Fo) : List Int := [x.id, x.health, x.hit, x.every, x.reach, x.drops] ++ fRows fLn x.script ++ fRows fPz x.hoard
def fCn (c : Cn) : List Int := fRows fAb c.ab ++ fRows fAu c.au ++ fRows fFo c.fo ++ [c.W, c.H] ++ fRows fTr c.wl ++ [c.dx, c.dy] ++ [c.lx, c.ly]

theorem fRows_len {α : Type} {g : α → List Int} {l : List α} {k : Nat} (h : ∀ x ∈ l, (g x).length ≤ k) : (fRows g l).length ≤ 1 + l.length * k := by
  unfold fRows
  rw [List.length_cons]
  have : (l.flatMap g).length ≤ l.length * k := by
    induction l with
    | nil => simp
    | cons x r ih =>
      rw [List.flatMap_cons, List.length_append, List.length_cons, Nat.succ_mul]
      have h1 := h x (by simp)
      have h2 := ih (fun y hy => h y (List.mem_cons_of_mem _ hy))
      omega
  omega
theorem fRows_map {α : Type} {g : α → List Int} {nz : α → α} (h : ∀ x, g (nz x) = g x) (l : List α) : fRows g (l.map nz) = fRows g l := by
  unfold fRows
  rw [List.length_map, List.flatMap_map]
  simp [h]
theorem fAb_pl (x : Ab) : fAb x.pl = fAb x := rfl
theorem fFo_pl (x : Fo) : fFo x.pl = fFo x := rfl
theorem fCn_pl (c : Cn) : fCn c.pl = fCn c := by
  unfold fCn Cn.pl
  simp only [fRows_map fAb_pl, fRows_map fFo_pl]

/-! ### taking numbers -/
/-- What is left, and whether something was wrong. -/
structure St where
  l : List Int
  f : Bool
abbrev Ps (α : Type) := List Int → Option (α × List Int)
def pp {α : Type} (x : α) : Ps α := fun l => some (x, l)
def pb {α β : Type} (p : Ps α) (q : α → Ps β) : Ps β := fun l => match p l with
  | none => none
  | some (x, r) => q x r
def pN : Ps Int
  | [] => none
  | n :: r => some (n, r)
def pTq (n : Int) : Ps Bool := fun l => if n = 0 then some (false, l) else if n = 1 then some (true, l) else none
def pT : Ps Bool := pb pN pTq
def pMany {α : Type} (p : Ps α) : Nat → Ps (List α)
  | 0 => pp []
  | n + 1 => pb p fun x => pb (pMany p n) fun xs => pp (x :: xs)
def pRq {α : Type} (p : Ps α) (n : Int) : Ps (List α) := fun l => if n < 0 then none else pMany p n.toNat l
def pRows {α : Type} (p : Ps α) : Ps (List α) := pb pN (pRq p)
def pEf : Ps Ef := pb pN fun a => pb pN fun b => pb pN fun c => pp ⟨a, b, c⟩
def pLn : Ps Ln := pb pN fun a => pb pN fun b => pb pN fun c => pb pN fun d => pb pN fun e => pp ⟨a, b, c, d, e⟩
def pPz : Ps Pz := pb pN fun a => pb pN fun b => pp ⟨a, b⟩
def pAu : Ps Au := pb pN fun a => pb pN fun b => pb pN fun c => pb pN fun d => pb pN fun e => pb pN fun g => pb pT fun h => pp ⟨a, b, c, d, e, g, h⟩
def pAb : Ps Ab := pb pN fun a => pb pN fun b => pb pN fun c => pb pN fun d => pb pN fun e => pb pN fun g => pb pT fun h => pb (pRows pEf) fun i => pp ⟨a, b, c, d, e, g, h, none, 0, i⟩
def pFo : Ps Fo := pb pN fun a => pb pN fun b => pb pN fun c => pb pN fun d => pb pN fun e => pb pN fun g => pb (pRows pLn) fun h => pb (pRows pPz) fun i => pp ⟨a, b, c, d, e, none, 0, h, none, 0, i, g⟩
def pCn : Ps Cn := pb (pRows pAb) fun a => pb (pRows pAu) fun b => pb (pRows pFo) fun c => pb pN fun W => pb pN fun H => pb (pRows pT) fun g => pb pN fun dx => pb pN fun dy => pb pN fun lx => pb pN fun ly => pp ⟨none, 0, a, none, 0, b, none, 0, c, W, H, none, 0, g, dx, dy, lx, ly⟩
/-- The content that the numbers are. -/
def unfl (l : List Int) : Option Cn := match pCn l with
  | some (c, []) => some c
  | _ => none

/-- A step of a reader: it takes what p takes, or something is wrong. -/
def Rp {α : Type} (p : Ps α) (s : St) (x : α) (s' : St) : Prop :=
  ((s.f = false ∧ p s.l = some (x, s'.l) ∧ s'.f = false) ∨ ((s.f = true ∨ p s.l = none) ∧ s'.f = true)) ∧ s'.l.length ≤ s.l.length
section
variable {α β γ : Type}
theorem Rp.pure (s : St) (x : α) : Rp (pp x) s x s := by
  refine ⟨?_, Nat.le_refl _⟩
  cases h : s.f
  · exact .inl ⟨rfl, rfl, rfl⟩
  · exact .inr ⟨.inl rfl, rfl⟩
theorem Rp.bind {p : Ps α} {q : α → Ps β} {s s1 s2 : St} {x : α} {y : β} (h : Rp p s x s1) (k : Rp (q x) s1 y s2) : Rp (pb p q) s y s2 := by
  obtain ⟨h, hl⟩ := h
  obtain ⟨k, kl⟩ := k
  refine ⟨?_, Nat.le_trans kl hl⟩
  rcases h with ⟨h1, h2, h3⟩ | ⟨h1, h2⟩
  · rcases k with ⟨k1, k2, k3⟩ | ⟨k1, k2⟩
    · exact .inl ⟨h1, by simp only [pb, h2, k2], k3⟩
    · refine .inr ⟨.inr ?_, k2⟩
      rcases k1 with k1 | k1
      · rw [h3] at k1; cases k1
      · simp only [pb, h2, k1]
  · rcases k with ⟨k1, k2, k3⟩ | ⟨k1, k2⟩
    · rw [h2] at k1; cases k1
    · refine .inr ⟨?_, k2⟩
      rcases h1 with h1 | h1
      · exact .inl h1
      · exact .inr (by simp only [pb, h1])
theorem Rp.ok {p : Ps α} {s s' : St} {x : α} (h : Rp p s x s') (hf : s'.f = false) : s.f = false ∧ p s.l = some (x, s'.l) := by
  rcases h.1 with ⟨h1, h2, _⟩ | ⟨_, h2⟩
  · exact ⟨h1, h2⟩
  · rw [hf] at h2; cases h2
theorem Rp.bad {p : Ps α} {s s' : St} {x : α} (h : Rp p s x s') (hf : s'.f = true) : s.f = true ∨ p s.l = none := by
  rcases h.1 with ⟨_, _, h2⟩ | ⟨h1, _⟩
  · rw [hf] at h2; cases h2
  · exact h1
theorem Rp.eq {p : Ps α} {s s' : St} {x y : α} (h : Rp p s x s') (e : x = y) : Rp p s y s' := e ▸ h
theorem rpN (n : Int) (r : List Int) (f : Bool) : Rp pN ⟨n :: r, f⟩ n ⟨r, f⟩ := by
  refine ⟨?_, by simp⟩
  cases f
  · exact .inl ⟨rfl, rfl, rfl⟩
  · exact .inr ⟨.inl rfl, rfl⟩
theorem rpN_none (f : Bool) (n : Int) : Rp pN ⟨[], f⟩ n ⟨[], true⟩ := ⟨.inr ⟨.inr rfl, rfl⟩, by simp⟩
theorem rpN_bad (l : List Int) (n : Int) : Rp pN ⟨l, true⟩ n ⟨l, true⟩ := ⟨.inr ⟨.inl rfl, rfl⟩, by simp⟩
theorem rpT_no {s s1 : St} {n : Int} {b : Bool} (h : Rp pN s n s1) (h0 : n ≠ 0) (h1 : n ≠ 1) : Rp pT s b ⟨s1.l, true⟩ := by
  refine h.bind (q := pTq) ⟨.inr ⟨.inr ?_, rfl⟩, Nat.le_refl _⟩
  simp [pTq, h0, h1]
theorem rpT_zero {s s1 : St} (h : Rp pN s 0 s1) : Rp pT s false s1 := by
  refine h.bind (q := pTq) ?_
  refine ⟨?_, Nat.le_refl _⟩
  cases hf : s1.f
  · exact .inl ⟨rfl, by simp [pTq], rfl⟩
  · exact .inr ⟨.inl rfl, rfl⟩
theorem rpT_one {s s1 : St} (h : Rp pN s 1 s1) : Rp pT s true s1 := by
  refine h.bind (q := pTq) ?_
  refine ⟨?_, Nat.le_refl _⟩
  cases hf : s1.f
  · exact .inl ⟨rfl, by simp [pTq], rfl⟩
  · exact .inr ⟨.inl rfl, rfl⟩

theorem pb_some {p : Ps α} {q : α → Ps β} {l : List Int} {y : β} {r : List Int} (h : pb p q l = some (y, r)) : ∃ x r1, p l = some (x, r1) ∧ q x r1 = some (y, r) := by
  unfold pb at h
  split at h
  · cases h
  · next x r1 h1 => exact ⟨x, r1, h1, h⟩
theorem pb_of {p : Ps α} {q : α → Ps β} {l r1 : List Int} {x : α} (h : p l = some (x, r1)) : pb p q l = q x r1 := by simp only [pb, h]
theorem pb_none {p : Ps α} {q : α → Ps β} {l : List Int} (h : p l = none) : pb p q l = none := by simp only [pb, h]
theorem pMany_succ (p : Ps α) (k : Nat) (l : List Int) : pMany p (k + 1) l = pb (pMany p k) (fun xs => pb p (fun x => pp (xs ++ [x]))) l := by
  induction k generalizing l with
  | zero =>
    show pb p (fun x => pb (pp []) fun xs => pp (x :: xs)) l = pb (pp []) (fun xs => pb p (fun x => pp (xs ++ [x]))) l
    simp only [pb, pp]
    rfl
  | succ k ih =>
    show pb p (fun x => pb (pMany p (k + 1)) fun xs => pp (x :: xs)) l = pb (pb p fun x => pb (pMany p k) fun xs => pp (x :: xs)) (fun xs => pb p (fun x => pp (xs ++ [x]))) l
    cases h : p l with
    | none => rw [pb_none h, pb_none (pb_none h)]
    | some v =>
      obtain ⟨x, r⟩ := v
      rw [pb_of h]
      have e : pb (pMany p (k + 1)) (fun xs => pp (x :: xs)) r = pb (pb (pMany p k) (fun xs => pb p (fun x => pp (xs ++ [x])))) (fun xs => pp (x :: xs)) r := by
        simp only [pb, ih r]
      rw [e]
      unfold pb
      simp only [h]
      cases h2 : pMany p k r with
      | none => rfl
      | some v2 =>
        obtain ⟨xs, r2⟩ := v2
        simp only [pp]
        cases h3 : p r2 with
        | none => rfl
        | some v3 => rfl
theorem pMany_mono {p : Ps α} {k n : Nat} {l : List Int} (h : pMany p k l = none) (hk : k ≤ n) : pMany p n l = none := by
  induction n with
  | zero => rw [show k = 0 by omega] at h; exact h
  | succ n ih =>
    by_cases e : k = n + 1
    · rw [← e]; exact h
    · rw [pMany_succ, pb_none (ih (by omega))]
theorem Rp.snoc {p : Ps α} {k : Nat} {s s1 s2 : St} {xs : List α} {x : α} (h : Rp (pMany p k) s xs s1) (g : Rp p s1 x s2) : Rp (pMany p (k + 1)) s (xs ++ [x]) s2 := by
  have := h.bind (q := fun xs => pb p (fun x => pp (xs ++ [x]))) (g.bind (q := fun x => pp (xs ++ [x])) (Rp.pure s2 (xs ++ [x])))
  unfold Rp at this ⊢
  rw [pMany_succ]
  exact this
theorem Rp.stop {p : Ps α} {k n : Nat} {s s1 : St} {xs ys : List α} (h : Rp (pMany p k) s xs s1) (hf : s1.f = true) (hk : k ≤ n) : Rp (pMany p n) s ys s1 := by
  refine ⟨.inr ⟨?_, hf⟩, h.2⟩
  rcases h.bad hf with h1 | h1
  · exact .inl h1
  · exact .inr (pMany_mono h1 hk)
theorem Rp.rows {p : Ps α} {n : Nat} {s s1 s2 : St} {xs : List α} (h : Rp pN s (n : Int) s1) (g : Rp (pMany p n) s1 xs s2) : Rp (pRows p) s xs s2 := by
  refine h.bind (q := pRq p) ?_
  unfold Rp pRq at *
  rw [if_neg (by omega), Int.toNat_natCast]
  exact g
theorem Rp.rows_neg {p : Ps α} {n : Int} {s s1 : St} (h : Rp pN s n s1) (hn : n < 0) (xs : List α) : Rp (pRows p) s xs ⟨s1.l, true⟩ := by
  refine h.bind (q := pRq p) ⟨.inr ⟨.inr ?_, rfl⟩, Nat.le_refl _⟩
  unfold pRq
  rw [if_pos hn]
/-- A reader that takes c numbers at least. -/
def Eats (c : Nat) (p : Ps α) : Prop := ∀ l x r, p l = some (x, r) → c + r.length ≤ l.length
theorem many_len {c : Nat} {p : Ps α} (hp : Eats c p) : ∀ {k : Nat} {l : List Int} {xs : List α} {r : List Int}, pMany p k l = some (xs, r) → xs.length = k ∧ k * c + r.length ≤ l.length := by
  intro k
  induction k with
  | zero => intro l xs r h; simp [pMany, pp] at h; obtain ⟨rfl, rfl⟩ := h; simp
  | succ k ih =>
    intro l xs r h
    obtain ⟨x, r1, h1, h2⟩ := pb_some h
    obtain ⟨ys, r2, h3, h4⟩ := pb_some h2
    simp [pp] at h4
    obtain ⟨rfl, rfl⟩ := h4
    have a := hp _ _ _ h1
    obtain ⟨b, c'⟩ := ih h3
    rw [Nat.succ_mul, List.length_cons]
    omega
theorem eatsN : Eats 1 pN := by
  intro l x r h
  cases l with
  | nil => cases h
  | cons n s => simp [pN] at h; obtain ⟨rfl, rfl⟩ := h; simp; omega
theorem Eats.bind {c d : Nat} {p : Ps α} {q : α → Ps β} (hp : Eats c p) (hq : ∀ x, Eats d (q x)) : Eats (c + d) (pb p q) := by
  intro l y r h
  obtain ⟨x, r1, h1, h2⟩ := pb_some h
  have a := hp _ _ _ h1
  have b := hq x _ _ _ h2
  omega
theorem Eats.less {c d : Nat} {p : Ps α} (hp : Eats c p) (h : d ≤ c) : Eats d p := fun l x r e => by have := hp l x r e; omega
theorem eatsP (x : α) : Eats 0 (pp x) := by
  intro l y r h
  simp [pp] at h
  obtain ⟨_, rfl⟩ := h
  omega
theorem eatsT : Eats 1 pT := by
  refine (eatsN.bind (d := 0) (fun n => ?_)).less (by omega)
  intro l y r h
  unfold pTq at h
  split at h
  · simp at h; obtain ⟨_, rfl⟩ := h; omega
  · split at h
    · simp at h; obtain ⟨_, rfl⟩ := h; omega
    · cases h
theorem eatsR (p : Ps α) (hp : Eats 0 p) : Eats 1 (pRows p) := by
  refine (eatsN.bind (d := 0) (fun n => ?_)).less (by omega)
  intro l y r h
  unfold pRq at h
  split at h
  · cases h
  · have := (many_len hp h).2; omega
theorem eatsEf : Eats 3 pEf := eatsN.bind (d := 2) fun _ => eatsN.bind (d := 1) fun _ => eatsN.bind (d := 0) fun _ => eatsP _
theorem eatsLn : Eats 5 pLn := eatsN.bind (d := 4) fun _ => eatsN.bind (d := 3) fun _ => eatsN.bind (d := 2) fun _ => eatsN.bind (d := 1) fun _ => eatsN.bind (d := 0) fun _ => eatsP _
theorem eatsPz : Eats 2 pPz := eatsN.bind (d := 1) fun _ => eatsN.bind (d := 0) fun _ => eatsP _
theorem eatsAu : Eats 7 pAu := eatsN.bind (d := 6) fun _ => eatsN.bind (d := 5) fun _ => eatsN.bind (d := 4) fun _ => eatsN.bind (d := 3) fun _ => eatsN.bind (d := 2) fun _ => eatsN.bind (d := 1) fun _ => eatsT.bind (d := 0) fun _ => eatsP _
theorem eatsAb : Eats 8 pAb := eatsN.bind (d := 7) fun _ => eatsN.bind (d := 6) fun _ => eatsN.bind (d := 5) fun _ => eatsN.bind (d := 4) fun _ => eatsN.bind (d := 3) fun _ => eatsN.bind (d := 2) fun _ => eatsT.bind (d := 1) fun _ => (eatsR _ (eatsEf.less (by omega))).bind (d := 0) fun _ => eatsP _
theorem eatsFo : Eats 8 pFo := eatsN.bind (d := 7) fun _ => eatsN.bind (d := 6) fun _ => eatsN.bind (d := 5) fun _ => eatsN.bind (d := 4) fun _ => eatsN.bind (d := 3) fun _ => eatsN.bind (d := 2) fun _ => (eatsR _ (eatsLn.less (by omega))).bind (d := 1) fun _ => (eatsR _ (eatsPz.less (by omega))).bind (d := 0) fun _ => eatsP _

/-! ### both are each other's -/
/-- What p takes is what g writes. -/
def Fwd (p : Ps α) (g : α → List Int) (nz : α → α) : Prop := ∀ l x r, p l = some (x, r) → l = g x ++ r ∧ nz x = x
def Bwd (p : Ps α) (g : α → List Int) (nz : α → α) : Prop := ∀ x r, p (g x ++ r) = some (nz x, r)
theorem pN_cons (n : Int) (r : List Int) (q : Int → Ps β) : pb pN q (n :: r) = q n r := rfl
theorem pN_some {l r : List Int} {x : Int} (h : pN l = some (x, r)) : l = x :: r := by
  cases l with
  | nil => cases h
  | cons n s => simp [pN] at h; rw [h.1, h.2]
theorem pbN_some {q : Int → Ps β} {l : List Int} {y : β} {r : List Int} (h : pb pN q l = some (y, r)) : ∃ n s, l = n :: s ∧ q n s = some (y, r) := by
  obtain ⟨n, s, h1, h2⟩ := pb_some h
  exact ⟨n, s, pN_some h1, h2⟩
theorem pT_cons (b : Bool) (r : List Int) (q : Bool → Ps β) : pb pT q (b2i b :: r) = q b r := by cases b <;> simp [pb, pT, pN, pTq, b2i]
theorem pT_some {l r : List Int} {b : Bool} (h : pT l = some (b, r)) : l = b2i b :: r := by
  obtain ⟨n, s, rfl, h2⟩ := pbN_some h
  unfold pTq at h2
  split at h2
  · next h0 => simp at h2; obtain ⟨rfl, rfl⟩ := h2; subst h0; rfl
  · split at h2
    · next h0 => simp at h2; obtain ⟨rfl, rfl⟩ := h2; subst h0; rfl
    · cases h2
theorem pbT_some {q : Bool → Ps β} {l : List Int} {y : β} {r : List Int} (h : pb pT q l = some (y, r)) : ∃ n s, l = b2i n :: s ∧ q n s = some (y, r) := by
  obtain ⟨n, s, h1, h2⟩ := pb_some h
  exact ⟨n, s, pT_some h1, h2⟩
theorem fwdT : Fwd pT fTr id := fun _ _ _ h => ⟨pT_some h, rfl⟩
theorem bwdT : Bwd pT fTr id := fun b r => by cases b <;> simp [pT, pb, pN, pTq, fTr, b2i]
theorem many_fwd {p : Ps α} {g : α → List Int} {nz : α → α} (hp : Fwd p g nz) : ∀ {k : Nat} {l : List Int} {xs : List α} {r : List Int}, pMany p k l = some (xs, r) → l = xs.flatMap g ++ r ∧ xs.length = k ∧ xs.map nz = xs := by
  intro k
  induction k with
  | zero => intro l xs r h; simp [pMany, pp] at h; obtain ⟨rfl, rfl⟩ := h; simp
  | succ k ih =>
    intro l xs r h
    obtain ⟨x, r1, h1, h2⟩ := pb_some h
    obtain ⟨ys, r2, h3, h4⟩ := pb_some h2
    simp [pp] at h4
    obtain ⟨rfl, rfl⟩ := h4
    obtain ⟨a1, a2⟩ := hp _ _ _ h1
    obtain ⟨b1, b2, b3⟩ := ih h3
    refine ⟨by rw [a1, b1]; simp, by simp [b2], by simp [a2, b3]⟩
theorem many_bwd {p : Ps α} {g : α → List Int} {nz : α → α} (hp : Bwd p g nz) : ∀ (xs : List α) (r : List Int), pMany p xs.length (xs.flatMap g ++ r) = some (xs.map nz, r)
  | [], r => by simp [pMany, pp]
  | x :: xs, r => by
    rw [List.flatMap_cons, List.append_assoc, List.length_cons]
    show pb p (fun x => pb (pMany p xs.length) fun xs => pp (x :: xs)) _ = _
    rw [pb_of (hp x _), pb_of (many_bwd hp xs r)]
    rfl
theorem rows_fwd {p : Ps α} {g : α → List Int} {nz : α → α} (hp : Fwd p g nz) : Fwd (pRows p) (fRows g) (List.map nz) := by
  intro l xs r h
  obtain ⟨n, s, rfl, h2⟩ := pbN_some h
  unfold pRq at h2
  split at h2
  · cases h2
  · obtain ⟨a1, a2, a3⟩ := many_fwd hp h2
    refine ⟨?_, a3⟩
    unfold fRows
    rw [a2, a1]
    simp
    omega
theorem rows_bwd {p : Ps α} {g : α → List Int} {nz : α → α} (hp : Bwd p g nz) : Bwd (pRows p) (fRows g) (List.map nz) := by
  intro xs r
  unfold fRows pRows
  rw [List.cons_append, pN_cons]
  unfold pRq
  rw [if_neg (by omega), Int.toNat_natCast]
  exact many_bwd hp xs r
theorem pb_rows {p : Ps α} {g : α → List Int} {nz : α → α} (hp : Bwd p g nz) (q : List α → Ps β) (xs : List α) (r : List Int) : pb (pRows p) q (fRows g xs ++ r) = q (xs.map nz) r := pb_of (rows_bwd hp xs r)
theorem pbR_some {p : Ps α} {g : α → List Int} {nz : α → α} (hp : Fwd p g nz) {q : List α → Ps β} {l : List Int} {y : β} {r : List Int} (h : pb (pRows p) q l = some (y, r)) : ∃ xs s, l = fRows g xs ++ s ∧ xs.map nz = xs ∧ q xs s = some (y, r) := by
  obtain ⟨xs, s, h1, h2⟩ := pb_some h
  obtain ⟨a, b⟩ := rows_fwd hp _ _ _ h1
  exact ⟨xs, s, a, b, h2⟩
end
theorem fwdEf : Fwd pEf fEf id := by
  intro l x r h
  obtain ⟨a, s1, rfl, h1⟩ := pbN_some h
  obtain ⟨b, s2, rfl, h2⟩ := pbN_some h1
  obtain ⟨c, s3, rfl, h3⟩ := pbN_some h2
  simp [pp] at h3; obtain ⟨rfl, rfl⟩ := h3
  exact ⟨rfl, rfl⟩
theorem bwdEf : Bwd pEf fEf id := fun _ _ => rfl
theorem fwdLn : Fwd pLn fLn id := by
  intro l x r h
  obtain ⟨a, s1, rfl, h1⟩ := pbN_some h
  obtain ⟨b, s2, rfl, h2⟩ := pbN_some h1
  obtain ⟨c, s3, rfl, h3⟩ := pbN_some h2
  obtain ⟨d, s4, rfl, h4⟩ := pbN_some h3
  obtain ⟨e, s5, rfl, h5⟩ := pbN_some h4
  simp [pp] at h5; obtain ⟨rfl, rfl⟩ := h5
  exact ⟨rfl, rfl⟩
theorem bwdLn : Bwd pLn fLn id := fun _ _ => rfl
theorem fwdPz : Fwd pPz fPz id := by
  intro l x r h
  obtain ⟨a, s1, rfl, h1⟩ := pbN_some h
  obtain ⟨b, s2, rfl, h2⟩ := pbN_some h1
  simp [pp] at h2; obtain ⟨rfl, rfl⟩ := h2
  exact ⟨rfl, rfl⟩
theorem bwdPz : Bwd pPz fPz id := fun _ _ => rfl
theorem fwdAu : Fwd pAu fAu id := by
  intro l x r h
  obtain ⟨a, s1, rfl, h1⟩ := pbN_some h
  obtain ⟨b, s2, rfl, h2⟩ := pbN_some h1
  obtain ⟨c, s3, rfl, h3⟩ := pbN_some h2
  obtain ⟨d, s4, rfl, h4⟩ := pbN_some h3
  obtain ⟨e, s5, rfl, h5⟩ := pbN_some h4
  obtain ⟨g, s6, rfl, h6⟩ := pbN_some h5
  obtain ⟨i, s7, rfl, h7⟩ := pbT_some h6
  simp [pp] at h7; obtain ⟨rfl, rfl⟩ := h7
  exact ⟨rfl, rfl⟩
theorem bwdAu : Bwd pAu fAu id := fun x r => by
  show pb pT _ (b2i x.harm :: r) = _
  rw [pT_cons]; rfl
theorem fwdAb : Fwd pAb fAb Ab.pl := by
  intro l x r h
  obtain ⟨a, s1, rfl, h1⟩ := pbN_some h
  obtain ⟨b, s2, rfl, h2⟩ := pbN_some h1
  obtain ⟨c, s3, rfl, h3⟩ := pbN_some h2
  obtain ⟨d, s4, rfl, h4⟩ := pbN_some h3
  obtain ⟨e, s5, rfl, h5⟩ := pbN_some h4
  obtain ⟨g, s6, rfl, h6⟩ := pbN_some h5
  obtain ⟨i, s7, rfl, h7⟩ := pbT_some h6
  obtain ⟨k, s8, rfl, _, h8⟩ := pbR_some fwdEf h7
  simp [pp] at h8; obtain ⟨rfl, rfl⟩ := h8
  exact ⟨rfl, rfl⟩
theorem bwdAb : Bwd pAb fAb Ab.pl := fun x r => by
  show pb pT _ (b2i x.sight :: (fRows fEf x.eff ++ r)) = _
  rw [pT_cons, pb_rows bwdEf]
  simp [pp, Ab.pl]
theorem fwdFo : Fwd pFo fFo Fo.pl := by
  intro l x r h
  obtain ⟨a, s1, rfl, h1⟩ := pbN_some h
  obtain ⟨b, s2, rfl, h2⟩ := pbN_some h1
  obtain ⟨c, s3, rfl, h3⟩ := pbN_some h2
  obtain ⟨d, s4, rfl, h4⟩ := pbN_some h3
  obtain ⟨e, s5, rfl, h5⟩ := pbN_some h4
  obtain ⟨g, s6, rfl, h6⟩ := pbN_some h5
  obtain ⟨k, s8, rfl, _, h7⟩ := pbR_some fwdLn h6
  obtain ⟨k2, s9, rfl, _, h8⟩ := pbR_some fwdPz h7
  simp [pp] at h8; obtain ⟨rfl, rfl⟩ := h8
  exact ⟨by simp [fFo], rfl⟩
theorem bwdFo : Bwd pFo fFo Fo.pl := fun x r => by
  have e : fFo x ++ r = x.id :: x.health :: x.hit :: x.every :: x.reach :: x.drops :: (fRows fLn x.script ++ (fRows fPz x.hoard ++ r)) := by simp [fFo]
  rw [e]
  show pb (pRows pLn) _ (fRows fLn x.script ++ (fRows fPz x.hoard ++ r)) = _
  rw [pb_rows bwdLn, pb_rows bwdPz]
  simp [pp, Fo.pl]
theorem fwdCn : Fwd pCn fCn Cn.pl := by
  intro l x r h
  obtain ⟨a, s1, rfl, ha, h1⟩ := pbR_some fwdAb h
  obtain ⟨b, s2, rfl, _, h2⟩ := pbR_some fwdAu h1
  obtain ⟨c, s3, rfl, hc, h3⟩ := pbR_some fwdFo h2
  obtain ⟨W, s4, rfl, h4⟩ := pbN_some h3
  obtain ⟨H, s5, rfl, h5⟩ := pbN_some h4
  obtain ⟨g, s6, rfl, _, h6⟩ := pbR_some fwdT h5
  obtain ⟨n1, s7, rfl, h7⟩ := pbN_some h6
  obtain ⟨n2, s8, rfl, h8⟩ := pbN_some h7
  obtain ⟨n3, s9, rfl, h9⟩ := pbN_some h8
  obtain ⟨n4, s10, rfl, h10⟩ := pbN_some h9
  simp [pp] at h10; obtain ⟨rfl, rfl⟩ := h10
  exact ⟨by simp [fCn], by simp [Cn.pl, ha, hc]⟩
theorem bwdCn : Bwd pCn fCn Cn.pl := fun x r => by
  have e : fCn x ++ r = fRows fAb x.ab ++ (fRows fAu x.au ++ (fRows fFo x.fo ++ (x.W :: x.H :: (fRows fTr x.wl ++ (x.dx :: x.dy :: x.lx :: x.ly :: r))))) := by simp [fCn]
  rw [e]
  show pb (pRows pAb) _ _ = _
  rw [pb_rows bwdAb, pb_rows bwdAu, pb_rows bwdFo, pN_cons, pN_cons, pb_rows bwdT]
  simp [pb, pN, pp, Cn.pl]
/-- Content and its numbers are each other's. -/
theorem unfl_some {l : List Int} {c : Cn} (h : unfl l = some c) : fCn c = l ∧ c.pl = c := by
  unfold unfl at h
  split at h
  · next c' e =>
    injection h with h; subst h
    obtain ⟨a, b⟩ := fwdCn _ _ _ e
    rw [List.append_nil] at a
    exact ⟨a.symm, b⟩
  · cases h
theorem unfl_flat (c : Cn) : unfl (fCn c) = some c.pl := by
  unfold unfl
  have := bwdCn c []
  rw [List.append_nil] at this
  rw [this]
/-- What a reader answers that has taken all: the content, or that there is none. -/
theorem rp_all {l : List Int} {s' : St} {c : Cn} (h : Rp pCn ⟨l, false⟩ c s') : (s'.f = false ∧ s'.l = [] ∧ unfl l = some c) ∨ ((s'.f = true ∨ s'.l ≠ []) ∧ unfl l = none) := by
  rcases h.1 with ⟨_, h1, h2⟩ | ⟨h1, h2⟩
  · by_cases e : s'.l = []
    · refine .inl ⟨h2, e, ?_⟩
      unfold unfl
      rw [show pCn l = some (c, s'.l) from h1, e]
    · refine .inr ⟨.inr e, ?_⟩
      unfold unfl
      rw [show pCn l = some (c, s'.l) from h1]
      split
      · next e' => injection e' with e'; injection e' with _ e'; exact absurd e' e
      · rfl
  · refine .inr ⟨.inl h2, ?_⟩
    rcases h1 with h1 | h1
    · cases h1
    · unfold unfl
      rw [show pCn l = none from h1]
/-- Content of the same numbers is alike. -/
theorem flat_inj {c d : Cn} (h : fCn c = fCn d) : c.pl = d.pl := by
  have h1 := unfl_flat c
  rw [h, unfl_flat d] at h1
  exact (Option.some.inj h1).symm
end Go.Proofs.YtpjenkgimkndaaaGreat.Con
