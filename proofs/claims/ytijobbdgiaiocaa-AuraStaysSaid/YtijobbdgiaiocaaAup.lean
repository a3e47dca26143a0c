/-
  What becomes of a row of auras that lie on a unit, as plain mathematics. No memory, no program.
-/
import Derived.Test.YtijobbdgiaiocaaKnd
import Derived.Test.YtijobbdgiaiocaaFnd
import Derived.Test.YtijobbdgiaiocaaShp
namespace Go.Proofs.Ytijobbdgiaiocaa.Con

/-! ### the aura of that Id -/
def lkF (L : List Au) (id : Int) : Option Au := L.find? (fun a => decide (a.id = id))
def lkB (L : List Au) (id : Int) : Bool := (lkF L id).isSome
def lkA (L : List Au) (id : Int) : Au := (lkF L id).getD zAu
theorem lkF_cons (a : Au) (r : List Au) (id : Int) : lkF (a :: r) id = if a.id = id then some a else lkF r id := by
  unfold lkF
  rw [List.find?_cons]
  by_cases h : a.id = id <;> simp [h]
theorem lk_fd (id : Int) : ∀ L : List Au, FD Au.id zAu L id (lkA L id) (lkB L id)
  | [] => .inr ⟨rfl, rfl, fun y hy => by cases hy⟩
  | a :: r => by
    unfold lkA lkB
    rw [lkF_cons]
    by_cases h : a.id = id
    · rw [if_pos h]; exact .inl ⟨rfl, 0, rfl, h, fun j _ hj => by omega⟩
    · rw [if_neg h]
      rcases lk_fd id r with ⟨h1, i, h2, h3, h4⟩ | ⟨h1, h2, h3⟩
      · refine .inl ⟨h1, i + 1, h2, h3, fun j z hj hz => ?_⟩
        cases j with
        | zero => simp at hz; subst hz; exact h
        | succ j => exact h4 j z (by omega) (by simpa using hz)
      · refine .inr ⟨h1, h2, fun z hz => ?_⟩
        rcases List.mem_cons.1 hz with rfl | hz
        · exact h
        · exact h3 z hz
/-- An aura whose numbers are of 64 bits. -/
def NAu (a : Au) : Prop := Fits a.ticks ∧ Fits a.every ∧ Fits a.stacks ∧ Fits a.amount
theorem nau_zero : NAu zAu := by refine ⟨⟨?_, ?_⟩, ⟨?_, ?_⟩, ⟨?_, ?_⟩, ⟨?_, ?_⟩⟩ <;> simp [zAu]
theorem lk_mem {L : List Au} {id : Int} (h : lkB L id = true) : lkA L id ∈ L ∧ (lkA L id).id = id := by
  rcases lk_fd id L with ⟨_, i, h1, h2, _⟩ | ⟨h1, _⟩
  · exact ⟨List.mem_of_getElem? h1, h2⟩
  · rw [h] at h1; cases h1
theorem lk_nau {L : List Au} (h : ∀ a ∈ L, NAu a) (id : Int) : NAu (lkA L id) := by
  rcases lk_fd id L with ⟨_, i, h1, _⟩ | ⟨_, h1, _⟩
  · exact h _ (List.mem_of_getElem? h1)
  · rw [h1]; exact nau_zero

/-! ### rows -/
def zAc : Ac := ⟨0, 0, 0, 0, 0, 0⟩
/-- A row whose numbers are of 64 bits. -/
def NAc (a : Ac) : Prop := Fits a.stacks ∧ Fits a.nxt ∧ Fits a.left
theorem FAc.nac {a : Ac} (h : FAc a) : NAc a := ⟨h.2.2.1, h.2.2.2.2.1, h.2.2.2.2.2.1⟩
theorem get_some {l : List Ac} {k : Nat} {x : Ac} (h : l[k]? = some x) : l.getD k zAc = x := by rw [List.getD_eq_getElem?_getD, h]; rfl

/-- Where the first one is; -1, if there is none. -/
def idxI (P : Ac → Bool) (l : List Ac) : Int := match l.findIdx? P with | some i => (i : Int) | none => -1
theorem idx_hit {P : Ac → Bool} {l : List Ac} {k : Nat} {x : Ac} (hk : l[k]? = some x) (hx : P x = true) (hn : ∀ p ∈ l.take k, P p = false) : idxI P l = (k : Int) := by
  have : l.findIdx? P = some k := by
    rw [List.findIdx?_eq_some_iff_getElem]
    obtain ⟨h1, rfl⟩ := List.getElem?_eq_some_iff.1 hk
    refine ⟨h1, hx, fun j hj => ?_⟩
    have := hn l[j] (List.mem_take_iff_getElem.2 ⟨j, by omega, rfl⟩)
    simpa using this
  unfold idxI; rw [this]
theorem idx_miss {P : Ac → Bool} {l : List Ac} (hn : ∀ p ∈ l, P p = false) : idxI P l = -1 := by
  have : l.findIdx? P = none := by rw [List.findIdx?_eq_none_iff]; exact hn
  unfold idxI; rw [this]
theorem idx_cases (P : Ac → Bool) (l : List Ac) : (idxI P l = -1 ∧ ∀ p ∈ l, P p = false) ∨ ∃ (k : Nat) (x : Ac), idxI P l = (k : Int) ∧ l[k]? = some x ∧ P x = true ∧ ∀ p ∈ l.take k, P p = false := by
  cases h : l.findIdx? P with
  | none =>
    left
    refine ⟨by unfold idxI; rw [h], ?_⟩
    rw [List.findIdx?_eq_none_iff] at h; exact h
  | some k =>
    right
    rw [List.findIdx?_eq_some_iff_getElem] at h
    obtain ⟨h1, h2, h3⟩ := h
    have hn : ∀ p ∈ l.take k, P p = false := by
      intro p hp
      obtain ⟨j, hj, rfl⟩ := List.mem_take_iff_getElem.1 hp
      have := h3 j (by omega)
      simpa using this
    exact ⟨k, l[k], idx_hit (List.getElem?_eq_getElem h1) h2 hn, List.getElem?_eq_getElem h1, h2, hn⟩
theorem idx_any (P : Ac → Bool) (l : List Ac) : decide (0 ≤ idxI P l) = l.any P := by
  rcases idx_cases P l with ⟨h1, h2⟩ | ⟨k, x, h1, h2, h3, _⟩
  · rw [h1]
    have : l.any P = false := by rw [List.any_eq_false]; intro x hx; rw [h2 x hx]; simp
    rw [this]; rfl
  · rw [h1]
    have : l.any P = true := List.any_eq_true.2 ⟨x, List.mem_of_getElem? h2, h3⟩
    rw [this]; simp
theorem take_no {P : Ac → Bool} {l : List Ac} {k : Nat} {x : Ac} (hk : l[k]? = some x) (hx : P x = false) (hn : ∀ p ∈ l.take k, P p = false) : ∀ p ∈ l.take (k + 1), P p = false := by
  intro p hp
  rw [List.take_add_one, hk, List.mem_append] at hp
  rcases hp with hp | hp
  · exact hn p hp
  · simp at hp; subst hp; exact hx
theorem take_done {P : Ac → Bool} {l : List Ac} {k : Nat} (hk : l.length ≤ k) (hn : ∀ p ∈ l.take k, P p = false) : ∀ p ∈ l, P p = false := by
  rwa [List.take_of_length_le hk] at hn

/-- Is it that aura, from that source? -/
def isAc (id src : Int) (a : Ac) : Bool := decide (a.aura = id) && decide (a.source = src)
def plI (l : List Ac) (id src : Int) : Int := idxI (isAc id src) l

/-! ### laid -/
def fullL (of : Au) (s : Int) : Int := if of.kind = 5 then held (of.amount * s) else 0
def stkL (of : Au) (s : Int) : Int := mn (held (s + 1)) of.stacks
def againL (of : Au) (now : Int) (a : Ac) : Ac := ⟨a.aura, a.source, stkL of a.stacks, held (now + of.ticks), a.nxt, fullL of (stkL of a.stacks)⟩
def firstT (of : Au) (now : Int) : Int := if of.every = 0 then 0 else held (now + of.every)
def newL (of : Au) (id src now : Int) : Ac := ⟨id, src, 1, held (now + of.ticks), firstT of now, fullL of 1⟩
def apE (L : List Au) (l : List Ac) (id src : Int) : Int := if lkB L id = true then (if 0 ≤ plI l id src then 0 else if 16 ≤ l.length then 4 else 0) else 5
def apL (L : List Au) (l : List Ac) (id src now : Int) : List Ac :=
  if lkB L id = true then
    (if 0 ≤ plI l id src then l.set (plI l id src).toNat (againL (lkA L id) now (l.getD (plI l id src).toNat zAc))
     else if 16 ≤ l.length then [] else l ++ [newL (lkA L id) id src now])
  else []
section
variable {L : List Au} {l : List Ac} {id src now : Int}
theorem ap_none (h : lkB L id = false) : apE L l id src = 5 ∧ apL L l id src now = [] := by unfold apE apL; simp [h]
theorem ap_full (h : lkB L id = true) (h1 : plI l id src < 0) (h2 : 16 ≤ l.length) : apE L l id src = 4 ∧ apL L l id src now = [] := by
  unfold apE apL
  have : ¬ 0 ≤ plI l id src := by omega
  simp [h, this, h2]
theorem ap_new (h : lkB L id = true) (h1 : plI l id src < 0) (h2 : ¬ 16 ≤ l.length) : apE L l id src = 0 ∧ apL L l id src now = l ++ [newL (lkA L id) id src now] := by
  unfold apE apL
  have : ¬ 0 ≤ plI l id src := by omega
  simp only [h, this, h2, if_true, if_false, and_self]
theorem ap_again (h : lkB L id = true) {k : Nat} {x : Ac} (h1 : plI l id src = (k : Int)) (hx : l[k]? = some x) : apE L l id src = 0 ∧ apL L l id src now = l.set k (againL (lkA L id) now x) := by
  unfold apE apL
  have : 0 ≤ plI l id src := by omega
  simp only [h, this, if_true, true_and]
  have e : (plI l id src).toNat = k := by omega
  rw [e, get_some hx]
end

/-! ### parted -/
def goS (p : Nat → Bool) (l : List Ac) : Nat → List Ac
  | 0 => []
  | k + 1 => if p k = true then goS p l k ++ [l.getD k zAc] else goS p l k
theorem go_yes {p : Nat → Bool} {l : List Ac} {k : Nat} {x : Ac} (hx : l[k]? = some x) (hp : p k = true) : goS p l (k + 1) = goS p l k ++ [x] := by rw [goS, if_pos hp, get_some hx]
theorem go_no {p : Nat → Bool} {l : List Ac} {k : Nat} (hp : p k = false) : goS p l (k + 1) = goS p l k := by rw [goS, if_neg (by simp [hp])]
theorem go_len (p : Nat → Bool) (l : List Ac) : ∀ k, (goS p l k).length + (goS (fun i => !p i) l k).length = k
  | 0 => rfl
  | k + 1 => by
    have := go_len p l k
    by_cases h : p k = true
    · simp only [goS, h, if_true, Bool.not_true]; simp; omega
    · have h' : p k = false := by simpa using h
      simp only [goS, h', Bool.not_false, if_true]; simp; omega
theorem go_le (p : Nat → Bool) (l : List Ac) (k : Nat) : (goS p l k).length ≤ k := by have := go_len p l k; omega
theorem go_sub (p : Nat → Bool) (l : List Ac) : ∀ k, k ≤ l.length → (goS p l k).Sublist (l.take k)
  | 0, _ => by simp [goS]
  | k + 1, h => by
    have ih := go_sub p l k (by omega)
    have hx : l[k]? = some l[k] := List.getElem?_eq_getElem (by omega)
    rw [List.take_add_one, hx]
    by_cases hp : p k = true
    · rw [go_yes hx hp]; exact ih.append (List.Sublist.refl _)
    · rw [go_no (by simpa using hp)]; exact ih.trans (List.sublist_append_left _ _)
theorem go_mem {p : Nat → Bool} {l : List Ac} {k : Nat} (hk : k ≤ l.length) {a : Ac} (h : a ∈ goS p l k) : a ∈ l := List.mem_of_mem_take ((go_sub p l k hk).subset h)
def exP (l : List Ac) (now : Int) (k : Nat) : Bool := decide (now < (l.getD k zAc).untl)
theorem ex_at {l : List Ac} {k : Nat} {x : Ac} (h : l[k]? = some x) (now : Int) : exP l now k = decide (now < x.untl) := by unfold exP; rw [get_some h]

/-! ### ticked -/
def tkP (L : List Au) (now : Int) (a : Ac) : Bool := (lkB L a.aura && decide (0 < (lkA L a.aura).every)) && decide (a.nxt ≤ now)
def tkA (L : List Au) (now : Int) (a : Ac) : Ac := if tkP L now a = true then ⟨a.aura, a.source, a.stacks, a.untl, held (a.nxt + (lkA L a.aura).every), a.left⟩ else a
def tkK (L : List Au) (now : Int) (l : List Ac) (k : Nat) : List Ac := (l.take k).map (tkA L now) ++ l.drop k
def tkD (L : List Au) (now : Int) (l : List Ac) : Nat → List Ac := goS (fun k => tkP L now (l.getD k zAc)) l
section
variable {L : List Au} {now : Int} {l : List Ac} {k : Nat} {x : Ac}
theorem tk_zero : tkK L now l 0 = l := by simp [tkK]
theorem tk_len : (tkK L now l k).length = l.length := by simp [tkK]; omega
theorem tk_get (hx : l[k]? = some x) : (tkK L now l k)[k]? = some x := by
  have hk := (List.getElem?_eq_some_iff.1 hx).1
  unfold tkK
  rw [List.getElem?_append_right (by simp; omega)]
  simp
  rw [show k + (k - min k l.length) = k by omega]; exact hx
theorem tk_next (hx : l[k]? = some x) : (tkK L now l k).set k (tkA L now x) = tkK L now l (k + 1) := by
  obtain ⟨hk, rfl⟩ := List.getElem?_eq_some_iff.1 hx
  have hl : ((l.take k).map (tkA L now)).length = k := by simp; omega
  unfold tkK
  rw [List.set_append_right _ _ (by omega), hl, Nat.sub_self, List.drop_eq_getElem_cons hk, List.set_cons_zero, List.take_add_one, List.getElem?_eq_getElem hk, List.map_append, List.append_assoc]
  rfl
theorem tk_same (hx : l[k]? = some x) (hp : tkP L now x = false) : tkK L now l k = tkK L now l (k + 1) := by
  rw [← tk_next hx]
  have e : tkA L now x = x := by unfold tkA; rw [if_neg (by simp [hp])]
  rw [e]
  obtain ⟨h, h2⟩ := List.getElem?_eq_some_iff.1 (tk_get (L := L) (now := now) hx)
  rw [← h2]; exact (List.set_getElem_self h).symm
theorem tk_done (hk : l.length ≤ k) : tkK L now l k = tkK L now l l.length := by
  unfold tkK; rw [List.take_of_length_le hk, List.drop_eq_nil_of_le hk]; simp
end

/-! ### taken off -/
def hmP (L : List Au) (a : Ac) : Bool := lkB L a.aura && (lkA L a.aura).harm
def hcN (L : List Au) (l : List Ac) : Nat → Nat
  | 0 => 0
  | k + 1 => if hmP L (l.getD k zAc) = true then hcN L l k + 1 else hcN L l k
/-- Does it stay? -/
def diP (L : List Au) (n : Int) (l : List Ac) (k : Nat) : Bool := !(hmP L (l.getD k zAc) && decide ((hcN L l k : Int) < n))
theorem di_len (L : List Au) (n : Int) (l : List Ac) : ∀ k, (goS (fun i => !diP L n l i) l k).length = min (hcN L l k) n.toNat
  | 0 => by simp [goS, hcN]
  | k + 1 => by
    have ih := di_len L n l k
    by_cases h : hmP L (l.getD k zAc) = true
    · by_cases h2 : (hcN L l k : Int) < n
      · have e : (!diP L n l k) = true := by unfold diP; rw [h]; simp [h2]
        simp only [goS, e, if_true, hcN, h]
        simp only [List.length_append, List.length_singleton, ih]; omega
      · have e : (!diP L n l k) = false := by unfold diP; simp [h2]
        simp only [goS, e, hcN, h, if_true]
        rw [if_neg (by simp), ih]; omega
    · have h' : hmP L (l.getD k zAc) = false := by simpa using h
      have e : (!diP L n l k) = false := by unfold diP; rw [h']; rfl
      simp only [goS, e, hcN, h']
      simpa using ih
/-- What n has come down to. -/
def diM (L : List Au) (n : Int) (l : List Ac) (k : Nat) : Int := n - (min (hcN L l k) n.toNat : Nat)
section
variable {L : List Au} {n : Int} {l : List Ac} {k : Nat} {x : Ac}
theorem di_zero : diM L n l 0 = n := by simp [diM, hcN]
theorem di_doc (hx : l[k]? = some x) : diP L n l k = !(hmP L x && decide (((goS (fun i => !diP L n l i) l k).length : Int) < n)) := by
  rw [di_len]
  unfold diP
  rw [get_some hx]
  have e : decide ((hcN L l k : Int) < n) = decide (((min (hcN L l k) n.toNat : Nat) : Int) < n) := by
    rw [decide_eq_decide]; omega
  rw [e]
theorem di_low (h : diM L n l k < 1) : diP L n l k = true ∧ diM L n l (k + 1) = diM L n l k := by
  unfold diM at h
  have h2 : ¬ (hcN L l k : Int) < n := by omega
  constructor
  · unfold diP; simp [h2]
  · unfold diM
    simp only [hcN]
    split <;> omega
theorem di_mild (hx : l[k]? = some x) (h : hmP L x = false) : diP L n l k = true ∧ diM L n l (k + 1) = diM L n l k := by
  constructor
  · unfold diP; rw [get_some hx, h]; rfl
  · unfold diM
    simp only [hcN]
    rw [get_some hx, h]; simp
theorem di_take (hx : l[k]? = some x) (h : hmP L x = true) (h2 : ¬ diM L n l k < 1) : diP L n l k = false ∧ diM L n l (k + 1) = diM L n l k - 1 := by
  unfold diM at h2
  have h3 : (hcN L l k : Int) < n := by omega
  constructor
  · unfold diP; rw [get_some hx, h]; simp [h3]
  · unfold diM
    simp only [hcN]
    rw [get_some hx, h]; simp only [if_true]; omega
theorem di_fits (h : Fits n) : Fits (diM L n l k) := by
  unfold diM; unfold Fits at *
  have : (min (hcN L l k) n.toNat : Nat) ≤ n.toNat := by omega
  omega
end

/-! ### summed -/
def kdP (L : List Au) (kind : Int) (a : Ac) : Bool := lkB L a.aura && decide ((lkA L a.aura).kind = kind)
def suL (L : List Au) (kind : Int) (l : List Ac) : Int := l.foldl (fun n a => if kdP L kind a = true then held (n + held ((lkA L a.aura).amount * a.stacks)) else n) 0
section
variable {L : List Au} {kind : Int} {l : List Ac} {k : Nat} {x : Ac}
theorem su_yes (hx : l[k]? = some x) (h : kdP L kind x = true) : suL L kind (l.take (k + 1)) = held (suL L kind (l.take k) + held ((lkA L x.aura).amount * x.stacks)) := by
  unfold suL; rw [List.take_add_one, List.foldl_append, hx]; simp [h]
theorem su_no (hx : l[k]? = some x) (h : kdP L kind x = false) : suL L kind (l.take (k + 1)) = suL L kind (l.take k) := by
  unfold suL; rw [List.take_add_one, List.foldl_append, hx]; simp [h]
theorem su_done (hk : l.length ≤ k) : suL L kind (l.take k) = suL L kind l := by rw [List.take_of_length_le hk]
theorem su_fits (L : List Au) (kind : Int) (l : List Ac) : Fits (suL L kind l) := by
  have key : ∀ (l : List Ac) (n : Int), Fits n → Fits (l.foldl (fun n a => if kdP L kind a = true then held (n + held ((lkA L a.aura).amount * a.stacks)) else n) n) := by
    intro l
    induction l with
    | nil => intro n h; exact h
    | cons x r ih =>
      intro n h
      refine ih _ ?_
      show Fits (if kdP L kind x = true then _ else n)
      split
      · exact held_fits _
      · exact h
  exact key l 0 ⟨by omega, by omega⟩
end

/-! ### shields -/
def withL (x : Ac) (v : Int) : Ac := ⟨x.aura, x.source, x.stacks, x.untl, x.nxt, v⟩
def shK (L : List Au) (l : List Ac) : Nat → List Sh
  | 0 => []
  | k + 1 => if kdP L 5 (l.getD k zAc) = true then shK L l k ++ [⟨(k : Int), (l.getD k zAc).left⟩] else shK L l k
section
variable {L : List Au} {l : List Ac} {k : Nat} {x : Ac}
theorem sh_yes (hx : l[k]? = some x) (h : kdP L 5 x = true) : shK L l (k + 1) = shK L l k ++ [⟨(k : Int), x.left⟩] := by rw [shK, get_some hx, if_pos h]
theorem sh_no (hx : l[k]? = some x) (h : kdP L 5 x = false) : shK L l (k + 1) = shK L l k := by rw [shK, get_some hx, if_neg (by simp [h])]
theorem sh_le (L : List Au) (l : List Ac) : ∀ k, (shK L l k).length ≤ k
  | 0 => Nat.le_refl _
  | k + 1 => by have := sh_le L l k; rw [shK]; split <;> simp <;> omega
theorem sh_in (L : List Au) (l : List Ac) : ∀ k, k ≤ l.length → ∀ s ∈ shK L l k, 0 ≤ s.aura ∧ s.aura < (k : Int) ∧ ∃ x, l[s.aura.toNat]? = some x ∧ s.left = x.left
  | 0, _, s, hs => by cases hs
  | k + 1, hk, s, hs => by
    have ih := sh_in L l k (by omega)
    have hx : l[k]? = some l[k] := List.getElem?_eq_getElem (by omega)
    by_cases h : kdP L 5 l[k] = true
    · rw [sh_yes hx h] at hs
      rcases List.mem_append.1 hs with hs | hs
      · obtain ⟨h1, h2, h3⟩ := ih s hs
        exact ⟨h1, by omega, h3⟩
      · simp at hs; subst hs
        exact ⟨Int.natCast_nonneg k, by show (k : Int) < ((k + 1 : Nat) : Int); omega, l[k], hx, rfl⟩
    · rw [sh_no hx (by simpa using h)] at hs
      obtain ⟨h1, h2, h3⟩ := ih s hs
      exact ⟨h1, by omega, h3⟩
theorem sh_rise (L : List Au) (l : List Ac) : ∀ k, k ≤ l.length → ((shK L l k).map Sh.aura).Pairwise (· < ·)
  | 0, _ => by simp [shK]
  | k + 1, hk => by
    have ih := sh_rise L l k (by omega)
    have hin := sh_in L l k (by omega)
    have hx : l[k]? = some l[k] := List.getElem?_eq_getElem (by omega)
    by_cases h : kdP L 5 l[k] = true
    · rw [sh_yes hx h, List.map_append, List.pairwise_append]
      refine ⟨ih, by simp, fun a ha b hb => ?_⟩
      simp at hb; subst hb
      obtain ⟨s, hs, rfl⟩ := List.mem_map.1 ha
      exact (hin s hs).2.1
    · rw [sh_no hx (by simpa using h)]; exact ih
theorem sh_fits {L : List Au} {l : List Ac} (h : ∀ a ∈ l, NAc a) (hl : l.length ≤ 1000000) : ∀ s ∈ shK L l l.length, FSh s := by
  intro s hs
  obtain ⟨h1, h2, x, h3, h4⟩ := sh_in L l l.length (Nat.le_refl _) s hs
  refine ⟨⟨by omega, by omega⟩, ?_, trivial⟩
  rw [h4]; exact (h x (List.mem_of_getElem? h3)).2.2
end
theorem run_parts (n : Int) : ∀ (r p : List Sh) (s : List Sh × Int × List Int), (s.1.map Sh.aura).Sublist (p.map Sh.aura) → s.2.2.Sublist (p.map Sh.aura) → (((r.foldl stp s).1).map Sh.aura).Sublist ((p ++ r).map Sh.aura) ∧ ((r.foldl stp s).2.2).Sublist ((p ++ r).map Sh.aura)
  | [], p, s, h1, h2 => by simpa using ⟨h1, h2⟩
  | x :: r, p, s, h1, h2 => by
    have : ((stp s x).1.map Sh.aura).Sublist ((p ++ [x]).map Sh.aura) ∧ (stp s x).2.2.Sublist ((p ++ [x]).map Sh.aura) := by
      unfold stp
      split
      · simp only [List.map_append, List.map_cons, List.map_nil]
        exact ⟨h1.append (List.Sublist.refl _), h2.trans (List.sublist_append_left _ _)⟩
      · simp only [List.map_append, List.map_cons, List.map_nil]
        exact ⟨h1.trans (List.sublist_append_left _ _), h2.append (List.Sublist.refl _)⟩
    have := run_parts n r (p ++ [x]) (stp s x) this.1 this.2
    simpa using this
theorem take_parts (l : List Sh) (n : Int) : ((takeI l n).1.map Sh.aura).Sublist (l.map Sh.aura) ∧ (takeI l n).2.2.Sublist (l.map Sh.aura) := by
  by_cases h : n < 1
  · rw [take_low h]; exact ⟨List.Sublist.refl _, by simp⟩
  · rw [take_high h]
    have := run_parts n l [] ([], n, []) (by simp) (by simp)
    simpa [run] using this
theorem run_left (n : Int) : ∀ (r : List Sh) (s : List Sh × Int × List Int), (∀ x ∈ s.1, 0 ≤ x.left) → ∀ x ∈ (r.foldl stp s).1, 0 ≤ x.left
  | [], s, h => h
  | x :: r, s, h => by
    refine run_left n r (stp s x) ?_
    unfold stp
    split
    · intro y hy
      rcases List.mem_append.1 hy with hy | hy
      · exact h y hy
      · simp at hy; subst hy; simp only; omega
    · exact h
theorem take_left {l : List Sh} {n : Int} (h : ∀ x ∈ l, 0 ≤ x.left) : ∀ x ∈ (takeI l n).1, 0 ≤ x.left := by
  by_cases hn : n < 1
  · rw [take_low hn]; exact h
  · rw [take_high hn]; exact run_left n l _ (by simp)
theorem run_fits (n : Int) : ∀ (r : List Sh) (s : List Sh × Int × List Int), (∀ x ∈ r, FSh x) → 0 ≤ s.2.1 → (∀ x ∈ s.1, FSh x) → ∀ x ∈ (r.foldl stp s).1, FSh x
  | [], s, _, _, h => h
  | x :: r, s, hr, h0, h => by
    have hx := hr x (by simp)
    refine run_fits n r (stp s x) (fun y hy => hr y (by simp [hy])) ?_ ?_
    · unfold stp; split
      · simp
      · simp only; split <;> omega
    · unfold stp; split
      · intro y hy
        rcases List.mem_append.1 hy with hy | hy
        · exact h y hy
        · simp at hy; subst hy
          have h1 := hx.2.1
          refine ⟨hx.1, ?_, trivial⟩
          unfold Fits at *; simp only; omega
      · exact h
theorem take_fits {l : List Sh} {n : Int} (h : ∀ x ∈ l, FSh x) : ∀ x ∈ (takeI l n).1, FSh x := by
  by_cases hn : n < 1
  · rw [take_low hn]; exact h
  · rw [take_high hn]; exact run_fits n l _ h (by simp only; omega) (by simp)

/-- The row, in which shields have what is left of them. -/
def setK (S : List Sh) (l : List Ac) : List Ac := S.foldl (fun l s => l.set s.aura.toNat (withL (l.getD s.aura.toNat zAc) s.left)) l
def lfI (i : Nat) (S : List Sh) (v : Int) : Int := S.foldl (fun v s => if s.aura = (i : Int) then s.left else v) v
theorem set_len (S : List Sh) : ∀ l : List Ac, (setK S l).length = l.length := by
  induction S with
  | nil => intro l; rfl
  | cons s r ih => intro l; show (setK r _).length = _; rw [ih]; simp
theorem set_next {S : List Sh} {k : Nat} {s : Sh} (h : S[k]? = some s) (l : List Ac) : setK (S.take (k + 1)) l = (setK (S.take k) l).set s.aura.toNat (withL ((setK (S.take k) l).getD s.aura.toNat zAc) s.left) := by
  unfold setK; rw [List.take_add_one, List.foldl_append, h]; rfl
theorem set_done {S : List Sh} {k : Nat} (h : S.length ≤ k) (l : List Ac) : setK (S.take k) l = setK S l := by rw [List.take_of_length_le h]
theorem lf_yes {S : List Sh} {k i : Nat} {s : Sh} (h : S[k]? = some s) (hs : s.aura = (i : Int)) (v : Int) : lfI i (S.take (k + 1)) v = s.left := by
  unfold lfI; rw [List.take_add_one, List.foldl_append, h]; simp [hs]
theorem lf_no {S : List Sh} {k i : Nat} {s : Sh} (h : S[k]? = some s) (hs : s.aura ≠ (i : Int)) (v : Int) : lfI i (S.take (k + 1)) v = lfI i (S.take k) v := by
  unfold lfI; rw [List.take_add_one, List.foldl_append, h]; simp [hs]
theorem lf_done {S : List Sh} {k : Nat} (h : S.length ≤ k) (i : Nat) (v : Int) : lfI i (S.take k) v = lfI i S v := by rw [List.take_of_length_le h]
theorem set_get (S : List Sh) : ∀ (l : List Ac) (i : Nat) (x : Ac), (∀ s ∈ S, 0 ≤ s.aura) → l[i]? = some x → (setK S l)[i]? = some (withL x (lfI i S x.left)) := by
  induction S with
  | nil => intro l i x _ h; rw [show setK [] l = l from rfl, show lfI i [] x.left = x.left from rfl, h]; rfl
  | cons s r ih =>
    intro l i x hs h
    have hi := (List.getElem?_eq_some_iff.1 h).1
    show (setK r (l.set s.aura.toNat (withL (l.getD s.aura.toNat zAc) s.left)))[i]? = _
    have h0 := hs s (by simp)
    by_cases e : s.aura = (i : Int)
    · have e2 : s.aura.toNat = i := by omega
      have h2 : (l.set s.aura.toNat (withL (l.getD s.aura.toNat zAc) s.left))[i]? = some (withL x s.left) := by
        rw [e2, List.getElem?_set, if_pos rfl, if_pos hi, get_some h]
      rw [ih _ i _ (fun y hy => hs y (by simp [hy])) h2]
      have : lfI i (s :: r) x.left = lfI i r s.left := by unfold lfI; simp [e]
      rw [this]; rfl
    · have e2 : s.aura.toNat ≠ i := by omega
      have h2 : (l.set s.aura.toNat (withL (l.getD s.aura.toNat zAc) s.left))[i]? = some x := by
        rw [List.getElem?_set, if_neg e2]; exact h
      rw [ih _ i _ (fun y hy => hs y (by simp [hy])) h2]
      have : lfI i (s :: r) x.left = lfI i r x.left := by unfold lfI; simp [e]
      rw [this]
theorem lf_cases (i : Nat) (S : List Sh) (v : Int) : lfI i S v = v ∨ ∃ s ∈ S, lfI i S v = s.left := by
  induction S generalizing v with
  | nil => left; rfl
  | cons s r ih =>
    show lfI i r (if s.aura = (i : Int) then s.left else v) = v ∨ _
    rcases ih (if s.aura = (i : Int) then s.left else v) with h | ⟨s', h1, h2⟩
    · by_cases e : s.aura = (i : Int)
      · right; exact ⟨s, by simp, by show lfI i r _ = _; rw [h]; simp [e]⟩
      · left; rw [h]; simp [e]
    · right; exact ⟨s', by simp [h1], h2⟩
/-- What Take answers. -/
def taK (S : List Sh) (G : List Int) (l : List Ac) : Nat → List Ac
  | 0 => []
  | k + 1 => if (k : Int) ∈ G then taK S G l k else taK S G l k ++ [withL (l.getD k zAc) (lfI k S (l.getD k zAc).left)]
section
variable {S : List Sh} {G : List Int} {l : List Ac} {k : Nat} {x : Ac}
theorem ta_gone (h : (k : Int) ∈ G) : taK S G l (k + 1) = taK S G l k := by rw [taK, if_pos h]
theorem ta_stay (hx : l[k]? = some x) (h : ¬ (k : Int) ∈ G) : taK S G l (k + 1) = taK S G l k ++ [withL x (lfI k S x.left)] := by rw [taK, if_neg h, get_some hx]
theorem ta_go (hS : ∀ s ∈ S, 0 ≤ s.aura) : ∀ k, k ≤ l.length → goS (fun i => !decide ((i : Int) ∈ G)) (setK S l) k = taK S G l k
  | 0, _ => rfl
  | k + 1, hk => by
    have ih := ta_go hS k (by omega)
    have hx : l[k]? = some l[k] := List.getElem?_eq_getElem (by omega)
    by_cases h : (k : Int) ∈ G
    · rw [go_no (by simp [h]), ta_gone h, ih]
    · rw [go_yes (set_get S l k _ hS hx) (by simp [h]), ta_stay hx h, ih]
theorem ta_le : ∀ k, (taK S G l k).length ≤ k
  | 0 => Nat.le_refl _
  | k + 1 => by
    have ih := ta_le k
    by_cases h : (k : Int) ∈ G
    · rw [ta_gone h]; omega
    · rw [taK, if_neg h, List.length_append, List.length_singleton]; omega
end
end Go.Proofs.Ytijobbdgiaiocaa.Con
