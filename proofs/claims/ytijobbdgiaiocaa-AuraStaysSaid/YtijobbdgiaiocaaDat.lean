/-
  What a dungeon's content is made of, as plain data with the addresses of its rows; which is right, which are alike. No memory, no program.
-/
import GoSem.Claim
namespace Go.Proofs.Ytijobbdgiaiocaa.Con

structure Ef where
  kind : Int
  amount : Int
  aura : Int
structure Ln where
  phase : Int
  whn : Int
  arg : Int
  dos : Int
  value : Int
structure Pz where
  item : Int
  weight : Int
structure Au where
  id : Int
  kind : Int
  ticks : Int
  every : Int
  stacks : Int
  amount : Int
  harm : Bool
structure Ab where
  id : Int
  cast : Int
  cool : Int
  charges : Int
  range : Int
  cost : Int
  sight : Bool
  ea : Option Addr
  ec : Nat
  eff : List Ef
structure Fo where
  id : Int
  health : Int
  hit : Int
  every : Int
  reach : Int
  sa : Option Addr
  sc : Nat
  script : List Ln
  ha : Option Addr
  hc : Nat
  hoard : List Pz
  drops : Int
structure Cn where
  aA : Option Addr
  aC : Nat
  ab : List Ab
  uA : Option Addr
  uC : Nat
  au : List Au
  fA : Option Addr
  fC : Nat
  fo : List Fo
  W : Int
  H : Int
  gA : Option Addr
  gC : Nat
  wl : List Bool
  dx : Int
  dy : Int
  lx : Int
  ly : Int
theorem Ef.ext' {a b : Ef} (h1 : a.kind = b.kind) (h2 : a.amount = b.amount) (h3 : a.aura = b.aura) : a = b := by cases a; cases b; simp at *; exact ⟨h1, h2, h3⟩
theorem Ln.ext' {a b : Ln} (h1 : a.phase = b.phase) (h2 : a.whn = b.whn) (h3 : a.arg = b.arg) (h4 : a.dos = b.dos) (h5 : a.value = b.value) : a = b := by cases a; cases b; simp at *; exact ⟨h1, h2, h3, h4, h5⟩
theorem Pz.ext' {a b : Pz} (h1 : a.item = b.item) (h2 : a.weight = b.weight) : a = b := by cases a; cases b; simp at *; exact ⟨h1, h2⟩
theorem Au.ext' {a b : Au} (h1 : a.id = b.id) (h2 : a.kind = b.kind) (h3 : a.ticks = b.ticks) (h4 : a.every = b.every) (h5 : a.stacks = b.stacks) (h6 : a.amount = b.amount) (h7 : a.harm = b.harm) : a = b := by cases a; cases b; simp at *; exact ⟨h1, h2, h3, h4, h5, h6, h7⟩

/-- Without addresses. -/
def Ab.pl (a : Ab) : Ab := { a with ea := none, ec := 0 }
def Fo.pl (a : Fo) : Fo := { a with sa := none, sc := 0, ha := none, hc := 0 }
def Cn.pl (c : Cn) : Cn := { c with aA := none, aC := 0, ab := c.ab.map Ab.pl, uA := none, uC := 0, fA := none, fC := 0, fo := c.fo.map Fo.pl, gA := none, gC := 0 }
theorem Ab.pl_iff (a b : Ab) : a.pl = b.pl ↔ a.id = b.id ∧ a.cast = b.cast ∧ a.cool = b.cool ∧ a.charges = b.charges ∧ a.range = b.range ∧ a.cost = b.cost ∧ a.sight = b.sight ∧ a.eff = b.eff := by
  cases a; cases b; simp [Ab.pl]
theorem Fo.pl_iff (a b : Fo) : a.pl = b.pl ↔ a.id = b.id ∧ a.health = b.health ∧ a.hit = b.hit ∧ a.every = b.every ∧ a.reach = b.reach ∧ a.drops = b.drops ∧ a.script = b.script ∧ a.hoard = b.hoard := by
  cases a; cases b; simp [Fo.pl]
  intros
  constructor
  · rintro ⟨h6, h7, h8⟩; exact ⟨h8, h6, h7⟩
  · rintro ⟨h8, h6, h7⟩; exact ⟨h6, h7, h8⟩
theorem Cn.pl_iff (c d : Cn) : c.pl = d.pl ↔ c.ab.map Ab.pl = d.ab.map Ab.pl ∧ c.au = d.au ∧ c.fo.map Fo.pl = d.fo.map Fo.pl ∧ c.W = d.W ∧ c.H = d.H ∧ c.wl = d.wl ∧ c.dx = d.dx ∧ c.dy = d.dy ∧ c.lx = d.lx ∧ c.ly = d.ly := by
  cases c; cases d; simp [Cn.pl]
theorem map_iff {α β γ : Type} {f : α → γ} {g : β → γ} : ∀ {l : List α} {m : List β}, l.map f = m.map g ↔ l.length = m.length ∧ ∀ (i : Nat) x y, l[i]? = some x → m[i]? = some y → f x = g y
  | [], [] => by simp
  | [], y :: s => by simp
  | x :: r, [] => by simp
  | x :: r, y :: s => by
    rw [List.map_cons, List.map_cons, List.cons_eq_cons, map_iff]
    constructor
    · rintro ⟨h1, h2, h3⟩
      refine ⟨by simp [h2], fun i a b ha hb => ?_⟩
      cases i with
      | zero => simp at ha hb; subst ha; subst hb; exact h1
      | succ i => simp at ha hb; exact h3 i a b ha hb
    · rintro ⟨h1, h2⟩
      refine ⟨h2 0 x y rfl rfl, by simpa using h1, fun i a b ha hb => h2 (i + 1) a b (by simpa using ha) (by simpa using hb)⟩
theorem list_iff {α : Type} {l m : List α} : l = m ↔ l.length = m.length ∧ ∀ (i : Nat) x y, l[i]? = some x → m[i]? = some y → x = y := by
  have := map_iff (f := fun x : α => x) (g := fun x : α => x) (l := l) (m := m)
  simpa using this

/-- A truth value for a statement. -/
theorem bex (P : Prop) : ∃ x : Bool, (x = true ↔ P) := by
  by_cases h : P
  · exact ⟨true, by simp [h]⟩
  · exact ⟨false, by simp [h]⟩
theorem iff_eq {x y : Bool} {P : Prop} (hx : x = true ↔ P) (hy : y = true ↔ P) : x = y := by
  rw [Bool.eq_iff_iff, hx, hy]

/-! ### what is right -/
def Amt (n : Int) : Prop := 0 ≤ n ∧ n ≤ 1000000
def In (n lo hi : Int) : Prop := lo ≤ n ∧ n ≤ hi
abbrev HasAu (c : Cn) (id : Int) : Prop := ∃ a ∈ c.au, a.id = id
abbrev HasAb (c : Cn) (id : Int) : Prop := ∃ a ∈ c.ab, a.id = id
def EfOk (c : Cn) (e : Ef) : Prop := (e.kind = 4 ∧ e.amount = 0 ∧ HasAu c e.aura) ∨ (e.kind ≠ 4 ∧ In e.kind 1 7 ∧ Amt e.amount ∧ e.aura = 0)
def AbOk (c : Cn) (a : Ab) : Prop := Amt a.cast ∧ Amt a.cool ∧ Amt a.range ∧ Amt a.cost ∧ In a.charges 1 100 ∧ In a.eff.length 1 16 ∧ ∀ e ∈ a.eff, EfOk c e
def AuOk (a : Au) : Prop := In a.ticks 1 1000000 ∧ In a.stacks 1 100 ∧ (((a.kind = 1 ∨ a.kind = 2) ∧ In a.every 1 1000000 ∧ Amt a.amount) ∨ ((a.kind = 3 ∨ a.kind = 4) ∧ a.every = 0 ∧ In a.amount (-100) 1000) ∨ ((a.kind = 5 ∨ a.kind = 6) ∧ a.every = 0 ∧ Amt a.amount))
def PzOk (p : Pz) : Prop := In p.item 1 1000000 ∧ In p.weight 1 1000000
def WhOk (l : Ln) : Prop := (l.whn = 1 ∧ In l.arg 1 100) ∨ ((l.whn = 2 ∨ l.whn = 3) ∧ In l.arg 1 1000000)
def DoOk (c : Cn) (l : Ln) : Prop := (l.dos = 1 ∧ In l.value 1 100) ∨ (l.dos = 2 ∧ Amt l.value ∧ HasAb c l.value) ∨ ((l.dos = 3 ∨ l.dos = 4) ∧ Amt l.value)
def LnOk (c : Cn) (l : Ln) : Prop := In l.phase 1 100 ∧ WhOk l ∧ DoOk c l
def HoOk (f : Fo) : Prop := (f.drops ≠ 0 → f.hoard.length ≠ 0) ∧ In f.drops 0 16 ∧ f.hoard.length ≤ 16 ∧ ∀ p ∈ f.hoard, PzOk p
def FoOk (c : Cn) (f : Fo) : Prop := In f.health 1 1000000 ∧ Amt f.hit ∧ Amt f.reach ∧ In f.every 1 1000000 ∧ HoOk f ∧ f.script.length ≤ 16 ∧ ∀ l ∈ f.script, LnOk c l
/-- Where the first row stands that may not. -/
def Flaw {α : Type} (ok : α → Prop) (id : α → Int) : List α → Int → Nat → Option Nat → Prop
  | [], _, _, r => r = none
  | x :: s, last, i, r => ((i = 64 ∨ id x ≤ last ∨ ¬ ok x) ∧ r = some i) ∨ (¬ (i = 64 ∨ id x ≤ last ∨ ¬ ok x) ∧ Flaw ok id s (id x) (i + 1) r)
theorem flaw_ex {α : Type} (ok : α → Prop) (id : α → Int) : ∀ (l : List α) (last : Int) (i : Nat), ∃ r, Flaw ok id l last i r
  | [], _, _ => ⟨none, rfl⟩
  | x :: s, last, i => by
    by_cases h : (i = 64 ∨ id x ≤ last ∨ ¬ ok x)
    · exact ⟨some i, .inl ⟨h, rfl⟩⟩
    · obtain ⟨r, hr⟩ := flaw_ex ok id s (id x) (i + 1)
      exact ⟨r, .inr ⟨h, hr⟩⟩
end Go.Proofs.Ytijobbdgiaiocaa.Con
