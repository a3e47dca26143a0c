/-
  An index in memory: a struct of two maps, of which one tells the cell that each unit is in, the other, for each cell, a map of where its units are.
-/
import Derived.Test.YtehllnbpianpfaaMem
import Derived.Maps.RangeWalk
import Derived.DeepKeys5
import Derived.WideKeyArgs
namespace Go.Proofs.Ytehllnbpianpfaa.Con
open Go.RowKit Cll Go.Maps

/-! ### keys -/
theorem kInt : Keyed Try.prog 3 := int_keyed Try.underlying3
theorem laidOut : laidOutB Try.prog = true := by kernel_rfl
theorem row54 : (54 : TypeId) < Try.prog.types.size := of_decide_eq_true (by kernel_rfl)
theorem wide54 : (match Try.prog.underlying 54 with | some (.array _ _) | some (.struct _) => true | _ => false) = true := by rw [Try.underlying54]
theorem kCell : Keyed Try.prog 54 := Keyed.of_law (deep_law_laid laidOut (m := 2) (by omega) row54 (by kernel_rfl) wide54)
def key (k : Int) : Lit := .int .i64 k
theorem keyLit (k : Int) : WideAt.IsKeyLit (key k) := trivial
theorem key_ne {a b : Int} (h : a ≠ b) : key a ≠ key b := by unfold key; intro e; injection e with _ e; exact h e
theorem key_wf {k : Int} (h : Fits k) : (Lit.int .i64 k).wf = true := by
  obtain ⟨h1, h2⟩ := h
  exact WalkArith.wf_i64 (by omega)
theorem key_of {k : Int} (h : Fits k) : keyOf Try.prog 3 (.int .i64 k) = some (key k) := keyOf_int_mk Try.underlying3 (key_wf h)
theorem cells54 : Try.prog.cellsOf 54 = 2 := by kernel_rfl
theorem cells3 : Try.prog.cellsOf 3 = 1 := by kernel_rfl
theorem keyT54 : Try.prog.keyType 54 = true := by kernel_rfl
def ck (c r : Int) : Lit := .string (keyBytes [.int .i64 c, .int .i64 r])
theorem ck_of {c r : Int} (hc : Fits c) (hr : Fits r) : keyOf Try.prog 54 (pv c r) = some (ck c r) := by
  have hf : (pv c r).formed Try.prog 54 = true := by simp [Value.formed, Try.underlying54, cells54]
  have hl : ∀ m, Try.prog.keyLits (m + 1 + 1) 54 (pv c r).cells.toList = some [.int .i64 c, .int .i64 r] := by
    intro m
    simp [Program.keyLits, Try.underlying54, Try.underlying3, cells54, cells3, Value.cells, key_wf hc, key_wf hr]
  simp [keyOf, Try.underlying54, keyT54, hf, ck]
  exact ⟨_, hl 109, rfl⟩
theorem ck_inj {c r c' r' : Int} (hc : Fits c) (hr : Fits r) (hc' : Fits c') (hr' : Fits r') (h : ck c r = ck c' r') : c = c' ∧ r = r' := by
  have h1 := ck_of hc hr
  rw [h] at h1
  have := kCell.inj h1 (ck_of hc' hr')
  simpa [pv] using this
theorem ck_lit (c r : Int) : WideAt.IsKeyLit (ck c r) := trivial

/-! ### what a map tells at a key -/
/-- What the map tells at the key. -/
def look (D : DataW Unit) (k : Lit) : Option (DataW Unit) := if Maps.has D k = true then some (D.atKey k .nil) else none
section
variable {D : DataW Unit} {k k' : Lit} {d : DataW Unit}
theorem look_is : (look D k).isSome = Maps.has D k := by unfold look; cases Maps.has D k <;> rfl
theorem at_has (h : Maps.has D k = true) (z z' : DataW Unit) : D.atKey k z = D.atKey k z' := by
  cases D <;> try (cases h; done)
  rename_i es
  obtain ⟨p, hp, hpk⟩ := List.any_eq_true.1 h
  have hs : (es.find? (fun p => p.1.sameKey k)).isSome = true := List.find?_isSome.2 ⟨p, hp, hpk⟩
  obtain ⟨x, hx⟩ := Option.isSome_iff_exists.1 hs
  simp [DataW.atKey, hx]
theorem look_some (h : look D k = some d) : Maps.has D k = true ∧ ∀ z, D.atKey k z = d := by
  unfold look at h
  split at h
  · rename_i h1
    injection h with h
    exact ⟨h1, fun z => (at_has h1 z .nil).trans h⟩
  · cases h
theorem look_none (h : look D k = none) : Maps.has D k = false ∧ ∀ z, D.atKey k z = z := by
  unfold look at h
  split at h
  · cases h
  · rename_i h1
    have h1 : Maps.has D k = false := by simpa using h1
    exact ⟨h1, fun z => atKey_of_not_has h1 z⟩
theorem look_of (h : ∀ z, D.atKey k z = d) : look D k = some d := by
  unfold look
  rw [if_pos (has_true_of_atKey h), h]
theorem look_get (z : DataW Unit) : D.atKey k z = (look D k).getD z := by
  cases h : look D k with
  | none => exact (look_none h).2 z
  | some d => exact (look_some h).2 z
theorem look_put (hD : IsMap D) (hk : WideAt.IsKeyLit k) (d : DataW Unit) : look (D.put k d) k = some d := by
  unfold look
  rw [if_pos (has_put_same hD hk d), atKey_put_same hD hk]
theorem look_put_ne (hne : k' ≠ k) (d : DataW Unit) : look (D.put k d) k' = look D k' := by
  unfold look
  rw [has_put_other hne, atKey_put_other hne]
theorem look_del : look (D.del k) k = none := by
  unfold look
  rw [if_neg (by rw [has_del_same]; simp)]
theorem look_del_ne (hne : k' ≠ k) : look (D.del k) k' = look D k' := by
  unfold look
  rw [has_del_other hne, atKey_del_other hne]
theorem look_empty : look (.map []) k = none := rfl
theorem look_size0 (h : Maps.size D = 0) : look D k = none := by
  cases D <;> try rfl
  rename_i es
  have : es = [] := List.eq_nil_of_length_eq_zero h
  subst this
  rfl
end

/-! ### how elements read -/
def td (a b : Int) : DataW Unit := .agg [.lit (.int .i64 a), .lit (.int .i64 b)]
theorem td_inj {a b a' b' : Int} (h : td a b = td a' b') : a = a' ∧ b = b' := by simpa [td] using h
/-- A pair of numbers. -/
def Rt (v : Value) : Option (DataW Unit × List MemPlace) :=
  match v with
  | .agg cs =>
    match cs.toList with
    | [.int .i64 a, .int .i64 b] => some (td a b, [])
    | _ => none
  | _ => none
theorem rt_mk (a b : Int) : Rt (pv a b) = some (td a b, []) := rfl
theorem rt_inv {v : Value} {y : DataW Unit × List MemPlace} (h : Rt v = some y) : ∃ a b, v = pv a b ∧ y = (td a b, []) := by
  unfold Rt at h
  split at h
  · rename_i cs
    split at h
    · rename_i a b e
      injection h with h
      refine ⟨a, b, ?_, h.symm⟩
      rw [show cs = #[.int .i64 a, .int .i64 b] from Array.toList_inj.1 e]
    · cases h
  · cases h
/-- A map, told by its block. -/
def bl (b : Nat) : DataW Unit := .lit (.int .i64 b)
theorem bl_inj {b b' : Nat} (h : bl b = bl b') : b = b' := by
  unfold bl at h
  injection h with h
  injection h with _ h
  omega
def Rm (v : Value) : Option (DataW Unit × List MemPlace) :=
  match v with
  | .map (some b) => some (bl b, [])
  | _ => none
theorem rm_inv {v : Value} {y : DataW Unit × List MemPlace} (h : Rm v = some y) : ∃ b, v = .map (some b) ∧ y = (bl b, []) := by
  unfold Rm at h
  split at h
  · rename_i b
    injection h with h
    exact ⟨b, rfl, h.symm⟩
  · cases h
theorem zero54 (w : World) : (zeroValue 54).run Try.prog w = .ok (pv 0 0) w := by kernel_rfl
theorem zero55 (w : World) : (zeroValue 55).run Try.prog w = .ok (.map none) w := by kernel_rfl
theorem zero32 (w : World) : (zeroValue 32).run Try.prog w = .ok (pv 0 0) w := by kernel_rfl

theorem own_keep {H : Type} {P : Program} {k : TypeId} {R : Value → Option (DataW H × List MemPlace)} {w w' : World} {b n : Nat} {D : DataW H} (h : w.ownsMap P k R b n D) (hk : w'.heap[b]? = w.heap[b]?) : w'.ownsMap P k R b n D := by
  obtain ⟨es, clock, hb, r⟩ := h
  exact ⟨es, clock, hk.trans hb, r⟩
theorem own_tight {H : Type} {P : Program} {k : TypeId} {R : Value → Option (DataW H × List MemPlace)} {w : World} {b n : Nat} {D : DataW H} (h : w.ownsMap P k R b n D) : w.ownsMap P k R b (Maps.size D) D := by
  obtain ⟨es, clock, hb, F, hs, hD⟩ := h
  refine ⟨es, clock, hb, F, ?_, hD⟩
  rw [hD]
  show es.size ≤ List.length _
  rw [length_sorted]
  simp

/-! ### the index -/
/-- The cell (c, r): either it is not told and has no unit, or its own map tells where its units are. -/
structure In (w : World) (S : Nat → Prop) (N hb cb b : Nat) (D : DataW Unit) (L : List Un) (c r : Int) : Prop where
  s : S b
  nh : b ≠ hb
  nc : b ≠ cb
  own : w.ownsMap Try.prog 3 Rt b N D
  at' : ∀ k, look D (key k) = (lk L k).bind (fun t => if t.x / 16 = c ∧ t.y / 16 = r then some (td t.x t.y) else none)
def Cel (w : World) (S : Nat → Prop) (N hb cb : Nat) (Dc : DataW Unit) (L : List Un) (c r : Int) : Prop :=
  (look Dc (ck c r) = none ∧ ∀ t ∈ L, ¬ (t.x / 16 = c ∧ t.y / 16 = r)) ∨ ∃ b D, look Dc (ck c r) = some (bl b) ∧ In w S N hb cb b D L c r
/-- Is it a cell's number? -/
def Sd (c : Int) : Prop := 0 ≤ c ∧ c ≤ 15
theorem Sd.fits {c : Int} (h : Sd c) : Fits c := by unfold Sd at h; unfold Fits; omega
theorem sd_div {n : Int} (h : 0 ≤ n ∧ n ≤ 255) : Sd (n / 16) := by unfold Sd; omega
structure IX (w : World) (S : Nat → Prop) (N xb hb cb : Nat) (Dh Dc : DataW Unit) (L : List Un) : Prop where
  st : w.heap[xb]? = some (.cells #[.map (some hb), .map (some cb)] 52 (0, 0))
  sx : S xb
  sh : S hb
  sc : S cb
  ne : hb ≠ cb
  hom : w.ownsMap Try.prog 3 Rt hb N Dh
  cel : w.ownsMap Try.prog 54 Rm cb N Dc
  homv : ∀ k, look Dh (key k) = (lk L k).map (fun t => td (t.x / 16) (t.y / 16))
  keys : ∀ kl d, look Dc kl = some d → ∃ c r, kl = ck c r ∧ Sd c ∧ Sd r
  inn : ∀ c r, Sd c → Sd r → Cel w S N hb cb Dc L c r
  apart : ∀ k1 k2 b, look Dc k1 = some (bl b) → look Dc k2 = some (bl b) → k1 = k2
  good : Cll.Good L
  len : L.length ≤ N
  low : ∀ b, S b → b < w.heap.size
  cap : (N : Int) ≤ 100000
section
variable {w w' : World} {S : Nat → Prop} {N xb hb cb : Nat} {Dh Dc : DataW Unit} {L : List Un}
theorem IX.cell0 (h : IX w S N xb hb cb Dh Dc L) : w.cell? ⟨xb, 0, none⟩ = some (.map (some hb)) := (cell_of_row w xb 0 _ 52 (0, 0) h.st).trans rfl
theorem IX.cell1 (h : IX w S N xb hb cb Dh Dc L) : w.cell? ⟨xb, 1, none⟩ = some (.map (some cb)) := (cell_of_row w xb 1 _ 52 (0, 0) h.st).trans rfl
theorem IX.lt (h : IX w S N xb hb cb Dh Dc L) : xb < w.heap.size := h.low _ h.sx
theorem In.keep {b : Nat} {D : DataW Unit} {c r : Int} (h : In w S N hb cb b D L c r) (hk : w'.heap[b]? = w.heap[b]?) : In w' S N hb cb b D L c r := ⟨h.s, h.nh, h.nc, own_keep h.own hk, h.at'⟩
theorem IX.keep (h : IX w S N xb hb cb Dh Dc L) (hs : w.heap.size ≤ w'.heap.size) (hk : ∀ b, S b → w'.heap[b]? = w.heap[b]?) : IX w' S N xb hb cb Dh Dc L where
  st := (hk xb h.sx).trans h.st
  sx := h.sx
  sh := h.sh
  sc := h.sc
  ne := h.ne
  hom := own_keep h.hom (hk hb h.sh)
  cel := own_keep h.cel (hk cb h.sc)
  homv := h.homv
  keys := h.keys
  inn c r hc hr := by
    rcases h.inn c r hc hr with h1 | ⟨b, D, h1, h2⟩
    · exact .inl h1
    · exact .inr ⟨b, D, h1, h2.keep (hk b h2.s)⟩
  apart := h.apart
  good := h.good
  len := h.len
  low b hb := Nat.lt_of_lt_of_le (h.low b hb) hs
  cap := h.cap
theorem IX.step (h : IX w S N xb hb cb Dh Dc L) (hb' : Below w.heap.size w w') : IX w' S N xb hb cb Dh Dc L := h.keep hb'.size (fun b hb => hb'.block b (h.low b hb))
theorem IX.x_ne (h : IX w S N xb hb cb Dh Dc L) : xb ≠ hb ∧ xb ≠ cb := by
  obtain ⟨es, cl, h1, _⟩ := h.hom
  obtain ⟨es', cl', h2, _⟩ := h.cel
  have := h.st
  refine ⟨?_, ?_⟩
  · rintro rfl; rw [h1] at this; cases this
  · rintro rfl; rw [h2] at this; cases this
theorem In.x_ne {b : Nat} {D : DataW Unit} {c r : Int} (h : In w S N hb cb b D L c r) (hx : IX w S N xb hb cb Dh Dc L) : b ≠ xb := by
  obtain ⟨es, cl, h1, _⟩ := h.own
  have := hx.st
  rintro rfl; rw [h1] at this; cases this

/-! ### look-ups -/
theorem hlook_some (h : IX w S N xb hb cb Dh Dc L) {k : Int} (hk : Fits k) {t : Un} (ht : lk L k = some t) (o : Bool) :
    (Instr.lookup 49 (.map (some hb)) (.int .i64 k) o).run Try.prog w = .ok (if o then .tuple #[pv (t.x / 16) (t.y / 16), .bool true] else pv (t.x / 16) (t.y / 16)) w := by
  have hl := h.homv k
  rw [ht] at hl
  have hl' : look Dh (key k) = some (td (t.x / 16) (t.y / 16)) := hl
  obtain ⟨h1, h2⟩ := look_some hl'
  cases o with
  | false =>
    obtain ⟨v, ps, hrun, hv⟩ := h.hom.lookup kInt Try.underlying49 (zero54 w) (rt_mk 0 0) (key_of hk)
    rw [h2] at hv
    obtain ⟨a, b, rfl, hy⟩ := rt_inv hv
    injection hy with hy _
    obtain ⟨e1, e2⟩ := td_inj hy
    rw [hrun, e1, e2]; rfl
  | true =>
    obtain ⟨v, ps, hrun, hv⟩ := h.hom.look_ok kInt Try.underlying49 (zero54 w) (rt_mk 0 0) (key_of hk)
    rw [h2] at hv
    obtain ⟨a, b, rfl, hy⟩ := rt_inv hv
    injection hy with hy _
    obtain ⟨e1, e2⟩ := td_inj hy
    rw [hrun, e1, e2, h1]; rfl
theorem hlook_none (h : IX w S N xb hb cb Dh Dc L) {k : Int} (hk : Fits k) (ht : lk L k = none) (o : Bool) :
    (Instr.lookup 49 (.map (some hb)) (.int .i64 k) o).run Try.prog w = .ok (if o then .tuple #[pv 0 0, .bool false] else pv 0 0) w := by
  have hl := h.homv k
  rw [ht] at hl
  have hl' : look Dh (key k) = none := hl
  obtain ⟨h1, h2⟩ := look_none hl'
  cases o with
  | false =>
    obtain ⟨v, ps, hrun, hv⟩ := h.hom.lookup kInt Try.underlying49 (zero54 w) (rt_mk 0 0) (key_of hk)
    rw [h2] at hv
    obtain ⟨a, b, rfl, hy⟩ := rt_inv hv
    injection hy with hy _
    obtain ⟨e1, e2⟩ := td_inj hy
    rw [hrun, ← e1, ← e2]; rfl
  | true =>
    obtain ⟨v, ps, hrun, hv⟩ := h.hom.look_ok kInt Try.underlying49 (zero54 w) (rt_mk 0 0) (key_of hk)
    rw [h2] at hv
    obtain ⟨a, b, rfl, hy⟩ := rt_inv hv
    injection hy with hy _
    obtain ⟨e1, e2⟩ := td_inj hy
    rw [hrun, ← e1, ← e2, h1]; rfl
theorem clook_some (h : w.ownsMap Try.prog 54 Rm cb N Dc) {c r : Int} (hc : Sd c) (hr : Sd r) {b : Nat} (hl : look Dc (ck c r) = some (bl b)) :
    (Instr.lookup 50 (.map (some cb)) (pv c r) false).run Try.prog w = .ok (.map (some b)) w := by
  obtain ⟨h1, h2⟩ := look_some hl
  obtain ⟨es, clock, hb, F, hs, rfl⟩ := h
  rcases Maps.fit_look false kCell Try.underlying50 (zero55 w) hb F (ck_of hc.fits hr.fits) with ⟨hrun, _, hat⟩ | ⟨e0, y, _, _, hrun, hR, hat, _⟩
  · have := (hat .nil).symm.trans (h2 .nil)
    cases this
  · obtain ⟨b', e1, rfl⟩ := rm_inv hR
    have e2 : b' = b := bl_inj ((hat .nil).symm.trans (h2 .nil))
    rw [hrun, e1, e2]; rfl
theorem clook_none (h : w.ownsMap Try.prog 54 Rm cb N Dc) {c r : Int} (hc : Sd c) (hr : Sd r) (hl : look Dc (ck c r) = none) :
    (Instr.lookup 50 (.map (some cb)) (pv c r) false).run Try.prog w = .ok (.map none) w := by
  obtain ⟨h1, h2⟩ := look_none hl
  obtain ⟨es, clock, hb, F, hs, rfl⟩ := h
  rcases Maps.fit_look false kCell Try.underlying50 (zero55 w) hb F (ck_of hc.fits hr.fits) with ⟨hrun, _, hat⟩ | ⟨e0, y, _, _, hrun, hR, hat, _⟩
  · rw [hrun]; rfl
  · obtain ⟨b', e1, rfl⟩ := rm_inv hR
    have := (hat .nil).symm.trans (h2 .nil)
    cases this
theorem ilook {b : Nat} {D : DataW Unit} {c r : Int} (h : In w S N hb cb b D L c r) {k : Int} (hk : Fits k) {t : Un} (ht : lk L k = some t) (hc : t.x / 16 = c) (hr : t.y / 16 = r) :
    (Instr.lookup 55 (.map (some b)) (.int .i64 k) false).run Try.prog w = .ok (pv t.x t.y) w := by
  have hl := h.at' k
  rw [ht] at hl
  have hl' : look D (key k) = some (td t.x t.y) := by rw [hl]; simp [hc, hr]
  obtain ⟨h1, h2⟩ := look_some hl'
  obtain ⟨v, ps, hrun, hv⟩ := h.own.lookup kInt Try.underlying55 (zero32 w) (rt_mk 0 0) (key_of hk)
  rw [h2] at hv
  obtain ⟨a, b, rfl, hy⟩ := rt_inv hv
  injection hy with hy _
  obtain ⟨e1, e2⟩ := td_inj hy
  rw [hrun, e1, e2]
/-- The cell in which the unit is. -/
theorem IX.home (h : IX w S N xb hb cb Dh Dc L) {k : Int} {t : Un} (ht : lk L k = some t) : Sd (t.x / 16) ∧ Sd (t.y / 16) ∧ ∃ b D, look Dc (ck (t.x / 16) (t.y / 16)) = some (bl b) ∧ In w S N hb cb b D L (t.x / 16) (t.y / 16) := by
  obtain ⟨h1, h2⟩ := lk_some ht
  have ho := h.good.ok t h1
  have hx := sd_div ho.2.1
  have hy := sd_div ho.2.2
  refine ⟨hx, hy, ?_⟩
  rcases h.inn _ _ hx hy with ⟨_, h3⟩ | h3
  · exact absurd ⟨rfl, rfl⟩ (h3 t h1)
  · exact h3
end

/-! ### what a call may turn -/
/-- From w to w' only the blocks of S, and what is new, have turned. -/
structure OffP (w w' : World) (S : Nat → Prop) : Prop where
  os : w'.os = w.os
  tape : w'.tape = w.tape
  output : w'.output = w.output
  size : w.heap.size ≤ w'.heap.size
  block : ∀ k, k < w.heap.size → ¬ S k → w'.heap[k]? = w.heap[k]?
theorem OffP.refl (w : World) (S : Nat → Prop) : OffP w w S := ⟨rfl, rfl, rfl, Nat.le_refl _, fun _ _ _ => rfl⟩
theorem OffP.trans {a b c : World} {S S' : Nat → Prop} (h : OffP a b S) (k : OffP b c S') (hs : ∀ x, S' x → S x ∨ a.heap.size ≤ x) : OffP a c S :=
  ⟨k.os.trans h.os, k.tape.trans h.tape, k.output.trans h.output, Nat.le_trans h.size k.size, fun i hi hn => (k.block i (by have := h.size; omega) (fun e => by rcases hs i e with h1 | h1; exact hn h1; omega)).trans (h.block i hi hn)⟩
theorem OffP.same {a b c : World} {S : Nat → Prop} (h : OffP a b S) (k : OffP b c S) : OffP a c S := h.trans k (fun _ hx => .inl hx)
theorem OffP.of_below {w w' : World} {S : Nat → Prop} (h : Below w.heap.size w w') : OffP w w' S := ⟨h.os, h.tape, h.output, h.size, fun k hk _ => h.block k hk⟩
theorem OffP.below {w w' : World} {S : Nat → Prop} {B : Nat} (h : OffP w w' S) (hB : B ≤ w.heap.size) (hb : ∀ k, S k → B ≤ k) : Below B w w' :=
  ⟨h.os, h.tape, h.output, h.size, fun k hk => h.block k (by omega) (fun e => by have := hb k e; omega)⟩
theorem OffP.of_grown {w w' : World} {r : Option Nat} {S : Nat → Prop} (h : w.grownBy w' r) (hr : ∀ k, r = some k → S k) : OffP w w' S := ⟨h.os, h.tape, h.output, h.size, fun k hk hn => h.block k hk (fun e => hn (hr k e.symm))⟩
theorem OffP.of_off {w w' : World} {bs : List Nat} (h : Off w w' bs) : OffP w w' (· ∈ bs) := ⟨h.os, h.tape, h.output, h.size, h.block⟩
theorem OffP.drew {w w' : World} {S : Nat → Prop} (h : OffP w w' S) : OffP w w'.drew S := ⟨h.os, h.tape, h.output, h.size, h.block⟩
theorem OffP.alloc {w w' : World} {S : Nat → Prop} (h : OffP w w' S) (o : Obj) : OffP w (w'.alloc o) S := h.trans (OffP.of_below (S := fun _ => False) ((Below.refl _ _).alloc (Nat.le_refl _) o)) (fun _ hx => hx.elim)
end Go.Proofs.Ytehllnbpianpfaa.Con
