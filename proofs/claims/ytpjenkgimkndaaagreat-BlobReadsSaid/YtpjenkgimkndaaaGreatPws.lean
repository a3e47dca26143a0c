/-
  Rows that may be written over: in blocks from N on, in none that is frozen.
-/
import Derived.Test.YtpjenkgimkndaaaGreatFin
import Derived.Test.YtpjenkgimkndaaaGreatEql
import Derived.Laws.IdiomCopy
namespace Go.Proofs.YtpjenkgimkndaaaGreat.Con
open Go.RowKit Go.Maps

theorem size_setCells (b : Nat) : ∀ (vs : List Value) (o : Nat) (w : World), (w.setCells b o vs).heap.size = w.heap.size
  | [], _, _ => rfl
  | v :: r, o, w => by rw [World.setCells, size_setCells b r]; simp
theorem below_setCells (b : Nat) {B : Nat} {a : World} (hB : B ≤ b) : ∀ (vs : List Value) (o : Nat) (w : World), Below B a w → Below B a (w.setCells b o vs)
  | [], _, _, h => h
  | v :: r, o, _, h => below_setCells b hB r (o + 1) _ (h.setCell (p := ⟨b, o, none⟩) hB v)

section
variable {α : Type}
def PW (E : El α) (w : World) (N : Nat) (A : Option Addr) (l : List α) : Prop :=
  l = [] ∨ ∃ b off, A = some ⟨b, off, none⟩ ∧ N ≤ b ∧ b < w.heap.size ∧ (∀ i x, l[i]? = some x → ∀ j v, (E.enc x)[j]? = some v → w.cell? ⟨b, off + i * E.k + j, none⟩ = some v) ∧ ∀ o, w.frozen? ⟨b, o, none⟩ = false
variable {E : El α}
theorem PW.nil (E : El α) (w : World) (N : Nat) (A : Option Addr) : PW E w N A [] := .inl rfl
theorem PW.rw' {w : World} {N : Nat} {A : Option Addr} {l : List α} (h : PW E w N A l) : RW E w w.heap.size A l := by
  rcases h with rfl | ⟨b, off, hA, _, hlt, hc, _⟩
  · exact .inl rfl
  · exact .inr ⟨b, off, hA, hlt, hc⟩
theorem PW.of {w w' : World} {N : Nat} {A : Option Addr} {l : List α} (h : PW E w N A l) (hb : Below w.heap.size w w') : PW E w' N A l := by
  rcases h with rfl | ⟨b, off, hA, hN, hlt, hc, hf⟩
  · exact .inl rfl
  · exact .inr ⟨b, off, hA, hN, Nat.lt_of_lt_of_le hlt hb.size, fun i x hx j v hv => (hb.cell (p := ⟨b, off + i * E.k + j, none⟩) hlt).trans (hc i x hx j v hv), fun o => (hb.frozen (p := ⟨b, o, none⟩) hlt).trans (hf o)⟩
theorem PW.mono {w : World} {N N' : Nat} {A : Option Addr} {l : List α} (h : PW E w N A l) (hN : N' ≤ N) : PW E w N' A l := by
  rcases h with rfl | ⟨b, off, hA, h1, h2⟩
  · exact .inl rfl
  · exact .inr ⟨b, off, hA, Nat.le_trans hN h1, h2⟩
theorem OW.pw {w : World} {base n c : Nat} {A : Option Addr} {l : List α} (h : OW E w base (.slice A n c) l) : PW E w base A l := by
  obtain ⟨A', c', hv, hr, h2⟩ := h.shape
  injection hv with e1 e2 e3
  subst e1
  rcases h2 with ⟨rfl, rfl, _⟩ | ⟨b, cur, hA, hb, hlt, _, hg, hs, hm, hx⟩
  · exact .inl rfl
  · rcases hr with rfl | ⟨b', off', hA', hlt', hc⟩
    · exact .inl rfl
    · refine .inr ⟨b', off', hA', ?_, hlt', hc, fun o => ?_⟩
      · rw [hA] at hA'; injection hA' with e; injection e with e1; omega
      · rw [hA] at hA'; injection hA' with e; injection e with e1
        subst e1
        simp [World.frozen?, hg]
theorem PW.setC {w : World} {N : Nat} {A : Option Addr} {l : List α} (h : PW E w N A l) {b : Nat} (hb : b < N) (o : Nat) (vs : List Value) : PW E (w.setCells b o vs) N A l := by
  rcases h with rfl | ⟨b', off, hA, hN, hlt, hc, hf⟩
  · exact .inl rfl
  · refine .inr ⟨b', off, hA, hN, by rw [size_setCells]; exact hlt, fun i x hx j v hv => ?_, fun o => by rw [World.frozen?_setCells]; exact hf o⟩
    rw [World.cell?_setCells_out b vs o w _ (fun e => by simp at e; omega)]
    exact hc i x hx j v hv
theorem PW.set1 {w : World} {N : Nat} {A : Option Addr} {l : List α} (h : PW E w N A l) {a : Addr} (ha : a.block < N) (u : Value) : PW E (w.setCell a u) N A l := by
  rcases h with rfl | ⟨b', off, hA, hN, hlt, hc, hf⟩
  · exact .inl rfl
  · refine .inr ⟨b', off, hA, hN, by simpa using hlt, fun i x hx j v hv => ?_, fun o => by rw [World.frozen?_setCell]; exact hf o⟩
    rw [World.cell?_setCell_other _ _ _ _ (fun e => by subst e; simp at ha; omega)]
    exact hc i x hx j v hv
theorem PW.put {w : World} {N : Nat} {A : Option Addr} {l : List α} (h : PW E w N A l) {b off k : Nat} (hA : A = some ⟨b, off, none⟩) (hk : k < l.length) (x : α) : PW E (w.setCells b (off + k * E.k) (E.enc x)) N A (l.set k x) := by
  rcases h with rfl | ⟨b', off', hA', hN, hlt, hc, hf⟩
  · simp at hk
  · rw [hA] at hA'; injection hA' with e; injection e with e1 e2
    subst e1; subst e2
    refine .inr ⟨b, off, hA, hN, by rw [size_setCells]; exact hlt, fun i y hy j v hv => ?_, fun o => by rw [World.frozen?_setCells]; exact hf o⟩
    have hj : j < E.k := by have := (List.getElem?_eq_some_iff.1 hv).1; rw [E.klen] at this; exact this
    rw [List.getElem?_set] at hy
    by_cases hik : k = i
    · subst hik
      rw [if_pos rfl, if_pos hk] at hy
      injection hy with hy
      subst hy
      have old : ∀ j', j' < (E.enc x).length → (w.cell? ⟨b, off + k * E.k + j', none⟩).isSome = true := by
        intro j' hj'
        rw [E.klen] at hj'
        have h1 := hc k _ (List.getElem?_eq_getElem hk) j' _ (List.getElem?_eq_getElem (by rw [E.klen]; exact hj'))
        rw [h1]; rfl
      have h2 := World.cell?_setCells_in b (E.enc x) (off + k * E.k) w old j (by rw [E.klen]; exact hj)
      rw [h2]
      obtain ⟨_, h3⟩ := List.getElem?_eq_some_iff.1 hv
      rw [h3]
    · rw [if_neg hik] at hy
      rw [World.cell?_setCells_out b (E.enc x) (off + k * E.k) w _ (fun _ _ => by
        rw [E.klen]
        show off + i * E.k + j < off + k * E.k ∨ off + k * E.k + E.k ≤ off + i * E.k + j
        rcases Nat.lt_or_gt_of_ne (fun e => hik e.symm) with hlt | hlt
        · left; have := Nat.mul_le_mul_right E.k hlt; rw [Nat.succ_mul] at this; omega
        · right; have := Nat.mul_le_mul_right E.k hlt; rw [Nat.succ_mul] at this; omega)]
      exact hc i y hy j v hv
/-- Row k of a row that may be written over, in a world in which it lies as it did. -/
theorem PW.at' {w : World} {N : Nat} {A : Option Addr} {l : List α} (h : PW E w N A l) {k : Nat} {x : α} (hx : l[k]? = some x) :
    ∃ b off, A = some ⟨b, off, none⟩ ∧ N ≤ b ∧ b < w.heap.size ∧ (∀ j v, (E.enc x)[j]? = some v → w.cell? ⟨b, off + k * E.k + j, none⟩ = some v) ∧ ∀ o, w.frozen? ⟨b, o, none⟩ = false := by
  rcases h with rfl | ⟨b, off, hA, hN, hlt, hc, hf⟩
  · simp at hx
  · exact ⟨b, off, hA, hN, hlt, hc k x hx, hf⟩
end

/-- Content that may be written over. -/
structure PC (w : World) (N : Nat) (c : Cn) : Prop where
  abs : PW ab w N c.aA c.ab
  aus : PW au w N c.uA c.au
  fos : PW fo w N c.fA c.fo
  wls : PW bo w N c.gA c.wl
  effs : ∀ a ∈ c.ab, PW ef w N a.ea a.eff
  scrs : ∀ f ∈ c.fo, PW ln w N f.sa f.script
  hors : ∀ f ∈ c.fo, PW pz w N f.ha f.hoard
theorem PC.rc {w : World} {N : Nat} {c : Cn} (h : PC w N c) : RC w w.heap.size c :=
  ⟨h.abs.rw', h.aus.rw', h.fos.rw', rw_rb h.wls.rw', fun a ha => (h.effs a ha).rw', fun a ha => (h.scrs a ha).rw', fun a ha => (h.hors a ha).rw'⟩
theorem PC.of {w w' : World} {N : Nat} {c : Cn} (h : PC w N c) (hb : Below w.heap.size w w') : PC w' N c :=
  ⟨h.abs.of hb, h.aus.of hb, h.fos.of hb, h.wls.of hb, fun a ha => (h.effs a ha).of hb, fun a ha => (h.scrs a ha).of hb, fun a ha => (h.hors a ha).of hb⟩
theorem PC.mono {w : World} {N N' : Nat} {c : Cn} (h : PC w N c) (hN : N' ≤ N) : PC w N' c :=
  ⟨h.abs.mono hN, h.aus.mono hN, h.fos.mono hN, h.wls.mono hN, fun a ha => (h.effs a ha).mono hN, fun a ha => (h.scrs a ha).mono hN, fun a ha => (h.hors a ha).mono hN⟩
theorem Sm.of_pl {c d : Cn} (h : Sm c) (e : d.pl = c.pl) : Sm d := by
  obtain ⟨h1, h2, h3, _, _, h6, _⟩ := (Cn.pl_iff d c).1 e
  have l1 := congrArg List.length h1
  have l2 := congrArg List.length h2
  have l3 := congrArg List.length h3
  have l6 := congrArg List.length h6
  simp only [List.length_map] at l1 l3
  refine ⟨by rw [l1]; exact h.abs, by rw [l2]; exact h.aus, by rw [l3]; exact h.fos, by rw [l6]; exact h.wls, fun a ha => ?_, fun f hf => ?_, fun f hf => ?_⟩
  · have : a.pl ∈ c.ab.map Ab.pl := by rw [← h1]; exact List.mem_map_of_mem ha
    obtain ⟨a', ha', e'⟩ := List.mem_map.1 this
    have := ((Ab.pl_iff a' a).1 e').2.2.2.2.2.2.2
    rw [← this]; exact h.effs a' ha'
  · have : f.pl ∈ c.fo.map Fo.pl := by rw [← h3]; exact List.mem_map_of_mem hf
    obtain ⟨a', ha', e'⟩ := List.mem_map.1 this
    have := ((Fo.pl_iff a' f).1 e').2.2.2.2.2.2.1
    rw [← this]; exact h.scrs a' ha'
  · have : f.pl ∈ c.fo.map Fo.pl := by rw [← h3]; exact List.mem_map_of_mem hf
    obtain ⟨a', ha', e'⟩ := List.mem_map.1 this
    have := ((Fo.pl_iff a' f).1 e').2.2.2.2.2.2.2
    rw [← this]; exact h.hors a' ha'
end Go.Proofs.YtpjenkgimkndaaaGreat.Con
