/-
  What holds round by round of CastOnce: one structure, and what each step leaves of it.
-/
import Derived.Test.YtmhnkjjcipcjlaaSma
import Derived.Test.YtmhnkjjcipcjlaaApg
import Derived.Deep.CutRange
namespace Go.Proofs.Ytmhnkjjcipcjlaa.Con
open Go.RowKit Go.Maps
set_option linter.unusedVariables false

theorem and_le (k : Int) (n : Nat) (hn : n < 2 ^ 62) : ∃ d : Nat, bits BinOp.and IntKind.i64 k (n : Int) = (d : Int) ∧ d ≤ n := by
  have h : bits BinOp.and IntKind.i64 k (n : Int) = IntKind.i64.wrap ((BitVec.ofInt 64 k &&& BitVec.ofInt 64 (n : Int)).toNat : Int) := rfl
  have h2 : (BitVec.ofInt 64 k &&& BitVec.ofInt 64 (n : Int)).toNat ≤ n := by
    rw [BitVec.toNat_and]
    have h3 : (BitVec.ofInt 64 (n : Int)).toNat = n := by
      rw [BitVec.ofInt_natCast, BitVec.toNat_ofNat]
      exact Nat.mod_eq_of_lt (by omega)
    rw [h3]
    exact Nat.and_le_right
  refine ⟨_, ?_, h2⟩
  rw [h]
  exact IntWalk.i64_in _ (by omega)
/-- A row of one's own, cut. -/
theorem OW.cut {α : Type} {E : El α} {w : World} {base n m c : Nat} {A : Option Addr} {l : List α} (h : OW E w base (.slice A n c) l) (hm : m ≤ l.length) (hA : A ≠ none) : OW E w base (.slice A m c) (l.take m) := by
  have hlen : (l.take m).length = m := by rw [List.length_take]; omega
  show w.ownsRow base E.e E.k (.slice A m c) (l.take m).length (flat E (l.take m))
  rw [hlen]
  refine ⟨by rw [flat_len, hlen], ?_⟩
  rcases h.2 with ⟨hv, h0⟩ | ⟨b, cap, cur, hv, hb, hg, hn, hM, hs, hx⟩
  · injection hv with h1 h2 h3
    exact absurd h1 hA
  · injection hv with h1 h2 h3
    subst h1; subst h3
    refine .inr ⟨b, c, cur, rfl, hb, hg, by omega, hM, hs, ?_⟩
    rw [← flat_take, ← hx, List.take_take]
    congr 1
    exact (Nat.min_eq_left (Nat.mul_le_mul_right _ hm)).symm
/-- What holds ahead of each round: D is done, M has begun, S is the Casting. -/
structure Ok (w0 wr : World) (k : Nat) (A : Option Addr) (c : Nat) (M D : List Ca) (S : Cg) (t : Int) : Prop where
  once : Once S D t
  m : M = D ++ pend S
  ml : M.length ≤ k
  fm : ∀ x ∈ M, FCa x
  fs : FCg S
  tk : t ≤ 3 * (k : Int)
  own : OW ca wr (w0.heap.size + 1) (.slice A M.length c) M
  box : Gx wr w0.heap.size S
  low : Below w0.heap.size w0 wr
section
variable {w0 wr w' : World} {k : Nat} {A : Option Addr} {c : Nat} {M D : List Ca} {S : Cg} {t : Int}
theorem Ok.of (h : Ok w0 wr k A c M D S t) (hb : Below wr.heap.size wr w') : Ok w0 w' k A c M D S t :=
  ⟨h.once, h.m, h.ml, h.fm, h.fs, h.tk, h.own.of hb, h.box.of hb h.box.lt, below_more h.low hb h.low.size⟩
theorem Ok.later {u : Int} (h : Ok w0 wr k A c M D S t) (h1 : t ≤ u) (h2 : u ≤ t + 3) : Ok w0 wr (k + 1) A c M D S u :=
  ⟨h.once.later h1, h.m, by have := h.ml; omega, h.fm, h.fs, by have := h.tk; omega, h.own, h.box, h.low⟩
theorem Ok.start (w0 : World) : Ok w0 (w0.alloc (oCg ⟨zCa, zCa, 0⟩)) 0 none 0 [] [] ⟨zCa, zCa, 0⟩ 0 :=
  ⟨once_nil, rfl, Nat.le_refl _, fun x hx => (by cases hx), fz, by omega, OW.nil ca _ _, Gx.new w0 _, below_box w0 _⟩
theorem Ok.dl (h : Ok w0 wr k A c M D S t) : M.length = D.length + (pend S).length := by rw [h.m, List.length_append]
theorem Ok.size (h : Ok w0 wr k A c M D S t) : w0.heap.size + 1 ≤ wr.heap.size := h.box.lt
theorem fits_pend {S : Cg} (h : FCg S) : ∀ x ∈ pend S, FCa x := by
  intro x hx
  unfold pend at hx
  rcases List.mem_append.1 hx with hx | hx
  · split at hx
    · cases hx
    · rcases List.mem_singleton.1 hx with rfl; exact h.1
  · split at hx
    · cases hx
    · rcases List.mem_singleton.1 hx with rfl; exact h.2.1
theorem fits_be {S u : Cg} {id cast tgt t : Int} (h : FCg S) (h1 : Fits id) (h2 : Fits tgt) (h3 : Fits t) (hu : beG S id cast tgt t = some u) : FCg u := by
  rw [be_of] at hu
  split at hu
  · cases hu
  · have hm : Fits (mx t S.wait) := by unfold mx; split; exact h.2.2; exact h3
    split at hu
    · injection hu with hu; subst hu
      exact ⟨⟨h1, h2, hm, held_fits _, trivial⟩, h.2.1, held_fits _⟩
    · injection hu with hu; subst hu
      exact ⟨h.1, ⟨h1, h2, h.1.2.2.2.1, held_fits _, trivial⟩, h.2.2⟩
/-- What Begin answers, as the walk asks for it: the cast's since and until, and that the Casting is one of the two kinds. -/
theorem Ok.beg {id cast tgt : Int} (h : Ok w0 wr k A c M D S t) (hk : k ≤ 200) (hid : 1 ≤ id) (hc : 0 ≤ cast) (hc2 : cast ≤ 15) (f1 : Fits id) (f2 : Fits tgt) {u : Cg} (hu : beG S id cast tgt t = some u) :
    ∃ f g : Int, (if S.now.ability = 0 then u.now else u.next) = ⟨id, tgt, f, g⟩ ∧ g - f = cast ∧ (S.now.ability = 0 → t ≤ f) ∧ f ≤ t + 2 ∧ 0 ≤ f ∧ (∀ x, M.getLast? = some x → x.since + 3 ≤ f ∧ Fits x.since) ∧ FCg u ∧ Once u D t ∧ M ++ [⟨id, tgt, f, g⟩] = D ++ pend u ∧ FCa ⟨id, tgt, f, g⟩ := by
  have ht : t ≤ 1000000 := by have := h.tk; omega
  have h0 := h.once.t0
  obtain ⟨cc, e1, e2, e3, e4, e5, e6, e7, e8, e9⟩ := h.once.beg ht hid hc hc2 hu
  obtain ⟨ca, ct, cs, cu⟩ := cc
  simp only at e2 e3 e4 e5 e6 e7
  subst e2; subst e3
  have fu := fits_be h.fs f1 f2 (show Fits t from ⟨by omega, by omega⟩) hu
  have hin : (⟨ca, ct, cs, cu⟩ : Ca) ∈ pend u := by rw [e8]; simp
  have hsm := e9.sm _ hin
  refine ⟨cs, cu, e1.symm, e4, e5, e6, hsm.1, fun x hx => ⟨e7 x (by rw [← h.m]; exact hx), (h.fm x (List.mem_of_getLast? hx)).2.2.1⟩, fu, e9, by rw [e8, h.m, List.append_assoc], fits_pend fu _ hin⟩
theorem Ok.more {u : Cg} {cc : Ca} {A' : Option Addr} {c' : Nat} {lm : List Ca} (h : Ok w0 wr k A c M D S t) (hl : M.length + 1 ≤ k) (hlm : lm = M ++ [cc]) (hm : M ++ [cc] = D ++ pend u) (hf : FCa cc) (fu : FCg u) (ho : Once u D t) (hO : OW ca w' (w0.heap.size + 1) (.slice A' lm.length c') lm) (hX : Gx w' w0.heap.size u) (hB : Below w0.heap.size w0 w') : Ok w0 w' k A' c' lm D u t := by
  subst hlm
  exact ⟨ho, hm, by simp; omega, fun x hx => by rcases List.mem_append.1 hx with hx | hx; exact h.fm x hx; rcases List.mem_singleton.1 hx with rfl; exact hf, fu, h.tk, hO, hX, hB⟩
/-- A Step. -/
theorem Ok.step {u : Cg} {L : List Ca} (h : Ok w0 wr k A c M D S t) (hk : k ≤ 200) (hs : stG S t = (L, u)) : Once u (D ++ L) t ∧ FCg u ∧ M = (D ++ L) ++ pend u ∧ ¬ due u t ∧ (∀ i x, L[i]? = some x → M[D.length + i]? = some x ∧ x.untl ≤ t) := by
  have ht : t ≤ 1000000 := by have := h.tk; omega
  obtain ⟨p1, p2, p3⟩ := st_pend S t
  have h1 := h.once.step ht
  have h2 := fits_st h.fs t
  rw [hs] at p1 p2 p3 h1 h2
  simp only at p1 p2 p3 h1 h2
  refine ⟨h1, h2, by rw [h.m, ← p1, List.append_assoc], p3, fun i x hx => ⟨?_, p2 x (List.mem_of_getElem? hx)⟩⟩
  rw [h.m, ← p1, List.getElem?_append_right (by omega), Nat.add_sub_cancel_left, List.getElem?_append_left (List.getElem?_eq_some_iff.1 hx).1]
  exact hx
theorem Ok.stepped {u : Cg} {L : List Ca} (h : Ok w0 wr k A c M D S t) (h1 : Once u (D ++ L) t) (h2 : FCg u) (h3 : M = (D ++ L) ++ pend u) (hO : OW ca w' (w0.heap.size + 1) (.slice A M.length c) M) (hX : Gx w' w0.heap.size u) (hB : Below w0.heap.size w0 w') : Ok w0 w' k A c M (D ++ L) u t :=
  ⟨h1, h3, h.ml, h.fm, h2, h.tk, hO, hX, hB⟩
/-- A Stop. -/
theorem pend_len (S : Cg) : ((pend S).length : Int) = spN S := by
  unfold pend spN
  rw [List.length_append]
  split <;> split <;> simp
theorem Ok.stopped {A' : Option Addr} (h : Ok w0 wr k A c M D S t) (hk : k ≤ 200) {c' : Nat} (hO : OW ca w' (w0.heap.size + 1) (.slice A' D.length c') D) (hX : Gx w' w0.heap.size ⟨zCa, zCa, t + 3⟩) (hB : Below w0.heap.size w0 w') : Ok w0 w' k A' c' D D ⟨zCa, zCa, t + 3⟩ t :=
  ⟨h.once.stop, (List.append_nil D).symm, by have := h.dl; have := h.ml; omega, fun x hx => h.fm x (by rw [h.m]; exact List.mem_append_left _ hx), ⟨fits_zc, fits_zc, by have := h.once.t0; have := h.tk; exact (show Fits (t + 3) from ⟨by omega, by omega⟩)⟩, h.tk, hO, hX, hB⟩
theorem Ok.take (h : Ok w0 wr k A c M D S t) : M.take D.length = D := by rw [h.m]; simp
/-- All that is left is done at the end of numbers. -/
theorem Ok.all {u : Cg} {L : List Ca} (h : Ok w0 wr k A c M D S t) (hs : stG S 9223372036854775807 = (L, u)) : D.length + L.length = M.length := by
  have h1 := st_all h.once.rt (t := 9223372036854775807) (fun c hc => (fits_pend h.fs c hc).2.2.2.1.2)
  rw [hs] at h1
  simp only at h1
  rw [h1, h.dl]
theorem Ok.right (h : Ok w0 wr k A c M D S t) : rgB S = true := (rg_iff S).2 h.once.rt
end
end Go.Proofs.Ytmhnkjjcipcjlaa.Con
