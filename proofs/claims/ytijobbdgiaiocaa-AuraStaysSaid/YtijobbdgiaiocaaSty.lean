/-
  What the stage's theorem wants: rows that are too long, right content's auras, what a step leaves, an aura that is laid again and again.
-/
import Derived.Test.YtijobbdgiaiocaaPgf
import Derived.Test.YtijobbdgiaiocaaPgg
import Derived.Test.YtijobbdgiaiocaaPge
import Derived.Test.YtijobbdgiaiocaaSma
namespace Go.Proofs.Ytijobbdgiaiocaa.Con
open Go.RowKit Go.Maps

theorem flaw_none {α : Type} {ok : α → Prop} {id : α → Int} : ∀ {l : List α} {last : Int} {i : Nat}, Flaw ok id l last i none → i ≤ 64 → (∀ a ∈ l, ok a ∧ last < id a) ∧ l.Pairwise (fun a b => id a < id b) ∧ i + l.length ≤ 64
  | [], _, i, _, hi => ⟨fun a ha => (by cases ha), .nil, by simpa using hi⟩
  | x :: s, last, i, h, hi => by
    rcases h with ⟨_, e⟩ | ⟨hn, h⟩
    · cases e
    · simp only [not_or, Classical.not_not] at hn
      obtain ⟨h1, h2, h3⟩ := hn
      obtain ⟨k1, k2, k3⟩ := flaw_none h (by omega)
      refine ⟨fun a ha => ?_, .cons (fun a ha => (k1 a ha).2) k2, by simp; omega⟩
      rcases List.mem_cons.1 ha with rfl | ha
      · exact ⟨h3, by omega⟩
      · have := (k1 a ha); exact ⟨this.1, by omega⟩
/-- In content that is right each aura is the first of its Id. -/
theorem lk_self {L : List Au} (h : L.Pairwise (fun a b => a.id < b.id)) {k : Nat} {a : Au} (hk : L[k]? = some a) : lkB L a.id = true ∧ lkA L a.id = a := by
  rcases lk_fd a.id L with ⟨h1, i, h2, h3, h4⟩ | ⟨_, _, h3⟩
  · refine ⟨h1, ?_⟩
    obtain ⟨q1, e1⟩ := List.getElem?_eq_some_iff.1 hk
    obtain ⟨q2, e2⟩ := List.getElem?_eq_some_iff.1 h2
    have hik : i = k := by
      rcases Nat.lt_trichotomy i k with hlt | rfl | hlt
      · have := List.pairwise_iff_getElem.1 h i k q2 q1 hlt
        rw [e1, e2] at this; omega
      · rfl
      · exact absurd rfl (h4 k a hlt hk)
    subst hik
    rw [← e2, e1]
  · exact absurd rfl (h3 a (List.mem_of_getElem? hk))
theorem right_au {c : Cn} (h : RightC c) : (∀ a ∈ c.au, AuOk a) ∧ c.au.Pairwise (fun a b => a.id < b.id) := by
  obtain ⟨h1, h2, _⟩ := flaw_none h.2.1 (by omega)
  exact ⟨fun a ha => (h1 a ha).1, h2⟩

set_option maxRecDepth 20000 in
set_option maxHeartbeats 4000000 in
theorem aright_big {w : World} {B : Nat} {c : Cn} {A : Option Addr} {n cp : Nat} (hc : RC w B c) (hs : Sm c) (h16 : (16 : Int) < n) (hB : B ≤ w.heap.size) :
    Calls Try.prog 18 #[cnv c, .slice A n cp] w fun e w' => e = .returned (.bool false) ∧ Below w.heap.size w w' := by
  have hb := below_box w (oCn c)
  obtain ⟨rc, hrc⟩ := bex (RightC c)
  have HX := Lib.hid hb
  have HRc := Lib.hid (right_c (hc.below hb hB) (Nat.le_trans hB hb.size) hs rc hrc)
  clear hc hs hb hrc
  go_enter Try.func18, Try.ntmps18
  cases rc with
  | false =>
    go_wp2_with (first | ((with_reducible refine HRc.out.mono ?_); rintro e w1 ⟨rfl, hB1⟩))
    go_ret
    exact ⟨rfl, HX.out.trans (hB1.mono HX.out.size)⟩
  | true =>
    go_wp2_with (first | ((with_reducible refine HRc.out.mono ?_); rintro e w1 ⟨rfl, hB1⟩))
    go_ret
    exact ⟨rfl, HX.out.trans (hB1.mono HX.out.size)⟩

/-- The row at hand: right, of n. -/
structure SR (c : Cn) (V : World) (A : Option Addr) (n : Nat) (M : List Ac) : Prop where
  rw : RW ac V V.heap.size A M
  ok : RightL c.au M
  nac : ∀ a ∈ M, NAc a
  len : M.length = n
theorem SR.n16 {c : Cn} {V : World} {A : Option Addr} {n : Nat} {M : List Ac} (h : SR c V A n M) : n ≤ 16 := by rw [← h.len]; exact h.ok.1
theorem SR.of {c : Cn} {V V' : World} {A : Option Addr} {n : Nat} {M : List Ac} (h : SR c V A n M) (hb : Below V.heap.size V V') : SR c V' A n M := ⟨(h.rw.below hb (Nat.le_refl _)).more hb.size, h.ok, h.nac, h.len⟩
section
variable {c : Cn} {V : World} {A : Option Addr} {n cp : Nat} {M : List Ac} (hA : AuC c V) (hau : ∀ a ∈ c.au, NAu a) (hok : ∀ a ∈ c.au, AuOk a) (h : SR c V A n M)
include hA hau hok h
/-- What laying leaves. -/
theorem st_apply (id src now : Int) (hno : Fits now) : ∃ (E : Int) (m : Nat), ((lkB c.au id = false ∧ E = 5) ∨ (lkB c.au id = true ∧ E = 4 ∧ n = 16) ∨ (lkB c.au id = true ∧ E = 0 ∧ m = n) ∨ (lkB c.au id = true ∧ E = 0 ∧ m = n + 1)) ∧
    Calls Try.prog 9 #[cnv c, .slice A n cp, .int .i64 id, .int .i64 src, .int .i64 now] V (fun e w' => ∃ A' c' M', e = .returned (.tuple #[.slice A' m c', .int .i64 E]) ∧ Hid (E = 0 → SR c w' A' m M') ∧ Below V.heap.size V w') := by
  have hn := h.n16
  have hap := apply_any (w := V) (B := V.heap.size) (A := A) (l := M) (n := n) (cp := cp) id src now hA hau h.nac h.len (by omega) h.rw (Nat.le_refl _) hno
  refine ⟨apE c.au M id src, (apL c.au M id src now).length, ?_, hap.mono fun e w' q => ?_⟩
  · cases hy : lkB c.au id with
    | false => exact .inl ⟨rfl, (ap_none (now := now) hy).1⟩
    | true =>
      rcases idx_cases (isAc id src) M with ⟨h1, _⟩ | ⟨k, x, h1, h2, _⟩
      · by_cases h16 : 16 ≤ M.length
        · exact .inr (.inl ⟨rfl, (ap_full (now := now) hy (by show idxI (isAc id src) M < 0; omega) h16).1, by rw [h.len] at h16; omega⟩)
        · have q := ap_new (now := now) hy (by show idxI (isAc id src) M < 0; omega) h16
          exact .inr (.inr (.inr ⟨rfl, q.1, by rw [q.2, List.length_append, h.len]; rfl⟩))
      · have q := ap_again (now := now) hy h1 h2
        exact .inr (.inr (.inl ⟨rfl, q.1, by rw [q.2, List.length_set, h.len]⟩))
  · obtain ⟨A', c', q1, q2, q3⟩ := q
    exact ⟨A', c', _, q1, Lib.hid (fun hE => ⟨q2.out.pw.rw', right_apply hok h.ok id src now hE, nac_apply hau h.nac id src now, rfl⟩), q3⟩
end
theorem st_take {c : Cn} {V : World} {A : Option Addr} {n cp : Nat} {M : List Ac} (hA : AuC c V) (h : SR c V A n M) (m0 : Int) (hm : Fits m0) : ∃ m : Int, ∃ k : Nat, Calls Try.prog 20 #[cnv c, .slice A n cp, .int .i64 m0] V (fun e w' => ∃ A' c' M', e = .returned (.tuple #[.slice A' k c', .int .i64 m]) ∧ Hid (SR c w' A' k M') ∧ Below V.heap.size V w') := by
  have hn := h.n16
  obtain ⟨S, m, G, hT⟩ : ∃ S m G, takeI (shK c.au M M.length) m0 = (S, m, G) := ⟨_, _, _, rfl⟩
  have hlen := h.len
  have htk := take15_any (w := V) (B := V.heap.size) (A := A) (l := M) (n := n) (cp := cp) m0 hT hA h.nac h.len (by omega) h.rw (Nat.le_refl _) hm
  refine ⟨m, (taK S G M n).length, htk.mono fun e w' q => ?_⟩
  obtain ⟨A', c', q1, q2, q3⟩ := q
  refine ⟨A', c', _, q1, Lib.hid ⟨q2.out.pw.rw', ?_, ?_, rfl⟩, q3⟩
  · rw [← hlen]; exact right_take h.ok hT
  · rw [← hlen]; exact nac_take h.nac (by omega) hT
theorem st_expire {c : Cn} {V : World} {A : Option Addr} {n cp : Nat} {M : List Ac} (h : SR c V A n M) (now : Int) : ∃ n1 n2 : Nat, n = n1 + n2 ∧ Calls Try.prog 11 #[.slice A n cp, .int .i64 now] V (fun e w' => ∃ A1 c1 A2 c2 M', e = .returned (.tuple #[.slice A1 n1 c1, .slice A2 n2 c2]) ∧ Hid (SR c w' A1 n1 M') ∧ Below V.heap.size V w') := by
  have hn := h.n16
  have hex := expire_any (w := V) (B := V.heap.size) (A := A) (l := M) (n := n) (c := cp) now h.len (by omega) h.rw (Nat.le_refl _)
  have hle : n ≤ M.length := by rw [h.len]; exact Nat.le_refl _
  refine ⟨_, _, (go_len (exP M now) M n).symm, hex.mono fun e w' q => ?_⟩
  obtain ⟨A1, c1, A2, c2, q1, q2⟩ := q
  exact ⟨A1, c1, A2, c2, _, q1, Lib.hid ⟨q2.out.a.pw.rw', right_go h.ok _ hle, nac_go h.nac _ hle, rfl⟩, q2.out.below⟩
theorem st_right {c : Cn} {V : World} {A : Option Addr} {n cp B : Nat} {M : List Ac} (h : SR c V A n M) (hc : RC V B c) (hs : Sm c) (hB : B ≤ V.heap.size) (hr : RightC c) :
    Calls Try.prog 18 #[cnv c, .slice A n cp] V fun e w' => e = .returned (.bool true) ∧ Below V.heap.size V w' :=
  aright_any (hc.more hB) hs h.len (by have := h.n16; omega) h.rw (Nat.le_refl _) true ⟨fun _ => ⟨hr, h.ok⟩, fun _ => rfl⟩

/-! ### laid again and again -/
def agR (a : Au) (now s : Int) : Ac := ⟨a.id, 1, s, held (now + a.ticks), firstT a now, fullL a s⟩
section
variable {c : Cn} {V : World} (hA : AuC c V) (hau : ∀ a ∈ c.au, NAu a) {a : Au} (hlk : lkB c.au a.id = true ∧ lkA c.au a.id = a)
include hA hau hlk
theorem ag_first (now : Int) (hno : Fits now) : Calls Try.prog 9 #[cnv c, .slice none 0 0, .int .i64 a.id, .int .i64 1, .int .i64 now] V (R1 V [agR a now 1]) := by
  have h := apply_any (w := V) (B := 0) (A := none) (l := []) (n := 0) (cp := 0) a.id 1 now hA hau (by simp) rfl (by omega) (.inl rfl) (by omega) hno
  have q := ap_new (L := c.au) (l := []) (id := a.id) (src := 1) (now := now) hlk.1 (by show idxI _ [] < 0; rw [idx_miss (by simp)]; omega) (by simp)
  rw [q.1, q.2, hlk.2] at h
  exact h
theorem ag_next (now : Int) (hno : Fits now) (hna : NAu a) {s : Int} (hs : 1 ≤ s) (hs2 : s < a.stacks) {A : Option Addr} {cp B : Nat} (hr : RW ac V B A [agR a now s]) (hB : B ≤ V.heap.size) : Calls Try.prog 9 #[cnv c, .slice A 1 cp, .int .i64 a.id, .int .i64 1, .int .i64 now] V (R1 V [agR a now (s + 1)]) := by
  have hst := hna.2.2.1
  have h := apply_any (w := V) (B := B) (A := A) (l := [agR a now s]) (n := 1) (cp := cp) a.id 1 now hA hau (by intro b hb; simp at hb; subst hb; exact ⟨by show Fits s; unfold Fits at *; omega, by show Fits (firstT a now); exact first_fits _, by show Fits (fullL a s); exact full_fits _⟩) rfl (by omega) hr hB hno
  have hp : plI [agR a now s] a.id 1 = ((0 : Nat) : Int) := idx_hit (k := 0) rfl (is_ac.2 ⟨rfl, rfl⟩) (by simp)
  have q := ap_again (L := c.au) (l := [agR a now s]) (id := a.id) (src := 1) (now := now) hlk.1 hp (x := agR a now s) rfl
  rw [q.1, q.2, hlk.2] at h
  have e : ([agR a now s] : List Ac).set 0 (againL a now (agR a now s)) = [agR a now (s + 1)] := by
    have e1 : stkL a s = s + 1 := by
      unfold stkL
      rw [held_in ⟨by unfold Fits at hst; omega, by unfold Fits at hst; omega⟩]
      unfold mn
      rw [if_pos (by omega)]
    simp only [List.set_cons_zero]
    unfold againL
    show [(⟨a.id, 1, stkL a s, held (now + a.ticks), firstT a now, fullL a (stkL a s)⟩ : Ac)] = _
    rw [e1]; rfl
  rw [e] at h
  exact h
end
theorem cnv_u {c : Cn} {p off : Nat} (h : c.uA = some ⟨p, off, none⟩) : cnv c = .agg #[.slice c.aA c.ab.length c.aC, .slice (some ⟨p, off, none⟩) c.au.length c.uC, .slice c.fA c.fo.length c.fC, .int .i64 c.W, .int .i64 c.H, .slice c.gA c.wl.length c.gC, .int .i64 c.dx, .int .i64 c.dy, .int .i64 c.lx, .int .i64 c.ly] := by
  show Value.agg #[_, .slice c.uA c.au.length c.uC, _, _, _, _, _, _, _, _] = _
  rw [h]
theorem and_le (k : Int) (n : Nat) (hn : n < 2 ^ 62) : ∃ d : Nat, bits BinOp.and IntKind.i64 k (n : Int) = (d : Int) ∧ d ≤ n := by
  have h : bits BinOp.and IntKind.i64 k (n : Int) = IntKind.i64.wrap ((BitVec.ofInt 64 k &&& BitVec.ofInt 64 (n : Int)).toNat : Int) := rfl
  have h2 : (BitVec.ofInt 64 k &&& BitVec.ofInt 64 (n : Int)).toNat ≤ n := by
    rw [BitVec.toNat_and]
    have h3 : (BitVec.ofInt 64 (n : Int)).toNat = n := by
      rw [BitVec.ofInt_natCast, BitVec.toNat_ofNat]
      exact Nat.mod_eq_of_lt (by omega)
    rw [h3]
    exact Nat.and_le_right
  refine ⟨_, ?_, h2⟩
  rw [h]
  exact IntWalk.i64_in _ (by omega)
end Go.Proofs.Ytijobbdgiaiocaa.Con
