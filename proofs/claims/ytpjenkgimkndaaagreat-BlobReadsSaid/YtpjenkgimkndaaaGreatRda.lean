/-
  The program's reader: a box of a row and a truth; contracts of its number and truth.
-/
import Derived.Test.YtpjenkgimkndaaaGreatFlc
import Derived.Test.YtpjenkgimkndaaaGreatAwr
namespace Go.Proofs.YtpjenkgimkndaaaGreat.Con
open Go.RowKit Go.Maps Pm Mth

/-- A reader at P: what is left, and whether it failed; its row lies in blocks below B. -/
def RS (w : World) (B P : Nat) (s : St) : Prop :=
  ∃ A c, w.heap[P]? = some (.cells #[.slice A s.l.length c, .bool s.f] 81) ∧ Rd .i64 w B A s.l ∧ B ≤ P ∧ s.l.length ≤ c
/-- From w to w' only the block P, and what is new, has turned. -/
abbrev Tn (P : Nat) (w w' : World) : Prop := w.grownBy w' (some P)
theorem tn_refl (P : Nat) (w : World) : Tn P w w := World.grownBy.refl w _
theorem tn_trans {P : Nat} {a b c : World} (h : Tn P a b) (k : Tn P b c) : Tn P a c :=
  ⟨k.os.trans h.os, k.tape.trans h.tape, k.output.trans h.output, Nat.le_trans h.size k.size, fun i hi hn => (k.block i (Nat.lt_of_lt_of_le hi h.size) hn).trans (h.block i hi hn)⟩
theorem tn_set {P : Nat} (w : World) (o : Nat) (v : Value) : Tn P w (w.setCell ⟨P, o, none⟩ v) :=
  ⟨rfl, rfl, rfl, by simp, fun k _ hn => heap_setCell_other _ _ _ _ (fun e => hn (by rw [e]))⟩
theorem tn_alloc {P : Nat} {a b : World} (h : Tn P a b) (x : Obj) : Tn P a (b.alloc x) :=
  ⟨h.os, h.tape, h.output, Nat.le_trans h.size (by simp), fun k hk hn => (Below.heap_alloc b x k (Nat.lt_of_lt_of_le hk h.size)).trans (h.block k hk hn)⟩
theorem tn_below {P B : Nat} {a b : World} (h : Tn P a b) (hP : B ≤ P) (hB : B ≤ a.heap.size) : Below B a b :=
  ⟨h.os, h.tape, h.output, h.size, fun k hk => h.block k (by omega) (fun e => by injection e with e; omega)⟩
theorem tn_of {P : Nat} {a b : World} (h : Below a.heap.size a b) : Tn P a b := ⟨h.os, h.tape, h.output, h.size, fun k hk _ => h.block k hk⟩
theorem Rd.low {K : IntKind} {w w' : World} {B : Nat} {A : Option Addr} {l : List Int} (h : Rd K w B A l) (hk : ∀ b, b < B → w'.heap[b]? = w.heap[b]?) : Rd K w' B A l := h.keep hk
theorem RS.lt {w : World} {B P : Nat} {s : St} (h : RS w B P s) : P < w.heap.size := by
  obtain ⟨A, c, h1, _⟩ := h
  exact (Array.getElem?_eq_some_iff.1 h1).1
theorem RS.le {w : World} {B P : Nat} {s : St} (h : RS w B P s) : B ≤ P := by
  obtain ⟨A, c, _, _, h1, _⟩ := h
  exact h1
/-- Only new memory has been made, or blocks other than the reader's and its row's have turned. -/
theorem RS.keep {w w' : World} {B P : Nat} {s : St} (h : RS w B P s) (hk : ∀ b, b < B ∨ b = P → w'.heap[b]? = w.heap[b]?) : RS w' B P s := by
  obtain ⟨A, c, h1, h2, h3, h4⟩ := h
  exact ⟨A, c, (hk P (.inr rfl)).trans h1, Rd.keep h2 (fun b hb => hk b (.inl hb)), h3, h4⟩
theorem RS.below {w w' : World} {B P : Nat} {s : St} (h : RS w B P s) (hb : Below w.heap.size w w') : RS w' B P s :=
  h.keep (fun b hb' => hb.block b (by have := h.lt; have := h.le; omega))
theorem RS.alloc {w : World} {B P : Nat} {s : St} (h : RS w B P s) (x : Obj) : RS (w.alloc x) B P s := h.below ((Below.refl _ _).alloc (Nat.le_refl _) _)
/-- Behind an append onto a row of one's own. -/
theorem RS.grown {w w' : World} {B P N : Nat} {s : St} {r : Option Nat} (h : RS w B P s) (hg : w.grownBy w' r) (hr : ∀ k, r = some k → N ≤ k) (hN : P < N) : RS w' B P s :=
  h.keep (fun b hb' => hg.block b (by have := h.lt; have := h.le; omega) (fun e => by have := hr b e.symm; have := h.le; omega))

theorem frozOf' {w : World} {b : Nat} {cs : Array Value} {t : TypeId} (h : w.heap[b]? = some (.cells cs t (0, 0))) (o : Nat) : w.frozen? ⟨b, o, none⟩ = false := by simp [World.frozen?, h]
/-- What a step of the reader leaves. -/
def Rn {α : Type} (p : Ps α) (B P : Nat) (w : World) (s : St) (x : α) (w' : World) : Prop := ∃ s', Hid (Rp p s x s') ∧ Hid (RS w' B P s') ∧ Hid (Tn P w w')

set_option maxRecDepth 20000 in
set_option maxHeartbeats 1000000 in
theorem num_any (s : St) (w : World) (B P : Nat) (h : RS w B P s) : Calls Tryz.prog 103 #[pt P] w fun e w' => ∃ n, e = .returned (.int .i64 n) ∧ Rn pN B P w s n w' := by
  obtain ⟨l, f⟩ := s
  obtain ⟨A, c, h1, h2, h3, h4⟩ := h
  have hz := cellOf' h1; have hy := frozOf' h1
  have H1 := Lib.hid h1; have H2 := Lib.hid h2; have H4 := Lib.hid h4
  have hP := lt_of_block h1
  clear h1 h2 h4
  cases l with
  | nil =>
    go_enter Tryz.func103, Tryz.ntmps103
    go_wp2
    go_ret
    exact ⟨_, rfl, ⟨[], true⟩, Lib.hid (rpN_none f 0), Lib.hid ⟨A, c, heap_setCell_same _ P 1 _ 81 (.bool true) H1.out, Rd.nil, h3, by simp⟩, Lib.hid (tn_set w 1 _)⟩
  | cons n r =>
    rcases H2.out with h0 | ⟨b, off, hA, hb, hc⟩
    · cases h0
    · subst hA
      have c0 : w.cell? ⟨b, off, none⟩ = some (.int .i64 n) := hc 0 n rfl
      have hbw : b < w.heap.size := by omega
      have hcut : Rd .i64 w B (some ⟨b, off + 1, none⟩) r := (H2.out.cut 1)
      have HC := Lib.hid hcut
      have h4 := H4.out
      clear hc hcut
      by_cases hc1 : c = 1
      · subst hc1
        have hr : r = [] := by cases r with | nil => rfl | cons _ _ => simp at h4
        subst hr
        clear h4
        go_enter Tryz.func103, Tryz.ntmps103
        go_wp2
        go_ret
        exact ⟨_, rfl, ⟨[], f⟩, Lib.hid (rpN n [] f), Lib.hid ⟨_, _, heap_setCell_same _ P 0 _ 81 _ H1.out, Rd.nil, h3, by simp⟩, Lib.hid (tn_set w 0 _)⟩
      · simp at h4
        go_enter Tryz.func103, Tryz.ntmps103
        go_wp2
        go_ret
        exact ⟨_, rfl, ⟨r, f⟩, Lib.hid (rpN n r f), Lib.hid ⟨_, _, heap_setCell_same _ P 0 _ 81 _ H1.out, HC.out.keep (fun k hk => heap_setCell_other _ _ _ _ (by simp; omega)), h3, (by show r.length ≤ c - 1; omega)⟩, Lib.hid (tn_set w 0 _)⟩
/-- The reader fails. -/
theorem RS.fail {w : World} {B P : Nat} {s : St} (h : RS w B P s) : RS (w.setCell ⟨P, 1, none⟩ (.bool true)) B P ⟨s.l, true⟩ := by
  obtain ⟨A, c, h1, h2, h3, h4⟩ := h
  exact ⟨A, c, heap_setCell_same _ P 1 _ 81 (.bool true) h1, h2.keep (fun k hk => heap_setCell_other _ _ _ _ (by simp; omega)), h3, h4⟩
theorem RS.cells {w : World} {B P : Nat} {s : St} (h : RS w B P s) : ∃ A c, (∀ o, w.cell? ⟨P, o, none⟩ = #[.slice A s.l.length c, .bool s.f][o]?) ∧ (∀ o, w.frozen? ⟨P, o, none⟩ = false) ∧ P < w.heap.size := by
  obtain ⟨A, c, h1, _⟩ := h
  exact ⟨A, c, cellOf' h1, frozOf' h1, lt_of_block h1⟩
set_option maxRecDepth 20000 in
set_option maxHeartbeats 1000000 in
theorem tru_any (s : St) (w : World) (B P : Nat) (h : RS w B P s) : Calls Tryz.prog 104 #[pt P] w fun e w' => ∃ b, e = .returned (.bool b) ∧ Rn pT B P w s b w' := by
  have H := Lib.hid h; clear h
  go_enter Tryz.func104, Tryz.ntmps104
  go_wp2_with (fail)
  (with_reducible refine (num_any s _ B P H.out).mono ?_); rintro e w' ⟨n, rfl, s', HR, HS, HT⟩
  by_cases h0 : n = 0
  · subst h0
    go_wp2
    go_ret
    exact ⟨_, rfl, s', Lib.hid (rpT_zero HR.out), HS, HT⟩
  · by_cases h1 : n = 1
    · subst h1
      go_wp2
      go_ret
      exact ⟨_, rfl, s', Lib.hid (rpT_one HR.out), HS, HT⟩
    · have h0' : (n != 0) = true := by simpa using h0
      have h1' : (n != 1) = true := by simpa using h1
      have h1e : (n == 1) = false := by simpa using h1
      obtain ⟨A, c, hz, hy, hP⟩ := HS.out.cells
      have H0 := Lib.hid h0; have H1 := Lib.hid h1
      clear h0 h1
      go_wp2
      go_ret
      exact ⟨_, rfl, ⟨s'.l, true⟩, Lib.hid (rpT_no HR.out H0.out H1.out), Lib.hid HS.out.fail, Lib.hid (tn_trans HT.out (tn_set _ 1 _))⟩
end Go.Proofs.YtpjenkgimkndaaaGreat.Con
