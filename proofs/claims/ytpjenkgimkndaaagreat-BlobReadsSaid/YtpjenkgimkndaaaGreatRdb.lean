/-
  Contracts of the program's reader: what it takes of each kind, and rows of each.
-/
import Derived.Test.YtpjenkgimkndaaaGreatRda
namespace Go.Proofs.YtpjenkgimkndaaaGreat.Con
open Go.RowKit Go.Maps Pm Mth

/-- The rows of one of abilities, of foes. -/
def FrA (x : Ab) (w : World) (av : Nat → Prop) : Prop := AW ef w av x.ea x.eff
def FrF (x : Fo) (w : World) (av : Nat → Prop) : Prop := AW ln w av x.sa x.script ∧ AW pz w av x.ha x.hoard
def FrT {α : Type} (_x : α) (_w : World) (_av : Nat → Prop) : Prop := True
theorem frA_stab : Stab FrA := fun _ _ _ _ _ h hk ha => AW.kp h hk ha
theorem frF_stab : Stab FrF := fun _ _ _ _ _ h hk ha => ⟨h.1.kp hk ha, h.2.kp hk ha⟩
theorem frT_stab {α : Type} : Stab (FrT (α := α)) := fun _ _ _ _ _ _ _ _ => trivial
theorem OW.keep {α : Type} {E : El α} {w w' : World} {base n c : Nat} {A : Option Addr} {l : List α} (h : OW E w base (.slice A n c) l) (hk : ∀ b, (Value.slice A n c).ownBlock = some b → w'.heap[b]? = w.heap[b]?) : OW E w' base (.slice A n c) l := by
  refine ⟨h.1, ?_⟩
  rcases h.2 with h2 | ⟨g, cap, cur, h1, h2, h3, h4⟩
  · exact .inl h2
  · refine .inr ⟨g, cap, cur, h1, h2, ?_, h4⟩
    rw [hk g (by rw [h1]; rfl)]
    exact h3
/-- A row of the call's own that grows, and the rows of its elements, which lie apart from it. -/
structure GR {α : Type} (E : El α) (F : α → World → (Nat → Prop) → Prop) (N : Nat) (w : World) (A : Option Addr) (c : Nat) (l : List α) : Prop where
  own : OW E w N (.slice A l.length c) l
  kept : ∀ a ∈ l, F a w (fun b => b < N ∨ (Value.slice A l.length c).ownBlock = some b)
section
variable {α : Type} {E : El α} {F : α → World → (Nat → Prop) → Prop} {N P : Nat} {w w' : World} {A : Option Addr} {c : Nat} {l : List α}
theorem GR.nil (w : World) : GR E F N w none 0 [] := ⟨OW.nil E w N, fun a ha => (by cases ha)⟩
theorem GR.turn (h : GR E F N w A c l) (hF : Stab F) (ht : Tn P w w') (hP : P < N) : GR E F N w' A c l :=
  ⟨h.own.keep (fun b hb => ht.block b (h.own.blk hb).2.1 (fun e => by injection e with e; have := (h.own.blk hb).1; omega)),
   fun a ha => hF _ _ _ _ _ (h.kept a ha) ⟨ht.size, fun k hk hn => ht.block k hk (fun e => hn (.inl (by injection e with e; omega)))⟩ (fun _ _ h => h)⟩
theorem GR.app {A' : Option Addr} {c' : Nat} {lm : List α} {x : α} (h : GR E F N w A c l) (hF : Stab F) {M : Nat} (hx : F x w (fun b => b < M)) (hM : N ≤ M) (hA : ∀ b, (Value.slice A l.length c).ownBlock = some b → b < M) (hg : w.grownBy w' (Value.slice A l.length c).ownBlock) (ho : OW E w' N (.slice A' lm.length c') lm) (hlm : lm = l ++ [x])
    (hw : (Value.slice A' lm.length c').ownBlock = (Value.slice A l.length c).ownBlock ∨ (Value.slice A' lm.length c').ownBlock = some w.heap.size) : GR E F N w' A' c' lm := by
  refine ⟨ho, fun a ha => ?_⟩
  have hk : Kp w w' (fun b => b < N ∨ (Value.slice A l.length c).ownBlock = some b) := ⟨hg.size, fun k hk hn => hg.block k hk (fun e => hn (.inr e.symm))⟩
  have hs : ∀ k, k < w.heap.size → (k < N ∨ (Value.slice A' lm.length c').ownBlock = some k) → (k < N ∨ (Value.slice A l.length c).ownBlock = some k) := by
    intro k hk hv
    rcases hv with hv | hv
    · exact .inl hv
    · rcases hw with e | e
      · exact .inr (by rw [← e]; exact hv)
      · rw [e] at hv; injection hv with hv; omega
  have ha' : a ∈ l ++ [x] := by rw [← hlm]; exact ha
  rcases List.mem_append.1 ha' with ha2 | ha2
  · exact hF _ _ _ _ _ (h.kept a ha2) hk hs
  · rw [List.mem_singleton.1 ha2]
    refine hF _ _ _ _ _ (hF _ w w _ (fun b => b < N ∨ (Value.slice A l.length c).ownBlock = some b) hx ⟨Nat.le_refl _, fun _ _ _ => rfl⟩ (fun k _ hv => ?_)) hk hs
    rcases hv with hv | hv
    · omega
    · exact hA k hv
theorem GR.fin (h : GR E F N w A c l) (hF : Stab F) : AW E w (fun b => b < N) A l ∧ ∀ a ∈ l, F a w (fun b => b < N) :=
  ⟨h.own.pw.aw (fun k hk _ _ h => by omega), fun a ha => hF _ w w _ _ (h.kept a ha) ⟨Nat.le_refl _, fun _ _ _ => rfl⟩ (fun _ _ h => .inl h)⟩
theorem rw_one1 {b B : Nat} {t : TypeId} {x : α} {cs : Array Value} (hcs : cs.toList = E.enc x) (hb : w.heap.size = b) (hB : b < B) : RW E (w.alloc (.cells cs t)) B (some ⟨b, 0, none⟩) [x] := by
  subst hb
  refine .inr ⟨w.heap.size, 0, rfl, hB, fun i y hy j v hv => ?_⟩
  cases i with
  | zero =>
    simp at hy; subst hy
    rw [cellOf' (heap_alloc_new w _), ← Array.getElem?_toList, hcs]
    simpa using hv
  | succ i => simp at hy
end
/-- A box of one's own, made behind the reader's, is as it was. -/
theorem tn_box {P b : Nat} {w w' : World} {cs : Array Value} {t : TypeId} (ht : Tn P w w') (h : w.heap[b]? = some (.cells cs t)) (hb : b ≠ P) : w'.heap[b]? = some (.cells cs t) :=
  (ht.block b (lt_of_block h) (fun e => hb (by injection e))).trans h
theorem rn_of {α : Type} {p : Ps α} {B P : Nat} {w w' : World} {s s' : St} {x : α} (h : Rp p s x s') (hs : RS w' B P s') (ht : Tn P w w') : Rn p B P w s x w' := ⟨s', Lib.hid h, Lib.hid hs, Lib.hid ht⟩
theorem Rn.len {α : Type} {p : Ps α} {B P : Nat} {w w' : World} {s : St} {x : α} (h : Rn p B P w s x w') : ∃ s', Rp p s x s' ∧ RS w' B P s' ∧ Tn P w w' ∧ s'.l.length ≤ s.l.length := by
  obtain ⟨s', h1, h2, h3⟩ := h
  exact ⟨s', h1.out, h2.out, h3.out, h1.out.2⟩
theorem RS.set {w : World} {B P : Nat} {s : St} (h : RS w B P s) {b : Nat} (hb : P < b) (vs : List Value) (o : Nat) : RS (w.setCells b o vs) B P s :=
  h.keep (fun k hk => (below_setCells b (B := P + 1) hb vs o w (Below.refl _ _)).block k (by have := h.le; omega))
theorem tn_trans' {P b : Nat} {w w' : World} (h : Tn P w w') (hb : w.heap.size ≤ b) (vs : List Value) (o : Nat) : Tn P w (w'.setCells b o vs) := by
  have hb' := below_setCells b (B := w.heap.size) hb vs o w' (Below.refl _ _)
  exact ⟨hb'.os.trans h.os, hb'.tape.trans h.tape, hb'.output.trans h.output, Nat.le_trans h.size hb'.size, fun k hk hn => (hb'.block k hk).trans (h.block k hk hn)⟩
theorem tn_sets {P b : Nat} {w w' : World} (h : Tn P w w') (hb : w.heap.size ≤ b) (vs : List Value) (o : Nat) : Tn P w (w'.setCells b o vs) :=
  tn_trans' h hb vs o
theorem pb_assoc {α β γ : Type} (p : Ps α) (q : α → Ps β) (r : β → Ps γ) : pb (pb p q) r = pb p (fun x => pb (q x) r) := by
  funext l
  unfold pb
  cases p l with
  | none => rfl
  | some v => obtain ⟨x, l1⟩ := v; rfl
theorem pb_pp {α β : Type} (x : α) (q : α → Ps β) : pb (pp x) q = q x := rfl
def pGr : Ps (Int × Int × List Bool) := pb pN fun W => pb pN fun H => pb (pRows pT) fun g => pp (W, H, g)
def pPo : Ps (Int × Int) := pb pN fun x => pb pN fun y => pp (x, y)
theorem pCn_eq : pCn = pb (pRows pAb) fun a => pb (pRows pAu) fun b => pb (pRows pFo) fun c => pb pGr fun g => pb pPo fun d => pb pPo fun l => pp ⟨none, 0, a, none, 0, b, none, 0, c, g.1, g.2.1, none, 0, g.2.2, d.1, d.2, l.1, l.2⟩ := by
  simp only [pGr, pPo, pb_assoc, pb_pp]
  rfl
set_option maxRecDepth 20000 in
set_option maxHeartbeats 4000000 in
theorem ef_take (s0 : St) (w : World) (B P : Nat) (h : RS w B P s0) : Calls Tryz.prog 106 #[pt P] w fun e w' => ∃ x : Ef, e = .returned (efv x) ∧ Rn pEf B P w s0 x w' := by
  have hN := heap_alloc_new w (.cells #[.int .i64 0, .int .i64 0, .int .i64 0] 71)
  have HS0 := Lib.hid (h.alloc (.cells #[.int .i64 0, .int .i64 0, .int .i64 0] 71)); have hP := h.lt; have hBP := h.le
  have HT0 : Hid (Tn P w (w.alloc (.cells #[.int .i64 0, .int .i64 0, .int .i64 0] 71))) := Lib.hid (tn_alloc (tn_refl P w) _)
  have HNe : Hid (w.heap.size ≠ P) := Lib.hid (by omega)
  have HLn0 : Hid (s0.l.length ≤ s0.l.length) := Lib.hid (Nat.le_refl _)
  clear h
  go_enter Tryz.func106, Tryz.ntmps106
  go_wp2_with (fail)
  generalize hw0 : w.alloc (.cells #[.int .i64 0, .int .i64 0, .int .i64 0] 71) = w0 at *
  have HZ0 := Lib.hid hN; have HW0 : Hid (Tn P w0 w0) := Lib.hid (tn_refl P w0)
  clear hN hw0
  have hz := cellOf' HZ0.out; have hy := frozOf' HZ0.out; have hlt := lt_of_block HZ0.out
  go_wp2_with (first
    | ((with_reducible refine (num_any s0 _ B P HS0.out).mono ?_); rintro e w1 ⟨x1, rfl, s1, HR1, HS1, HT1⟩; have HLn1 : Hid (s1.l.length ≤ s0.l.length) := Lib.hid (Nat.le_trans HR1.out.2 HLn0.out); have HZ1 := Lib.hid (tn_box HT1.out HZ0.out HNe.out); have HW1 : Hid (Tn P w0 w1) := Lib.hid (tn_trans HW0.out HT1.out); have hz := cellOf' HZ1.out; have hy := frozOf' HZ1.out; have hlt := lt_of_block HZ1.out)
    | ((with_reducible refine (num_any s1 _ B P HS1.out).mono ?_); rintro e w2 ⟨x2, rfl, s2, HR2, HS2, HT2⟩; have HLn2 : Hid (s2.l.length ≤ s0.l.length) := Lib.hid (Nat.le_trans HR2.out.2 HLn1.out); have HZ2 := Lib.hid (tn_box HT2.out HZ1.out HNe.out); have HW2 : Hid (Tn P w0 w2) := Lib.hid (tn_trans HW1.out HT2.out); have hz := cellOf' HZ2.out; have hy := frozOf' HZ2.out; have hlt := lt_of_block HZ2.out)
    | ((with_reducible refine (num_any s2 _ B P HS2.out).mono ?_); rintro e w3 ⟨x3, rfl, s3, HR3, HS3, HT3⟩; have HLn3 : Hid (s3.l.length ≤ s0.l.length) := Lib.hid (Nat.le_trans HR3.out.2 HLn2.out); have HZ3 := Lib.hid (tn_box HT3.out HZ2.out HNe.out); have HW3 : Hid (Tn P w0 w3) := Lib.hid (tn_trans HW2.out HT3.out); have hz := cellOf' HZ3.out; have hy := frozOf' HZ3.out; have hlt := lt_of_block HZ3.out))
  refine bodyPost_ret (by simp [results, Tryz.results106, go_sem, hz]; try rfl) rfl ?_
  have hS := HS3.out.set (b := w.heap.size) hP [.int .i64 x1, .int .i64 x2, .int .i64 x3] 0
  have hT := tn_sets (tn_trans HT0.out HW3.out) (Nat.le_refl _) [.int .i64 x1, .int .i64 x2, .int .i64 x3] 0
  exact ⟨⟨x1, x2, x3⟩, rfl, rn_of (HR1.out.bind (HR2.out.bind (HR3.out.bind (Rp.pure _ _)))) hS hT⟩
set_option maxRecDepth 20000 in
set_option maxHeartbeats 4000000 in
theorem ln_take (s0 : St) (w : World) (B P : Nat) (h : RS w B P s0) : Calls Tryz.prog 108 #[pt P] w fun e w' => ∃ x : Ln, e = .returned (lnv x) ∧ Rn pLn B P w s0 x w' := by
  have hN := heap_alloc_new w (.cells #[.int .i64 0, .int .i64 0, .int .i64 0, .int .i64 0, .int .i64 0] 73)
  have HS0 := Lib.hid (h.alloc (.cells #[.int .i64 0, .int .i64 0, .int .i64 0, .int .i64 0, .int .i64 0] 73)); have hP := h.lt; have hBP := h.le
  have HT0 : Hid (Tn P w (w.alloc (.cells #[.int .i64 0, .int .i64 0, .int .i64 0, .int .i64 0, .int .i64 0] 73))) := Lib.hid (tn_alloc (tn_refl P w) _)
  have HNe : Hid (w.heap.size ≠ P) := Lib.hid (by omega)
  have HLn0 : Hid (s0.l.length ≤ s0.l.length) := Lib.hid (Nat.le_refl _)
  clear h
  go_enter Tryz.func108, Tryz.ntmps108
  go_wp2_with (fail)
  generalize hw0 : w.alloc (.cells #[.int .i64 0, .int .i64 0, .int .i64 0, .int .i64 0, .int .i64 0] 73) = w0 at *
  have HZ0 := Lib.hid hN; have HW0 : Hid (Tn P w0 w0) := Lib.hid (tn_refl P w0)
  clear hN hw0
  have hz := cellOf' HZ0.out; have hy := frozOf' HZ0.out; have hlt := lt_of_block HZ0.out
  go_wp2_with (first
    | ((with_reducible refine (num_any s0 _ B P HS0.out).mono ?_); rintro e w1 ⟨x1, rfl, s1, HR1, HS1, HT1⟩; have HLn1 : Hid (s1.l.length ≤ s0.l.length) := Lib.hid (Nat.le_trans HR1.out.2 HLn0.out); have HZ1 := Lib.hid (tn_box HT1.out HZ0.out HNe.out); have HW1 : Hid (Tn P w0 w1) := Lib.hid (tn_trans HW0.out HT1.out); have hz := cellOf' HZ1.out; have hy := frozOf' HZ1.out; have hlt := lt_of_block HZ1.out)
    | ((with_reducible refine (num_any s1 _ B P HS1.out).mono ?_); rintro e w2 ⟨x2, rfl, s2, HR2, HS2, HT2⟩; have HLn2 : Hid (s2.l.length ≤ s0.l.length) := Lib.hid (Nat.le_trans HR2.out.2 HLn1.out); have HZ2 := Lib.hid (tn_box HT2.out HZ1.out HNe.out); have HW2 : Hid (Tn P w0 w2) := Lib.hid (tn_trans HW1.out HT2.out); have hz := cellOf' HZ2.out; have hy := frozOf' HZ2.out; have hlt := lt_of_block HZ2.out)
    | ((with_reducible refine (num_any s2 _ B P HS2.out).mono ?_); rintro e w3 ⟨x3, rfl, s3, HR3, HS3, HT3⟩; have HLn3 : Hid (s3.l.length ≤ s0.l.length) := Lib.hid (Nat.le_trans HR3.out.2 HLn2.out); have HZ3 := Lib.hid (tn_box HT3.out HZ2.out HNe.out); have HW3 : Hid (Tn P w0 w3) := Lib.hid (tn_trans HW2.out HT3.out); have hz := cellOf' HZ3.out; have hy := frozOf' HZ3.out; have hlt := lt_of_block HZ3.out)
    | ((with_reducible refine (num_any s3 _ B P HS3.out).mono ?_); rintro e w4 ⟨x4, rfl, s4, HR4, HS4, HT4⟩; have HLn4 : Hid (s4.l.length ≤ s0.l.length) := Lib.hid (Nat.le_trans HR4.out.2 HLn3.out); have HZ4 := Lib.hid (tn_box HT4.out HZ3.out HNe.out); have HW4 : Hid (Tn P w0 w4) := Lib.hid (tn_trans HW3.out HT4.out); have hz := cellOf' HZ4.out; have hy := frozOf' HZ4.out; have hlt := lt_of_block HZ4.out)
    | ((with_reducible refine (num_any s4 _ B P HS4.out).mono ?_); rintro e w5 ⟨x5, rfl, s5, HR5, HS5, HT5⟩; have HLn5 : Hid (s5.l.length ≤ s0.l.length) := Lib.hid (Nat.le_trans HR5.out.2 HLn4.out); have HZ5 := Lib.hid (tn_box HT5.out HZ4.out HNe.out); have HW5 : Hid (Tn P w0 w5) := Lib.hid (tn_trans HW4.out HT5.out); have hz := cellOf' HZ5.out; have hy := frozOf' HZ5.out; have hlt := lt_of_block HZ5.out))
  refine bodyPost_ret (by simp [results, Tryz.results108, go_sem, hz]; try rfl) rfl ?_
  have hS := HS5.out.set (b := w.heap.size) hP [.int .i64 x1, .int .i64 x2, .int .i64 x3, .int .i64 x4, .int .i64 x5] 0
  have hT := tn_sets (tn_trans HT0.out HW5.out) (Nat.le_refl _) [.int .i64 x1, .int .i64 x2, .int .i64 x3, .int .i64 x4, .int .i64 x5] 0
  exact ⟨⟨x1, x2, x3, x4, x5⟩, rfl, rn_of (HR1.out.bind (HR2.out.bind (HR3.out.bind (HR4.out.bind (HR5.out.bind (Rp.pure _ _)))))) hS hT⟩
set_option maxRecDepth 20000 in
set_option maxHeartbeats 4000000 in
theorem pz_take (s0 : St) (w : World) (B P : Nat) (h : RS w B P s0) : Calls Tryz.prog 110 #[pt P] w fun e w' => ∃ x : Pz, e = .returned (pzv x) ∧ Rn pPz B P w s0 x w' := by
  have hN := heap_alloc_new w (.cells #[.int .i64 0, .int .i64 0] 75)
  have HS0 := Lib.hid (h.alloc (.cells #[.int .i64 0, .int .i64 0] 75)); have hP := h.lt; have hBP := h.le
  have HT0 : Hid (Tn P w (w.alloc (.cells #[.int .i64 0, .int .i64 0] 75))) := Lib.hid (tn_alloc (tn_refl P w) _)
  have HNe : Hid (w.heap.size ≠ P) := Lib.hid (by omega)
  have HLn0 : Hid (s0.l.length ≤ s0.l.length) := Lib.hid (Nat.le_refl _)
  clear h
  go_enter Tryz.func110, Tryz.ntmps110
  go_wp2_with (fail)
  generalize hw0 : w.alloc (.cells #[.int .i64 0, .int .i64 0] 75) = w0 at *
  have HZ0 := Lib.hid hN; have HW0 : Hid (Tn P w0 w0) := Lib.hid (tn_refl P w0)
  clear hN hw0
  have hz := cellOf' HZ0.out; have hy := frozOf' HZ0.out; have hlt := lt_of_block HZ0.out
  go_wp2_with (first
    | ((with_reducible refine (num_any s0 _ B P HS0.out).mono ?_); rintro e w1 ⟨x1, rfl, s1, HR1, HS1, HT1⟩; have HLn1 : Hid (s1.l.length ≤ s0.l.length) := Lib.hid (Nat.le_trans HR1.out.2 HLn0.out); have HZ1 := Lib.hid (tn_box HT1.out HZ0.out HNe.out); have HW1 : Hid (Tn P w0 w1) := Lib.hid (tn_trans HW0.out HT1.out); have hz := cellOf' HZ1.out; have hy := frozOf' HZ1.out; have hlt := lt_of_block HZ1.out)
    | ((with_reducible refine (num_any s1 _ B P HS1.out).mono ?_); rintro e w2 ⟨x2, rfl, s2, HR2, HS2, HT2⟩; have HLn2 : Hid (s2.l.length ≤ s0.l.length) := Lib.hid (Nat.le_trans HR2.out.2 HLn1.out); have HZ2 := Lib.hid (tn_box HT2.out HZ1.out HNe.out); have HW2 : Hid (Tn P w0 w2) := Lib.hid (tn_trans HW1.out HT2.out); have hz := cellOf' HZ2.out; have hy := frozOf' HZ2.out; have hlt := lt_of_block HZ2.out))
  refine bodyPost_ret (by simp [results, Tryz.results110, go_sem, hz]; try rfl) rfl ?_
  have hS := HS2.out.set (b := w.heap.size) hP [.int .i64 x1, .int .i64 x2] 0
  have hT := tn_sets (tn_trans HT0.out HW2.out) (Nat.le_refl _) [.int .i64 x1, .int .i64 x2] 0
  exact ⟨⟨x1, x2⟩, rfl, rn_of (HR1.out.bind (HR2.out.bind (Rp.pure _ _))) hS hT⟩
set_option maxRecDepth 20000 in
set_option maxHeartbeats 4000000 in
theorem po_take (s0 : St) (w : World) (B P : Nat) (h : RS w B P s0) : Calls Tryz.prog 76 #[pt P] w fun e w' => ∃ x y : Int, e = .returned (pv x y) ∧ Rn pPo B P w s0 (x, y) w' := by
  have hN := heap_alloc_new w (.cells #[.int .i64 0, .int .i64 0] 29)
  have HS0 := Lib.hid (h.alloc (.cells #[.int .i64 0, .int .i64 0] 29)); have hP := h.lt; have hBP := h.le
  have HT0 : Hid (Tn P w (w.alloc (.cells #[.int .i64 0, .int .i64 0] 29))) := Lib.hid (tn_alloc (tn_refl P w) _)
  have HNe : Hid (w.heap.size ≠ P) := Lib.hid (by omega)
  have HLn0 : Hid (s0.l.length ≤ s0.l.length) := Lib.hid (Nat.le_refl _)
  clear h
  go_enter Tryz.func76, Tryz.ntmps76
  go_wp2_with (fail)
  generalize hw0 : w.alloc (.cells #[.int .i64 0, .int .i64 0] 29) = w0 at *
  have HZ0 := Lib.hid hN; have HW0 : Hid (Tn P w0 w0) := Lib.hid (tn_refl P w0)
  clear hN hw0
  have hz := cellOf' HZ0.out; have hy := frozOf' HZ0.out; have hlt := lt_of_block HZ0.out
  go_wp2_with (first
    | ((with_reducible refine (num_any s0 _ B P HS0.out).mono ?_); rintro e w1 ⟨x1, rfl, s1, HR1, HS1, HT1⟩; have HLn1 : Hid (s1.l.length ≤ s0.l.length) := Lib.hid (Nat.le_trans HR1.out.2 HLn0.out); have HZ1 := Lib.hid (tn_box HT1.out HZ0.out HNe.out); have HW1 : Hid (Tn P w0 w1) := Lib.hid (tn_trans HW0.out HT1.out); have hz := cellOf' HZ1.out; have hy := frozOf' HZ1.out; have hlt := lt_of_block HZ1.out)
    | ((with_reducible refine (num_any s1 _ B P HS1.out).mono ?_); rintro e w2 ⟨x2, rfl, s2, HR2, HS2, HT2⟩; have HLn2 : Hid (s2.l.length ≤ s0.l.length) := Lib.hid (Nat.le_trans HR2.out.2 HLn1.out); have HZ2 := Lib.hid (tn_box HT2.out HZ1.out HNe.out); have HW2 : Hid (Tn P w0 w2) := Lib.hid (tn_trans HW1.out HT2.out); have hz := cellOf' HZ2.out; have hy := frozOf' HZ2.out; have hlt := lt_of_block HZ2.out))
  refine bodyPost_ret (by simp [results, Tryz.results76, go_sem, hz]; try rfl) rfl ?_
  have hS := HS2.out.set (b := w.heap.size) hP [.int .i64 x1, .int .i64 x2] 0
  have hT := tn_sets (tn_trans HT0.out HW2.out) (Nat.le_refl _) [.int .i64 x1, .int .i64 x2] 0
  exact ⟨x1, x2, rfl, rn_of (HR1.out.bind (HR2.out.bind (Rp.pure _ _))) hS hT⟩
set_option maxRecDepth 20000 in
set_option maxHeartbeats 4000000 in
theorem au_take (s0 : St) (w : World) (B P : Nat) (h : RS w B P s0) : Calls Tryz.prog 72 #[pt P] w fun e w' => ∃ x : Au, e = .returned (auv x) ∧ Rn pAu B P w s0 x w' := by
  have hN := heap_alloc_new w (.cells #[.int .i64 0, .int .i64 0, .int .i64 0, .int .i64 0, .int .i64 0, .int .i64 0, .bool false] 63)
  have HS0 := Lib.hid (h.alloc (.cells #[.int .i64 0, .int .i64 0, .int .i64 0, .int .i64 0, .int .i64 0, .int .i64 0, .bool false] 63)); have hP := h.lt; have hBP := h.le
  have HT0 : Hid (Tn P w (w.alloc (.cells #[.int .i64 0, .int .i64 0, .int .i64 0, .int .i64 0, .int .i64 0, .int .i64 0, .bool false] 63))) := Lib.hid (tn_alloc (tn_refl P w) _)
  have HNe : Hid (w.heap.size ≠ P) := Lib.hid (by omega)
  have HLn0 : Hid (s0.l.length ≤ s0.l.length) := Lib.hid (Nat.le_refl _)
  clear h
  go_enter Tryz.func72, Tryz.ntmps72
  go_wp2_with (fail)
  generalize hw0 : w.alloc (.cells #[.int .i64 0, .int .i64 0, .int .i64 0, .int .i64 0, .int .i64 0, .int .i64 0, .bool false] 63) = w0 at *
  have HZ0 := Lib.hid hN; have HW0 : Hid (Tn P w0 w0) := Lib.hid (tn_refl P w0)
  clear hN hw0
  have hz := cellOf' HZ0.out; have hy := frozOf' HZ0.out; have hlt := lt_of_block HZ0.out
  go_wp2_with (first
    | ((with_reducible refine (num_any s0 _ B P HS0.out).mono ?_); rintro e w1 ⟨x1, rfl, s1, HR1, HS1, HT1⟩; have HLn1 : Hid (s1.l.length ≤ s0.l.length) := Lib.hid (Nat.le_trans HR1.out.2 HLn0.out); have HZ1 := Lib.hid (tn_box HT1.out HZ0.out HNe.out); have HW1 : Hid (Tn P w0 w1) := Lib.hid (tn_trans HW0.out HT1.out); have hz := cellOf' HZ1.out; have hy := frozOf' HZ1.out; have hlt := lt_of_block HZ1.out)
    | ((with_reducible refine (num_any s1 _ B P HS1.out).mono ?_); rintro e w2 ⟨x2, rfl, s2, HR2, HS2, HT2⟩; have HLn2 : Hid (s2.l.length ≤ s0.l.length) := Lib.hid (Nat.le_trans HR2.out.2 HLn1.out); have HZ2 := Lib.hid (tn_box HT2.out HZ1.out HNe.out); have HW2 : Hid (Tn P w0 w2) := Lib.hid (tn_trans HW1.out HT2.out); have hz := cellOf' HZ2.out; have hy := frozOf' HZ2.out; have hlt := lt_of_block HZ2.out)
    | ((with_reducible refine (num_any s2 _ B P HS2.out).mono ?_); rintro e w3 ⟨x3, rfl, s3, HR3, HS3, HT3⟩; have HLn3 : Hid (s3.l.length ≤ s0.l.length) := Lib.hid (Nat.le_trans HR3.out.2 HLn2.out); have HZ3 := Lib.hid (tn_box HT3.out HZ2.out HNe.out); have HW3 : Hid (Tn P w0 w3) := Lib.hid (tn_trans HW2.out HT3.out); have hz := cellOf' HZ3.out; have hy := frozOf' HZ3.out; have hlt := lt_of_block HZ3.out)
    | ((with_reducible refine (num_any s3 _ B P HS3.out).mono ?_); rintro e w4 ⟨x4, rfl, s4, HR4, HS4, HT4⟩; have HLn4 : Hid (s4.l.length ≤ s0.l.length) := Lib.hid (Nat.le_trans HR4.out.2 HLn3.out); have HZ4 := Lib.hid (tn_box HT4.out HZ3.out HNe.out); have HW4 : Hid (Tn P w0 w4) := Lib.hid (tn_trans HW3.out HT4.out); have hz := cellOf' HZ4.out; have hy := frozOf' HZ4.out; have hlt := lt_of_block HZ4.out)
    | ((with_reducible refine (num_any s4 _ B P HS4.out).mono ?_); rintro e w5 ⟨x5, rfl, s5, HR5, HS5, HT5⟩; have HLn5 : Hid (s5.l.length ≤ s0.l.length) := Lib.hid (Nat.le_trans HR5.out.2 HLn4.out); have HZ5 := Lib.hid (tn_box HT5.out HZ4.out HNe.out); have HW5 : Hid (Tn P w0 w5) := Lib.hid (tn_trans HW4.out HT5.out); have hz := cellOf' HZ5.out; have hy := frozOf' HZ5.out; have hlt := lt_of_block HZ5.out)
    | ((with_reducible refine (num_any s5 _ B P HS5.out).mono ?_); rintro e w6 ⟨x6, rfl, s6, HR6, HS6, HT6⟩; have HLn6 : Hid (s6.l.length ≤ s0.l.length) := Lib.hid (Nat.le_trans HR6.out.2 HLn5.out); have HZ6 := Lib.hid (tn_box HT6.out HZ5.out HNe.out); have HW6 : Hid (Tn P w0 w6) := Lib.hid (tn_trans HW5.out HT6.out); have hz := cellOf' HZ6.out; have hy := frozOf' HZ6.out; have hlt := lt_of_block HZ6.out)
    | ((with_reducible refine (tru_any s6 _ B P HS6.out).mono ?_); rintro e w7 ⟨x7, rfl, s7, HR7, HS7, HT7⟩; have HLn7 : Hid (s7.l.length ≤ s0.l.length) := Lib.hid (Nat.le_trans HR7.out.2 HLn6.out); have HZ7 := Lib.hid (tn_box HT7.out HZ6.out HNe.out); have HW7 : Hid (Tn P w0 w7) := Lib.hid (tn_trans HW6.out HT7.out); have hz := cellOf' HZ7.out; have hy := frozOf' HZ7.out; have hlt := lt_of_block HZ7.out))
  refine bodyPost_ret (by simp [results, Tryz.results72, go_sem, hz]; try rfl) rfl ?_
  have hS := HS7.out.set (b := w.heap.size) hP [.int .i64 x1, .int .i64 x2, .int .i64 x3, .int .i64 x4, .int .i64 x5, .int .i64 x6, .bool x7] 0
  have hT := tn_sets (tn_trans HT0.out HW7.out) (Nat.le_refl _) [.int .i64 x1, .int .i64 x2, .int .i64 x3, .int .i64 x4, .int .i64 x5, .int .i64 x6, .bool x7] 0
  exact ⟨⟨x1, x2, x3, x4, x5, x6, x7⟩, rfl, rn_of (HR1.out.bind (HR2.out.bind (HR3.out.bind (HR4.out.bind (HR5.out.bind (HR6.out.bind (HR7.out.bind (Rp.pure _ _)))))))) hS hT⟩
end Go.Proofs.YtpjenkgimkndaaaGreat.Con
