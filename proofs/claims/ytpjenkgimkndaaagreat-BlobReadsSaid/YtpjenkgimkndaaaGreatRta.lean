/-
  The document's reader: a box of a row, a place and a truth; contracts of what takes one number, a truth, a count.
-/
import Derived.Test.YtpjenkgimkndaaaGreatRdd
import Derived.BigQuiet
namespace Go.Proofs.YtpjenkgimkndaaaGreat.Con
open Go.RowKit Go.Maps Pm Mth

/-! ### counts -/
def pCq (c : Nat) (n : Int) : Ps Int := fun l => if n < 0 ∨ ((l.length / c : Nat) : Int) < n then none else some (n, l)
/-- How many, of each of which there are c numbers at least. -/
def pCt (c : Nat) : Ps Int := pb pN (pCq c)
section
variable {α : Type} {p : Ps α} {c : Nat} {s s1 s2 : St}
theorem rpT_bad {s s1 : St} {n : Int} {b : Bool} (h : Rp pN s n s1) (hf : s1.f = true) : Rp pT s b ⟨s1.l, true⟩ :=
  h.bind (q := pTq) ⟨.inr ⟨.inl hf, rfl⟩, Nat.le_refl _⟩
theorem rpC_no {n x : Int} (h : Rp pN s n s1) (hn : n < 0 ∨ ((s1.l.length / c : Nat) : Int) < n) : Rp (pCt c) s x ⟨s1.l, true⟩ := by
  refine h.bind (q := pCq c) ⟨.inr ⟨.inr ?_, rfl⟩, Nat.le_refl _⟩
  unfold pCq
  rw [if_pos hn]
theorem rpC_bad {n x : Int} (h : Rp pN s n s1) (hf : s1.f = true) : Rp (pCt c) s x ⟨s1.l, true⟩ := by
  refine h.bind (q := pCq c) ⟨.inr ⟨.inl hf, rfl⟩, Nat.le_refl _⟩
theorem rpC_yes {n : Int} (h : Rp pN s n s1) (hf : s1.f = false) (h0 : 0 ≤ n) (hn : n ≤ ((s1.l.length / c : Nat) : Int)) : Rp (pCt c) s n s1 := by
  refine h.bind (q := pCq c) ⟨.inl ⟨hf, ?_, hf⟩, Nat.le_refl _⟩
  unfold pCq
  rw [if_neg (by omega)]
theorem many_none (hc : 0 < c) (hp : Eats c p) {n : Nat} {l : List Int} (h : l.length / c < n) : pMany p n l = none := by
  cases e : pMany p n l with
  | none => rfl
  | some v =>
    obtain ⟨xs, r⟩ := v
    have h1 := (many_len hp e).2
    have h2 : n ≤ l.length / c := (Nat.le_div_iff_mul_le hc).2 (by omega)
    omega
/-- A count, and as many. -/
theorem Rp.counted (hc : 0 < c) (hp : Eats c p) {n : Nat} {xs : List α} (h : Rp (pCt c) s (n : Int) s1) (g : Rp (pMany p n) s1 xs s2) : Rp (pRows p) s xs s2 := by
  refine ⟨?_, Nat.le_trans g.2 h.2⟩
  rcases h.1 with ⟨h1, h2, h3⟩ | ⟨h1, h2⟩
  · obtain ⟨m, r, e1, e2⟩ := pb_some h2
    unfold pCq at e2
    split at e2
    · cases e2
    · next hm =>
      injection e2 with e2
      injection e2 with e3 e4
      subst e3; subst e4
      have hr : Rp pN s (n : Int) s1 := ⟨.inl ⟨h1, e1, h3⟩, by have := h.2; exact this⟩
      exact (Rp.rows hr g).1
  · rcases g.1 with ⟨g1, _⟩ | ⟨_, g2⟩
    · rw [h2] at g1; cases g1
    · refine .inr ⟨?_, g2⟩
      rcases h1 with h1 | h1
      · exact .inl h1
      · refine .inr ?_
        cases e : pN s.l with
        | none => exact pb_none e
        | some v =>
          obtain ⟨m, r⟩ := v
          have h4 : pCq c m r = none := by rw [← pb_of (q := pCq c) e]; exact h1
          show pb pN (pRq p) s.l = none
          rw [pb_of e]
          unfold pRq
          split
          · rfl
          · next hm =>
            unfold pCq at h4
            split at h4
            · next h5 =>
              refine many_none hc hp ?_
              rcases h5 with h5 | h5
              · exact absurd h5 hm
              · omega
            · cases h4
end

/-! ### the reader -/
/-- A reader at P of the row L: what is left, and whether something was wrong. -/
def TS (w : World) (B P : Nat) (L : List Int) (s : St) : Prop :=
  ∃ A c k, w.heap[P]? = some (.cells #[.slice A L.length c, .int .i64 ((k : Nat) : Int), .bool s.f] 85) ∧ Rd .i64 w B A L ∧ B ≤ P ∧ k ≤ L.length ∧ s.l = L.drop k ∧ (L.length : Int) ≤ 400000
theorem TS.lt {w : World} {B P : Nat} {L : List Int} {s : St} (h : TS w B P L s) : P < w.heap.size := by
  obtain ⟨A, c, k, h1, _⟩ := h
  exact (Array.getElem?_eq_some_iff.1 h1).1
theorem TS.le {w : World} {B P : Nat} {L : List Int} {s : St} (h : TS w B P L s) : B ≤ P := by
  obtain ⟨A, c, k, _, _, h1, _⟩ := h
  exact h1
theorem TS.keep {w w' : World} {B P : Nat} {L : List Int} {s : St} (h : TS w B P L s) (hk : ∀ b, b < B ∨ b = P → w'.heap[b]? = w.heap[b]?) : TS w' B P L s := by
  obtain ⟨A, c, k, h1, h2, h3⟩ := h
  exact ⟨A, c, k, (hk P (.inr rfl)).trans h1, Rd.keep h2 (fun b hb => hk b (.inl hb)), h3⟩
theorem TS.below {w w' : World} {B P : Nat} {L : List Int} {s : St} (h : TS w B P L s) (hb : Below w.heap.size w w') : TS w' B P L s :=
  h.keep (fun b hb' => hb.block b (by have := h.lt; have := h.le; omega))
theorem TS.alloc {w : World} {B P : Nat} {L : List Int} {s : St} (h : TS w B P L s) (x : Obj) : TS (w.alloc x) B P L s := h.below ((Below.refl _ _).alloc (Nat.le_refl _) _)
/-- A store into a block behind the reader's. -/
theorem TS.put {w : World} {B P : Nat} {L : List Int} {s : St} (h : TS w B P L s) {b : Nat} (hb : P < b) (o : Nat) (v : Value) : TS (w.setCell ⟨b, o, none⟩ v) B P L s :=
  h.keep (fun k hk => heap_setCell_other _ _ _ _ (by have := h.le; simp; omega))
theorem TS.set {w : World} {B P : Nat} {L : List Int} {s : St} (h : TS w B P L s) {b : Nat} (hb : P < b) (vs : List Value) (o : Nat) : TS (w.setCells b o vs) B P L s :=
  h.keep (fun k hk => setCells_other (by have := h.le; omega) vs o w)
theorem TS.grown {w w' : World} {B P N : Nat} {L : List Int} {s : St} {r : Option Nat} (h : TS w B P L s) (hg : w.grownBy w' r) (hr : ∀ k, r = some k → N ≤ k) (hN : P < N) : TS w' B P L s :=
  h.keep (fun b hb' => hg.block b (by have := h.lt; have := h.le; omega) (fun e => by have := hr b e.symm; have := h.le; omega))
theorem TS.fail {w : World} {B P : Nat} {L : List Int} {s : St} (h : TS w B P L s) : TS (w.setCell ⟨P, 2, none⟩ (.bool true)) B P L ⟨s.l, true⟩ := by
  obtain ⟨A, c, k, h1, h2, h3⟩ := h
  exact ⟨A, c, k, heap_setCell_same _ P 2 _ 85 (.bool true) h1, h2.keep (fun k hk => heap_setCell_other _ _ _ _ (by have := h3.1; simp; omega)), h3⟩
theorem TS.same {w : World} {B P : Nat} {L : List Int} {s : St} (h : TS w B P L s) : TS (w.setCell ⟨P, 2, none⟩ (.bool s.f)) B P L s := by
  obtain ⟨A, c, k, h1, h2, h3⟩ := h
  exact ⟨A, c, k, heap_setCell_same _ P 2 _ 85 (.bool s.f) h1, h2.keep (fun k hk => heap_setCell_other _ _ _ _ (by have := h3.1; simp; omega)), h3⟩
theorem TS.cells {w : World} {B P : Nat} {L : List Int} {s : St} (h : TS w B P L s) : ∃ A c k, (∀ o, w.cell? ⟨P, o, none⟩ = #[.slice A L.length c, .int .i64 ((k : Nat) : Int), .bool s.f][o]?) ∧ (∀ o, w.frozen? ⟨P, o, none⟩ = false) ∧ P < w.heap.size ∧ (k : Int) ≤ L.length ∧ (L.length : Int) ≤ 400000 ∧ (s.l.length : Int) = L.length - k := by
  obtain ⟨A, c, k, h1, _, _, h4, h5, h6⟩ := h
  exact ⟨A, c, k, cellOf' h1, frozOf' h1, lt_of_block h1, by omega, h6, by rw [h5, List.length_drop]; omega⟩
/-- What a step of the document's reader leaves. -/
def Tk {α : Type} (p : Ps α) (B P : Nat) (L : List Int) (w : World) (s : St) (x : α) (w' : World) : Prop := ∃ s', Hid (Rp p s x s') ∧ Hid (TS w' B P L s') ∧ Hid (Tn P w w')
theorem tn_drew {P : Nat} {a b : World} (h : Tn P a b) (q : Nat) : Tn P a (b.drewN q) := ⟨h.os, h.tape, h.output, h.size, h.block⟩
theorem tn_set2 {P : Nat} {a b : World} (h : Tn P a b) (o : Nat) (v : Value) : Tn P a (b.setCell ⟨P, o, none⟩ v) := tn_trans h (tn_set b o v)
theorem tn_put {P Q : Nat} {w w' : World} (h : Tn P w w') (hQ : w.heap.size ≤ Q) (o : Nat) (v : Value) : Tn P w (w'.setCell ⟨Q, o, none⟩ v) := tn_sets h hQ [v] o
theorem TS.drew {w : World} {B P : Nat} {L : List Int} {s : St} (h : TS w B P L s) (q : Nat) : TS (w.drewN q) B P L s := h.keep (fun _ _ => rfl)
set_option maxRecDepth 20000 in
set_option maxHeartbeats 1000000 in
theorem o_num (L : List Int) (s : St) (w : World) (B P : Nat) (h : TS w B P L s) : Calls Tryz.prog 43 #[pt P] w fun e w' => ∃ n, e = .returned (.int .i64 n) ∧ Tk pN B P L w s n w' := by
  obtain ⟨l, f⟩ := s
  have H := Lib.hid h
  obtain ⟨A, c, k, h1, h2, h3, h4, h5, h6⟩ := h
  have hz := cellOf' h1; have hy := frozOf' h1
  have H1 := Lib.hid h1; have H2 := Lib.hid h2
  have hP := lt_of_block h1
  have H5 : Hid (l = L.drop k) := Lib.hid h5
  clear h1 h2 h5
  cases f with
  | true =>
    go_enter Tryz.func43, Tryz.ntmps43
    go_wp2
    go_quiet (fail)
    go_wp2
    go_ret
    exact ⟨_, rfl, ⟨l, true⟩, Lib.hid (rpN_bad l 0), Lib.hid (H.out.drew _).fail, Lib.hid (tn_set2 (tn_drew (tn_refl P w) _) 2 _)⟩
  | false =>
    by_cases hk : L.length ≤ k
    · have hk' : decide ((L.length : Int) ≤ k) = true := by simpa using hk
      have HN : Hid (l = []) := Lib.hid (by rw [H5.out, List.drop_eq_nil_of_le hk])
      go_enter Tryz.func43, Tryz.ntmps43
      go_wp2
      go_quiet (fail)
      go_wp2
      go_ret
      exact ⟨_, rfl, ⟨l, true⟩, Lib.hid (by rw [HN.out]; exact rpN_none false 0), Lib.hid (H.out.drew _).fail, Lib.hid (tn_set2 (tn_drew (tn_refl P w) _) 2 _)⟩
    · have hk' : decide ((L.length : Int) ≤ k) = false := by simp; omega
      obtain ⟨n, hn⟩ : ∃ n, L[k]? = some n := ⟨_, List.getElem?_eq_getElem (by omega)⟩
      have HD : Hid (l = n :: L.drop (k + 1)) := Lib.hid (by rw [H5.out, List.drop_eq_getElem_cons (show k < L.length by omega), (List.getElem?_eq_some_iff.1 hn).2])
      rcases H2.out with h0 | ⟨b, off, hA, hb, hc⟩
      · rw [h0] at hn; simp at hn
      · subst hA
        have c0 : w.cell? ⟨b, off + k, none⟩ = some (.int .i64 n) := hc k n hn
        have HC0 : Hid (∀ q, ((w.drewN q).setCell ⟨P, 1, none⟩ (.int .i64 ((k : Int) + 1))).cell? ⟨b, off + k, none⟩ = some (.int .i64 n)) := Lib.hid (fun q => by
          rw [World.cell?_setCell_other _ _ _ _ (fun e => by injection e with e; omega)]; exact c0)
        have HB2 : Hid (∀ q, ((w.drewN q).setCell ⟨P, 1, none⟩ (.int .i64 ((k : Int) + 1))).heap[P]? = some (.cells #[.slice (some ⟨b, off, none⟩) L.length c, .int .i64 ((k : Int) + 1), .bool false] 85)) := Lib.hid (fun q => heap_setCell_same _ P 1 _ 85 _ H1.out)
        have hs1 : IntKind.i64.wrap ((k : Int) + 1 - 1) = (k : Int) := by rw [show (k : Int) + 1 - 1 = k by omega]; exact IntWalk.i64_in _ (by omega)
        have HLt := Lib.hid hk
        have hkn : (k : Int) < L.length := by omega
        clear hc hn hk
        go_enter Tryz.func43, Tryz.ntmps43
        go_wp2
        go_quiet (fail)
        go_wp2
        have hz2 := cellOf' (HB2.out nq); have hy2 := frozOf' (HB2.out nq)
        have hc2 := HC0.out nq
        have HT2 : Hid (TS ((w.drewN nq).setCell ⟨P, 1, none⟩ (.int .i64 ((k : Int) + 1))) B P L ⟨L.drop (k + 1), false⟩) := Lib.hid ⟨_, c, k + 1, HB2.out nq, H2.out.keep (fun j hj => heap_setCell_other _ _ _ _ (by simp; omega)), h3, by omega, rfl, h6⟩
        have HN2 : Hid (Tn P w ((w.drewN nq).setCell ⟨P, 1, none⟩ (.int .i64 ((k : Int) + 1)))) := Lib.hid (tn_set2 (tn_drew (tn_refl P w) _) 1 _)
        clear hz hy c0
        generalize (w.drewN nq).setCell ⟨P, 1, none⟩ (.int .i64 ((k : Int) + 1)) = w2 at *
        go_quiet (fail)
        go_wp2
        go_ret
        exact ⟨n, rfl, ⟨L.drop (k + 1), false⟩, Lib.hid (by rw [HD.out]; exact rpN n _ false), Lib.hid (HT2.out.drew _), Lib.hid (tn_drew HN2.out _)⟩
set_option maxRecDepth 20000 in
set_option maxHeartbeats 1000000 in
theorem o_flag (L : List Int) (s : St) (w : World) (B P : Nat) (h : TS w B P L s) : Calls Tryz.prog 44 #[pt P] w fun e w' => ∃ b, e = .returned (.bool b) ∧ Tk pT B P L w s b w' := by
  have H := Lib.hid h; clear h
  go_enter Tryz.func44, Tryz.ntmps44
  go_wp2_with (fail)
  (with_reducible refine (o_num L s _ B P H.out).mono ?_); rintro e w' ⟨n, rfl, s', HR, HS, HT⟩
  obtain ⟨A, c, k, hz, hy, hP, hk, hL, hl⟩ := HS.out.cells
  obtain ⟨l', f'⟩ := s'
  have HL := Lib.hid hL; have HK := Lib.hid hk; clear hL hk hl
  cases f' with
  | true =>
    by_cases h1 : n = 1
    · have h1' : (n == 1) = true := by simpa using h1
      have H1 := Lib.hid h1; clear h1
      go_wp2
      go_ret
      exact ⟨_, rfl, ⟨l', true⟩, Lib.hid (rpT_bad HR.out rfl), Lib.hid HS.out.fail, Lib.hid (tn_set2 HT.out 2 _)⟩
    · have h1' : (n == 1) = false := by simpa using h1
      have H1 := Lib.hid h1; clear h1
      go_wp2
      go_ret
      exact ⟨_, rfl, ⟨l', true⟩, Lib.hid (rpT_bad HR.out rfl), Lib.hid HS.out.fail, Lib.hid (tn_set2 HT.out 2 _)⟩
  | false =>
    by_cases h0 : n = 0
    · subst h0
      go_wp2
      go_ret
      exact ⟨_, rfl, ⟨l', false⟩, Lib.hid (rpT_zero HR.out), Lib.hid HS.out.same, Lib.hid (tn_set2 HT.out 2 _)⟩
    · by_cases h1 : n = 1
      · subst h1
        go_wp2
        go_ret
        exact ⟨_, rfl, ⟨l', false⟩, Lib.hid (rpT_one HR.out), Lib.hid HS.out.same, Lib.hid (tn_set2 HT.out 2 _)⟩
      · have h0' : (n != 0) = true := by simpa using h0
        have h1' : (n != 1) = true := by simpa using h1
        have h1e : (n == 1) = false := by simpa using h1
        have H0 := Lib.hid h0; have H1 := Lib.hid h1
        clear h0 h1
        go_wp2
        go_ret
        exact ⟨_, rfl, ⟨l', true⟩, Lib.hid (rpT_no HR.out H0.out H1.out), Lib.hid HS.out.fail, Lib.hid (tn_set2 HT.out 2 _)⟩
set_option maxRecDepth 20000 in
set_option maxHeartbeats 1000000 in
theorem o_count (c0 : Nat) (hc : (0 : Int) < c0) (hc8 : (c0 : Int) ≤ 100) (L : List Int) (s : St) (w : World) (B P : Nat) (h : TS w B P L s) : Calls Tryz.prog 39 #[pt P, .int .i64 (c0 : Int)] w fun e w' => ∃ n : Nat, e = .returned (.int .i64 (n : Int)) ∧ Hid ((n : Int) ≤ 400000) ∧ Tk (pCt c0) B P L w s (n : Int) w' := by
  have H := Lib.hid h; clear h
  go_enter Tryz.func39, Tryz.ntmps39
  go_wp2_with (fail)
  (with_reducible refine (o_num L s _ B P H.out).mono ?_); rintro e w' ⟨n, rfl, s', HR, HS, HT⟩
  obtain ⟨A, c, k, hz, hy, hP, hk, hL, hl⟩ := HS.out.cells
  obtain ⟨l', f'⟩ := s'
  have HLl : Hid ((l'.length : Int) = L.length - k) := Lib.hid hl
  clear hl
  cases f' with
  | true =>
    go_wp2
    go_quiet (fail)
    go_wp2
    go_ret
    exact ⟨0, rfl, Lib.hid (by omega), ⟨l', true⟩, Lib.hid (rpC_bad HR.out rfl), Lib.hid (HS.out.drew _).fail, Lib.hid (tn_set2 (tn_drew HT.out _) 2 _)⟩
  | false =>
    by_cases hn : n < 0
    · have hn' : decide (n < 0) = true := by simpa using hn
      have HN := Lib.hid hn; clear hn
      go_wp2
      go_quiet (fail)
      go_wp2
      go_ret
      exact ⟨0, rfl, Lib.hid (by omega), ⟨l', true⟩, Lib.hid (rpC_no HR.out (.inl HN.out)), Lib.hid (HS.out.drew _).fail, Lib.hid (tn_set2 (tn_drew HT.out _) 2 _)⟩
    · obtain ⟨m, rfl⟩ := Int.eq_ofNat_of_zero_le (show 0 ≤ n by omega)
      have hn' : decide ((m : Int) < 0) = false := by simp
      have hq : Int.tdiv ((L.length : Int) - k) (c0 : Int) = ((l'.length / c0 : Nat) : Int) := by rw [← HLl.out]; rfl
      have hql : l'.length / c0 ≤ l'.length := Nat.div_le_self _ _
      obtain ⟨q, hqe⟩ : ∃ q, l'.length / c0 = q := ⟨_, rfl⟩
      rw [hqe] at hq hql
      have hqb : (q : Int) ≤ 400000 := by have := HLl.out; omega
      have HQ := Lib.hid hqe; have HQB := Lib.hid hqb
      have hs1 : IntKind.i64.wrap ((L.length : Int) - k) = (L.length : Int) - k := IntWalk.i64_in _ (by omega)
      have hs2 : wrap64 ((L.length : Int) - k) = (L.length : Int) - k := by unfold wrap64; omega
      clear hn hqe hql
      by_cases hm : q < m
      · have hm' : decide ((q : Int) < m) = true := by simpa using hm
        have hm2 : decide (q < m) = true := by simpa using hm
        have HN := Lib.hid hm; clear hm
        go_wp2
        go_quiet (fail)
        go_wp2
        go_ret
        exact ⟨0, rfl, Lib.hid (by omega), ⟨l', true⟩, Lib.hid (rpC_no HR.out (.inr (by have := HQ.out; have := HN.out; simp only []; omega))), Lib.hid (HS.out.drew _).fail, Lib.hid (tn_set2 (tn_drew HT.out _) 2 _)⟩
      · have hm' : decide ((q : Int) < m) = false := by simp; omega
        have hm2 : decide (q < m) = false := by simpa using hm
        have HN : Hid (m ≤ q) := Lib.hid (by omega)
        clear hm
        go_wp2
        go_quiet (fail)
        go_wp2
        go_ret
        exact ⟨m, rfl, Lib.hid (by have := HN.out; have := HQB.out; omega), ⟨l', false⟩, Lib.hid (rpC_yes HR.out rfl (by omega) (by have := HQ.out; have := HN.out; simp only []; omega)), Lib.hid (HS.out.drew _), Lib.hid (tn_drew HT.out _)⟩
set_option maxRecDepth 20000 in
set_option maxHeartbeats 4000000 in
theorem o_au (L : List Int) (s0 : St) (w : World) (B P : Nat) (h : TS w B P L s0) : Calls Tryz.prog 41 #[pt P] w fun e w' => ∃ x : Au, e = .returned (auv x) ∧ Tk pAu B P L w s0 x w' := by
  have hN := heap_alloc_new w (.cells #[.int .i64 0, .int .i64 0, .int .i64 0, .int .i64 0, .int .i64 0, .int .i64 0, .bool false] 63)
  have HS0 := Lib.hid (h.alloc (.cells #[.int .i64 0, .int .i64 0, .int .i64 0, .int .i64 0, .int .i64 0, .int .i64 0, .bool false] 63)); have HlR := Lib.hid h.lt
  have hsz : w.heap.size < (w.alloc (.cells #[.int .i64 0, .int .i64 0, .int .i64 0, .int .i64 0, .int .i64 0, .int .i64 0, .bool false] 63)).heap.size := by simp
  have HW0 : Hid (Tn P w (w.alloc (.cells #[.int .i64 0, .int .i64 0, .int .i64 0, .int .i64 0, .int .i64 0, .int .i64 0, .bool false] 63))) := Lib.hid (tn_alloc (tn_refl P w) _)
  clear h
  go_enter Tryz.func41, Tryz.ntmps41
  go_wp2_with (fail)
  generalize w.alloc (.cells #[.int .i64 0, .int .i64 0, .int .i64 0, .int .i64 0, .int .i64 0, .int .i64 0, .bool false] 63) = w0 at *
  have HRc0 := Lib.hid hN; have HSz := Lib.hid hsz
  clear hN hsz
  go_wp2_with (first
    | ((with_reducible refine (o_num L s0 _ B P HS0.out).mono ?_); rintro e w1 ⟨x1, rfl, s1, HR1, HT1, HN1⟩; have HlQ : Hid (w.heap.size < w1.heap.size) := Lib.hid (Nat.lt_of_lt_of_le HSz.out HN1.out.size); have HlP : Hid (P < w1.heap.size) := Lib.hid (Nat.lt_trans HlR.out HlQ.out); have HB1 : Hid ((w1.alloc (.cells #[.int .i64 x1, .int .i64 0, .int .i64 0, .int .i64 0, .int .i64 0, .int .i64 0, .bool false] 63)).heap[w1.heap.size]? = some (.cells #[.int .i64 x1, .int .i64 0, .int .i64 0, .int .i64 0, .int .i64 0, .int .i64 0, .bool false] 63)) := Lib.hid (heap_alloc_new w1 _); have HRc1 : Hid ((w1.alloc (.cells #[.int .i64 x1, .int .i64 0, .int .i64 0, .int .i64 0, .int .i64 0, .int .i64 0, .bool false] 63)).heap[w.heap.size]? = some (.cells #[.int .i64 0, .int .i64 0, .int .i64 0, .int .i64 0, .int .i64 0, .int .i64 0, .bool false] 63)) := Lib.hid ((Below.heap_alloc _ _ _ HlQ.out).trans (tn_box HN1.out HRc0.out (Nat.ne_of_gt HlR.out))); have HS1 : Hid (TS (w1.alloc (.cells #[.int .i64 x1, .int .i64 0, .int .i64 0, .int .i64 0, .int .i64 0, .int .i64 0, .bool false] 63)) B P L s1) := Lib.hid (HT1.out.alloc _); have HW1 : Hid (Tn P w (w1.alloc (.cells #[.int .i64 x1, .int .i64 0, .int .i64 0, .int .i64 0, .int .i64 0, .int .i64 0, .bool false] 63))) := Lib.hid (tn_alloc (tn_trans HW0.out HN1.out) _))
    | ((with_reducible refine (o_num L s1 _ B P HS1.out).mono ?_); rintro e w2 ⟨x2, rfl, s2, HR2, HT2, HN2⟩; have HM2 : Hid (w2.heap[w1.heap.size]? = some (.cells #[.int .i64 x1, .int .i64 0, .int .i64 0, .int .i64 0, .int .i64 0, .int .i64 0, .bool false] 63)) := Lib.hid (tn_box HN2.out HB1.out (Nat.ne_of_gt HlP.out)); have HB2 : Hid ((w2.setCell ⟨w1.heap.size, 1, none⟩ (.int .i64 x2)).heap[w1.heap.size]? = some (.cells #[.int .i64 x1, .int .i64 x2, .int .i64 0, .int .i64 0, .int .i64 0, .int .i64 0, .bool false] 63)) := Lib.hid (heap_setCell_same _ _ 1 _ 63 _ HM2.out); have HRc2 : Hid ((w2.setCell ⟨w1.heap.size, 1, none⟩ (.int .i64 x2)).heap[w.heap.size]? = some (.cells #[.int .i64 0, .int .i64 0, .int .i64 0, .int .i64 0, .int .i64 0, .int .i64 0, .bool false] 63)) := Lib.hid ((heap_setCell_other _ _ _ _ (by have := HlQ.out; simp; omega)).trans (tn_box HN2.out HRc1.out (Nat.ne_of_gt HlR.out))); have HS2 : Hid (TS (w2.setCell ⟨w1.heap.size, 1, none⟩ (.int .i64 x2)) B P L s2) := Lib.hid (HT2.out.put HlP.out 1 _); have HW2 : Hid (Tn P w (w2.setCell ⟨w1.heap.size, 1, none⟩ (.int .i64 x2))) := Lib.hid (tn_put (tn_trans HW1.out HN2.out) (Nat.le_of_lt HlQ.out) 1 _); have hz := cellOf' HM2.out; have hy := frozOf' HM2.out; have hlt := lt_of_block HM2.out)
    | ((with_reducible refine (o_num L s2 _ B P HS2.out).mono ?_); rintro e w3 ⟨x3, rfl, s3, HR3, HT3, HN3⟩; have HM3 : Hid (w3.heap[w1.heap.size]? = some (.cells #[.int .i64 x1, .int .i64 x2, .int .i64 0, .int .i64 0, .int .i64 0, .int .i64 0, .bool false] 63)) := Lib.hid (tn_box HN3.out HB2.out (Nat.ne_of_gt HlP.out)); have HB3 : Hid ((w3.setCell ⟨w1.heap.size, 2, none⟩ (.int .i64 x3)).heap[w1.heap.size]? = some (.cells #[.int .i64 x1, .int .i64 x2, .int .i64 x3, .int .i64 0, .int .i64 0, .int .i64 0, .bool false] 63)) := Lib.hid (heap_setCell_same _ _ 2 _ 63 _ HM3.out); have HRc3 : Hid ((w3.setCell ⟨w1.heap.size, 2, none⟩ (.int .i64 x3)).heap[w.heap.size]? = some (.cells #[.int .i64 0, .int .i64 0, .int .i64 0, .int .i64 0, .int .i64 0, .int .i64 0, .bool false] 63)) := Lib.hid ((heap_setCell_other _ _ _ _ (by have := HlQ.out; simp; omega)).trans (tn_box HN3.out HRc2.out (Nat.ne_of_gt HlR.out))); have HS3 : Hid (TS (w3.setCell ⟨w1.heap.size, 2, none⟩ (.int .i64 x3)) B P L s3) := Lib.hid (HT3.out.put HlP.out 2 _); have HW3 : Hid (Tn P w (w3.setCell ⟨w1.heap.size, 2, none⟩ (.int .i64 x3))) := Lib.hid (tn_put (tn_trans HW2.out HN3.out) (Nat.le_of_lt HlQ.out) 2 _); have hz := cellOf' HM3.out; have hy := frozOf' HM3.out; have hlt := lt_of_block HM3.out)
    | ((with_reducible refine (o_num L s3 _ B P HS3.out).mono ?_); rintro e w4 ⟨x4, rfl, s4, HR4, HT4, HN4⟩; have HM4 : Hid (w4.heap[w1.heap.size]? = some (.cells #[.int .i64 x1, .int .i64 x2, .int .i64 x3, .int .i64 0, .int .i64 0, .int .i64 0, .bool false] 63)) := Lib.hid (tn_box HN4.out HB3.out (Nat.ne_of_gt HlP.out)); have HB4 : Hid ((w4.setCell ⟨w1.heap.size, 3, none⟩ (.int .i64 x4)).heap[w1.heap.size]? = some (.cells #[.int .i64 x1, .int .i64 x2, .int .i64 x3, .int .i64 x4, .int .i64 0, .int .i64 0, .bool false] 63)) := Lib.hid (heap_setCell_same _ _ 3 _ 63 _ HM4.out); have HRc4 : Hid ((w4.setCell ⟨w1.heap.size, 3, none⟩ (.int .i64 x4)).heap[w.heap.size]? = some (.cells #[.int .i64 0, .int .i64 0, .int .i64 0, .int .i64 0, .int .i64 0, .int .i64 0, .bool false] 63)) := Lib.hid ((heap_setCell_other _ _ _ _ (by have := HlQ.out; simp; omega)).trans (tn_box HN4.out HRc3.out (Nat.ne_of_gt HlR.out))); have HS4 : Hid (TS (w4.setCell ⟨w1.heap.size, 3, none⟩ (.int .i64 x4)) B P L s4) := Lib.hid (HT4.out.put HlP.out 3 _); have HW4 : Hid (Tn P w (w4.setCell ⟨w1.heap.size, 3, none⟩ (.int .i64 x4))) := Lib.hid (tn_put (tn_trans HW3.out HN4.out) (Nat.le_of_lt HlQ.out) 3 _); have hz := cellOf' HM4.out; have hy := frozOf' HM4.out; have hlt := lt_of_block HM4.out)
    | ((with_reducible refine (o_num L s4 _ B P HS4.out).mono ?_); rintro e w5 ⟨x5, rfl, s5, HR5, HT5, HN5⟩; have HM5 : Hid (w5.heap[w1.heap.size]? = some (.cells #[.int .i64 x1, .int .i64 x2, .int .i64 x3, .int .i64 x4, .int .i64 0, .int .i64 0, .bool false] 63)) := Lib.hid (tn_box HN5.out HB4.out (Nat.ne_of_gt HlP.out)); have HB5 : Hid ((w5.setCell ⟨w1.heap.size, 4, none⟩ (.int .i64 x5)).heap[w1.heap.size]? = some (.cells #[.int .i64 x1, .int .i64 x2, .int .i64 x3, .int .i64 x4, .int .i64 x5, .int .i64 0, .bool false] 63)) := Lib.hid (heap_setCell_same _ _ 4 _ 63 _ HM5.out); have HRc5 : Hid ((w5.setCell ⟨w1.heap.size, 4, none⟩ (.int .i64 x5)).heap[w.heap.size]? = some (.cells #[.int .i64 0, .int .i64 0, .int .i64 0, .int .i64 0, .int .i64 0, .int .i64 0, .bool false] 63)) := Lib.hid ((heap_setCell_other _ _ _ _ (by have := HlQ.out; simp; omega)).trans (tn_box HN5.out HRc4.out (Nat.ne_of_gt HlR.out))); have HS5 : Hid (TS (w5.setCell ⟨w1.heap.size, 4, none⟩ (.int .i64 x5)) B P L s5) := Lib.hid (HT5.out.put HlP.out 4 _); have HW5 : Hid (Tn P w (w5.setCell ⟨w1.heap.size, 4, none⟩ (.int .i64 x5))) := Lib.hid (tn_put (tn_trans HW4.out HN5.out) (Nat.le_of_lt HlQ.out) 4 _); have hz := cellOf' HM5.out; have hy := frozOf' HM5.out; have hlt := lt_of_block HM5.out)
    | ((with_reducible refine (o_num L s5 _ B P HS5.out).mono ?_); rintro e w6 ⟨x6, rfl, s6, HR6, HT6, HN6⟩; have HM6 : Hid (w6.heap[w1.heap.size]? = some (.cells #[.int .i64 x1, .int .i64 x2, .int .i64 x3, .int .i64 x4, .int .i64 x5, .int .i64 0, .bool false] 63)) := Lib.hid (tn_box HN6.out HB5.out (Nat.ne_of_gt HlP.out)); have HB6 : Hid ((w6.setCell ⟨w1.heap.size, 5, none⟩ (.int .i64 x6)).heap[w1.heap.size]? = some (.cells #[.int .i64 x1, .int .i64 x2, .int .i64 x3, .int .i64 x4, .int .i64 x5, .int .i64 x6, .bool false] 63)) := Lib.hid (heap_setCell_same _ _ 5 _ 63 _ HM6.out); have HRc6 : Hid ((w6.setCell ⟨w1.heap.size, 5, none⟩ (.int .i64 x6)).heap[w.heap.size]? = some (.cells #[.int .i64 0, .int .i64 0, .int .i64 0, .int .i64 0, .int .i64 0, .int .i64 0, .bool false] 63)) := Lib.hid ((heap_setCell_other _ _ _ _ (by have := HlQ.out; simp; omega)).trans (tn_box HN6.out HRc5.out (Nat.ne_of_gt HlR.out))); have HS6 : Hid (TS (w6.setCell ⟨w1.heap.size, 5, none⟩ (.int .i64 x6)) B P L s6) := Lib.hid (HT6.out.put HlP.out 5 _); have HW6 : Hid (Tn P w (w6.setCell ⟨w1.heap.size, 5, none⟩ (.int .i64 x6))) := Lib.hid (tn_put (tn_trans HW5.out HN6.out) (Nat.le_of_lt HlQ.out) 5 _); have hz := cellOf' HM6.out; have hy := frozOf' HM6.out; have hlt := lt_of_block HM6.out)
    | ((with_reducible refine (o_flag L s6 _ B P HS6.out).mono ?_); rintro e w7 ⟨x7, rfl, s7, HR7, HT7, HN7⟩; have HM7 : Hid (w7.heap[w1.heap.size]? = some (.cells #[.int .i64 x1, .int .i64 x2, .int .i64 x3, .int .i64 x4, .int .i64 x5, .int .i64 x6, .bool false] 63)) := Lib.hid (tn_box HN7.out HB6.out (Nat.ne_of_gt HlP.out)); have HB7 : Hid ((w7.setCell ⟨w1.heap.size, 6, none⟩ (.bool x7)).heap[w1.heap.size]? = some (.cells #[.int .i64 x1, .int .i64 x2, .int .i64 x3, .int .i64 x4, .int .i64 x5, .int .i64 x6, .bool x7] 63)) := Lib.hid (heap_setCell_same _ _ 6 _ 63 _ HM7.out); have HRc7 : Hid ((w7.setCell ⟨w1.heap.size, 6, none⟩ (.bool x7)).heap[w.heap.size]? = some (.cells #[.int .i64 0, .int .i64 0, .int .i64 0, .int .i64 0, .int .i64 0, .int .i64 0, .bool false] 63)) := Lib.hid ((heap_setCell_other _ _ _ _ (by have := HlQ.out; simp; omega)).trans (tn_box HN7.out HRc6.out (Nat.ne_of_gt HlR.out))); have HS7 : Hid (TS (w7.setCell ⟨w1.heap.size, 6, none⟩ (.bool x7)) B P L s7) := Lib.hid (HT7.out.put HlP.out 6 _); have HW7 : Hid (Tn P w (w7.setCell ⟨w1.heap.size, 6, none⟩ (.bool x7))) := Lib.hid (tn_put (tn_trans HW6.out HN7.out) (Nat.le_of_lt HlQ.out) 6 _); have hz := cellOf' HM7.out; have hy := frozOf' HM7.out; have hlt := lt_of_block HM7.out; have hzQ := cellOf' HB7.out; have hzR := cellOf' HRc7.out; have hyR := frozOf' HRc7.out; have hltR := lt_of_block HRc7.out; have hltQ := lt_of_block HB7.out))
  refine bodyPost_ret (by simp [results, Tryz.results41, go_sem, hzR]; try rfl) rfl ?_
  have hS := HS7.out.set (b := w.heap.size) HlR.out [.int .i64 x1, .int .i64 x2, .int .i64 x3, .int .i64 x4, .int .i64 x5, .int .i64 x6, .bool x7] 0
  have hT := tn_sets HW7.out (Nat.le_refl _) [.int .i64 x1, .int .i64 x2, .int .i64 x3, .int .i64 x4, .int .i64 x5, .int .i64 x6, .bool x7] 0
  exact ⟨⟨x1, x2, x3, x4, x5, x6, x7⟩, rfl, ⟨_, Lib.hid (HR1.out.bind (HR2.out.bind (HR3.out.bind (HR4.out.bind (HR5.out.bind (HR6.out.bind (HR7.out.bind (Rp.pure _ _)))))))), Lib.hid hS, Lib.hid hT⟩⟩
end Go.Proofs.YtpjenkgimkndaaaGreat.Con
