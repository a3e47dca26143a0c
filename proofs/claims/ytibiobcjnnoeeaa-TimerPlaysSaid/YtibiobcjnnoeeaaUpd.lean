/-
  Contracts of container/heap's up and down over a queue of timers.
-/
import Derived.Test.YtibiobcjnnoeeaaOrd
import Derived.Test.YtibiobcjnnoeeaaPsh
import Derived.Deep.LoopGhost
import Derived.Handy
namespace Go.Proofs.Ytibiobcjnnoeeaa.Con
open Go.RowKit Tmr Go.Maps

/-- A queue whose map tells the places of its row, all numbers apart. -/
structure Qs (w : World) (base q mb : Nat) (A : Option Addr) (c : Nat) (l : List Tm) (last : Int) : Prop where
  que : Que w base q mb A c l l last
  ne : l.Pairwise (fun a b => a.id ≠ b.id)
  ids : ∀ t ∈ l, 1 ≤ t.id ∧ t.id ≤ 1000000
  len : (l.length : Int) ≤ 2000
section
variable {w w' : World} {base q mb : Nat} {A : Option Addr} {c : Nat} {l l' : List Tm} {last : Int}
theorem Qs.step (h : Qs w base q mb A c l last) (hb : Below w.heap.size w w') : Qs w' base q mb A c l last := ⟨h.que.step hb, h.ne, h.ids, h.len⟩
theorem Qs.perm (h : Qs w base q mb A c l last) (hp : l'.Perm l) (hq : Que w' base q mb A c l' l' last) : Qs w' base q mb A c l' last :=
  ⟨hq, perm_ne hp h.ne, fun t ht => h.ids t (hp.mem_iff.1 ht), by rw [hp.length_eq]; exact h.len⟩
theorem less_s (h : Qs w base q mb A c l last) (i j : Nat) (hi : i < l.length) (hj : j < l.length) (x : Bool) (hx : lt (g l i) (g l j) = x) :
    Calls Try.prog 44 #[.pointer (some ⟨q, 0, none⟩), .int .i64 i, .int .i64 j] w fun e w' => e = .returned (.bool x) ∧ Hid (Qs w' base q mb A c l last) ∧ Hid (Off w w' (bls q mb A)) := by
  refine (less_q h.que i j hi hj x hx).mono ?_
  rintro e w' ⟨rfl, hb⟩
  exact ⟨rfl, Lib.hid (h.step hb), Lib.hid (Off.of_below hb)⟩
theorem swap_s (h : Qs w base q mb A c l last) (i j : Nat) (hi : i < l.length) (hj : j < l.length) (hij : i ≠ j) :
    Calls Try.prog 47 #[.pointer (some ⟨q, 0, none⟩), .int .i64 i, .int .i64 j] w fun e w' => e = .returned (.tuple #[]) ∧ Hid (Qs w' base q mb A c (sw l i j) last) ∧ Hid (Off w w' (bls q mb A)) := by
  refine (swap_q h.que i j hi hj hij h.ne h.ids h.len).mono ?_
  rintro e w' ⟨rfl, hb, ho⟩
  exact ⟨rfl, Lib.hid (h.perm (sw_perm hi hj) hb.out), ho⟩
theorem Off.same {a b c : World} {bs : List Nat} (h : Off a b bs) (k : Off b c bs) : Off a c bs := h.trans k (fun _ hx => .inl hx)
end

/-- What up and down leave: the row in another order, a heap up to n. -/
def Upped (w : World) (base q mb : Nat) (A : Option Addr) (c : Nat) (l : List Tm) (last : Int) (n : Nat) (w' : World) : Prop :=
  ∃ l', Hid (Qs w' base q mb A c l' last) ∧ Hid (Off w w' (bls q mb A)) ∧ Hid (l'.Perm l) ∧ Hid (Heap n l') ∧ Hid (∀ k, n ≤ k → l'[k]? = l[k]?)

set_option maxHeartbeats 4000000 in
theorem up_any {w : World} {base q mb : Nat} {A : Option Addr} {c : Nat} {l : List Tm} {last : Int} (h : Qs w base q mb A c l last) (n j : Nat) (hn : n ≤ l.length) (hj : j < n) (hu : UpI n l j) :
    Calls Try.prog 25 #[.iface 56 (.pointer (some ⟨q, 0, none⟩)), .int .i64 j] w fun e w' => e = .returned (.tuple #[]) ∧ Upped w base q mb A c l last n w' := by
  have hlen := h.len
  have HQ0 := Lib.hid h; have HU := Lib.hid hu
  clear h hu
  go_enter Try.func25, Try.ntmps25
  go_wp2
  go_loopg [1] j (fun m s1 wr => ∃ (x : Nat) (lr : List Tm), x < n ∧ x = m ∧ s1 = .int .i64 (x : Int) ∧ lr.length = l.length ∧ Hid (Qs wr base q mb A c lr last) ∧ Hid (Off w wr (bls q mb A)) ∧ Hid (lr.Perm l) ∧ Hid (UpI n lr x) ∧ Hid (∀ k, n ≤ k → lr[k]? = l[k]?))
  case atStart => exact ⟨j, l, hj, rfl, rfl, rfl, HQ0, Lib.hid (Off.refl _ _), Lib.hid (List.Perm.refl _), HU, Lib.hid (fun _ _ => rfl)⟩
  case round =>
    obtain ⟨x, lr, hx, hxm, rfl, hlr, HQ, HO, HP, HUr, HT⟩ := hrel
    subst hxm
    by_cases h0 : x = 0
    · subst h0
      have hd : Int.tdiv (((0 : Nat) : Int) - 1) 2 = 0 := by decide
      go_wp2
      go_end0
      exact ⟨rfl, lr, HQ, HO, HP, Lib.hid (up_stop HUr.out (.inl rfl)), HT⟩
    · obtain ⟨i, hi⟩ : ∃ i, (x - 1) / 2 = i := ⟨_, rfl⟩
      have hix : i < x := by omega
      have hd : Int.tdiv ((x : Int) - 1) 2 = (i : Int) := by rw [Int.tdiv_eq_ediv_of_nonneg (by omega)]; omega
      have hne : ((i : Int) == (x : Int)) = false := by simp; omega
      cases hlt : lt (g lr x) (g lr i)
      · have HLt := Lib.hid hlt
        clear hlt
        go_wp2_with ((with_reducible refine (less_s HQ.out x i (by omega) (by omega) _ HLt.out).mono ?_); rintro e w1 ⟨rfl, HQ1, HO1⟩)
        go_end0
        exact ⟨rfl, lr, HQ1, Lib.hid (HO.out.same HO1.out), HP, Lib.hid (up_stop HUr.out (.inr (by rw [hi]; exact HLt.out))), HT⟩
      · have HLt := Lib.hid hlt
        clear hlt
        have HSl : Hid ((sw lr i x).length = l.length) := Lib.hid (by rw [sw_length]; exact hlr)
        go_wp2_with (first
          | ((with_reducible refine (less_s HQ.out x i (by omega) (by omega) _ HLt.out).mono ?_); rintro e w1 ⟨rfl, HQ1, HO1⟩)
          | ((with_reducible refine (swap_s HQ1.out i x (by omega) (by omega) (by omega)).mono ?_); rintro e w2 ⟨rfl, HQ2, HO2⟩))
        go_roundg i
        refine ⟨i, sw lr i x, by omega, rfl, rfl, HSl.out, HQ2, Lib.hid ((HO.out.same HO1.out).same HO2.out), Lib.hid ((sw_perm (by omega) (by omega)).trans HP.out), Lib.hid (up_step HUr.out (by omega) hx (by omega) hi HLt.out), Lib.hid (fun k hk => ?_)⟩
        · rw [sw_get (by omega) (by omega), if_neg (by omega), if_neg (by omega)]
          exact HT.out k hk
        · omega

/-- What down leaves, and what it answers: has the timer moved? -/
def Downed (w : World) (base q mb : Nat) (A : Option Addr) (c : Nat) (l : List Tm) (last : Int) (n i0 : Nat) (x : Bool) (w' : World) : Prop :=
  ∃ l', Hid (Qs w' base q mb A c l' last) ∧ Hid (Off w w' (bls q mb A)) ∧ Hid (l'.Perm l) ∧ Hid (x = true → Heap n l') ∧ Hid (x = false → UpI n l' i0) ∧ Hid (∀ k, n ≤ k → l'[k]? = l[k]?)
theorem dn_end {w w' : World} {base q mb : Nat} {A : Option Addr} {c : Nat} {l lr : List Tm} {last : Int} {n i i0 : Nat} (h1 : Qs w' base q mb A c lr last) (h2 : Off w w' (bls q mb A)) (h3 : lr.Perm l) (h4 : DnI n lr i i0) (h5 : ∀ k, n ≤ k → lr[k]? = l[k]?) (hs : ∀ c, 1 ≤ c → c < n → (c - 1) / 2 = i → Le (g lr i) (g lr c)) (hi : i0 ≤ i) : Downed w base q mb A c l last n i0 (decide (i0 < i)) w' := by
  obtain ⟨k1, k2⟩ := dn_stop h4 hs hi
  refine ⟨lr, Lib.hid h1, Lib.hid h2, Lib.hid h3, Lib.hid (fun e => k1 ?_), Lib.hid (fun e => k2 ?_), Lib.hid h5⟩
  · simp at e; omega
  · simp at e; omega
theorem min_stop {lr : List Tm} {n i j : Nat} (hmin : ∀ c, 1 ≤ c → c < n → (c - 1) / 2 = i → Le (g lr j) (g lr c)) (hl : lt (g lr j) (g lr i) = false) : ∀ c, 1 ≤ c → c < n → (c - 1) / 2 = i → Le (g lr i) (g lr c) :=
  fun c h1 h2 h3 => (le_of_not hl).trans (hmin c h1 h2 h3)
theorem tail_sw {l lr : List Tm} {n i j : Nat} (h : ∀ k, n ≤ k → lr[k]? = l[k]?) (hn : n ≤ lr.length) (hi : i < n) (hj : j < n) : ∀ k, n ≤ k → (sw lr i j)[k]? = l[k]? := fun k hk => by
  rw [sw_get (by omega) (by omega), if_neg (by omega), if_neg (by omega)]
  exact h k hk

set_option maxHeartbeats 8000000 in
theorem down_any {w : World} {base q mb : Nat} {A : Option Addr} {c : Nat} {l : List Tm} {last : Int} (h : Qs w base q mb A c l last) (n i0 : Nat) (hn : n ≤ l.length) (hi0 : i0 < n) (hu : DnI n l i0 i0) :
    Calls Try.prog 27 #[.iface 56 (.pointer (some ⟨q, 0, none⟩)), .int .i64 i0, .int .i64 n] w fun e w' => ∃ x, e = .returned (.bool x) ∧ Downed w base q mb A c l last n i0 x w' := by
  have hlen := h.len
  have HQ0 := Lib.hid h; have HU := Lib.hid hu
  clear h hu
  go_enter Try.func27, Try.ntmps27
  go_wp2
  go_loopg [7] (n - i0) (fun m s7 wr => ∃ (i : Nat) (lr : List Tm), i0 ≤ i ∧ i < n ∧ m = n - i ∧ s7 = .int .i64 (i : Int) ∧ lr.length = l.length ∧ Hid (Qs wr base q mb A c lr last) ∧ Hid (Off w wr (bls q mb A)) ∧ Hid (lr.Perm l) ∧ Hid (DnI n lr i i0) ∧ Hid (∀ k, n ≤ k → lr[k]? = l[k]?))
  case atStart => exact ⟨i0, l, by omega, hi0, rfl, rfl, rfl, HQ0, Lib.hid (Off.refl _ _), Lib.hid (List.Perm.refl _), HU, Lib.hid (fun _ _ => rfl)⟩
  case round =>
    obtain ⟨i, lr, h0, hx, rfl, rfl, hlr, HQ, HO, HP, HD, HT⟩ := hrel
    obtain ⟨j, hj⟩ : ∃ j, 2 * i + 1 = j := ⟨_, rfl⟩
    have hd1 : 2 * (i : Int) + 1 = (j : Int) := by omega
    have hj0 : decide ((j : Int) < 0) = false := by simp
    by_cases hjn : n ≤ j
    · have hjn' : (n : Int) ≤ j := by omega
      have hjn2 : decide ((j : Int) ≥ (n : Int)) = true := by simpa using hjn'
      have HS := Lib.hid (show ∀ c, 1 ≤ c → c < n → (c - 1) / 2 = i → Le (g lr i) (g lr c) from fun c h1 h2 h3 => by omega)
      go_wp2
      go_ret
      exact ⟨_, rfl, dn_end HQ.out HO.out HP.out HD.out HT.out HS.out h0⟩
    · have hjn' : (j : Int) < n := by omega
      have hjn2 : decide ((j : Int) ≥ (n : Int)) = false := by simp; omega
      obtain ⟨k, hk⟩ : ∃ k, j + 1 = k := ⟨_, rfl⟩
      have hd2 : (j : Int) + 1 = (k : Int) := by omega
      by_cases hkn : k < n
      · have hkn' : (k : Int) < n := by omega
        have hkn2 : decide ((k : Int) < (n : Int)) = true := by simpa using hkn'
        cases hlk : lt (g lr k) (g lr j)
        · have HLk := Lib.hid hlk
          have HMin := Lib.hid (show ∀ c, 1 ≤ c → c < n → (c - 1) / 2 = i → Le (g lr j) (g lr c) from fun c h1 h2 h3 => by
            rcases (by omega : c = j ∨ c = k) with rfl | rfl
            · exact Le.refl _
            · exact le_of_not hlk)
          clear hlk
          cases hlt : lt (g lr j) (g lr i)
          · have HLt := Lib.hid hlt
            clear hlt
            go_wp2_with (first
              | ((with_reducible refine (less_s HQ.out k j (by omega) (by omega) _ HLk.out).mono ?_); rintro e w1 ⟨rfl, HQ1, HO1⟩)
              | ((with_reducible refine (less_s HQ1.out j i (by omega) (by omega) _ HLt.out).mono ?_); rintro e w2 ⟨rfl, HQ2, HO2⟩))
            go_ret
            exact ⟨_, rfl, dn_end HQ2.out ((HO.out.same HO1.out).same HO2.out) HP.out HD.out HT.out (min_stop HMin.out HLt.out) h0⟩
          · have HLt := Lib.hid hlt
            clear hlt
            have HSl : Hid ((sw lr i j).length = l.length) := Lib.hid (by rw [sw_length]; exact hlr)
            go_wp2_with (first
              | ((with_reducible refine (less_s HQ.out k j (by omega) (by omega) _ HLk.out).mono ?_); rintro e w1 ⟨rfl, HQ1, HO1⟩)
              | ((with_reducible refine (less_s HQ1.out j i (by omega) (by omega) _ HLt.out).mono ?_); rintro e w2 ⟨rfl, HQ2, HO2⟩)
              | ((with_reducible refine (swap_s HQ2.out i j (by omega) (by omega) (by omega)).mono ?_); rintro e w3 ⟨rfl, HQ3, HO3⟩))
            go_roundg (n - j)
            · exact ⟨j, sw lr i j, by omega, by omega, rfl, rfl, HSl.out, HQ3, Lib.hid (((HO.out.same HO1.out).same HO2.out).same HO3.out), Lib.hid ((sw_perm (by omega) (by omega)).trans HP.out), Lib.hid (dn_step HD.out (by omega) (by omega) (by omega) (by omega) h0 HLt.out HMin.out), Lib.hid (tail_sw HT.out (by omega) (by omega) (by omega))⟩
            · omega
        · have HLk := Lib.hid hlk
          have HMin := Lib.hid (show ∀ c, 1 ≤ c → c < n → (c - 1) / 2 = i → Le (g lr k) (g lr c) from fun c h1 h2 h3 => by
            rcases (by omega : c = j ∨ c = k) with rfl | rfl
            · exact le_of_lt hlk
            · exact Le.refl _)
          clear hlk
          cases hlt : lt (g lr k) (g lr i)
          · have HLt := Lib.hid hlt
            clear hlt
            go_wp2_with (first
              | ((with_reducible refine (less_s HQ.out k j (by omega) (by omega) _ HLk.out).mono ?_); rintro e w1 ⟨rfl, HQ1, HO1⟩)
              | ((with_reducible refine (less_s HQ1.out k i (by omega) (by omega) _ HLt.out).mono ?_); rintro e w2 ⟨rfl, HQ2, HO2⟩))
            go_ret
            exact ⟨_, rfl, dn_end HQ2.out ((HO.out.same HO1.out).same HO2.out) HP.out HD.out HT.out (min_stop HMin.out HLt.out) h0⟩
          · have HLt := Lib.hid hlt
            clear hlt
            have HSl : Hid ((sw lr i k).length = l.length) := Lib.hid (by rw [sw_length]; exact hlr)
            go_wp2_with (first
              | ((with_reducible refine (less_s HQ.out k j (by omega) (by omega) _ HLk.out).mono ?_); rintro e w1 ⟨rfl, HQ1, HO1⟩)
              | ((with_reducible refine (less_s HQ1.out k i (by omega) (by omega) _ HLt.out).mono ?_); rintro e w2 ⟨rfl, HQ2, HO2⟩)
              | ((with_reducible refine (swap_s HQ2.out i k (by omega) (by omega) (by omega)).mono ?_); rintro e w3 ⟨rfl, HQ3, HO3⟩))
            go_roundg (n - k)
            · exact ⟨k, sw lr i k, by omega, by omega, rfl, rfl, HSl.out, HQ3, Lib.hid (((HO.out.same HO1.out).same HO2.out).same HO3.out), Lib.hid ((sw_perm (by omega) (by omega)).trans HP.out), Lib.hid (dn_step HD.out (by omega) (by omega) (by omega) (by omega) h0 HLt.out HMin.out), Lib.hid (tail_sw HT.out (by omega) (by omega) (by omega))⟩
            · omega
      · have hkn2 : decide ((k : Int) < (n : Int)) = false := by simp; omega
        have HMin := Lib.hid (show ∀ c, 1 ≤ c → c < n → (c - 1) / 2 = i → Le (g lr j) (g lr c) from fun c h1 h2 h3 => by
          obtain rfl : c = j := by omega
          exact Le.refl _)
        cases hlt : lt (g lr j) (g lr i)
        · have HLt := Lib.hid hlt
          clear hlt
          go_wp2_with (first
            | ((with_reducible refine (less_s HQ.out j i (by omega) (by omega) _ HLt.out).mono ?_); rintro e w2 ⟨rfl, HQ2, HO2⟩))
          go_ret
          exact ⟨_, rfl, dn_end HQ2.out ((HO.out).same HO2.out) HP.out HD.out HT.out (min_stop HMin.out HLt.out) h0⟩
        · have HLt := Lib.hid hlt
          clear hlt
          have HSl : Hid ((sw lr i j).length = l.length) := Lib.hid (by rw [sw_length]; exact hlr)
          go_wp2_with (first
            | ((with_reducible refine (less_s HQ.out j i (by omega) (by omega) _ HLt.out).mono ?_); rintro e w2 ⟨rfl, HQ2, HO2⟩)
            | ((with_reducible refine (swap_s HQ2.out i j (by omega) (by omega) (by omega)).mono ?_); rintro e w3 ⟨rfl, HQ3, HO3⟩))
          go_roundg (n - j)
          · exact ⟨j, sw lr i j, by omega, by omega, rfl, rfl, HSl.out, HQ3, Lib.hid (((HO.out).same HO2.out).same HO3.out), Lib.hid ((sw_perm (by omega) (by omega)).trans HP.out), Lib.hid (dn_step HD.out (by omega) (by omega) (by omega) (by omega) h0 HLt.out HMin.out), Lib.hid (tail_sw HT.out (by omega) (by omega) (by omega))⟩
          · omega
end Go.Proofs.Ytibiobcjnnoeeaa.Con
