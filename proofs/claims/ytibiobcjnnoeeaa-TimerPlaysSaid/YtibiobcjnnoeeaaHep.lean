/-
  Contracts of container/heap's Push and Remove over a queue, and of the queue's own take.
-/
import Derived.Test.YtibiobcjnnoeeaaUpd
namespace Go.Proofs.Ytibiobcjnnoeeaa.Con
open Go.RowKit Tmr Go.Maps

theorem len_s {w : World} {base q mb : Nat} {A : Option Addr} {c : Nat} {l lm : List Tm} {last : Int} (h : Que w base q mb A c l lm last) (n : Nat) (hn : l.length = n) :
    Calls Try.prog 22 #[.pointer (some ⟨q, 0, none⟩)] w fun e w' => e = .returned (.int .i64 n) ∧ w = w' := by
  subst hn
  exact len_any h.cell0
theorem heap_mono {n m : Nat} {l : List Tm} (h : Heap m l) (hn : n ≤ m) : Heap n l := fun c h1 h2 => h c h1 (by omega)
theorem last_cut {l : List Tm} {n : Nat} {t : Tm} (hn : l.length = n + 1) (ht : l[n]? = some t) : l.dropLast ++ [t] = l := by
  have hne : l ≠ [] := by intro e; simp [e] at hn
  have e : l.getLast hne = t := by
    have h1 := List.getLast?_eq_getElem? (l := l)
    rw [hn, Nat.add_sub_cancel, ht, List.getLast?_eq_some_getLast hne] at h1
    injection h1
  rw [← e]
  exact List.dropLast_concat_getLast hne

section
variable {w : World} {base q mb : Nat} {A : Option Addr} {c : Nat} {l : List Tm} {last : Int}
theorem opush_s (h : Qs w base q mb A c l last) (t : Tm) (hn : hasId l t.id = false) (ht : 1 ≤ t.id ∧ t.id ≤ 1000000) (hl : (l.length : Int) ≤ 1900) :
    Calls Try.prog 46 #[.pointer (some ⟨q, 0, none⟩), .iface 33 (.agg #[.int .i64 t.due, .int .i64 t.tag, .int .i64 t.id])] w fun e w' => e = .returned (.tuple #[]) ∧ ∃ A' c' lm, Hid (lm = l ++ [t]) ∧ Hid (lm.length = l.length + 1) ∧ Hid (Qs w' base q mb A' c' lm last) ∧ Hid (Off w w' (bls q mb A)) ∧ Hid (∀ k ∈ bls q mb A', k ∈ bls q mb A ∨ w.heap.size ≤ k) := by
  refine (opush h.que t hn ht (by have := h.len; omega)).mono ?_
  rintro e w' ⟨rfl, A', c', h1, h2, h3⟩
  refine ⟨rfl, A', c', _, Lib.hid rfl, Lib.hid (by simp), Lib.hid ⟨h1.out, ?_, fun u hu => ?_, by simp; omega⟩, h2, h3⟩
  · refine List.pairwise_append.2 ⟨h.ne, by simp, fun a ha b hb e => ?_⟩
    simp at hb
    subst hb
    rw [hasId_iff.2 ⟨a, ha, e⟩] at hn
    cases hn
  · rcases List.mem_append.1 hu with hu | hu
    · exact h.ids u hu
    · simp at hu
      subst hu
      exact ht

/-- What heap.Push leaves. -/
def Pushed (w : World) (base q mb : Nat) (A : Option Addr) (l : List Tm) (last : Int) (t : Tm) (w' : World) : Prop :=
  ∃ A' c' l', Hid (Qs w' base q mb A' c' l' last) ∧ Hid (Heap l'.length l') ∧ Hid (l'.Perm (l ++ [t])) ∧ Hid (Off w w' (bls q mb A)) ∧ Hid (∀ k ∈ bls q mb A', k ∈ bls q mb A ∨ w.heap.size ≤ k)

theorem up_off {w w1 w2 : World} {q mb : Nat} {A A' : Option Addr} (h : Off w w1 (bls q mb A)) (k : Off w1 w2 (bls q mb A')) (hs : ∀ k ∈ bls q mb A', k ∈ bls q mb A ∨ w.heap.size ≤ k) : Off w w2 (bls q mb A) := h.trans k hs
set_option maxHeartbeats 2000000 in
theorem hpush (h : Qs w base q mb A c l last) (hh : Heap l.length l) (t : Tm) (hn : hasId l t.id = false) (ht : 1 ≤ t.id ∧ t.id ≤ 1000000) (hl : (l.length : Int) ≤ 1900) :
    Calls Try.prog 23 #[.iface 56 (.pointer (some ⟨q, 0, none⟩)), .iface 33 (.agg #[.int .i64 t.due, .int .i64 t.tag, .int .i64 t.id])] w fun e w' => e = .returned (.tuple #[]) ∧ Pushed w base q mb A l last t w' := by
  have HQ := Lib.hid h; have HH := Lib.hid hh; have HN := Lib.hid hn
  clear h hh hn
  obtain ⟨n1, hn1⟩ : ∃ n1, n1 = l.length + 1 := ⟨_, rfl⟩
  have h1 : (n1 : Int) - 1 = (l.length : Int) := by omega
  go_enter Try.func23, Try.ntmps23
  go_wp2_with (first
    | ((with_reducible refine (opush_s HQ.out t HN.out ht hl).mono ?_); rintro e w1 ⟨rfl, A', c', lm, HE, HL, HQ1, HO1, HB1⟩)
    | ((with_reducible refine (len_s HQ1.out.que n1 (by rw [HL.out, hn1])).mono ?_); rintro e w2 ⟨rfl, rfl⟩)
    | ((with_reducible refine (up_any HQ1.out n1 l.length (by have := HL.out; omega) (by omega) (by rw [HE.out, hn1]; exact heap_grown HH.out t)).mono ?_); rintro e w3 ⟨rfl, l3, HQ3, HO3, HP3, HH3, HT3⟩))
  go_end0
  refine ⟨rfl, A', c', l3, HQ3, Lib.hid ?_, Lib.hid ?_, Lib.hid (HO1.out.trans HO3.out HB1.out), HB1⟩
  · rw [HP3.out.length_eq, HL.out, ← hn1]
    exact HH3.out
  · rw [← HE.out]
    exact HP3.out

/-- What heap.Remove leaves: the map still tells the place of what was taken. -/
def Removed (w : World) (base q mb : Nat) (A : Option Addr) (c : Nat) (l : List Tm) (last : Int) (t : Tm) (w' : World) : Prop :=
  ∃ l', Hid (Que w' base q mb A c l' (l' ++ [t]) last) ∧ Hid ((l' ++ [t]).Perm l) ∧ Hid (Heap l'.length l') ∧ Hid (Off w w' (bls q mb A))
theorem removed {w w' : World} {l3 : List Tm} {n : Nat} {t : Tm} (hn : l3.length = n + 1) (hq : Que w' base q mb A c l3.dropLast l3 last) (hp : l3.Perm l) (hh : Heap n l3) (ht : l3[n]? = some t) (ho : Off w w' (bls q mb A)) : Removed w base q mb A c l last t w' := by
  have e := last_cut hn ht
  exact ⟨l3.dropLast, Lib.hid (by rw [e]; exact hq), Lib.hid (by rw [e]; exact hp), Lib.hid (heap_cut hh hn), Lib.hid ho⟩
theorem sw_tail {i n : Nat} (hi : i < l.length) (hn : n < l.length) : (sw l i n)[n]? = some (g l i) := by rw [sw_get hi hn, if_pos rfl]
set_option maxHeartbeats 4000000 in
theorem hremove (h : Qs w base q mb A c l last) (hh : Heap l.length l) (i : Nat) (hi : i < l.length) (t : Tm) (ht : g l i = t) :
    Calls Try.prog 26 #[.iface 56 (.pointer (some ⟨q, 0, none⟩)), .int .i64 i] w fun e w' => (∃ v, e = .returned v) ∧ Removed w base q mb A c l last t w' := by
  obtain ⟨b, rfl, _⟩ := h.que.own.rt.at' hi
  have hlen := h.len
  obtain ⟨n, hn⟩ : ∃ n, l.length = n + 1 := ⟨l.length - 1, by omega⟩
  obtain ⟨n1, hn1⟩ : ∃ n1, n1 = n + 1 := ⟨_, rfl⟩
  have h1 : (n1 : Int) - 1 = (n : Int) := by omega
  have hln : l.length = n1 := by omega
  rw [hn] at hh hi hlen
  have HQ := Lib.hid h; have HH := Lib.hid hh; have HLn := Lib.hid hln; have HNn := Lib.hid hn
  clear h hh hln hn
  by_cases hin : i = n
  · subst hin
    have HT := Lib.hid (show l[i]? = some t by rw [← ht]; exact g_at (by have := HNn.out; omega))
    clear ht
    go_enter Try.func26, Try.ntmps26
    go_wp2_with (first
      | ((with_reducible refine (len_s HQ.out.que n1 HLn.out).mono ?_); rintro e w2 ⟨rfl, rfl⟩)
      | ((with_reducible refine (opop HQ.out.que (by have := HNn.out; omega) (by have := HNn.out; omega)).mono ?_); rintro e w3 ⟨⟨v, rfl⟩, HQ3, HO3⟩))
    go_ret
    exact ⟨⟨_, rfl⟩, removed HNn.out HQ3.out (List.Perm.refl _) (heap_mono HH.out (by omega)) HT.out HO3.out⟩
  · have hin' : (n : Int) ≠ i := by omega
    have hin2 : ((n : Int) != (i : Int)) = true := by simpa using hin'
    have HSl : Hid ((sw l i n).length = n + 1) := Lib.hid (by rw [sw_length]; exact HNn.out)
    have HSt : Hid ((sw l i n)[n]? = some t) := Lib.hid (by rw [← ht]; exact sw_tail (by have := HNn.out; omega) (by have := HNn.out; omega))
    have HSp : Hid ((sw l i n).Perm l) := Lib.hid (sw_perm (by have := HNn.out; omega) (by have := HNn.out; omega))
    have HSd : Hid (DnI n (sw l i n) i i) := Lib.hid (heap_hole (by rw [HNn.out]; exact HH.out) HNn.out (by omega))
    clear ht
    go_enter Try.func26, Try.ntmps26
    go_wp2_with (first
      | ((with_reducible refine (len_s HQ.out.que n1 HLn.out).mono ?_); rintro e w2 ⟨rfl, rfl⟩)
      | ((with_reducible refine (swap_s HQ.out i n (by have := HNn.out; omega) (by have := HNn.out; omega) hin).mono ?_); rintro e w3 ⟨rfl, HQ3, HO3⟩))
    refine (down_any HQ3.out n i (by have := HSl.out; omega) (by omega) HSd.out).mono ?_
    rintro e w4 ⟨x, rfl, l4, HQ4, HO4, HP4, HX4, HY4, HT4⟩
    have HL4 : Hid (l4.length = n + 1) := Lib.hid (by rw [HP4.out.length_eq]; exact HSl.out)
    have HT5 : Hid (l4[n]? = some t) := Lib.hid (by rw [HT4.out n (Nat.le_refl _)]; exact HSt.out)
    cases x
    · go_wp2_with (first
        | ((with_reducible refine (up_any HQ4.out n i (by have := HL4.out; omega) (by omega) (HY4.out (by trivial))).mono ?_); rintro e w5 ⟨rfl, l5, HQ5, HO5, HP5, HH5, HT6⟩; have HL5 : Hid (l5.length = n + 1) := Lib.hid (HP5.out.length_eq.trans HL4.out))
        | ((with_reducible refine (opop HQ5.out.que (by have := HL5.out; omega) (by have := HL5.out; omega)).mono ?_); rintro e w6 ⟨⟨v, rfl⟩, HQ6, HO6⟩))
      go_ret
      exact ⟨⟨_, rfl⟩, removed HL5.out HQ6.out (HP5.out.trans (HP4.out.trans HSp.out)) HH5.out ((HT6.out n (Nat.le_refl _)).trans HT5.out) (((HO3.out.same HO4.out).same HO5.out).same HO6.out)⟩
    · go_wp2_with (first
        | ((with_reducible refine (opop HQ4.out.que (by have := HL4.out; omega) (by have := HL4.out; omega)).mono ?_); rintro e w6 ⟨⟨v, rfl⟩, HQ6, HO6⟩))
      go_ret
      exact ⟨⟨_, rfl⟩, removed HL4.out HQ6.out (HP4.out.trans HSp.out) (HX4.out (by trivial)) HT5.out ((HO3.out.same HO4.out).same HO6.out)⟩
end
end Go.Proofs.Ytibiobcjnnoeeaa.Con
