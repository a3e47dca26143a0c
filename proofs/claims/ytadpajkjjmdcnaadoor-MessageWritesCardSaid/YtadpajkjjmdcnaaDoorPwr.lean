/-
  Contracts of Uint, Int, Text and Ints, the program's and the document's own: what they answer is new memory, and nothing else has turned.
-/
import Derived.Test.YtadpajkjjmdcnaaDoorPdi
namespace Go.Proofs.YtadpajkjjmdcnaaDoor.Pk
open Go.RowKit Mth Pm

theorem new_step {w w1 w2 : World} {l : List Int} {A A1 : Option Addr} {c1 : Nat} (hb1 : Below w.heap.size w w1) (ho1 : Own w1 w.heap.size .u8 5 A1 c1 l) (hs : Step w1 w2 (blk A1) A) : Below w.heap.size w w2 :=
  below_step hb1 hs (fun k hk => (ho1.lt k hk).1) hb1.size

theorem room_of {l m : List Int} {k : Int} (h : m = l) (hl : (l.length : Int) ≤ k) : (m.length : Int) ≤ k := by rw [h]; exact hl

set_option maxHeartbeats 400000 in
theorem uint_any (A : Option Addr) (c : Nat) (l : List Int) (n : Int) (w : World) (B : Nat) (hr : Rd .u8 w B A l) (hB : B ≤ w.heap.size) (hl : (l.length : Int) ≤ 1000000) (h0 : -9223372036854775808 ≤ n) (h1 : n ≤ 9223372036854775807) :
    Calls Tryd.prog 26 #[.slice A l.length c, .int .i64 n] w (New w (l ++ dg n.toNat)) := by
  have HR := Lib.hid hr; clear hr
  by_cases hn : n < 0
  · have e : n.toNat = (0 : Int).toNat := by omega
    rw [e]; clear e
    go_enter Tryd.func26, Tryd.ntmps26
    go_wp2_with (first
      | ((with_reducible refine (copy_any A c l 10 _ B HR.out hB (by omega) (by omega) (by omega)).mono ?_); rintro e w1 ⟨l1, A1, c1, HL1, rfl, HO1, HB1⟩)
      | ((with_reducible refine (wd_any _ _ w.heap.size A1 c1 l1 (by omega) (by omega) HO1.out (by have := room_of HL1.out hl; omega) HB1.out.size).mono ?_); rintro e w2 ⟨l2, A2, c2, HL2, rfl, HO2, HS2⟩))
    go_ret
    exact ⟨l2, A2, c2, by rw [← HL1.out]; exact HL2, rfl, HO2, new_step HB1.out HO1.out HS2.out⟩
  · have hn' : decide (n < 0) = false := by simpa using hn
    have hp : 0 ≤ n := by omega
    clear h0
    go_enter Tryd.func26, Tryd.ntmps26
    go_wp2_with (first
      | ((with_reducible refine (copy_any A c l 10 _ B HR.out hB (by omega) (by omega) (by omega)).mono ?_); rintro e w1 ⟨l1, A1, c1, HL1, rfl, HO1, HB1⟩)
      | ((with_reducible refine (wd_any _ _ w.heap.size A1 c1 l1 (by omega) (by omega) HO1.out (by have := room_of HL1.out hl; omega) HB1.out.size).mono ?_); rintro e w2 ⟨l2, A2, c2, HL2, rfl, HO2, HS2⟩))
    go_ret
    exact ⟨l2, A2, c2, by rw [← HL1.out]; exact HL2, rfl, HO2, new_step HB1.out HO1.out HS2.out⟩

set_option maxHeartbeats 400000 in
theorem int_any (A : Option Addr) (c : Nat) (l : List Int) (n : Int) (w : World) (B : Nat) (hr : Rd .u8 w B A l) (hB : B ≤ w.heap.size) (hl : (l.length : Int) ≤ 1000000) (h0 : -9223372036854775808 ≤ n) (h1 : n ≤ 9223372036854775807) :
    Calls Tryd.prog 19 #[.slice A l.length c, .int .i64 n] w (New w (l ++ dg (sg n).toNat)) := by
  have HR := Lib.hid hr; clear hr
  obtain ⟨hs0, hs1⟩ := sg_in h0 h1
  go_enter Tryd.func19, Tryd.ntmps19
  go_wp2_with (first
    | ((with_reducible refine (copy_any A c l 10 _ B HR.out hB (by omega) (by omega) (by omega)).mono ?_); rintro e w1 ⟨l1, A1, c1, HL1, rfl, HO1, HB1⟩)
    | ((with_reducible refine (fold_any n _ h0 h1).mono ?_); rintro e w' ⟨rfl, rfl⟩)
    | ((with_reducible refine (wd_any _ _ w.heap.size A1 c1 l1 (by omega) (by omega) HO1.out (by have := room_of HL1.out hl; omega) HB1.out.size).mono ?_); rintro e w2 ⟨l2, A2, c2, HL2, rfl, HO2, HS2⟩))
  go_ret
  exact ⟨l2, A2, c2, by rw [← HL1.out]; exact HL2, rfl, HO2, new_step HB1.out HO1.out HS2.out⟩

set_option maxHeartbeats 400000 in
theorem rint_any (A : Option Addr) (c : Nat) (l : List Int) (n : Int) (w : World) (B : Nat) (hr : Rd .u8 w B A l) (hB : B ≤ w.heap.size) (hl : (l.length : Int) ≤ 1000000) (h0 : -9223372036854775808 ≤ n) (h1 : n ≤ 9223372036854775807) :
    Calls Tryd.prog 20 #[.slice A l.length c, .int .i64 n] w (New w (l ++ dg (sg n).toNat)) := by
  have HR := Lib.hid hr; clear hr
  obtain ⟨hs0, hs1⟩ := sg_in h0 h1
  go_enter Tryd.func20, Tryd.ntmps20
  go_wp2_with (first
    | ((with_reducible refine (front_any A c l _ B HR.out hB (by omega)).mono ?_); rintro e w1 ⟨l1, A1, c1, HL1, rfl, HO1, HB1⟩)
    | ((with_reducible refine (signed_any n _ h0 h1).mono ?_); rintro e w' ⟨rfl, rfl⟩)
    | ((with_reducible refine (dd_any _ _ w.heap.size A1 c1 l1 (by omega) (by omega) HO1.out (by have := room_of HL1.out hl; omega) HB1.out.size).mono ?_); rintro e w2 ⟨l2, A2, c2, HL2, rfl, HO2, HS2⟩))
  go_ret
  exact ⟨l2, A2, c2, by rw [← HL1.out]; exact HL2, rfl, HO2, new_step HB1.out HO1.out HS2.out⟩

/-- append of a text onto a row of the call's own, as the last thing. -/
theorem wpList_text {w : World} {ops : Array Oper} {rest : List Oper} {o : Oper} {a : Act} {Q : Exit → Act → World → Prop} (hgd : o.guard = none) (sl x : Operand)
    (ho : o.op = .call { callee := .builtin .append, args := #[sl, x], argTypes := #[27, 9] })
    (base : Nat) (A : Option Addr) (c : Nat) (l : List Int) (s : ByteArray) (hs : a.eval sl = .slice A l.length c) (hx : a.eval x = .string s)
    (hown : Own w base .u8 5 A c l) (hl : (l.length : Int) ≤ 10000000) (hsz : (s.size : Int) ≤ 10000000) (hbase : base ≤ w.heap.size)
    (h : ∀ lm A' c' w', Hid (lm = l ++ sb s) → Hid (Own w' base .u8 5 A' c' lm) → Hid (w.grownBy w' (blk A)) → wpList Tryd.prog ops Q rest (a.put o.dst (.slice A' lm.length c')) w') :
    wpList Tryd.prog ops Q (o :: rest) a w := by
  obtain ⟨i0, hi0, hz0, hz1, hz2⟩ := info_parts byte_info
  refine Lib.wpList_append_own_string w hgd sl x 27 9 ho base 5 i0 Tryd.underlying27 Tryd.underlying9 hi0 hz0 hz1 hz2 _ l.length (vs .u8 l) hs hown s hx (by unfold maxLen; omega) (by omega) hbase ?_
  intro v' w' h1 h2 _
  have e1 : Lib.strCells s = vs .u8 (sb s) := by simp [Lib.strCells, vs, sb, Function.comp_def]
  have e2 : l.length + s.size = (l ++ sb s).length := by rw [List.length_append, sb_len]
  rw [e1, vs_app, e2] at h1
  obtain ⟨A', c', rfl⟩ := own_shape h1
  rw [blk_own] at h2
  exact h _ A' c' w' rfl h1 h2

/-- Numbers of 64 bits. -/
def Nums (l : List Int) : Prop := ∀ x ∈ l, -9223372036854775808 ≤ x ∧ x ≤ 9223372036854775807

theorem ints_next {l l1 l2 m : List Int} {h : List Int} {k : Nat} {x : Int} (hx : m[k]? = some x) (h1 : l1 = l ++ h ++ wl (m.take k)) (h2 : l2 = l1 ++ dg (sg x).toNat) : l2 = l ++ h ++ wl (m.take (k + 1)) := by
  obtain ⟨hk, rfl⟩ := List.getElem?_eq_some_iff.1 hx
  rw [h2, h1, List.take_succ_eq_append_getElem hk, wl_app]
  simp [wl]
theorem ints_room {l l1 m : List Int} {k : Nat} (hm : Nums m) (hl : (l.length : Int) ≤ 1000000) (hm2 : (m.length : Int) ≤ 800000) (h1 : l1 = l ++ dg m.length ++ wl (m.take k)) : (l1.length : Int) ≤ 9000010 := by
  have a := dg_len10 (n := m.length) (by omega)
  have b := wl_len (l := m.take k) (fun x hx => hm x (List.mem_of_mem_take hx))
  have c := List.length_take_le k m
  have d : (m.take k).length ≤ m.length := by rw [List.length_take]; omega
  rw [h1, List.length_append, List.length_append]
  omega
theorem ints_last {l l1 m : List Int} {h : List Int} {k : Nat} (hk : m.length ≤ k) (h1 : l1 = l ++ h ++ wl (m.take k)) : l1 = l ++ h ++ wl m := by
  rw [h1, List.take_of_length_le hk]

end Go.Proofs.YtadpajkjjmdcnaaDoor.Pk
