/-
  What is written is read: numbers, a text and a row behind one another, over lists.
-/
import Derived.Test.YtgandkgcnackkaaTxt
import Derived.Test.YtgandkgcnackkaaRow
namespace Go.Proofs.Ytgandkgcnackkaa.Con
open Go.RowKit Mth Mem

theorem tx_back (F R lm : List Int) (s : ByteArray) (hs : (s.size : Int) ≤ 90000) (h : lm = F ++ (dg s.size ++ (sb s ++ R))) : tx lm F.length s.size = (s, ((F ++ dg s.size ++ sb s).length : Int), 0) := by
  have hu := ru_back F (sb s ++ R) (n := s.size) (by omega) (a := F.length) rfl
  rw [← h] at hu
  have hsl := sb_len s
  have hl : lm.length = F.length + ((dg s.size).length + (s.size + R.length)) := by rw [h]; simp only [List.length_append]; omega
  rw [tx_some hu (by omega) (by rw [hl, List.length_append]; omega)]
  have e : (lm.drop (((F ++ dg s.size).length : Int)).toNat).take ((s.size : Int)).toNat = sb s := by
    rw [Int.toNat_natCast, Int.toNat_natCast, h, ← List.append_assoc, List.drop_left, ← hsl, List.take_left]
  rw [e, sb_back]
  simp only [List.length_append, hsl]
  congr 2
theorem ix_back (F R lm l : List Int) (hl : (l.length : Int) ≤ 300) (hn : ∀ x ∈ l, -9223372036854775808 ≤ x ∧ x ≤ 9223372036854775807) (h : lm = F ++ (dg l.length ++ (wl l ++ R))) : ix lm F.length l.length = (l, ((F ++ dg l.length ++ wl l).length : Int), 0) := by
  have hu := ru_back F (wl l ++ R) (n := l.length) (by omega) (a := F.length) rfl
  rw [← h] at hu
  refine ix_some hu (by omega) ?_
  rw [h, ← List.append_assoc]
  exact rl_back R l (F ++ dg l.length) rfl hn

theorem back_all (f k l lm : List Int) (n : Int) (s : ByteArray) (hn0 : -9223372036854775808 ≤ n) (hn1 : n ≤ 9223372036854775807) (hs : (s.size : Int) ≤ 90000) (hl : (l.length : Int) ≤ 300) (hx : ∀ x ∈ l, -9223372036854775808 ≤ x ∧ x ≤ 9223372036854775807)
    (h : lm = f ++ dg n.toNat ++ dg (sg n).toNat ++ dg s.size ++ sb s ++ dg l.length ++ wl l ++ k) :
    ∃ p1 p2 p3 p4 : Int, ru lm f.length = some ((n.toNat : Int), p1) ∧ ri lm p1 = some (n, p2) ∧ tx lm p2 s.size = (s, p3, 0) ∧ ix lm p3 l.length = (l, p4, 0) ∧ p4 = lm.length - k.length ∧ p1 ≤ lm.length ∧ p2 ≤ lm.length ∧ p3 ≤ lm.length := by
  refine ⟨((f ++ dg n.toNat).length : Int), ((f ++ dg n.toNat ++ dg (sg n).toNat).length : Int), ((f ++ dg n.toNat ++ dg (sg n).toNat ++ dg s.size ++ sb s).length : Int), ((f ++ dg n.toNat ++ dg (sg n).toNat ++ dg s.size ++ sb s ++ dg l.length ++ wl l).length : Int), ?_, ?_, ?_, ?_, ?_, ?_, ?_, ?_⟩
  · rw [h]
    simp only [List.append_assoc]
    exact ru_back f _ (by omega) rfl
  · rw [show lm = (f ++ dg n.toNat) ++ (dg (sg n).toNat ++ (dg s.size ++ (sb s ++ (dg l.length ++ (wl l ++ k))))) by rw [h]; simp only [List.append_assoc]]
    exact ri_back (f ++ dg n.toNat) _ hn0 hn1 rfl
  · exact tx_back (f ++ dg n.toNat ++ dg (sg n).toNat) (dg l.length ++ (wl l ++ k)) lm s hs (by rw [h]; simp only [List.append_assoc])
  · exact ix_back (f ++ dg n.toNat ++ dg (sg n).toNat ++ dg s.size ++ sb s) k lm l hl hx (by rw [h]; simp only [List.append_assoc])
  · rw [h]; simp only [List.length_append]; omega
  · rw [h]; simp only [List.length_append]; omega
  · rw [h]; simp only [List.length_append]; omega
  · rw [h]; simp only [List.length_append]; omega

section
variable (A : Option Addr) (c : Nat) (l : List Int) (a : Int) (w : World) (B : Nat) (hr : Rd .u8 w B A l) (hB : B ≤ w.heap.size) (hl : (l.length : Int) ≤ 100000) (hlc : l.length ≤ c) (hb : Byt l) (h1 : a ≤ 9223372036854775807) (m : Int)
include hr hB hl hlc hb h1
omit hB in
theorem text_yes {s : ByteArray} {k : Int} (h : tx l a m = (s, k, 0)) : Calls Try.prog 22 #[.slice A l.length c, .int .i64 a, .int .i64 m] w fun e w' => e = .returned (.tuple #[.string s, .int .i64 k, .int .i64 0]) ∧ w = w' := by
  have := text_read A c l a w B hr hl hlc hb h1 m; rw [h] at this; exact this
omit hlc in
theorem ints_yes {r : List Int} {k : Int} (h : ix l a m = (r, k, 0)) : Calls Try.prog 24 #[.slice A l.length c, .int .i64 a, .int .i64 m] w fun e w' => ∃ l2 A2 c2, Hid (l2 = r) ∧ e = .returned (.tuple #[.slice A2 l2.length c2, .int .i64 k, .int .i64 0]) ∧ Hid (Own w' w.heap.size .i64 3 A2 c2 l2) ∧ Hid (Below w.heap.size w w') := by
  have := ints_read A c l a w B hr hB hl hb h1 m; rw [h] at this; exact this
end
end Go.Proofs.Ytgandkgcnackkaa.Con
