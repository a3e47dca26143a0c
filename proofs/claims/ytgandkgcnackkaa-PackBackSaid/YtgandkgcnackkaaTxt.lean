/-
  Contracts of ReadText, the program's and the document's own.
-/
import Derived.Test.YtgandkgcnackkaaNum
namespace Go.Proofs.Ytgandkgcnackkaa.Con
open Go.RowKit Mth Mem

/-- What ReadText answers: the text, the byte behind it, the error. -/
def tx (l : List Int) (a m : Int) : ByteArray × Int × Int :=
  match ru l a with
  | none => (⟨#[]⟩, a, 2)
  | some (n, k) => if m < n then (⟨#[]⟩, a, 3) else if l.length - k < n then (⟨#[]⟩, a, 2) else (strOfNums ((l.drop k.toNat).take n.toNat), k + n, 0)

theorem tx_none {l : List Int} {a m : Int} (h : ru l a = none) : tx l a m = (⟨#[]⟩, a, 2) := by unfold tx; rw [h]
theorem tx_long {l : List Int} {a m n k : Int} (h : ru l a = some (n, k)) (hm : m < n) : tx l a m = (⟨#[]⟩, a, 3) := by unfold tx; rw [h]; simp only; rw [if_pos hm]
theorem tx_end {l : List Int} {a m n k : Int} (h : ru l a = some (n, k)) (hm : n ≤ m) (he : l.length - k < n) : tx l a m = (⟨#[]⟩, a, 2) := by unfold tx; rw [h]; simp only; rw [if_neg (by omega), if_pos he]
theorem tx_some {l : List Int} {a m n k : Int} (h : ru l a = some (n, k)) (hm : n ≤ m) (he : n ≤ l.length - k) : tx l a m = (strOfNums ((l.drop k.toNat).take n.toNat), k + n, 0) := by unfold tx; rw [h]; simp only; rw [if_neg (by omega), if_neg (by omega)]

/-- A piece of a slice as a text. -/
theorem conv_piece {w : World} {B : Nat} {b off : Nat} {l : List Int} (c : Nat) (h : Rd .u8 w B (some ⟨b, off, none⟩) l) {k n : Nat} (hk : k + n ≤ l.length) :
    (convert 22 9 (.slice (some ⟨b, off + k, none⟩) n c)).run Try.prog w = .ok (.string (strOfNums ((l.drop k).take n))) w := by
  have := conv c ((h.cut k).take n)
  rw [List.length_take, List.length_drop, Nat.min_eq_left (by omega)] at this
  exact this
theorem conv_none {w : World} (A : Option Addr) (c : Nat) : (convert 22 9 (.slice A 0 c)).run Try.prog w = .ok (.string ⟨#[]⟩) w :=
  conv (B := 0) c Rd.nil

theorem conv_empty {w : World} {b off : Nat} {l : List Int} {k n : Nat} (hn : n = 0) (c : Nat) : (convert 22 9 (.slice (some ⟨b, off, none⟩) n c)).run Try.prog w = .ok (.string (strOfNums ((l.drop k).take n))) w := by
  subst hn
  rw [List.take_zero]
  exact conv_none _ c
theorem tup {s s' : ByteArray} {i i' j j' : Int} {x : ByteArray × Int × Int} (h : x = (s', i', j')) (hs : s = s') (hi : i = i') (hj : j = j') : Ending.returned (.tuple #[.string s, .int .i64 i, .int .i64 j]) = .returned (.tuple #[.string x.1, .int .i64 x.2.1, .int .i64 x.2.2]) := by
  subst h; subst hs; subst hi; subst hj; rfl

section
variable (A : Option Addr) (c : Nat) (l : List Int) (a : Int) (w : World) (B : Nat) (hr : Rd .u8 w B A l) (hl : (l.length : Int) ≤ 100000) (hlc : l.length ≤ c) (hb : Byt l) (h1 : a ≤ 9223372036854775807) (m : Int)
include hr hl hlc hb h1

set_option maxHeartbeats 400000 in
theorem text_read : Calls Try.prog 22 #[.slice A l.length c, .int .i64 a, .int .i64 m] w fun e w' => e = .returned (.tuple #[.string (tx l a m).1, .int .i64 (tx l a m).2.1, .int .i64 (tx l a m).2.2]) ∧ w = w' := by
  rcases h : ru l a with _ | ⟨n, k⟩
  · have HT := Lib.hid (tx_none (m := m) h)
    have H := Lib.hid h; have HR := Lib.hid hr; have HBy := Lib.hid hb; clear h hr hb
    go_enter Try.func22, Try.ntmps22
    go_wp2_with ((with_reducible refine (rc_no A c l a _ B HR.out hl HBy.out h1 m H.out).mono ?_); rintro e w' ⟨rfl, rfl⟩)
    go_ret3
    exact ⟨tup HT.out rfl rfl rfl, rfl⟩
  · obtain ⟨b1, b2, b3, b4, b5⟩ := ru_bound hb h
    by_cases hm : m < n
    · have HT := Lib.hid (tx_long h hm)
      have H := Lib.hid h; have HR := Lib.hid hr; have HBy := Lib.hid hb; clear h hr hb
      go_enter Try.func22, Try.ntmps22
      go_wp2_with ((with_reducible refine (rc_long A c l a _ B HR.out hl HBy.out h1 m H.out hm).mono ?_); rintro e w' ⟨rfl, rfl⟩)
      go_ret3
      exact ⟨tup HT.out rfl rfl rfl, rfl⟩
    · by_cases he : l.length - k < n
      · have HT := Lib.hid (tx_end (m := m) h (by omega) he)
        have H := Lib.hid h; have HR := Lib.hid hr; have HBy := Lib.hid hb; clear h hr hb
        go_enter Try.func22, Try.ntmps22
        go_wp2_with ((with_reducible refine (rc_yes A c l a _ B HR.out hl HBy.out h1 m H.out (by omega)).mono ?_); rintro e w' ⟨rfl, rfl⟩)
        go_ret3
        exact ⟨tup HT.out rfl rfl rfl, rfl⟩
      · have he' : decide ((l.length : Int) - k < n) = false := by simpa using he
        have HT := Lib.hid (tx_some (m := m) h (by omega) (by omega))
        obtain ⟨b, off, _, rfl, _, _, _⟩ := hr.at' (k := 0) (by omega)
        obtain ⟨k', rfl⟩ := Int.eq_ofNat_of_zero_le (show 0 ≤ k by omega)
        obtain ⟨n', rfl⟩ := Int.eq_ofNat_of_zero_le b2
        have hnk : k' + n' ≤ l.length := by omega
        by_cases hck : c = k'
        · subst hck
          have hcv := fun x => conv_empty (w := w) (b := b) (off := off) (l := l) (k := c) (n := n') (by omega) x
          have H := Lib.hid h; have HR := Lib.hid hr; have HBy := Lib.hid hb; clear h hr hb
          go_enter Try.func22, Try.ntmps22
          go_wp2_with ((with_reducible refine (rc_yes _ c l a _ B HR.out hl HBy.out h1 m H.out (by omega)).mono ?_); rintro e w' ⟨rfl, rfl⟩)
          go_ret3
          exact ⟨tup HT.out rfl rfl rfl, rfl⟩
        · have hcv := conv_piece (c - k') hr (k := k') (n := n') (by omega)
          have H := Lib.hid h; have HR := Lib.hid hr; have HBy := Lib.hid hb; clear h hr hb
          go_enter Try.func22, Try.ntmps22
          go_wp2_with ((with_reducible refine (rc_yes _ c l a _ B HR.out hl HBy.out h1 m H.out (by omega)).mono ?_); rintro e w' ⟨rfl, rfl⟩)
          go_ret3
          exact ⟨tup HT.out rfl rfl rfl, rfl⟩

set_option maxHeartbeats 400000 in
theorem rtext_read : Calls Try.prog 23 #[.slice A l.length c, .int .i64 a, .int .i64 m] w fun e w' => e = .returned (.tuple #[.string (tx l a m).1, .int .i64 (tx l a m).2.1, .int .i64 (tx l a m).2.2]) ∧ w = w' := by
  rcases h : ru l a with _ | ⟨n, k⟩
  · have HT := Lib.hid (tx_none (m := m) h)
    have H := Lib.hid h; have HR := Lib.hid hr; have HBy := Lib.hid hb; clear h hr hb
    go_enter Try.func23, Try.ntmps23
    go_wp2_with ((with_reducible refine (rru_no A c l a _ B HR.out hl HBy.out h1 H.out).mono ?_); rintro e w' ⟨rfl, rfl⟩)
    go_ret3
    exact ⟨tup HT.out rfl rfl rfl, rfl⟩
  · obtain ⟨b1, b2, b3, b4, b5⟩ := ru_bound hb h
    by_cases hm : m < n
    · have HT := Lib.hid (tx_long h hm)
      have H := Lib.hid h; have HR := Lib.hid hr; have HBy := Lib.hid hb; clear h hr hb
      go_enter Try.func23, Try.ntmps23
      go_wp2_with ((with_reducible refine (rru_yes A c l a _ B HR.out hl HBy.out h1 H.out).mono ?_); rintro e w' ⟨rfl, rfl⟩)
      go_ret3
      exact ⟨tup HT.out rfl rfl rfl, rfl⟩
    · have hm' : decide (m < n) = false := by simpa using hm
      by_cases he : l.length - k < n
      · have HT := Lib.hid (tx_end (m := m) h (by omega) he)
        have H := Lib.hid h; have HR := Lib.hid hr; have HBy := Lib.hid hb; clear h hr hb
        go_enter Try.func23, Try.ntmps23
        go_wp2_with ((with_reducible refine (rru_yes A c l a _ B HR.out hl HBy.out h1 H.out).mono ?_); rintro e w' ⟨rfl, rfl⟩)
        go_ret3
        exact ⟨tup HT.out rfl rfl rfl, rfl⟩
      · have he' : decide ((l.length : Int) - k < n) = false := by simpa using he
        have HT := Lib.hid (tx_some (m := m) h (by omega) (by omega))
        obtain ⟨b, off, _, rfl, _, _, _⟩ := hr.at' (k := 0) (by omega)
        obtain ⟨k', rfl⟩ := Int.eq_ofNat_of_zero_le (show 0 ≤ k by omega)
        obtain ⟨n', rfl⟩ := Int.eq_ofNat_of_zero_le b2
        have hnk : k' + n' ≤ l.length := by omega
        by_cases hck : c = k'
        · subst hck
          have hcv := fun x => conv_empty (w := w) (b := b) (off := off) (l := l) (k := c) (n := n') (by omega) x
          have H := Lib.hid h; have HR := Lib.hid hr; have HBy := Lib.hid hb; clear h hr hb
          go_enter Try.func23, Try.ntmps23
          go_wp2_with ((with_reducible refine (rru_yes _ c l a _ B HR.out hl HBy.out h1 H.out).mono ?_); rintro e w' ⟨rfl, rfl⟩)
          go_ret3
          exact ⟨tup HT.out rfl rfl rfl, rfl⟩
        · have hcv := conv_piece (c - k') hr (k := k') (n := n') (by omega)
          have H := Lib.hid h; have HR := Lib.hid hr; have HBy := Lib.hid hb; clear h hr hb
          go_enter Try.func23, Try.ntmps23
          go_wp2_with ((with_reducible refine (rru_yes _ c l a _ B HR.out hl HBy.out h1 H.out).mono ?_); rintro e w' ⟨rfl, rfl⟩)
          go_ret3
          exact ⟨tup HT.out rfl rfl rfl, rfl⟩
end
end Go.Proofs.Ytgandkgcnackkaa.Con
