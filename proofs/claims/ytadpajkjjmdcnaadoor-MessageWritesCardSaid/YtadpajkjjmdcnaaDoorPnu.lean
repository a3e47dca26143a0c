/-
  Contracts of ReadUint, ReadInt and readCount, the program's and the document's own.
-/
import Derived.Test.YtadpajkjjmdcnaaDoorPrf
namespace Go.Proofs.YtadpajkjjmdcnaaDoor.Pk
open Go.RowKit Mth Pm

/-- What a call answers that reads a number: it, the byte behind it, OK; or 0, the place, ErrForm. -/
def av (a : Int) : Option (Int × Int) → Value
  | some (v, k) => .tuple #[.int .i64 v, .int .i64 k, .int .i64 0]
  | none => .tuple #[.int .i64 0, .int .i64 a, .int .i64 2]

section
variable (A : Option Addr) (c : Nat) (l : List Int) (a : Int) (w : World) (B : Nat) (hr : Rd .u8 w B A l) (hl : (l.length : Int) ≤ 10000000) (hb : Byt l) (h0 : -9223372036854775808 ≤ a) (h1 : a ≤ 9223372036854775807)
include hr hl hb h1

theorem rdig_no (h : rd l a = none) : Calls Tryd.prog 37 #[.slice A l.length c, .int .i64 a] w fun e w' => e = .returned (.tuple #[.int .u64 0, .int .i64 0]) ∧ w = w' := by
  have := rdig_any A c l a w B hr hl hb h1; rw [h] at this; exact this
theorem rdig_yes {v : Int} {s : Nat} (h : rd l a = some (v, s)) : Calls Tryd.prog 37 #[.slice A l.length c, .int .i64 a] w fun e w' => e = .returned (.tuple #[.int .u64 v, .int .i64 s]) ∧ w = w' := by
  have := rdig_any A c l a w B hr hl hb h1; rw [h] at this; exact this
theorem read_no (h : rd l a = none) : Calls Tryd.prog 34 #[.slice A l.length c, .int .i64 a] w fun e w' => e = .returned (.tuple #[.int .u64 0, .int .i64 a, .bool false]) ∧ w = w' := by
  have := read_any A c l a w B hr hl hb h1; rw [h] at this; simpa [vv, nx, ss, ok] using this
theorem read_yes {v : Int} {s : Nat} (h : rd l a = some (v, s)) : Calls Tryd.prog 34 #[.slice A l.length c, .int .i64 a] w fun e w' => e = .returned (.tuple #[.int .u64 v, .int .i64 (a + s), .bool true]) ∧ w = w' := by
  have := read_any A c l a w B hr hl hb h1; rw [h] at this; exact this

theorem ri_any : Calls Tryd.prog 35 #[.slice A l.length c, .int .i64 a] w fun e w' => e = .returned (av a (ri l a)) ∧ w = w' := by
  rcases h : rd l a with _ | ⟨v, s⟩
  · rw [ri_none h]
    have H := Lib.hid h; have HR := Lib.hid hr; have HBy := Lib.hid hb; clear h hr hb
    go_enter Tryd.func35, Tryd.ntmps35
    go_wp2_with ((with_reducible refine (rdig_no A c l a _ B HR.out hl HBy.out h1 H.out).mono ?_); rintro e w' ⟨rfl, rfl⟩)
    go_ret3
    exact ⟨rfl, rfl⟩
  · obtain ⟨b1, b2, b3, b4, b5⟩ := rd_bound hb h
    have hs : ((s : Int) == 0) = false := by simp; omega
    rw [ri_some h]
    have H := Lib.hid h; have HR := Lib.hid hr; have HBy := Lib.hid hb; clear h hr hb
    go_enter Tryd.func35, Tryd.ntmps35
    go_wp2_with (first
      | ((with_reducible refine (rdig_yes A c l a _ B HR.out hl HBy.out h1 H.out).mono ?_); rintro e w' ⟨rfl, rfl⟩)
      | ((with_reducible refine (unfold_any v _ b2 b3).mono ?_); rintro e w' ⟨rfl, rfl⟩))
    go_ret3
    exact ⟨rfl, rfl⟩

theorem rri_any : Calls Tryd.prog 24 #[.slice A l.length c, .int .i64 a] w fun e w' => e = .returned (av a (ri l a)) ∧ w = w' := by
  rcases h : rd l a with _ | ⟨v, s⟩
  · rw [ri_none h]
    have H := Lib.hid h; have HR := Lib.hid hr; have HBy := Lib.hid hb; clear h hr hb
    go_enter Tryd.func24, Tryd.ntmps24
    go_wp2_with ((with_reducible refine (read_no A c l a _ B HR.out hl HBy.out h1 H.out).mono ?_); rintro e w' ⟨rfl, rfl⟩)
    go_ret3
    exact ⟨rfl, rfl⟩
  · obtain ⟨b1, b2, b3, b4, b5⟩ := rd_bound hb h
    rw [ri_some h]
    by_cases ho : v % 2 = 1
    · have ho' : (v % 2 == 1) = true := by simpa using ho
      have e : ug v = -(v / 2) - 1 := by unfold ug; rw [if_pos ho]
      rw [e]
      have H := Lib.hid h; have HR := Lib.hid hr; have HBy := Lib.hid hb; clear h hr hb ho e
      go_enter Tryd.func24, Tryd.ntmps24
      go_wp2_with ((with_reducible refine (read_yes A c l a _ B HR.out hl HBy.out h1 H.out).mono ?_); rintro e w' ⟨rfl, rfl⟩)
      go_ret3
      exact ⟨rfl, rfl⟩
    · have ho' : (v % 2 == 1) = false := by simpa using ho
      have e : ug v = v / 2 := by unfold ug; rw [if_neg ho]
      rw [e]
      have H := Lib.hid h; have HR := Lib.hid hr; have HBy := Lib.hid hb; clear h hr hb ho e
      go_enter Tryd.func24, Tryd.ntmps24
      go_wp2_with ((with_reducible refine (read_yes A c l a _ B HR.out hl HBy.out h1 H.out).mono ?_); rintro e w' ⟨rfl, rfl⟩)
      go_ret3
      exact ⟨rfl, rfl⟩

theorem ri_no (h : ri l a = none) : Calls Tryd.prog 35 #[.slice A l.length c, .int .i64 a] w fun e w' => e = .returned (.tuple #[.int .i64 0, .int .i64 a, .int .i64 2]) ∧ w = w' := by
  have := ri_any A c l a w B hr hl hb h1; rw [h] at this; exact this
theorem ri_yes {v k : Int} (h : ri l a = some (v, k)) : Calls Tryd.prog 35 #[.slice A l.length c, .int .i64 a] w fun e w' => e = .returned (.tuple #[.int .i64 v, .int .i64 k, .int .i64 0]) ∧ w = w' := by
  have := ri_any A c l a w B hr hl hb h1; rw [h] at this; exact this
theorem rri_no (h : ri l a = none) : Calls Tryd.prog 24 #[.slice A l.length c, .int .i64 a] w fun e w' => e = .returned (.tuple #[.int .i64 0, .int .i64 a, .int .i64 2]) ∧ w = w' := by
  have := rri_any A c l a w B hr hl hb h1; rw [h] at this; exact this
theorem rri_yes {v k : Int} (h : ri l a = some (v, k)) : Calls Tryd.prog 24 #[.slice A l.length c, .int .i64 a] w fun e w' => e = .returned (.tuple #[.int .i64 v, .int .i64 k, .int .i64 0]) ∧ w = w' := by
  have := rri_any A c l a w B hr hl hb h1; rw [h] at this; exact this

end
end Go.Proofs.YtadpajkjjmdcnaaDoor.Pk
