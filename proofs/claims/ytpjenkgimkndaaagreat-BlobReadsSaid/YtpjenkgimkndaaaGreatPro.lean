/-
  Contracts of ReadInts, the program's and the document's own, and of Same.
-/
import Derived.Test.YtpjenkgimkndaaaGreatPnu
import Derived.Test.YtpjenkgimkndaaaGreatPdi
namespace Go.Proofs.YtpjenkgimkndaaaGreat.Pk
open Go.RowKit Mth Pm

def join (r : List Int) : Option (List Int × Int) → Option (List Int × Int)
  | none => none
  | some (s, z) => some (r ++ s, z)
theorem join_nil (x : Option (List Int × Int)) : join [] x = x := by rcases x with _ | ⟨s, z⟩ <;> rfl
theorem join_none {l r : List Int} {p q : Nat} {z : Int} (hq : q = p + 1) (h : ri l z = none) : join r (rl l q z) = none := by subst hq; simp only [rl, h]; rfl
theorem join_some {l r : List Int} {p q : Nat} {z v k : Int} (hq : q = p + 1) (h : ri l z = some (v, k)) : join r (rl l q z) = join (r ++ [v]) (rl l p k) := by
  subst hq
  simp only [rl, h]
  rcases rl l p k with _ | ⟨s, y⟩
  · rfl
  · simp [join]
theorem join_fin {l r : List Int} {z : Int} {q : Nat} (hq : q = 0) : join r (rl l q z) = some (r, z) := by subst hq; simp [rl, join]

/-- What ReadInts answers: the numbers, the byte behind them, the error. -/
def ix (l : List Int) (a m : Int) : List Int × Int × Int :=
  match ru l a with
  | none => ([], a, 2)
  | some (n, k) => if m < n then ([], a, 3) else match rl l n.toNat k with
    | none => ([], a, 2)
    | some (r, z) => (r, z, 0)
theorem ix_none {l : List Int} {a m : Int} (h : ru l a = none) : ix l a m = ([], a, 2) := by unfold ix; rw [h]
theorem ix_long {l : List Int} {a m n k : Int} (h : ru l a = some (n, k)) (hm : m < n) : ix l a m = ([], a, 3) := by unfold ix; rw [h]; simp only; rw [if_pos hm]
theorem ix_bad {l : List Int} {a m k : Int} {N : Nat} (h : ru l a = some ((N : Int), k)) (hm : (N : Int) ≤ m) (hr : rl l N k = none) : ix l a m = ([], a, 2) := by
  unfold ix; rw [h]; simp only; rw [if_neg (by omega), Int.toNat_natCast, hr]
theorem ix_some {l r : List Int} {a m k z : Int} {N : Nat} (h : ru l a = some ((N : Int), k)) (hm : (N : Int) ≤ m) (hr : rl l N k = some (r, z)) : ix l a m = (r, z, 0) := by
  unfold ix; rw [h]; simp only; rw [if_neg (by omega), Int.toNat_natCast, hr]

/-- What a call leaves that answers such a row in new memory. -/
def RowAns (w : World) (x : List Int × Int × Int) (e : Ending) (w' : World) : Prop :=
  ∃ lm A c, Hid (lm = x.1) ∧ e = .returned (.tuple #[.slice A lm.length c, .int .i64 x.2.1, .int .i64 x.2.2]) ∧ Hid (Own w' w.heap.size .i64 3 A c lm) ∧ Hid (Below w.heap.size w w')
theorem own_nil (w : World) (b : Nat) : Own w b .i64 3 none 0 [] := ⟨rfl, .inl ⟨rfl, rfl⟩⟩
theorem row_bad {w w' : World} {x : List Int × Int × Int} {a j : Int} (h : x = ([], a, j)) (hb : Below w.heap.size w w') : RowAns w x (.returned (.tuple #[.slice none 0 0, .int .i64 a, .int .i64 j])) w' := by
  subst h
  exact ⟨[], none, 0, rfl, rfl, own_nil _ _, hb⟩
theorem row_good {w w' : World} {x : List Int × Int × Int} {r : List Int} {z : Int} {A : Option Addr} {c : Nat} (h : x = (r, z, 0)) (ho : Own w' w.heap.size .i64 3 A c r) (hb : Below w.heap.size w w') : RowAns w x (.returned (.tuple #[.slice A r.length c, .int .i64 z, .int .i64 0])) w' := by
  subst h
  exact ⟨r, A, c, rfl, rfl, ho, hb⟩

section
variable (A : Option Addr) (c : Nat) (l : List Int) (a : Int) (w : World) (B : Nat) (hr : Rd .u8 w B A l) (hB : B ≤ w.heap.size) (hl : (l.length : Int) ≤ 10000000) (hb : Byt l) (h1 : a ≤ 9223372036854775807) (m : Int)
include hr hB hl hb h1

set_option maxHeartbeats 800000 in
theorem ints_read : Calls Tryz.prog 78 #[.slice A l.length c, .int .i64 a, .int .i64 m] w (RowAns w (ix l a m)) := by
  rcases h : ru l a with _ | ⟨n, k⟩
  · have HT := Lib.hid (ix_none (m := m) h)
    have H := Lib.hid h; have HR := Lib.hid hr; have HBy := Lib.hid hb; clear h hr hb
    go_enter Tryz.func78, Tryz.ntmps78
    go_wp2_with ((with_reducible refine (rc_no A c l a _ B HR.out hl HBy.out h1 m H.out).mono ?_); rintro e w' ⟨rfl, rfl⟩)
    go_ret3
    exact row_bad HT.out (Below.refl _ _)
  · obtain ⟨b1, b2, b3, b4, b5⟩ := ru_bound hb h
    by_cases hm : m < n
    · have HT := Lib.hid (ix_long h hm)
      have H := Lib.hid h; have HR := Lib.hid hr; have HBy := Lib.hid hb; clear h hr hb
      go_enter Tryz.func78, Tryz.ntmps78
      go_wp2_with ((with_reducible refine (rc_long A c l a _ B HR.out hl HBy.out h1 m H.out hm).mono ?_); rintro e w' ⟨rfl, rfl⟩)
      go_ret3
      exact row_bad HT.out (Below.refl _ _)
    · obtain ⟨N, rfl⟩ := Int.eq_ofNat_of_zero_le b2
      have H := Lib.hid h; have HR := Lib.hid hr; have HBy := Lib.hid hb; clear h hr hb
      go_enter Tryz.func78, Tryz.ntmps78
      go_wp2_with ((with_reducible refine (rc_yes A c l a _ B HR.out hl HBy.out h1 m H.out (by omega)).mono ?_); rintro e w' ⟨rfl, rfl⟩)
      go_loopg [10, 12, 29] N (fun g s10 s12 s29 wr => ∃ (i : Nat) (r : List Int) (A1 : Option Addr) (c1 : Nat) (z : Int), i ≤ N ∧ g = N - i ∧ s10 = .int .i64 z ∧ s12 = .slice A1 r.length c1 ∧ s29 = .int .i64 (i : Int) ∧ 0 ≤ z ∧ z ≤ l.length ∧ (r.length : Int) ≤ z ∧ Hid (Own wr w.heap.size .i64 3 A1 c1 r) ∧ Hid (Below w.heap.size w wr) ∧ Hid (rl l N k = join r (rl l (N - i) z)))
      case atStart => exact ⟨0, [], none, 0, k, by omega, rfl, rfl, rfl, rfl, by omega, b5, by simp; omega, Lib.hid (own_nil _ _), Lib.hid (Below.refl _ _), Lib.hid (join_nil _).symm⟩
      case round =>
        obtain ⟨i, r, A1, c1, z, hi, rfl, rfl, rfl, rfl, hz0, hz1, hrz, HO, HB1, HE⟩ := hrel
        have HRr := Lib.hid (HR.out.below HB1.out hB)
        have hwr : w.heap.size ≤ wr.heap.size := HB1.out.size
        by_cases hlt : i < N
        · rcases hri : ri l z with _ | ⟨v, k2⟩
          · have HI := Lib.hid hri; clear hri
            have HT := Lib.hid (ix_bad (m := m) H.out (by omega) (HE.out.trans (join_none (p := N - (i + 1)) (by omega) HI.out)))
            go_wp2_with ((with_reducible refine (ri_no A c l z _ B HRr.out hl HBy.out (by omega) HI.out).mono ?_); rintro e w' ⟨rfl, rfl⟩)
            go_ret3
            exact row_bad HT.out HB1.out
          · obtain ⟨q1, q2, q3, q4, q5⟩ := ri_bound HBy.out hri
            have HI := Lib.hid hri; clear hri
            have HN := Lib.hid (HE.out.trans (join_some (p := N - (i + 1)) (by omega) HI.out))
            go_wp2_with (first
              | ((with_reducible refine (ri_yes A c l z _ B HRr.out hl HBy.out (by omega) HI.out).mono ?_); rintro e w' ⟨rfl, rfl⟩)
              | (at_builtin; refine wpList_app (K := .i64) (t := 35) (e := 3) Tryz.underlying35 int_info rfl (by omega) rfl (.tmp 42) (.tmp 44) rfl w.heap.size (wr.heap.size + 1) A1 c1 r [v] _ _ rfl rfl (HO.out.alloc _) (rd_new _ _ _ _ rfl) (by simp; omega) (by simp; omega) ?_; intro A2 c2 w2 lm HL HO2 HS2; have hlm : (lm.length : Int) ≤ k2 := (by rw [HL.out, List.length_append]; simp only [List.length_singleton]; omega)))
            go_roundg (N - (i + 1))
            case measure => omega
            case rel => exact ⟨i + 1, lm, A2, c2, k2, by omega, rfl, rfl, rfl, by go_num, by omega, q5, hlm, HO2, Lib.hid (below_step (HB1.out.alloc hwr _) HS2.out (fun j hj => (HO.out.lt j hj).1) (by simp; omega)), Lib.hid (by rw [HL.out]; exact HN.out)⟩
        · have HT := Lib.hid (ix_some (m := m) H.out (by omega) (HE.out.trans (join_fin (by omega))))
          go_wp2
          go_ret3
          exact row_good HT.out HO.out HB1.out

set_option maxHeartbeats 800000 in
theorem rints_read : Calls Tryz.prog 46 #[.slice A l.length c, .int .i64 a, .int .i64 m] w (RowAns w (ix l a m)) := by
  rcases h : ru l a with _ | ⟨n, k⟩
  · have HT := Lib.hid (ix_none (m := m) h)
    have H := Lib.hid h; have HR := Lib.hid hr; have HBy := Lib.hid hb; clear h hr hb
    go_enter Tryz.func46, Tryz.ntmps46
    go_wp2_with ((with_reducible refine (rru_no A c l a _ B HR.out hl HBy.out h1 H.out).mono ?_); rintro e w' ⟨rfl, rfl⟩)
    go_ret3
    exact row_bad HT.out (Below.refl _ _)
  · obtain ⟨b1, b2, b3, b4, b5⟩ := ru_bound hb h
    by_cases hm : m < n
    · have HT := Lib.hid (ix_long h hm)
      have H := Lib.hid h; have HR := Lib.hid hr; have HBy := Lib.hid hb; clear h hr hb
      go_enter Tryz.func46, Tryz.ntmps46
      go_wp2_with ((with_reducible refine (rru_yes A c l a _ B HR.out hl HBy.out h1 H.out).mono ?_); rintro e w' ⟨rfl, rfl⟩)
      go_ret3
      exact row_bad HT.out (Below.refl _ _)
    · have hm' : decide (m < n) = false := by simpa using hm
      obtain ⟨N, rfl⟩ := Int.eq_ofNat_of_zero_le b2
      have H := Lib.hid h; have HR := Lib.hid hr; have HBy := Lib.hid hb; clear h hr hb
      go_enter Tryz.func46, Tryz.ntmps46
      go_wp2_with ((with_reducible refine (rru_yes A c l a _ B HR.out hl HBy.out h1 H.out).mono ?_); rintro e w' ⟨rfl, rfl⟩)
      go_loopg [10, 12, 13] N (fun g s10 s12 s13 wr => ∃ (i : Nat) (r : List Int) (A1 : Option Addr) (c1 : Nat) (z : Int), i ≤ N ∧ g = N - i ∧ s10 = .int .i64 z ∧ s12 = .slice A1 r.length c1 ∧ s13 = .int .i64 (i : Int) ∧ 0 ≤ z ∧ z ≤ l.length ∧ (r.length : Int) ≤ z ∧ Hid (Own wr w.heap.size .i64 3 A1 c1 r) ∧ Hid (Below w.heap.size w wr) ∧ Hid (rl l N k = join r (rl l (N - i) z)))
      case atStart => exact ⟨0, [], none, 0, k, by omega, rfl, rfl, rfl, rfl, by omega, b5, by simp; omega, Lib.hid (own_nil _ _), Lib.hid (Below.refl _ _), Lib.hid (join_nil _).symm⟩
      case round =>
        obtain ⟨i, r, A1, c1, z, hi, rfl, rfl, rfl, rfl, hz0, hz1, hrz, HO, HB1, HE⟩ := hrel
        have HRr := Lib.hid (HR.out.below HB1.out hB)
        have hwr : w.heap.size ≤ wr.heap.size := HB1.out.size
        by_cases hlt : i < N
        · rcases hri : ri l z with _ | ⟨v, k2⟩
          · have HI := Lib.hid hri; clear hri
            have HT := Lib.hid (ix_bad (m := m) H.out (by omega) (HE.out.trans (join_none (p := N - (i + 1)) (by omega) HI.out)))
            go_wp2_with ((with_reducible refine (rri_no A c l z _ B HRr.out hl HBy.out (by omega) HI.out).mono ?_); rintro e w' ⟨rfl, rfl⟩)
            go_ret3
            exact row_bad HT.out HB1.out
          · obtain ⟨q1, q2, q3, q4, q5⟩ := ri_bound HBy.out hri
            have HI := Lib.hid hri; clear hri
            have HN := Lib.hid (HE.out.trans (join_some (p := N - (i + 1)) (by omega) HI.out))
            go_wp2_with (first
              | ((with_reducible refine (rri_yes A c l z _ B HRr.out hl HBy.out (by omega) HI.out).mono ?_); rintro e w' ⟨rfl, rfl⟩)
              | (at_builtin; refine wpList_app (K := .i64) (t := 35) (e := 3) Tryz.underlying35 int_info rfl (by omega) rfl (.tmp 48) (.tmp 50) rfl w.heap.size (wr.heap.size + 1) A1 c1 r [v] _ _ rfl rfl (HO.out.alloc _) (rd_new _ _ _ _ rfl) (by simp; omega) (by simp; omega) ?_; intro A2 c2 w2 lm HL HO2 HS2; have hlm : (lm.length : Int) ≤ k2 := (by rw [HL.out, List.length_append]; simp only [List.length_singleton]; omega)))
            go_roundg (N - (i + 1))
            case measure => omega
            case rel => exact ⟨i + 1, lm, A2, c2, k2, by omega, rfl, rfl, rfl, by go_num, by omega, q5, hlm, HO2, Lib.hid (below_step (HB1.out.alloc hwr _) HS2.out (fun j hj => (HO.out.lt j hj).1) (by simp; omega)), Lib.hid (by rw [HL.out]; exact HN.out)⟩
        · have HT := Lib.hid (ix_some (m := m) H.out (by omega) (HE.out.trans (join_fin (by omega))))
          go_wp2
          go_ret3
          exact row_good HT.out HO.out HB1.out
end

set_option maxHeartbeats 400000 in
/-- Same of two rows that are alike. -/
theorem same_any (A A' : Option Addr) (c c' : Nat) (l m : List Int) (w : World) (B B' : Nat) (hr : Rd .i64 w B A l) (hr' : Rd .i64 w B' A' m) (hm : m = l) (hl : (l.length : Int) ≤ 9223372036854775807) :
    Calls Tryz.prog 11 #[.slice A l.length c, .slice A' m.length c'] w fun e w' => e = .returned (.bool true) ∧ ∃ q, w' = w.drewN q := by
  subst hm
  have HR := Lib.hid hr; have HR' := Lib.hid hr'; clear hr hr'
  go_enter Tryz.func11, Tryz.ntmps11
  go_wp2
  go_loopg [5] m.length (fun g s5 wr => ∃ (k q : Nat), k ≤ m.length ∧ g = m.length - k ∧ s5 = .int .i64 (k : Int) ∧ wr = w.drewN q)
  case atStart => exact ⟨0, 0, by omega, rfl, rfl, rfl⟩
  case round =>
    obtain ⟨k, q, hk, rfl, rfl, rfl⟩ := hrel
    by_cases hlt : k < m.length
    · obtain ⟨b, off, x, rfl, _, hx, hc⟩ := HR.out.at' hlt
      obtain ⟨b', off', x', rfl, _, hx', hc'⟩ := HR'.out.at' hlt
      rw [hx] at hx'
      injection hx' with hx'
      subst hx'
      have e0 : (0 : Int) ≤ k := by omega
      have e1 : (k : Int) < m.length := by omega
      clear hx
      go_wp2
      go_quiet (fail)
      go_wp2
      go_roundg (m.length - (k + 1))
      case measure => omega
      case rel => exact ⟨k + 1, _, by omega, rfl, by go_num, rfl⟩
    · go_wp2
      go_ret
      exact ⟨rfl, q, rfl⟩
end Go.Proofs.YtpjenkgimkndaaaGreat.Pk
