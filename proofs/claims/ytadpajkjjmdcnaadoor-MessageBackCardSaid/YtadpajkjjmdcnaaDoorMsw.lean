/-
  Contract of frame.Wrap at loads that are not too long.
-/
import Derived.Test.YtadpajkjjmdcnaaDoorMsn
namespace Go.Proofs.YtadpajkjjmdcnaaDoor.Con
open Go.RowKit Pm Mth
set_option linter.unusedVariables false

theorem uint_nil (n : Int) (w : World) (h0 : -9223372036854775808 ≤ n) (h1 : n ≤ 9223372036854775807) : Calls Tryd.prog 26 #[.slice none 0 0, .int .i64 n] w (Pk.New w (dg n.toNat)) :=
  Pk.uint_any none 0 [] n w 0 Rd.nil (Nat.zero_le _) (by simp) h0 h1
/-- What Wrap leaves: the frame in new memory, OK. -/
def Wrapped (w : World) (l : List Int) (e : Ending) (w' : World) : Prop :=
  ∃ lm A c, Hid (lm = dg l.length ++ l) ∧ e = .returned (.tuple #[.slice A lm.length c, .int .i64 0]) ∧ Hid (Own w' w.heap.size .u8 5 A c lm) ∧ Hid (Below w.heap.size w w')
theorem wrap_ok (A : Option Addr) (c : Nat) (l : List Int) (w : World) (B : Nat) (hr : Rd .u8 w B A l) (hB : B ≤ w.heap.size) (h : (l.length : Int) ≤ 4096) : Calls Tryd.prog 18 #[.slice A l.length c] w (Wrapped w l) := by
  have HR := Lib.hid hr; clear hr
  have h' : decide ((4096 : Int) < l.length) = false := by simp; omega
  have h10 := dg_len10 (n := l.length) (by omega)
  have h10' : ((dg l.length).length : Int) ≤ 10 := by omega
  clear h10
  go_enter Tryd.func18, Tryd.ntmps18
  go_wp2_with (first
    | ((with_reducible refine (uint_nil _ _ (by omega) (by omega)).mono ?_); rintro e w1 ⟨l1, A1, c1, HL1, rfl, HO1, HB1⟩; have hl1 : (l1.length : Int) ≤ 10 := (by rw [HL1.out, Int.toNat_natCast]; omega))
    | (at_builtin; refine wpList_app (K := .u8) (t := 27) (e := 5) Tryd.underlying27 byte_info rfl (by omega) rfl (.tmp 9) (.tmp 10) rfl w.heap.size B A1 c1 l1 l A c rfl rfl HO1.out (HR.out.below HB1.out hB) (by omega) HB1.out.size ?_; intro A2 c2 w2 lm HL HO2 HS2))
  go_ret2
  refine ⟨lm, A2, c2, by rw [HL.out, HL1.out, Int.toNat_natCast]; rfl, rfl, HO2, Lib.hid (Pk.new_step HB1.out HO1.out HS2.out)⟩
end Go.Proofs.YtadpajkjjmdcnaaDoor.Con
