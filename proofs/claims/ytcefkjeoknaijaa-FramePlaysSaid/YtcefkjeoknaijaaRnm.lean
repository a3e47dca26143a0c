/-
  Contracts of the document's own number and Wrap.
-/
import Derived.Test.YtcefkjeoknaijaaFed
namespace Go.Proofs.Ytcefkjeoknaijaa.Con
open Go.RowKit Mth Mem

theorem results_tmp4 {fn : Func} {t u v x : Tmp} (h : fn.results = #[.tmp t, .tmp u, .tmp v, .tmp x]) (tmps : Array Value) (P : Program) (w : World) :
    (results fn tmps).run P w = .ok (.tuple #[tmps.getD t undef, tmps.getD u undef, tmps.getD v undef, tmps.getD x undef]) w := by
  simp [results, h]

def big (x : Int) : Bool := decide (128 ≤ x)
theorem opn_big (l : List Int) : opn l = (decide (l.length < 9) && l.all big) := rfl
theorem all_next {l : List Int} {k : Nat} {x : Int} (h : l[k]? = some x) : (l.take (k + 1)).all big = ((l.take k).all big && big x) := by
  obtain ⟨hk, rfl⟩ := List.getElem?_eq_some_iff.1 h
  rw [List.take_succ_eq_append_getElem hk, List.all_append]
  simp

section
variable (A : Option Addr) (c : Nat) (l : List Int) (w : World) (B : Nat) (hr : Rd .u8 w B A l) (hl : (l.length : Int) ≤ 90000) (hb : Byt l)
include hr hl hb

theorem num_long {v k : Int} (hu : ru l 0 = some (v, k)) (hv : 4096 < v) : Calls Try.prog 20 #[.slice A l.length c] w fun e w' => e = .returned (.tuple #[.int .i64 0, .int .i64 0, .bool false, .int .i64 3]) ∧ w = w' := by
  have HU := Lib.hid hu; have HR := Lib.hid hr; have HBy := Lib.hid hb
  clear hu hr hb
  go_enter Try.func20, Try.ntmps20
  go_wp2_with ((with_reducible refine (rru_yes _ c l 0 _ B HR.out (by omega) HBy.out (by omega) HU.out).mono ?_); rintro e w' ⟨rfl, rfl⟩)
  (try simp only [Exit.inBlock, Exit.then])
  refine bodyPost_ret (results_tmp4 rfl _ _ _) rfl ?_
  exact ⟨rfl, rfl⟩
theorem num_yes {v k : Int} (hu : ru l 0 = some (v, k)) (hv : v ≤ 4096) : Calls Try.prog 20 #[.slice A l.length c] w fun e w' => e = .returned (.tuple #[.int .i64 v, .int .i64 k, .bool true, .int .i64 0]) ∧ w = w' := by
  have hv' : decide (4096 < v) = false := by simp; omega
  have HU := Lib.hid hu; have HR := Lib.hid hr; have HBy := Lib.hid hb
  clear hu hr hb
  go_enter Try.func20, Try.ntmps20
  go_wp2_with ((with_reducible refine (rru_yes _ c l 0 _ B HR.out (by omega) HBy.out (by omega) HU.out).mono ?_); rintro e w' ⟨rfl, rfl⟩)
  (try simp only [Exit.inBlock, Exit.then])
  refine bodyPost_ret (results_tmp4 rfl _ _ _) rfl ?_
  exact ⟨rfl, rfl⟩

set_option maxHeartbeats 1000000 in
theorem num_none (hu : ru l 0 = none) (x : Int) (hx : x = if opn l then 0 else 2) : Calls Try.prog 20 #[.slice A l.length c] w fun e w' => e = .returned (.tuple #[.int .i64 0, .int .i64 0, .bool false, .int .i64 x]) ∧ w = w' := by
  have HU := Lib.hid hu; have HR := Lib.hid hr; have HBy := Lib.hid hb; have HX := Lib.hid hx
  clear hu hr hb hx
  obtain ⟨o9, ho9⟩ : ∃ o : Bool, decide ((l.length : Int) < 9) = o := ⟨_, rfl⟩
  go_enter Try.func20, Try.ntmps20
  go_wp2_with ((with_reducible refine (rru_no _ c l 0 _ B HR.out (by omega) HBy.out (by omega) HU.out).mono ?_); rintro e w' ⟨rfl, rfl⟩)
  go_loopg [9, 10] l.length (fun m s9 s10 wr => ∃ (k : Nat) (o : Bool), k ≤ l.length ∧ m = l.length - k ∧ s9 = .bool o ∧ s10 = .int .i64 (k : Int) ∧ w = wr ∧ Hid (o = (decide (l.length < 9) && (l.take k).all big)))
  case atStart => exact ⟨0, o9, by omega, rfl, by rw [← ho9], rfl, rfl, Lib.hid (by rw [← ho9]; simp; omega)⟩
  case round =>
    obtain ⟨k, o, hk, rfl, rfl, rfl, rfl, HO⟩ := hrel
    by_cases hlt : k < l.length
    · have hlt' : (k : Int) < l.length := by omega
      cases o with
      | false =>
        obtain ⟨_, _, x', _, _, hx', _⟩ := HR.out.at' hlt
        have HX' := Lib.hid hx'; clear hx'
        go_wp2
        go_roundg (l.length - (k + 1))
        case measure => omega
        case rel => exact ⟨k + 1, false, by omega, rfl, rfl, by go_num, rfl, Lib.hid (by rw [all_next HX'.out, ← Bool.and_assoc, ← HO.out]; rfl)⟩
      | true =>
        obtain ⟨b, off, y, rfl, _, hy, hc⟩ := HR.out.at' hlt
        obtain ⟨hy0, hy1⟩ := HBy.out.at hy
        have HY := Lib.hid hy; clear hy
        by_cases h128 : 128 ≤ y
        · go_wp2
          go_roundg (l.length - (k + 1))
          case measure => omega
          case rel => exact ⟨k + 1, true, by omega, rfl, rfl, by go_num, rfl, Lib.hid (by rw [all_next HY.out, ← Bool.and_assoc, ← HO.out]; simp [big, h128])⟩
        · have h128' : decide (128 ≤ y) = false := by simpa using h128
          go_wp2
          go_roundg (l.length - (k + 1))
          case measure => omega
          case rel => exact ⟨k + 1, false, by omega, rfl, rfl, by go_num, rfl, Lib.hid (by rw [all_next HY.out, ← Bool.and_assoc, ← HO.out]; simp [big, h128])⟩
    · have hlt' : decide ((k : Int) < l.length) = false := by simp; omega
      have HT : Hid (o = opn l) := Lib.hid (by rw [HO.out, opn_big, List.take_of_length_le (by omega)])
      cases o with
      | false =>
        have HX2 : Hid (x = 2) := Lib.hid (by rw [HX.out, ← HT.out]; rfl)
        go_wp2
        (try simp only [Exit.inBlock, Exit.then])
        refine bodyPost_ret (results_tmp4 rfl _ _ _) rfl ?_
        rw [HX2.out]
        exact ⟨rfl, rfl⟩
      | true =>
        have HX2 : Hid (x = 0) := Lib.hid (by rw [HX.out, ← HT.out]; rfl)
        go_wp2
        (try simp only [Exit.inBlock, Exit.then])
        refine bodyPost_ret (results_tmp4 rfl _ _ _) rfl ?_
        rw [HX2.out]
        exact ⟨rfl, rfl⟩
end

theorem rwrap_long (A : Option Addr) (c : Nat) (l : List Int) (w : World) (h : (4096 : Int) < l.length) : Calls Try.prog 16 #[.slice A l.length c] w fun e w' => e = .returned (.tuple #[.slice none 0 0, .int .i64 3]) ∧ w = w' := by
  go_enter Try.func16, Try.ntmps16
  go_wp2
  go_ret2
  exact ⟨rfl, rfl⟩
theorem ruint_nil (n : Int) (w : World) (h0 : -9223372036854775808 ≤ n) (h1 : n ≤ 9223372036854775807) : Calls Try.prog 22 #[.slice none 0 0, .int .i64 n] w (New w (dg n.toNat)) :=
  ruint_any none 0 [] n w 0 Rd.nil (Nat.zero_le _) (by simp) h0 h1
theorem rwrap_ok (A : Option Addr) (n c : Nat) (l : List Int) (hn : l.length = n) (w : World) (B : Nat) (hr : Rd .u8 w B A l) (hB : B ≤ w.heap.size) (h : (l.length : Int) ≤ 4096) : Calls Try.prog 16 #[.slice A n c] w (Wrapped w l) := by
  subst hn
  have HR := Lib.hid hr; clear hr
  have h' : decide ((4096 : Int) < l.length) = false := by simp; omega
  have h10 := dg_len10 (n := l.length) (by omega)
  have h10' : ((dg l.length).length : Int) ≤ 10 := by omega
  clear h10
  go_enter Try.func16, Try.ntmps16
  go_wp2_with (first
    | ((with_reducible refine (ruint_nil _ _ (by omega) (by omega)).mono ?_); rintro e w1 ⟨l1, A1, c1, HL1, rfl, HO1, HB1⟩; have hl1 : (l1.length : Int) ≤ 10 := (by rw [HL1.out, Int.toNat_natCast]; omega))
    | (at_builtin; refine wpList_app (K := .u8) (t := 23) (e := 5) Try.underlying23 byte_info rfl (by omega) rfl (.tmp 9) (.tmp 10) rfl w.heap.size B A1 c1 l1 l A c rfl rfl HO1.out (HR.out.below HB1.out hB) (by omega) HB1.out.size ?_; intro A2 c2 w2 lm HL HO2 HS2))
  go_ret2
  refine ⟨lm, A2, c2, by rw [HL.out, HL1.out, Int.toNat_natCast]; rfl, rfl, HO2, new_step HB1.out HO1.out HS2.out⟩
end Go.Proofs.Ytcefkjeoknaijaa.Con
