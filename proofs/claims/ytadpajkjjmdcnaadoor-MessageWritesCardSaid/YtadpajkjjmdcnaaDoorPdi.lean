/-
  Contracts of the calls that write digits behind a row, and of those that copy bytes into new memory: the program's and the document's own.
-/
import Derived.Test.YtadpajkjjmdcnaaDoorPbi
namespace Go.Proofs.YtadpajkjjmdcnaaDoor.Pk
open Go.RowKit Mth Pm

/-- What a call leaves that writes behind a row of its caller's own. -/
def Wrote (w : World) (base : Nat) (r : Option Nat) (l : List Int) (e : Ending) (w' : World) : Prop :=
  ∃ lm A c, Hid (lm = l) ∧ e = .returned (.slice A lm.length c) ∧ Hid (Own w' base .u8 5 A c lm) ∧ Hid (Step w w' r A)
/-- What a call leaves that answers bytes in new memory. -/
def New (w : World) (l : List Int) (e : Ending) (w' : World) : Prop :=
  ∃ lm A c, Hid (lm = l) ∧ e = .returned (.slice A lm.length c) ∧ Hid (Own w' w.heap.size .u8 5 A c lm) ∧ Hid (Below w.heap.size w w')

theorem or128' (m : Nat) : bits BinOp.or IntKind.u8 ((m : Int) % 256) 128 = ((m % 128 + 128 : Nat) : Int) := by
  have := or128 m
  rw [IntKind.wrap_u8'] at this
  exact this
theorem dg_step {l l1 lm : List Int} {x m : Nat} {b : Int} (h : 128 ≤ m) (he : l ++ dg x = l1 ++ dg m) (hb : b = ((m % 128 + 128 : Nat) : Int)) (hl : lm = l1 ++ [b]) : l ++ dg x = lm ++ dg (m / 128) := by
  subst hl; subst hb
  rw [he, dg_ge h]
  simp
theorem dg_fin {l l1 lm : List Int} {x m : Nat} {b : Int} (h : m < 128) (he : l ++ dg x = l1 ++ dg m) (hb : b = (m : Int)) (hl : lm = l1 ++ [b]) : l ++ dg x = lm := by
  subst hl; subst hb
  rw [he, dg_lt h]
theorem dg_room {l l1 : List Int} {x m : Nat} (hx : (x : Int) < 18446744073709551616) (he : l ++ dg x = l1 ++ dg m) (hl : (l.length : Int) ≤ 10000000) : (l1.length : Int) ≤ 10000010 := by
  have h1 := congrArg List.length he
  have h2 := dg_len10 (n := x) (by omega)
  rw [List.length_append, List.length_append] at h1
  omega

set_option maxHeartbeats 400000 in
theorem wd_nat (x : Nat) (w : World) (base : Nat) (A : Option Addr) (c : Nat) (l : List Int) (hx : (x : Int) < 18446744073709551616) (ho : Own w base .u8 5 A c l) (hl : (l.length : Int) ≤ 10000000) (hb : base ≤ w.heap.size) :
    Calls Tryd.prog 27 #[.slice A l.length c, .int .u64 x] w (Wrote w base (blk A) (l ++ dg x)) := by
  have HO := Lib.hid ho; clear ho
  go_enter Tryd.func27, Tryd.ntmps27
  go_wp2
  go_loopg [0, 1] x (fun g s0 s1 wr => ∃ (m : Nat) (l1 : List Int) (A1 : Option Addr) (c1 : Nat), m = g ∧ s0 = .slice A1 l1.length c1 ∧ s1 = .int .u64 (m : Int) ∧ (m : Int) < 18446744073709551616 ∧ Hid (Own wr base .u8 5 A1 c1 l1) ∧ Hid (Step w wr (blk A) A1) ∧ Hid (l ++ dg x = l1 ++ dg m))
  case atStart => exact ⟨x, l, A, c, rfl, rfl, rfl, hx, HO, Lib.hid (Step.refl w A), Lib.hid rfl⟩
  case round =>
    obtain ⟨m, l1, A1, c1, rfl, rfl, rfl, hm, HO1, HS1, HE⟩ := hrel
    have hl1 := dg_room hx HE.out hl
    have hwr : w.heap.size ≤ wr.heap.size := HS1.out.grown.size
    by_cases hlt : (128 : Int) ≤ m
    · go_wp2_with (at_builtin; refine wpList_app (K := .u8) (t := 27) (e := 5) Tryd.underlying27 byte_info rfl (by omega) rfl (.tmp 7) (.tmp 11) rfl base (wr.heap.size + 1) A1 c1 l1 [_] _ _ rfl rfl (HO1.out.alloc _) (rd_new _ _ _ _ rfl) (by simp; omega) (by simp; omega) ?_; intro A2 c2 w2 lm HL HO2 HS2)
      go_roundg (m / 128)
      case measure => omega
      case rel => exact ⟨m / 128, lm, A2, c2, rfl, rfl, by go_num, by omega, HO2, Lib.hid ((HS1.out.alloc _).trans HS2.out), Lib.hid (dg_step (by omega) HE.out (or128' m) HL.out)⟩
    · have hlt' : decide ((128 : Int) ≤ m) = false := by simpa using hlt
      have hs : (m : Int) < 128 := by omega
      go_wp2_with (at_builtin; refine wpList_app (K := .u8) (t := 27) (e := 5) Tryd.underlying27 byte_info rfl (by omega) rfl (.tmp 15) (.tmp 18) rfl base (wr.heap.size + 1) A1 c1 l1 [_] _ _ rfl rfl (HO1.out.alloc _) (rd_new _ _ _ _ rfl) (by simp; omega) (by simp; omega) ?_; intro A2 c2 w2 lm HL HO2 HS2)
      go_ret
      have he : l ++ dg x = lm := dg_fin (m := m) (by omega) HE.out (by omega) HL.out
      rw [he]
      exact ⟨lm, A2, c2, rfl, rfl, HO2, (HS1.out.alloc _).trans HS2.out⟩

set_option maxHeartbeats 400000 in
theorem dd_nat (x : Nat) (w : World) (base : Nat) (A : Option Addr) (c : Nat) (l : List Int) (hx : (x : Int) < 18446744073709551616) (ho : Own w base .u8 5 A c l) (hl : (l.length : Int) ≤ 10000000) (hb : base ≤ w.heap.size) :
    Calls Tryd.prog 30 #[.slice A l.length c, .int .u64 x] w (Wrote w base (blk A) (l ++ dg x)) := by
  have HO := Lib.hid ho; clear ho
  go_enter Tryd.func30, Tryd.ntmps30
  go_wp2
  go_loopg [0, 1] x (fun g s0 s1 wr => ∃ (m : Nat) (l1 : List Int) (A1 : Option Addr) (c1 : Nat), m = g ∧ s0 = .slice A1 l1.length c1 ∧ s1 = .int .u64 (m : Int) ∧ (m : Int) < 18446744073709551616 ∧ Hid (Own wr base .u8 5 A1 c1 l1) ∧ Hid (Step w wr (blk A) A1) ∧ Hid (l ++ dg x = l1 ++ dg m))
  case atStart => exact ⟨x, l, A, c, rfl, rfl, rfl, hx, HO, Lib.hid (Step.refl w A), Lib.hid rfl⟩
  case round =>
    obtain ⟨m, l1, A1, c1, rfl, rfl, rfl, hm, HO1, HS1, HE⟩ := hrel
    have hl1 := dg_room hx HE.out hl
    have hwr : w.heap.size ≤ wr.heap.size := HS1.out.grown.size
    by_cases hlt : (128 : Int) ≤ m
    · go_wp2_with (at_builtin; refine wpList_app (K := .u8) (t := 27) (e := 5) Tryd.underlying27 byte_info rfl (by omega) rfl (.tmp 7) (.tmp 12) rfl base (wr.heap.size + 1) A1 c1 l1 [_] _ _ rfl rfl (HO1.out.alloc _) (rd_new _ _ _ _ rfl) (by simp; omega) (by simp; omega) ?_; intro A2 c2 w2 lm HL HO2 HS2)
      go_roundg (m / 128)
      case measure => omega
      case rel => exact ⟨m / 128, lm, A2, c2, rfl, rfl, by go_num, by omega, HO2, Lib.hid ((HS1.out.alloc _).trans HS2.out), Lib.hid (dg_step (by omega) HE.out (by omega) HL.out)⟩
    · have hlt' : decide ((128 : Int) ≤ m) = false := by simpa using hlt
      have hs : (m : Int) < 128 := by omega
      go_wp2_with (at_builtin; refine wpList_app (K := .u8) (t := 27) (e := 5) Tryd.underlying27 byte_info rfl (by omega) rfl (.tmp 16) (.tmp 19) rfl base (wr.heap.size + 1) A1 c1 l1 [_] _ _ rfl rfl (HO1.out.alloc _) (rd_new _ _ _ _ rfl) (by simp; omega) (by simp; omega) ?_; intro A2 c2 w2 lm HL HO2 HS2)
      go_ret
      have he : l ++ dg x = lm := dg_fin (m := m) (by omega) HE.out (by omega) HL.out
      rw [he]
      exact ⟨lm, A2, c2, rfl, rfl, HO2, (HS1.out.alloc _).trans HS2.out⟩

theorem wd_any (x : Int) (w : World) (base : Nat) (A : Option Addr) (c : Nat) (l : List Int) (h0 : 0 ≤ x) (hx : x < 18446744073709551616) (ho : Own w base .u8 5 A c l) (hl : (l.length : Int) ≤ 10000000) (hb : base ≤ w.heap.size) :
    Calls Tryd.prog 27 #[.slice A l.length c, .int .u64 x] w (Wrote w base (blk A) (l ++ dg x.toNat)) := by
  obtain ⟨n, rfl⟩ := Int.eq_ofNat_of_zero_le h0
  exact wd_nat n w base A c l hx ho hl hb
theorem dd_any (x : Int) (w : World) (base : Nat) (A : Option Addr) (c : Nat) (l : List Int) (h0 : 0 ≤ x) (hx : x < 18446744073709551616) (ho : Own w base .u8 5 A c l) (hl : (l.length : Int) ≤ 10000000) (hb : base ≤ w.heap.size) :
    Calls Tryd.prog 30 #[.slice A l.length c, .int .u64 x] w (Wrote w base (blk A) (l ++ dg x.toNat)) := by
  obtain ⟨n, rfl⟩ := Int.eq_ofNat_of_zero_le h0
  exact dd_nat n w base A c l hx ho hl hb

theorem own_empty (w : World) : Own (w.alloc (.cells #[] 5)) w.heap.size .u8 5 (some ⟨w.heap.size, 0, none⟩) 0 [] :=
  ⟨rfl, .inr ⟨w.heap.size, 0, #[], rfl, Nat.le_refl _, heap_alloc_new w _, Nat.le_refl _, Nat.zero_le _, rfl, rfl⟩⟩
theorem below_step {w w1 w2 : World} {b : Nat} {r : Option Nat} {A : Option Addr} (hb : Below b w w1) (hs : Step w1 w2 r A) (hr : ∀ k, r = some k → b ≤ k) (h : b ≤ w1.heap.size) : Below b w w2 :=
  hb.trans ⟨hs.grown.os, hs.grown.tape, hs.grown.output, hs.grown.size, fun i hi => hs.grown.block i (by omega) (fun e => by have := hr i e.symm; omega)⟩
theorem below_of_grown {w w' : World} (h : w.grownBy w' none) : Below w.heap.size w w' := ⟨h.os, h.tape, h.output, h.size, fun k hk => h.block k hk (by simp)⟩

set_option maxHeartbeats 400000 in
theorem copy_nat (A : Option Addr) (c : Nat) (l : List Int) (r : Nat) (w : World) (B : Nat) (hr : Rd .u8 w B A l) (hB : B ≤ w.heap.size) (hl : (l.length : Int) ≤ 10000000) (hr2 : (r : Int) ≤ 10000000) :
    Calls Tryd.prog 28 #[.slice A l.length c, .int .i64 r] w (New w l) := by
  obtain ⟨i0, hi0, hz0, hz1, hz2⟩ := info_parts byte_info
  have HR := Lib.hid hr; clear hr
  have HI := Lib.hid hi0; have HZ0 := Lib.hid hz0; have HZ1 := Lib.hid hz1; have HZ2 := Lib.hid hz2
  clear hi0 hz0 hz1 hz2
  go_enter Tryd.func28, Tryd.ntmps28
  go_wp2_with (first
    | (at_make; refine wpList_make_own _ rfl _ _ 27 rfl w.heap.size 5 i0 _ 1 Tryd.underlying27 HI.out HZ0.out HZ1.out _ _ _ (l.length + r) rfl rfl (by omega) (by rw [HZ2.out]; omega) (by unfold maxLen; omega) (Nat.le_refl _) ?_; intro w1 ho1 hg1; have HO1 := Lib.hid ho1; have HG1 := Lib.hid hg1; clear ho1 hg1)
    | (at_builtin; refine wpList_app (K := .u8) (t := 27) (e := 5) Tryd.underlying27 byte_info rfl (by omega) rfl (.tmp 9) (.tmp 10) rfl w.heap.size B (some ⟨w.heap.size, 0, none⟩) (l.length + r) [] l A c rfl rfl HO1.out (HR.out.keep fun b hb => HG1.out.block b (by omega) (by simp)) (by simp; omega) HG1.out.size ?_; intro A2 c2 w2 lm HL HO2 HS2))
  go_ret
  have hl2 : lm = l := HL.out
  subst hl2
  exact ⟨lm, A2, c2, rfl, rfl, HO2, below_step (below_of_grown HG1.out) HS2.out (fun k hk => by simp [blk] at hk; omega) HG1.out.size⟩

theorem copy_any (A : Option Addr) (c : Nat) (l : List Int) (r : Int) (w : World) (B : Nat) (hr : Rd .u8 w B A l) (hB : B ≤ w.heap.size) (hl : (l.length : Int) ≤ 10000000) (h0 : 0 ≤ r) (hr2 : r ≤ 10000000) :
    Calls Tryd.prog 28 #[.slice A l.length c, .int .i64 r] w (New w l) := by
  obtain ⟨n, rfl⟩ := Int.eq_ofNat_of_zero_le h0
  exact copy_nat A c l n w B hr hB hl hr2

theorem front_any (A : Option Addr) (c : Nat) (l : List Int) (w : World) (B : Nat) (hr : Rd .u8 w B A l) (hB : B ≤ w.heap.size) (hl : (l.length : Int) ≤ 10000000) :
    Calls Tryd.prog 31 #[.slice A l.length c] w (New w l) := by
  have HR := Lib.hid hr; clear hr
  go_enter Tryd.func31, Tryd.ntmps31
  go_wp2_with (at_builtin; refine wpList_app (K := .u8) (t := 27) (e := 5) Tryd.underlying27 byte_info rfl (by omega) rfl (.tmp 3) (.tmp 4) rfl w.heap.size B (some ⟨w.heap.size, 0, none⟩) 0 [] l A c rfl rfl (own_empty w) (HR.out.alloc hB _) (by simp; omega) (by simp) ?_; intro A2 c2 w2 lm HL HO2 HS2)
  go_ret
  have hl2 : lm = l := HL.out
  subst hl2
  exact ⟨lm, A2, c2, rfl, rfl, HO2, below_step ((Below.refl _ _).alloc (Nat.le_refl _) _) HS2.out (fun k hk => by simp [blk] at hk; omega) (by simp)⟩
end Go.Proofs.YtadpajkjjmdcnaaDoor.Pk
