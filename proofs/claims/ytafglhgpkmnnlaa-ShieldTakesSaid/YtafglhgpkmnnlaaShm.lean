/-
  Contracts of More and All, of Left and of both Sames, the program's and the document's.
-/
import Derived.Test.YtafglhgpkmnnlaaShp
import Derived.Deep.LoopGhost
import Derived.BigQuiet
namespace Go.Proofs.Ytafglhgpkmnnlaa.Con
open Go.RowKit Go.Maps

theorem part_fits (n q : Int) : Fits (partI n q 100) := by
  unfold partI Fits
  have h := prod_fits (cpI_fits n) (cpI_fits q)
  split
  · omega
  · have h1 := Int.natAbs_tdiv_le_natAbs (cpI n * cpI q) 100
    omega
theorem more_fits (n q : Int) : Fits (moreI n q) := by
  unfold moreI mx
  have := part_fits n (held (100 + q))
  split
  · exact ⟨by omega, by omega⟩
  · exact this
theorem more_turn (n q : Int) : mx 0 (partI n (held (100 + q)) 100) = moreI n q := by
  unfold moreI mx
  split <;> split <;> omega
theorem more_any (n q : Int) (hq : Fits q) (w : World) :
    Calls Try.prog 15 #[.int .i64 n, .int .i64 q] w fun e w' => e = .returned (.int .i64 (moreI n q)) ∧ w = w' := by
  obtain ⟨r, hr⟩ : ∃ r, partI n (held (100 + q)) 100 = r := ⟨_, rfl⟩
  obtain ⟨m, hm⟩ : ∃ m, moreI n q = m := ⟨_, rfl⟩
  have HM := Lib.hid hm
  have HT : Hid (mx 0 r = m) := Lib.hid (by rw [← hr, ← hm]; exact more_turn n q)
  have HP : Hid (∀ V, Calls Try.prog 19 #[.int .i64 n, .int .i64 (held (100 + q)), .int .i64 100] V fun e w' => e = .returned (.int .i64 r) ∧ V = w') := Lib.hid (fun V => by have := part_any n (held (100 + q)) 100 V ⟨by omega, by omega⟩; rwa [hr] at this)
  have HA := Lib.hid (add_any 100 q w ⟨by omega, by omega⟩ hq)
  clear hr hm
  go_enter Try.func15, Try.ntmps15
  go_wp2_with (first
    | ((with_reducible refine HA.out.mono ?_); rintro e w1 ⟨rfl, rfl⟩)
    | ((with_reducible refine (HP.out _).mono ?_); rintro e w2 ⟨rfl, rfl⟩)
    | (with_reducible refine wpList_max rfl (.const (.int .i64 0)) (.tmp 8) 0 r m rfl (by simp [Act.eval]) (by simp [Act.eval]) HT.out ?_))
  go_ret
  exact ⟨ret_int HM.out.symm, rfl⟩
theorem rmore_any (n q : Int) (hq : Fits q) (w : World) :
    Calls Try.prog 16 #[.int .i64 n, .int .i64 q] w fun e w' => e = .returned (.int .i64 (moreI n q)) ∧ w = w' := by
  obtain ⟨r, hr⟩ : ∃ r, partI n (held (100 + q)) 100 = r := ⟨_, rfl⟩
  obtain ⟨m, hm⟩ : ∃ m, moreI n q = m := ⟨_, rfl⟩
  have HM := Lib.hid hm
  have HT : Hid (mx r 0 = m) := Lib.hid (by rw [← hr, ← hm]; rfl)
  have HP : Hid (∀ V, Calls Try.prog 20 #[.int .i64 n, .int .i64 (held (100 + q)), .int .i64 100] V fun e w' => e = .returned (.int .i64 r) ∧ V = w') := Lib.hid (fun V => by have := rpart_any n (held (100 + q)) 100 V ⟨by omega, by omega⟩; rwa [hr] at this)
  have HA := Lib.hid (radd_any 100 q w ⟨by omega, by omega⟩ hq)
  clear hr hm
  go_enter Try.func16, Try.ntmps16
  go_wp2_with (first
    | ((with_reducible refine HA.out.mono ?_); rintro e w1 ⟨rfl, rfl⟩)
    | ((with_reducible refine (HP.out _).mono ?_); rintro e w2 ⟨rfl, rfl⟩)
    | (with_reducible refine wpList_max rfl (.tmp 8) (.const (.int .i64 0)) r 0 m rfl (by simp [Act.eval]) (by simp [Act.eval]) HT.out ?_))
  go_ret
  exact ⟨ret_int HM.out.symm, rfl⟩

set_option maxHeartbeats 1000000 in
theorem all_any (n : Int) (A : Option Addr) (c : Nat) (l : List Int) (B : Nat) (w : World) (hr : RW nu w B A l) (hf : ∀ x ∈ l, Fits x) (hl : (l.length : Int) ≤ 1000000) :
    Calls Try.prog 13 #[.int .i64 n, .slice A l.length c] w fun e w' => e = .returned (.int .i64 (allI n l)) ∧ w = w' := by
  have HR := Lib.hid hr; have HF := Lib.hid hf
  clear hr hf
  go_enter Try.func13, Try.ntmps13
  go_wp2
  go_loopg [0, 9] l.length (fun gh s0 s9 wr => ∃ (k : Nat) (m : Int), k ≤ l.length ∧ gh = l.length - k ∧ s9 = .int .i64 k ∧ s0 = .int .i64 m ∧ Hid (m = allI n (l.take k)) ∧ wr = w)
  case atStart => exact ⟨0, n, by omega, rfl, rfl, rfl, Lib.hid rfl, rfl⟩
  case round =>
    obtain ⟨k, m, hk, rfl, rfl, rfl, HM, rfl⟩ := hrel
    by_cases hlt : k < l.length
    · obtain ⟨x, hx⟩ : ∃ x, l[k]? = some x := ⟨_, List.getElem?_eq_getElem hlt⟩
      obtain ⟨b, off, rfl, _, hc⟩ := HR.out.at' hx
      have c0 : wr.cell? ⟨b, off + k * 1, none⟩ = some (.int .i64 x) := cellsNu (o := off + k * 1) hc
      rw [Nat.mul_one] at c0
      have HX := Lib.hid hx; have HFX := Lib.hid (HF.out x (List.mem_of_getElem? hx))
      clear hx hc
      have hlt' : (k : Int) < l.length := by omega
      obtain ⟨m2, hm2⟩ : ∃ m2, moreI m x = m2 := ⟨_, rfl⟩
      have HM2 := Lib.hid hm2
      have HC := Lib.hid (more_any m x HFX.out wr)
      rw [hm2] at HC
      clear hm2
      go_wp2_with ((with_reducible refine HC.out.mono ?_); rintro e w1 ⟨rfl, rfl⟩)
      go_roundg (l.length - (k + 1))
      case measure => omega
      case rel => exact ⟨k + 1, m2, by omega, rfl, by go_num, rfl, Lib.hid (by rw [all_next HX.out, ← HM.out, HM2.out]), rfl⟩
    · have hlt' : decide ((k : Int) < l.length) = false := by simp; omega
      go_wp2
      go_ret
      exact ⟨ret_int (by rw [HM.out, all_done (by omega)]), rfl⟩
set_option maxHeartbeats 1000000 in
theorem rall_any (n : Int) (A : Option Addr) (c : Nat) (l : List Int) (B : Nat) (w : World) (hr : RW nu w B A l) (hf : ∀ x ∈ l, Fits x) (hl : (l.length : Int) ≤ 1000000) :
    Calls Try.prog 14 #[.int .i64 n, .slice A l.length c] w fun e w' => e = .returned (.int .i64 (allI n l)) ∧ w = w' := by
  have HR := Lib.hid hr; have HF := Lib.hid hf
  clear hr hf
  go_enter Try.func14, Try.ntmps14
  go_wp2
  go_loopg [0, 5] l.length (fun gh s0 s5 wr => ∃ (k : Nat) (m : Int), k ≤ l.length ∧ gh = l.length - k ∧ s5 = .int .i64 k ∧ s0 = .int .i64 m ∧ Hid (m = allI n (l.take k)) ∧ wr = w)
  case atStart => exact ⟨0, n, by omega, rfl, rfl, rfl, Lib.hid rfl, rfl⟩
  case round =>
    obtain ⟨k, m, hk, rfl, rfl, rfl, HM, rfl⟩ := hrel
    by_cases hlt : k < l.length
    · obtain ⟨x, hx⟩ : ∃ x, l[k]? = some x := ⟨_, List.getElem?_eq_getElem hlt⟩
      obtain ⟨b, off, rfl, _, hc⟩ := HR.out.at' hx
      have c0 : wr.cell? ⟨b, off + k * 1, none⟩ = some (.int .i64 x) := cellsNu (o := off + k * 1) hc
      rw [Nat.mul_one] at c0
      have HX := Lib.hid hx; have HFX := Lib.hid (HF.out x (List.mem_of_getElem? hx))
      clear hx hc
      have hlt' : (k : Int) < l.length := by omega
      obtain ⟨m2, hm2⟩ : ∃ m2, moreI m x = m2 := ⟨_, rfl⟩
      have HM2 := Lib.hid hm2
      have HC := Lib.hid (rmore_any m x HFX.out wr)
      rw [hm2] at HC
      clear hm2
      go_wp2_with ((with_reducible refine HC.out.mono ?_); rintro e w1 ⟨rfl, rfl⟩)
      go_roundg (l.length - (k + 1))
      case measure => omega
      case rel => exact ⟨k + 1, m2, by omega, rfl, by go_num, rfl, Lib.hid (by rw [all_next HX.out, ← HM.out, HM2.out]), rfl⟩
    · have hlt' : decide ((k : Int) < l.length) = false := by simp; omega
      go_wp2
      go_ret
      exact ⟨ret_int (by rw [HM.out, all_done (by omega)]), rfl⟩

theorem below_box (w : World) (o : Obj) : Below w.heap.size w (w.alloc o) := (Below.refl _ w).alloc (Nat.le_refl _) o

set_option maxHeartbeats 1000000 in
theorem left_any (A : Option Addr) (c : Nat) (l : List Sh) (n B : Nat) (w : World) (hn : l.length = n) (hr : RW sh w B A l) (hf : ∀ x ∈ l, FSh x) (hB : B ≤ w.heap.size) (hl : (n : Int) ≤ 1000000) :
    Calls Try.prog 11 #[.slice A n c] w fun e w' => e = .returned (.int .i64 (leftI l)) ∧ Below w.heap.size w w' := by
  have HR := Lib.hid hr; have HF := Lib.hid hf; have HN := Lib.hid hn; have HB := Lib.hid hB
  clear hr hf hn hB
  go_enter Try.func11, Try.ntmps11
  go_wp2
  go_loopg [3, 8] n (fun gh s3 s8 wr => ∃ (k : Nat) (m : Int), k ≤ n ∧ gh = n - k ∧ s8 = .int .i64 k ∧ s3 = .int .i64 m ∧ Hid (m = leftI (l.take k)) ∧ Hid (Below w.heap.size w wr))
  case atStart => exact ⟨0, 0, by omega, rfl, rfl, rfl, Lib.hid rfl, Lib.hid (Below.refl _ _)⟩
  case round =>
    obtain ⟨k, m, hk, rfl, rfl, rfl, HM, HW⟩ := hrel
    by_cases hlt : k < n
    · obtain ⟨x, hx⟩ : ∃ x, l[k]? = some x := ⟨_, List.getElem?_eq_getElem (by rw [HN.out]; exact hlt)⟩
      obtain ⟨b, off, rfl, _, hc⟩ := (HR.out.below HW.out HB.out).at' hx
      obtain ⟨c0, c1⟩ := cellsSh (o := off + k * 2) hc
      have HX := Lib.hid hx; have HFX := Lib.hid (HF.out x (List.mem_of_getElem? hx))
      clear hx hc
      have hlt' : (k : Int) < n := by omega
      obtain ⟨y, hy⟩ : ∃ y, mx x.left 0 = y := ⟨_, rfl⟩
      have HY := Lib.hid hy
      have HFY : Hid (Fits y) := Lib.hid (by have := HFX.out.2.1; rw [← hy]; unfold mx; unfold Fits at *; split <;> omega)
      have HFM : Hid (Fits m) := Lib.hid (by rw [HM.out]; exact left_fits _)
      clear hy
      have HWB := Lib.hid (HW.out.trans ((below_box wr (oSh x)).mono HW.out.size))
      go_wp2_with (first
        | (with_reducible refine wpList_max rfl (.tmp 14) (.const (.int .i64 0)) x.left 0 y rfl (by simp [Act.eval]) (by simp [Act.eval]) HY.out ?_)
        | ((with_reducible refine (add_any _ _ _ HFM.out HFY.out).mono ?_); rintro e w1 ⟨rfl, rfl⟩))
      go_roundg (n - (k + 1))
      case measure => omega
      case rel => exact ⟨k + 1, held (m + y), by omega, rfl, by go_num, rfl, Lib.hid (by rw [left_next HX.out, ← HM.out, HY.out]), HWB⟩
    · have hlt' : decide ((k : Int) < n) = false := by simp; omega
      go_wp2
      go_ret
      exact ⟨ret_int (by rw [HM.out, List.take_of_length_le (by rw [HN.out]; omega)]), HW.out⟩

set_option maxHeartbeats 1000000 in
theorem rleft_any (A : Option Addr) (c : Nat) (l : List Sh) (n B : Nat) (w : World) (hn : l.length = n) (hr : RW sh w B A l) (hf : ∀ x ∈ l, FSh x) (hl : (n : Int) ≤ 1000000) :
    Calls Try.prog 12 #[.slice A n c] w fun e w' => e = .returned (.int .i64 (leftI l)) ∧ w = w' := by
  have HR := Lib.hid hr; have HF := Lib.hid hf; have HN := Lib.hid hn
  clear hr hf hn
  go_enter Try.func12, Try.ntmps12
  go_wp2
  go_loopg [3, 4] n (fun gh s3 s4 wr => ∃ (k : Nat) (m : Int), k ≤ n ∧ gh = n - k ∧ s4 = .int .i64 k ∧ s3 = .int .i64 m ∧ Hid (m = leftI (l.take k)) ∧ w = wr)
  case atStart => exact ⟨0, 0, by omega, rfl, rfl, rfl, Lib.hid rfl, rfl⟩
  case round =>
    obtain ⟨k, m, hk, rfl, rfl, rfl, HM, rfl⟩ := hrel
    by_cases hlt : k < n
    · obtain ⟨x, hx⟩ : ∃ x, l[k]? = some x := ⟨_, List.getElem?_eq_getElem (by rw [HN.out]; exact hlt)⟩
      obtain ⟨b, off, rfl, _, hc⟩ := HR.out.at' hx
      obtain ⟨c0, c1⟩ := cellsSh (o := off + k * 2) hc
      have HX := Lib.hid hx; have HFX := Lib.hid (HF.out x (List.mem_of_getElem? hx))
      clear hx hc
      have hlt' : (k : Int) < n := by omega
      obtain ⟨y, hy⟩ : ∃ y, mx x.left 0 = y := ⟨_, rfl⟩
      have HY := Lib.hid hy
      have HFY : Hid (Fits y) := Lib.hid (by have := HFX.out.2.1; rw [← hy]; unfold mx; unfold Fits at *; split <;> omega)
      have HFM : Hid (Fits m) := Lib.hid (by rw [HM.out]; exact left_fits _)
      clear hy
      go_wp2_with (first
        | (with_reducible refine wpList_max rfl (.tmp 16) (.const (.int .i64 0)) x.left 0 y rfl (by simp [Act.eval]) (by simp [Act.eval]) HY.out ?_)
        | ((with_reducible refine (radd_any _ _ _ HFM.out HFY.out).mono ?_); rintro e w1 ⟨rfl, rfl⟩))
      go_roundg (n - (k + 1))
      case measure => omega
      case rel => exact ⟨k + 1, held (m + y), by omega, rfl, by go_num, rfl, Lib.hid (by rw [left_next HX.out, ← HM.out, HY.out]), rfl⟩
    · have hlt' : decide ((k : Int) < n) = false := by simp; omega
      go_wp2
      go_ret
      exact ⟨ret_int (by rw [HM.out, List.take_of_length_le (by rw [HN.out]; omega)]), rfl⟩

set_option maxHeartbeats 1000000 in
/-- Same of two rows that read alike. -/
theorem same_sh (B B' : Nat) (A A' : Option Addr) (n c c' : Nat) (p : List Sh) (w : World) (hn : p.length = n) (hr : RW sh w B A p) (hr' : RW sh w B' A' p) (hl : (n : Int) ≤ 1000000) :
    Calls Try.prog 9 #[.slice A n c, .slice A' n c'] w fun e w' => e = .returned (.bool true) ∧ ∃ q, w' = w.drewN q := by
  subst hn
  have HR := Lib.hid hr; have HR' := Lib.hid hr'
  clear hr hr'
  go_enter Try.func9, Try.ntmps9
  go_wp2
  go_loopg [5] p.length (fun gh s5 wr => ∃ k q : Nat, k ≤ p.length ∧ gh = p.length - k ∧ s5 = .int .i64 k ∧ wr = w.drewN q)
  case atStart => exact ⟨0, 0, by omega, rfl, rfl, rfl⟩
  case round =>
    obtain ⟨k, q, hk, rfl, rfl, rfl⟩ := hrel
    by_cases hlt : k < p.length
    · obtain ⟨x, hx⟩ : ∃ x, p[k]? = some x := ⟨_, List.getElem?_eq_getElem hlt⟩
      obtain ⟨b, off, rfl, _, hc⟩ := HR.out.at' hx
      obtain ⟨b', off', rfl, _, hc'⟩ := HR'.out.at' hx
      obtain ⟨c0, c1⟩ := cellsSh (o := off + k * 2) hc
      obtain ⟨d0, d1⟩ := cellsSh (o := off' + k * 2) hc'
      clear hx hc hc'
      have hlt' : (k : Int) < p.length := by omega
      have e0 : (0 : Int) ≤ k := by omega
      go_wp2
      go_quiet (fail)
      go_wp2
      go_roundg (p.length - (k + 1))
      case measure => omega
      case rel => exact ⟨k + 1, _, by omega, rfl, by go_num, rfl⟩
    · go_wp2
      go_ret
      exact ⟨rfl, q, rfl⟩
set_option maxHeartbeats 1000000 in
theorem same_nu (B B' : Nat) (A A' : Option Addr) (n c c' : Nat) (p : List Int) (w : World) (hn : p.length = n) (hr : RW nu w B A p) (hr' : RW nu w B' A' p) (hl : (n : Int) ≤ 1000000) :
    Calls Try.prog 10 #[.slice A n c, .slice A' n c'] w fun e w' => e = .returned (.bool true) ∧ ∃ q, w' = w.drewN q := by
  subst hn
  have HR := Lib.hid hr; have HR' := Lib.hid hr'
  clear hr hr'
  go_enter Try.func10, Try.ntmps10
  go_wp2
  go_loopg [5] p.length (fun gh s5 wr => ∃ k q : Nat, k ≤ p.length ∧ gh = p.length - k ∧ s5 = .int .i64 k ∧ wr = w.drewN q)
  case atStart => exact ⟨0, 0, by omega, rfl, rfl, rfl⟩
  case round =>
    obtain ⟨k, q, hk, rfl, rfl, rfl⟩ := hrel
    by_cases hlt : k < p.length
    · obtain ⟨x, hx⟩ : ∃ x, p[k]? = some x := ⟨_, List.getElem?_eq_getElem hlt⟩
      obtain ⟨b, off, rfl, _, hc⟩ := HR.out.at' hx
      obtain ⟨b', off', rfl, _, hc'⟩ := HR'.out.at' hx
      have c0 : w.cell? ⟨b, off + k * 1, none⟩ = some (.int .i64 x) := cellsNu (o := off + k * 1) hc
      have d0 : w.cell? ⟨b', off' + k * 1, none⟩ = some (.int .i64 x) := cellsNu (o := off' + k * 1) hc'
      rw [Nat.mul_one] at c0 d0
      clear hx hc hc'
      have hlt' : (k : Int) < p.length := by omega
      have e0 : (0 : Int) ≤ k := by omega
      go_wp2
      go_quiet (fail)
      go_wp2
      go_roundg (p.length - (k + 1))
      case measure => omega
      case rel => exact ⟨k + 1, _, by omega, rfl, by go_num, rfl⟩
    · go_wp2
      go_ret
      exact ⟨rfl, q, rfl⟩
end Go.Proofs.Ytafglhgpkmnnlaa.Con
