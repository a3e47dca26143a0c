/-
  The table of sizes in memory, messages' boxes; contracts of Size (the program's and the document's), mayHave, few.
-/
import Derived.Test.YtadpajkjjmdcnaaDoorMnm
namespace Go.Proofs.YtadpajkjjmdcnaaDoor.Con
open Go.RowKit Pm Mth
set_option linter.unusedVariables false

/-- The table of sizes stands in w. -/
def Sz (w : World) : Prop := Rd .i64 w 1 (some ⟨0, 0, none⟩) szL
theorem Sz.keep {w w' : World} {B : Nat} (h : Sz w) (hb : Below B w w') (hB : 1 ≤ B) : Sz w' := Rd.below h hb hB
theorem Sz.cell {w : World} (h : Sz w) {d : Int} (h1 : 1 ≤ d) (h2 : d ≤ 10) : w.cell? ⟨0, d.toNat, none⟩ = some (.int .i64 (szN d : Nat)) := by
  rcases h with h | ⟨b, off, hA, _, hc⟩
  · cases h
  · injection hA with hA
    injection hA with e1 e2
    subst e1; subst e2
    have := hc d.toNat _ (szL_at h1 h2)
    rwa [Nat.zero_add] at this
theorem Sz.pos {w : World} (h : Sz w) : 1 ≤ w.heap.size := by
  have h1 := h.cell (d := 1) (by omega) (by omega)
  by_cases h0 : w.heap.size = 0
  · have e : w.heap[0]? = none := by simp [h0]
    simp [World.cell?, e] at h1
  · omega

set_option maxHeartbeats 1000000 in
theorem size_any (d : Int) (w : World) (hS : Sz w) (h0 : -9223372036854775808 ≤ d) (h1 : d ≤ 9223372036854775807) :
    Calls Tryd.prog 10 #[.int .i64 d] w fun e w' => e = .returned (.tuple #[.int .i64 (szN d : Nat), .bool (isD d)]) ∧ w = w' := by
  by_cases hlo : d < 1
  · have hi : isD d = false := by simp [isD]; omega
    have HZ := Lib.hid (szN_out hi)
    have HI := Lib.hid hi; clear hi
    go_enter Tryd.func10, Tryd.ntmps10
    go_wp2
    go_ret2
    exact ⟨by rw [HZ.out, HI.out]; rfl, rfl⟩
  have hlo' : decide (d < 1) = false := by simpa using hlo
  by_cases hhi : 10 < d
  · have hi : isD d = false := by simp [isD]; omega
    have HZ := Lib.hid (szN_out hi)
    have HI := Lib.hid hi; clear hi
    go_enter Tryd.func10, Tryd.ntmps10
    go_wp2
    go_ret2
    exact ⟨by rw [HZ.out, HI.out]; rfl, rfl⟩
  have hhi' : decide (10 < d) = false := by simpa using hhi
  have hi : isD d = true := by simp [isD]; omega
  have HI := Lib.hid hi; clear hi
  have hc := hS.cell (d := d) (by omega) (by omega)
  obtain ⟨k, rfl⟩ : ∃ k : Nat, d = (k : Int) := ⟨d.toNat, by omega⟩
  rw [Int.toNat_natCast] at hc
  have hk : (k : Int) < 11 := by omega
  go_enter Tryd.func10, Tryd.ntmps10
  go_wp2
  go_ret2
  exact ⟨by rw [HI.out]; rfl, rfl⟩
set_option maxHeartbeats 1000000 in
theorem rsize_any (d : Int) (w : World) (h0 : -9223372036854775808 ≤ d) (h1 : d ≤ 9223372036854775807) :
    Calls Tryd.prog 11 #[.int .i64 d] w fun e w' => e = .returned (.tuple #[.int .i64 (szN d : Nat), .bool (isD d)]) ∧ w = w' := by
  by_cases hd : 1 ≤ d ∧ d ≤ 10
  · have : d = 1 ∨ d = 2 ∨ d = 3 ∨ d = 4 ∨ d = 5 ∨ d = 6 ∨ d = 7 ∨ d = 8 ∨ d = 9 ∨ d = 10 := by omega
    rcases this with rfl | rfl | rfl | rfl | rfl | rfl | rfl | rfl | rfl | rfl
    all_goals
      clear hd
      go_enter Tryd.func11, Tryd.ntmps11
      go_wp2
      go_ret2
      exact ⟨rfl, rfl⟩
  · have hi : isD d = false := by simp [isD]; omega
    have HZ := Lib.hid (szN_out hi)
    have HI := Lib.hid hi; clear hi
    have e1 : (d == 1) = false := by simp; omega
    have e2 : (d == 2) = false := by simp; omega
    have e3 : (d == 3) = false := by simp; omega
    have e4 : (d == 4) = false := by simp; omega
    have e5 : (d == 5) = false := by simp; omega
    have e6 : (d == 6) = false := by simp; omega
    have e7 : (d == 7) = false := by simp; omega
    have e8 : (d == 8) = false := by simp; omega
    have e9 : (d == 9) = false := by simp; omega
    have e10 : (d == 10) = false := by simp; omega
    clear hd
    go_enter Tryd.func11, Tryd.ntmps11
    go_wp2
    go_ret2
    exact ⟨by rw [HZ.out, HI.out]; rfl, rfl⟩
theorem emp_is (l : List Int) : (strOfNums l).toList.isEmpty = decide (l = []) := by
  rw [ByteArray.toList_eq, strOfNums_data]
  cases l <;> simp
set_option maxHeartbeats 1000000 in
theorem may_any (d : Int) (t : List Int) (w : World) (h0 : -9223372036854775808 ≤ d) (h1 : d ≤ 9223372036854775807) (hb : Byt t) (hl : (t.length : Int) ≤ 10000000) :
    Calls Tryd.prog 21 #[.int .i64 d, .string (strOfNums t)] w fun e w' => e = .returned (.bool (txB d t)) ∧ w = w' := by
  have HNm := Lib.hid (fun V => name_any t hb hl V)
  have hE := emp_str hb
  clear hb
  by_cases ht : t = []
  · have hE2 : (strOfNums t).toList.isEmpty = true := by rw [emp_is]; simpa using ht
    have HT : Hid (txB d t = true) := Lib.hid (by simp [txB, ht])
    clear ht hE
    go_enter Tryd.func21, Tryd.ntmps21
    go_wp2
    go_ret
    exact ⟨by rw [HT.out]; rfl, rfl⟩
  have hE2 : (strOfNums t).toList.isEmpty = false := by rw [emp_is]; simpa using ht
  by_cases h4 : d = 4
  · have HT : Hid (txB d t = namB t) := Lib.hid (by simp [txB, ht, h4])
    have h4' : (d == 4) = true := by simpa using h4
    clear ht hE h4
    go_enter Tryd.func21, Tryd.ntmps21
    go_wp2_with ((with_reducible refine (HNm.out _).mono ?_); rintro e w3 ⟨rfl, rfl⟩)
    go_ret
    exact ⟨by rw [HT.out]; rfl, rfl⟩
  · have HT : Hid (txB d t = false) := Lib.hid (by simp [txB, ht, h4])
    have h4' : (d == 4) = false := by simpa using h4
    clear ht hE h4
    go_enter Tryd.func21, Tryd.ntmps21
    go_wp2
    go_ret
    exact ⟨by rw [HT.out]; rfl, rfl⟩

/-! ### messages in memory -/
abbrev mv (m : Ms) (A : Option Addr) (c : Nat) : Value := .agg #[.int .i64 m.d, .slice A m.l.length c, .string (strOfNums m.t)]
abbrev oM (m : Ms) (A : Option Addr) (c : Nat) : Obj := .cells #[.int .i64 m.d, .slice A m.l.length c, .string (strOfNums m.t)] 24
theorem cellOf' {w : World} {b : Nat} {cs : Array Value} {t : TypeId} {z : Nat × Nat} (h : w.heap[b]? = some (.cells cs t z)) (o : Nat) : w.cell? ⟨b, o, none⟩ = cs[o]? := by simp [World.cell?, h]
theorem lt_of_block {w : World} {b : Nat} {x : Obj} (h : w.heap[b]? = some x) : b < w.heap.size := (Array.getElem?_eq_some_iff.1 h).1
theorem frozOf' {w : World} {b : Nat} {cs : Array Value} {t : TypeId} (h : w.heap[b]? = some (.cells cs t (0, 0))) (o : Nat) : w.frozen? ⟨b, o, none⟩ = false := by simp [World.frozen?, h]
/-- A message's box stands in w. -/
def Bx (w : World) (b : Nat) (m : Ms) (A : Option Addr) (c : Nat) : Prop := w.heap[b]? = some (oM m A c)
theorem Bx.of {w w' : World} {b B : Nat} {m : Ms} {A : Option Addr} {c : Nat} (h : Bx w b m A c) (hb : Below B w w') (hB : b < B) : Bx w' b m A c := (hb.block b hB).trans h
theorem Bx.at {w : World} {b : Nat} {m : Ms} {A : Option Addr} {c : Nat} (h : Bx w b m A c) : w.cell? ⟨b, 0, none⟩ = some (.int .i64 m.d) ∧ w.cell? ⟨b, 1, none⟩ = some (.slice A m.l.length c) ∧ w.cell? ⟨b, 2, none⟩ = some (.string (strOfNums m.t)) :=
  ⟨cellOf' h 0, cellOf' h 1, cellOf' h 2⟩
theorem Bx.lt {w : World} {b : Nat} {m : Ms} {A : Option Addr} {c : Nat} (h : Bx w b m A c) : b < w.heap.size := lt_of_block h

theorem few_any (m : Ms) (A : Option Addr) (c : Nat) (w : World) (hl : (m.l.length : Int) ≤ 9223372036854775807) (ht : (m.t.length : Int) ≤ 9223372036854775807) :
    Calls Tryd.prog 7 #[mv m A c] w fun e w' => e = .returned (.bool (decide ((m.l.length : Int) ≤ 100) && decide ((m.t.length : Int) ≤ 1024))) ∧ Below w.heap.size w w' := by
  obtain ⟨d, l, t⟩ := m
  simp only at hl ht
  have hs : (strOfNums t).size = t.length := strOfNums_size t
  have HB0 : Hid (Below w.heap.size w (w.alloc (oM ⟨d, l, t⟩ A c))) := Lib.hid (by go_grown)
  by_cases h1 : (l.length : Int) ≤ 100
  · have h1' : decide ((l.length : Int) ≤ 100) = true := by simpa using h1
    go_enter Tryd.func7, Tryd.ntmps7
    go_wp2
    go_ret
    exact ⟨Pk.ret_bool (by simp; omega), HB0.out⟩
  · have h1' : decide ((l.length : Int) ≤ 100) = false := by simpa using h1
    go_enter Tryd.func7, Tryd.ntmps7
    go_wp2
    go_ret
    exact ⟨Pk.ret_bool (by simp), HB0.out⟩
end Go.Proofs.YtadpajkjjmdcnaaDoor.Con
