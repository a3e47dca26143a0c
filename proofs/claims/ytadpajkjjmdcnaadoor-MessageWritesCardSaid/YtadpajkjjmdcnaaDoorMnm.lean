/-
  Texts compared and indexed; contracts of inNames and Name, and of the document's own Name.
-/
import Derived.Test.YtadpajkjjmdcnaaDoorMss
import Derived.Test.YtadpajkjjmdcnaaDoorPwr
import Derived.Lib.SlBytesConst
import Derived.Handy
namespace Go.Proofs.YtadpajkjjmdcnaaDoor.Con
open Go.RowKit Pm Mth
set_option linter.unusedVariables false

theorem bex (p : Prop) : ∃ x : Bool, x = true ↔ p := by
  by_cases h : p
  · exact ⟨true, by simp [h]⟩
  · exact ⟨false, by simp [h]⟩

theorem str_iff {l m : List Int} (hl : Byt l) (hm : Byt m) : (strOfNums l).toList = (strOfNums m).toList ↔ l = m := by
  constructor
  · intro h
    refine str_inj hl hm ?_
    rw [ByteArray.toList_eq, ByteArray.toList_eq] at h
    exact ByteArray.ext (Array.toList_inj.1 h)
  · intro h; rw [h]
theorem beq_str {l m : List Int} (hl : Byt l) (hm : Byt m) (x : Bool) (hx : x = true ↔ l = m) : ((strOfNums l).toList == (strOfNums m).toList) = x := by
  rw [Bool.eq_iff_iff, hx, beq_iff_eq]
  exact str_iff hl hm
theorem eql_str {l m : List Int} (hl : Byt l) (hm : Byt m) (x : Bool) (hx : x = true ↔ l = m) (V : World) : (binOp .eql 9 (.string (strOfNums l)) (.string (strOfNums m))).run Tryd.prog V = .ok (.bool x) V := by
  have := beq_str hl hm x hx
  simp [go_sem, this]
theorem neq_str {l m : List Int} (hl : Byt l) (hm : Byt m) (x : Bool) (hx : x = true ↔ l = m) (V : World) : (binOp .neq 9 (.string (strOfNums l)) (.string (strOfNums m))).run Tryd.prog V = .ok (.bool (!x)) V := by
  have := beq_str hl hm x hx
  simp [go_sem, this]
theorem emp_str {l : List Int} (hl : Byt l) (V : World) : (binOp .eql 9 (.string (strOfNums l)) (.string { data := #[] })).run Tryd.prog V = .ok (.bool (decide (l = []))) V :=
  eql_str hl Byt.nil _ (by simp) V
theorem idx {l : List Int} (hl : Byt l) {k : Nat} {x : Int} (hx : l[k]? = some x) (V : World) : (Instr.index 9 (.string (strOfNums l)) (.int .i64 (k : Int))).run Tryd.prog V = .ok (.int .u8 x) V := by
  obtain ⟨hk, rfl⟩ := List.getElem?_eq_some_iff.1 hx
  have hs : (strOfNums l).size = l.length := strOfNums_size l
  have h0 := hl l[k] (List.getElem_mem hk)
  rw [run_index_string V 9 (strOfNums l) .i64 k Tryd.underlying9, dif_pos ⟨by omega, by omega⟩]
  have e : ((strOfNums l)[(k : Int).toNat]'(by omega)) = UInt8.ofNat (l[k]).toNat := by
    have : (strOfNums l).data.toList[k]? = (l.map fun n => UInt8.ofNat n.toNat)[k]? := by rw [strOfNums_data]
    rw [List.getElem?_map, List.getElem?_eq_getElem hk] at this
    have hk2 : k < (strOfNums l).data.toList.length := by rw [strOfNums_data]; simpa using hk
    rw [List.getElem?_eq_getElem hk2] at this
    injection this with this
  rw [e]
  congr 2
  rw [UInt8.toNat_ofNat']
  omega

set_option maxHeartbeats 1000000 in
theorem inNames_any (x : Int) (w : World) (h0 : 0 ≤ x) (h1 : x < 256) :
    Calls Tryd.prog 36 #[.int .u8 x] w fun e w' => e = .returned (.bool (nmB x)) ∧ w = w' := by
  go_enter Tryd.func36, Tryd.ntmps36
  go_wp2
  all_goals (go_ret; refine ⟨Pk.ret_bool ?_, rfl⟩; rw [Bool.eq_iff_iff]; simp [nmB]; try omega)
theorem nm_yes {x : Int} (h : (97 ≤ x ∧ x ≤ 122) ∨ (65 ≤ x ∧ x ≤ 90) ∨ (48 ≤ x ∧ x ≤ 57) ∨ x = 45) : nmB x = true := by
  simp [nmB]; omega
theorem nm_no {x : Int} (h : ¬ ((97 ≤ x ∧ x ≤ 122) ∨ (65 ≤ x ∧ x ≤ 90) ∨ (48 ≤ x ∧ x ≤ 57) ∨ x = 45)) : nmB x = false := by
  rw [Bool.eq_false_iff]; simp [nmB]; omega
/-- The first k bytes of a text are of names. -/
def Ns (l : List Int) (k : Nat) : Prop := ∀ j x, j < k → l[j]? = some x → nmB x = true
theorem Ns.next {l : List Int} {k : Nat} {x : Int} (h : Ns l k) (hx : l[k]? = some x) (hn : nmB x = true) : Ns l (k + 1) := by
  intro j y hj hy
  by_cases e : j = k
  · subst e; rw [hx] at hy; injection hy with hy; rw [← hy]; exact hn
  · exact h j y (by omega) hy
theorem Ns.all {l : List Int} {k : Nat} (h : Ns l k) (hk : l.length ≤ k) : l.all nmB = true := by
  rw [List.all_eq_true]
  intro x hx
  obtain ⟨j, hj, rfl⟩ := List.mem_iff_getElem.1 hx
  exact h j _ (by omega) (List.getElem?_eq_getElem hj)
theorem nam_no {l : List Int} {k : Nat} {x : Int} (hx : l[k]? = some x) (hn : nmB x = false) : namB l = false := by
  have : l.all nmB = false := by
    rw [List.all_eq_false]
    exact ⟨x, List.mem_of_getElem? hx, by simp [hn]⟩
  simp [namB, this]
set_option maxHeartbeats 1000000 in
theorem name_any (l : List Int) (hb : Byt l) (hl : (l.length : Int) ≤ 10000000) (w : World) :
    Calls Tryd.prog 33 #[.string (strOfNums l)] w fun e w' => e = .returned (.bool (namB l)) ∧ w = w' := by
  have HBy := Lib.hid hb; clear hb
  have hs : (strOfNums l).size = l.length := strOfNums_size l
  by_cases hz : l.length = 0
  · have hn : namB l = false := by simp [namB, hz]
    have HN := Lib.hid hn; clear hn
    go_enter Tryd.func33, Tryd.ntmps33
    go_wp2
    go_ret
    exact ⟨Pk.ret_bool HN.out.symm, rfl⟩
  · have hz' : ((l.length : Int) == 0) = false := by simpa using hz
    by_cases h24 : (24 : Int) < l.length
    · have hn : namB l = false := by simp [namB]; omega
      have HN := Lib.hid hn; clear hn
      go_enter Tryd.func33, Tryd.ntmps33
      go_wp2
      go_ret
      exact ⟨Pk.ret_bool HN.out.symm, rfl⟩
    · have h24' : decide ((24 : Int) < l.length) = false := by simpa using h24
      have HZ := Lib.hid hz; clear hz
      go_enter Tryd.func33, Tryd.ntmps33
      go_wp2
      go_loopg [14] l.length (fun g s14 wr => ∃ k : Nat, g = l.length - k ∧ s14 = .int .i64 (k : Int) ∧ w = wr ∧ Hid (Ns l k))
      case atStart => exact ⟨0, rfl, rfl, rfl, Lib.hid (fun j x h => by omega)⟩
      case round =>
        obtain ⟨k, rfl, rfl, rfl, HK⟩ := hrel
        by_cases hlt : k < l.length
        · have hlt' : (k : Int) < l.length := by omega
          have HX : Hid (l[k]? = some l[k]) := Lib.hid (List.getElem?_eq_getElem hlt)
          generalize l[k] = x at HX
          obtain ⟨hx0, hx1⟩ := HBy.out.at HX.out
          have hix := idx HBy.out HX.out
          cases hn : nmB x with
          | true =>
            have HN := Lib.hid hn
            have HC := Lib.hid (inNames_any x · hx0 hx1)
            rw [hn] at HC
            clear hn
            go_wp2_with ((with_reducible refine (HC.out _).mono ?_); rintro e w' ⟨rfl, rfl⟩)
            go_roundg (l.length - (k + 1))
            case measure => omega
            case rel => exact ⟨k + 1, rfl, by go_num, rfl, Lib.hid (HK.out.next HX.out HN.out)⟩
          | false =>
            have HN := Lib.hid (nam_no HX.out hn)
            have HC := Lib.hid (inNames_any x · hx0 hx1)
            rw [hn] at HC
            clear hn
            go_wp2_with ((with_reducible refine (HC.out _).mono ?_); rintro e w' ⟨rfl, rfl⟩)
            go_ret
            exact ⟨Pk.ret_bool HN.out.symm, rfl⟩
        · have hlt' : decide (k < l.length) = false := by simpa using hlt
          have hlt2 : decide ((k : Int) < l.length) = false := by simp; omega
          have HN : Hid (namB l = true) := Lib.hid (by
            have := HK.out.all (by omega)
            have h1 := HZ.out
            simp [namB, this]; omega)
          clear hlt
          go_wp2
          go_ret
          exact ⟨Pk.ret_bool HN.out.symm, rfl⟩
set_option maxHeartbeats 1000000 in
theorem rname_any (l : List Int) (hb : Byt l) (hl : (l.length : Int) ≤ 10000000) (w : World) :
    Calls Tryd.prog 22 #[.string (strOfNums l)] w fun e w' => e = .returned (.bool (namB l)) ∧ w = w' := by
  have HBy := Lib.hid hb; clear hb
  have hs : (strOfNums l).size = l.length := strOfNums_size l
  go_enter Tryd.func22, Tryd.ntmps22
  go_wp2
  go_loopg [3] l.length (fun g s3 wr => ∃ k : Nat, g = l.length - k ∧ s3 = .int .i64 (k : Int) ∧ w = wr ∧ Hid (Ns l k))
  case atStart => exact ⟨0, rfl, rfl, rfl, Lib.hid (fun j x h => by omega)⟩
  case round =>
    obtain ⟨k, rfl, rfl, rfl, HK⟩ := hrel
    by_cases hlt : k < l.length
    · have hlt' : (k : Int) < l.length := by omega
      have HX : Hid (l[k]? = some l[k]) := Lib.hid (List.getElem?_eq_getElem hlt)
      generalize l[k] = x at HX
      obtain ⟨hx0, hx1⟩ := HBy.out.at HX.out
      have hix := idx HBy.out HX.out
      go_wp2
      all_goals first
        | (go_roundg (l.length - (k + 1))
           case measure => omega
           case rel => exact ⟨k + 1, rfl, by go_num, rfl, Lib.hid (HK.out.next HX.out (nm_yes (by (try simp only [bne_eq_false_iff_eq] at *); omega)))⟩)
        | (go_ret; exact ⟨Pk.ret_bool (nam_no HX.out (nm_no (by (try simp only [bne_eq_false_iff_eq] at *); omega))).symm, rfl⟩)
    · have hlt' : decide (k < l.length) = false := by simpa using hlt
      have hlt2 : decide ((k : Int) < l.length) = false := by simp; omega
      have HN : Hid (namB l = (decide (1 ≤ l.length) && decide (l.length ≤ 24))) := Lib.hid (by
        have := HK.out.all (by omega)
        simp [namB, this])
      clear hlt
      go_wp2
      all_goals (go_ret; refine ⟨Pk.ret_bool ?_, rfl⟩; rw [HN.out, Bool.eq_iff_iff]; simp; try omega)
end Go.Proofs.YtadpajkjjmdcnaaDoor.Con
