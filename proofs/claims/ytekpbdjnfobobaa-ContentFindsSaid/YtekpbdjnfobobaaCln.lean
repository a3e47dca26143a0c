/-
  Contracts of slices.Clone at each kind of row, and of the copies of one ability and of one foe, the program's and the document's: the same in new memory.
-/
import Derived.Test.YtekpbdjnfobobaaChk
import Derived.Lib.SliceRun
namespace Go.Proofs.Ytekpbdjnfobobaa.Con
open Go.RowKit Go.Maps

/-- A row that was copied: in memory from base on. -/
def Cpd {α : Type} (E : El α) (w : World) (l : List α) (n : Nat) (e : Ending) (w' : World) : Prop := ∃ A' c', e = .returned (.slice A' n c') ∧ Hid (OW E w' w.heap.size (.slice A' n c') l) ∧ Below w.heap.size w w'
theorem below_app {w w1 w' : World} {k : Option Nat} (hb : Below w.heap.size w w1) (hg : w1.grownBy w' k) (hk : ∀ j, k = some j → w.heap.size ≤ j) : Below w.heap.size w w' := hb.grown hg hb.size hk


theorem clone_au_nil (c : Nat) (w : World) : Calls Try.prog 36 #[.slice none 0 c] w (Cpd au w [] 0) := by
  have hq : (binOp .eql 23 (.slice none 0 c) (.slice none 0 0)).run Try.prog w = .ok (.bool true) w := Lib.run_eql_slice_nil w 23 41 none 0 c 0 0 Try.underlying23
  go_enter Try.func36, Try.ntmps36
  go_wp2
  go_ret
  exact ⟨none, 0, rfl, Lib.hid (OW.nil au w _), Below.refl _ _⟩
theorem clone_au_some (ad : Addr) (c : Nat) (l : List Au) (n : Nat) (hn : l.length = n) (w : World) (B : Nat) (hr : RW au w B (some ad) l) (hB : B ≤ w.heap.size) (hl : (n : Int) ≤ 100000) :
    Calls Try.prog 36 #[.slice (some ad) n c] w (Cpd au w l n) := by
  have hb : Below w.heap.size w (w.alloc (.cells #[] 41)) := by go_grown
  have HR := Lib.hid (hr.below hb hB); have HN := Lib.hid hn; have HO := Lib.hid (OW.room au w); have hBs : B ≤ (w.alloc (.cells #[] 41)).heap.size := Nat.le_trans hB hb.size
  have HL : Hid (([] : List Au).length + l.length ≤ 1000000) := Lib.hid (by rw [hn]; simp; omega)
  clear hr hn
  have hq : (binOp .eql 23 (.slice (some ad) n c) (.slice none 0 0)).run Try.prog w = .ok (.bool false) w := Lib.run_eql_slice_nil w 23 41 (some ad) n c 0 0 Try.underlying23
  go_enter Try.func36, Try.ntmps36
  go_wp2_with (at_builtin; refine wpList_app au rfl 23 rfl (.tmp 5) (.tmp 6) rfl w.heap.size B (.slice (some ⟨w.heap.size, 0, none⟩) 0 0) [] l (some ad) c n HN.out rfl rfl HO.out HR.out HL.out (by simp) ?_; intro A2 c2 w2 lm HLM HO2 HS2 HB2)
  go_ret
  have hl2 : lm = l := by have := HLM.out; simpa using this
  subst hl2
  refine ⟨A2, c2, (by rw [HN.out]; rfl), Lib.hid (by have := HO2.out; rw [HN.out] at this; exact this), below_app hb HS2.out (fun j hj => ?_)⟩
  simp [Value.ownBlock] at hj
  omega
theorem clone_au (A : Option Addr) (c : Nat) (l : List Au) (n : Nat) (hn : l.length = n) (w : World) (B : Nat) (hr : RW au w B A l) (hB : B ≤ w.heap.size) (hl : (n : Int) ≤ 100000) :
    Calls Try.prog 36 #[.slice A n c] w (Cpd au w l n) := by
  rcases A with _ | ad
  · have : l = [] := by
      rcases hr with h | ⟨b, off, h, _⟩
      · exact h
      · cases h
    subst this; subst hn
    exact clone_au_nil c w
  · exact clone_au_some ad c l n hn w B hr hB hl

theorem clone_bo_nil (c : Nat) (w : World) : Calls Try.prog 38 #[.slice none 0 c] w (Cpd bo w [] 0) := by
  have hq : (binOp .eql 25 (.slice none 0 c) (.slice none 0 0)).run Try.prog w = .ok (.bool true) w := Lib.run_eql_slice_nil w 25 4 none 0 c 0 0 Try.underlying25
  go_enter Try.func38, Try.ntmps38
  go_wp2
  go_ret
  exact ⟨none, 0, rfl, Lib.hid (OW.nil bo w _), Below.refl _ _⟩
theorem clone_bo_some (ad : Addr) (c : Nat) (l : List Bool) (n : Nat) (hn : l.length = n) (w : World) (B : Nat) (hr : RW bo w B (some ad) l) (hB : B ≤ w.heap.size) (hl : (n : Int) ≤ 100000) :
    Calls Try.prog 38 #[.slice (some ad) n c] w (Cpd bo w l n) := by
  have hb : Below w.heap.size w (w.alloc (.cells #[] 4)) := by go_grown
  have HR := Lib.hid (hr.below hb hB); have HN := Lib.hid hn; have HO := Lib.hid (OW.room bo w); have hBs : B ≤ (w.alloc (.cells #[] 4)).heap.size := Nat.le_trans hB hb.size
  have HL : Hid (([] : List Bool).length + l.length ≤ 1000000) := Lib.hid (by rw [hn]; simp; omega)
  clear hr hn
  have hq : (binOp .eql 25 (.slice (some ad) n c) (.slice none 0 0)).run Try.prog w = .ok (.bool false) w := Lib.run_eql_slice_nil w 25 4 (some ad) n c 0 0 Try.underlying25
  go_enter Try.func38, Try.ntmps38
  go_wp2_with (at_builtin; refine wpList_app bo rfl 25 rfl (.tmp 5) (.tmp 6) rfl w.heap.size B (.slice (some ⟨w.heap.size, 0, none⟩) 0 0) [] l (some ad) c n HN.out rfl rfl HO.out HR.out HL.out (by simp) ?_; intro A2 c2 w2 lm HLM HO2 HS2 HB2)
  go_ret
  have hl2 : lm = l := by have := HLM.out; simpa using this
  subst hl2
  refine ⟨A2, c2, (by rw [HN.out]; rfl), Lib.hid (by have := HO2.out; rw [HN.out] at this; exact this), below_app hb HS2.out (fun j hj => ?_)⟩
  simp [Value.ownBlock] at hj
  omega
theorem clone_bo (A : Option Addr) (c : Nat) (l : List Bool) (n : Nat) (hn : l.length = n) (w : World) (B : Nat) (hr : RW bo w B A l) (hB : B ≤ w.heap.size) (hl : (n : Int) ≤ 100000) :
    Calls Try.prog 38 #[.slice A n c] w (Cpd bo w l n) := by
  rcases A with _ | ad
  · have : l = [] := by
      rcases hr with h | ⟨b, off, h, _⟩
      · exact h
      · cases h
    subst this; subst hn
    exact clone_bo_nil c w
  · exact clone_bo_some ad c l n hn w B hr hB hl

theorem clone_ef_nil (c : Nat) (w : World) : Calls Try.prog 55 #[.slice none 0 c] w (Cpd ef w [] 0) := by
  have hq : (binOp .eql 35 (.slice none 0 c) (.slice none 0 0)).run Try.prog w = .ok (.bool true) w := Lib.run_eql_slice_nil w 35 56 none 0 c 0 0 Try.underlying35
  go_enter Try.func55, Try.ntmps55
  go_wp2
  go_ret
  exact ⟨none, 0, rfl, Lib.hid (OW.nil ef w _), Below.refl _ _⟩
theorem clone_ef_some (ad : Addr) (c : Nat) (l : List Ef) (n : Nat) (hn : l.length = n) (w : World) (B : Nat) (hr : RW ef w B (some ad) l) (hB : B ≤ w.heap.size) (hl : (n : Int) ≤ 100000) :
    Calls Try.prog 55 #[.slice (some ad) n c] w (Cpd ef w l n) := by
  have hb : Below w.heap.size w (w.alloc (.cells #[] 56)) := by go_grown
  have HR := Lib.hid (hr.below hb hB); have HN := Lib.hid hn; have HO := Lib.hid (OW.room ef w); have hBs : B ≤ (w.alloc (.cells #[] 56)).heap.size := Nat.le_trans hB hb.size
  have HL : Hid (([] : List Ef).length + l.length ≤ 1000000) := Lib.hid (by rw [hn]; simp; omega)
  clear hr hn
  have hq : (binOp .eql 35 (.slice (some ad) n c) (.slice none 0 0)).run Try.prog w = .ok (.bool false) w := Lib.run_eql_slice_nil w 35 56 (some ad) n c 0 0 Try.underlying35
  go_enter Try.func55, Try.ntmps55
  go_wp2_with (at_builtin; refine wpList_app ef rfl 35 rfl (.tmp 5) (.tmp 6) rfl w.heap.size B (.slice (some ⟨w.heap.size, 0, none⟩) 0 0) [] l (some ad) c n HN.out rfl rfl HO.out HR.out HL.out (by simp) ?_; intro A2 c2 w2 lm HLM HO2 HS2 HB2)
  go_ret
  have hl2 : lm = l := by have := HLM.out; simpa using this
  subst hl2
  refine ⟨A2, c2, (by rw [HN.out]; rfl), Lib.hid (by have := HO2.out; rw [HN.out] at this; exact this), below_app hb HS2.out (fun j hj => ?_)⟩
  simp [Value.ownBlock] at hj
  omega
theorem clone_ef (A : Option Addr) (c : Nat) (l : List Ef) (n : Nat) (hn : l.length = n) (w : World) (B : Nat) (hr : RW ef w B A l) (hB : B ≤ w.heap.size) (hl : (n : Int) ≤ 100000) :
    Calls Try.prog 55 #[.slice A n c] w (Cpd ef w l n) := by
  rcases A with _ | ad
  · have : l = [] := by
      rcases hr with h | ⟨b, off, h, _⟩
      · exact h
      · cases h
    subst this; subst hn
    exact clone_ef_nil c w
  · exact clone_ef_some ad c l n hn w B hr hB hl

theorem clone_ln_nil (c : Nat) (w : World) : Calls Try.prog 56 #[.slice none 0 c] w (Cpd ln w [] 0) := by
  have hq : (binOp .eql 44 (.slice none 0 c) (.slice none 0 0)).run Try.prog w = .ok (.bool true) w := Lib.run_eql_slice_nil w 44 72 none 0 c 0 0 Try.underlying44
  go_enter Try.func56, Try.ntmps56
  go_wp2
  go_ret
  exact ⟨none, 0, rfl, Lib.hid (OW.nil ln w _), Below.refl _ _⟩
theorem clone_ln_some (ad : Addr) (c : Nat) (l : List Ln) (n : Nat) (hn : l.length = n) (w : World) (B : Nat) (hr : RW ln w B (some ad) l) (hB : B ≤ w.heap.size) (hl : (n : Int) ≤ 100000) :
    Calls Try.prog 56 #[.slice (some ad) n c] w (Cpd ln w l n) := by
  have hb : Below w.heap.size w (w.alloc (.cells #[] 72)) := by go_grown
  have HR := Lib.hid (hr.below hb hB); have HN := Lib.hid hn; have HO := Lib.hid (OW.room ln w); have hBs : B ≤ (w.alloc (.cells #[] 72)).heap.size := Nat.le_trans hB hb.size
  have HL : Hid (([] : List Ln).length + l.length ≤ 1000000) := Lib.hid (by rw [hn]; simp; omega)
  clear hr hn
  have hq : (binOp .eql 44 (.slice (some ad) n c) (.slice none 0 0)).run Try.prog w = .ok (.bool false) w := Lib.run_eql_slice_nil w 44 72 (some ad) n c 0 0 Try.underlying44
  go_enter Try.func56, Try.ntmps56
  go_wp2_with (at_builtin; refine wpList_app ln rfl 44 rfl (.tmp 5) (.tmp 6) rfl w.heap.size B (.slice (some ⟨w.heap.size, 0, none⟩) 0 0) [] l (some ad) c n HN.out rfl rfl HO.out HR.out HL.out (by simp) ?_; intro A2 c2 w2 lm HLM HO2 HS2 HB2)
  go_ret
  have hl2 : lm = l := by have := HLM.out; simpa using this
  subst hl2
  refine ⟨A2, c2, (by rw [HN.out]; rfl), Lib.hid (by have := HO2.out; rw [HN.out] at this; exact this), below_app hb HS2.out (fun j hj => ?_)⟩
  simp [Value.ownBlock] at hj
  omega
theorem clone_ln (A : Option Addr) (c : Nat) (l : List Ln) (n : Nat) (hn : l.length = n) (w : World) (B : Nat) (hr : RW ln w B A l) (hB : B ≤ w.heap.size) (hl : (n : Int) ≤ 100000) :
    Calls Try.prog 56 #[.slice A n c] w (Cpd ln w l n) := by
  rcases A with _ | ad
  · have : l = [] := by
      rcases hr with h | ⟨b, off, h, _⟩
      · exact h
      · cases h
    subst this; subst hn
    exact clone_ln_nil c w
  · exact clone_ln_some ad c l n hn w B hr hB hl

theorem clone_pz_nil (c : Nat) (w : World) : Calls Try.prog 57 #[.slice none 0 c] w (Cpd pz w [] 0) := by
  have hq : (binOp .eql 45 (.slice none 0 c) (.slice none 0 0)).run Try.prog w = .ok (.bool true) w := Lib.run_eql_slice_nil w 45 74 none 0 c 0 0 Try.underlying45
  go_enter Try.func57, Try.ntmps57
  go_wp2
  go_ret
  exact ⟨none, 0, rfl, Lib.hid (OW.nil pz w _), Below.refl _ _⟩
theorem clone_pz_some (ad : Addr) (c : Nat) (l : List Pz) (n : Nat) (hn : l.length = n) (w : World) (B : Nat) (hr : RW pz w B (some ad) l) (hB : B ≤ w.heap.size) (hl : (n : Int) ≤ 100000) :
    Calls Try.prog 57 #[.slice (some ad) n c] w (Cpd pz w l n) := by
  have hb : Below w.heap.size w (w.alloc (.cells #[] 74)) := by go_grown
  have HR := Lib.hid (hr.below hb hB); have HN := Lib.hid hn; have HO := Lib.hid (OW.room pz w); have hBs : B ≤ (w.alloc (.cells #[] 74)).heap.size := Nat.le_trans hB hb.size
  have HL : Hid (([] : List Pz).length + l.length ≤ 1000000) := Lib.hid (by rw [hn]; simp; omega)
  clear hr hn
  have hq : (binOp .eql 45 (.slice (some ad) n c) (.slice none 0 0)).run Try.prog w = .ok (.bool false) w := Lib.run_eql_slice_nil w 45 74 (some ad) n c 0 0 Try.underlying45
  go_enter Try.func57, Try.ntmps57
  go_wp2_with (at_builtin; refine wpList_app pz rfl 45 rfl (.tmp 5) (.tmp 6) rfl w.heap.size B (.slice (some ⟨w.heap.size, 0, none⟩) 0 0) [] l (some ad) c n HN.out rfl rfl HO.out HR.out HL.out (by simp) ?_; intro A2 c2 w2 lm HLM HO2 HS2 HB2)
  go_ret
  have hl2 : lm = l := by have := HLM.out; simpa using this
  subst hl2
  refine ⟨A2, c2, (by rw [HN.out]; rfl), Lib.hid (by have := HO2.out; rw [HN.out] at this; exact this), below_app hb HS2.out (fun j hj => ?_)⟩
  simp [Value.ownBlock] at hj
  omega
theorem clone_pz (A : Option Addr) (c : Nat) (l : List Pz) (n : Nat) (hn : l.length = n) (w : World) (B : Nat) (hr : RW pz w B A l) (hB : B ≤ w.heap.size) (hl : (n : Int) ≤ 100000) :
    Calls Try.prog 57 #[.slice A n c] w (Cpd pz w l n) := by
  rcases A with _ | ad
  · have : l = [] := by
      rcases hr with h | ⟨b, off, h, _⟩
      · exact h
      · cases h
    subst this; subst hn
    exact clone_pz_nil c w
  · exact clone_pz_some ad c l n hn w B hr hB hl

theorem clone_ab_nil (c : Nat) (w : World) : Calls Try.prog 58 #[.slice none 0 c] w (Cpd ab w [] 0) := by
  have hq : (binOp .eql 22 (.slice none 0 c) (.slice none 0 0)).run Try.prog w = .ok (.bool true) w := Lib.run_eql_slice_nil w 22 37 none 0 c 0 0 Try.underlying22
  go_enter Try.func58, Try.ntmps58
  go_wp2
  go_ret
  exact ⟨none, 0, rfl, Lib.hid (OW.nil ab w _), Below.refl _ _⟩
theorem clone_ab_some (ad : Addr) (c : Nat) (l : List Ab) (n : Nat) (hn : l.length = n) (w : World) (B : Nat) (hr : RW ab w B (some ad) l) (hB : B ≤ w.heap.size) (hl : (n : Int) ≤ 100000) :
    Calls Try.prog 58 #[.slice (some ad) n c] w (Cpd ab w l n) := by
  have hb : Below w.heap.size w (w.alloc (.cells #[] 37)) := by go_grown
  have HR := Lib.hid (hr.below hb hB); have HN := Lib.hid hn; have HO := Lib.hid (OW.room ab w); have hBs : B ≤ (w.alloc (.cells #[] 37)).heap.size := Nat.le_trans hB hb.size
  have HL : Hid (([] : List Ab).length + l.length ≤ 1000000) := Lib.hid (by rw [hn]; simp; omega)
  clear hr hn
  have hq : (binOp .eql 22 (.slice (some ad) n c) (.slice none 0 0)).run Try.prog w = .ok (.bool false) w := Lib.run_eql_slice_nil w 22 37 (some ad) n c 0 0 Try.underlying22
  go_enter Try.func58, Try.ntmps58
  go_wp2_with (at_builtin; refine wpList_app ab rfl 22 rfl (.tmp 5) (.tmp 6) rfl w.heap.size B (.slice (some ⟨w.heap.size, 0, none⟩) 0 0) [] l (some ad) c n HN.out rfl rfl HO.out HR.out HL.out (by simp) ?_; intro A2 c2 w2 lm HLM HO2 HS2 HB2)
  go_ret
  have hl2 : lm = l := by have := HLM.out; simpa using this
  subst hl2
  refine ⟨A2, c2, (by rw [HN.out]; rfl), Lib.hid (by have := HO2.out; rw [HN.out] at this; exact this), below_app hb HS2.out (fun j hj => ?_)⟩
  simp [Value.ownBlock] at hj
  omega
theorem clone_ab (A : Option Addr) (c : Nat) (l : List Ab) (n : Nat) (hn : l.length = n) (w : World) (B : Nat) (hr : RW ab w B A l) (hB : B ≤ w.heap.size) (hl : (n : Int) ≤ 100000) :
    Calls Try.prog 58 #[.slice A n c] w (Cpd ab w l n) := by
  rcases A with _ | ad
  · have : l = [] := by
      rcases hr with h | ⟨b, off, h, _⟩
      · exact h
      · cases h
    subst this; subst hn
    exact clone_ab_nil c w
  · exact clone_ab_some ad c l n hn w B hr hB hl

theorem clone_fo_nil (c : Nat) (w : World) : Calls Try.prog 59 #[.slice none 0 c] w (Cpd fo w [] 0) := by
  have hq : (binOp .eql 24 (.slice none 0 c) (.slice none 0 0)).run Try.prog w = .ok (.bool true) w := Lib.run_eql_slice_nil w 24 47 none 0 c 0 0 Try.underlying24
  go_enter Try.func59, Try.ntmps59
  go_wp2
  go_ret
  exact ⟨none, 0, rfl, Lib.hid (OW.nil fo w _), Below.refl _ _⟩
theorem clone_fo_some (ad : Addr) (c : Nat) (l : List Fo) (n : Nat) (hn : l.length = n) (w : World) (B : Nat) (hr : RW fo w B (some ad) l) (hB : B ≤ w.heap.size) (hl : (n : Int) ≤ 100000) :
    Calls Try.prog 59 #[.slice (some ad) n c] w (Cpd fo w l n) := by
  have hb : Below w.heap.size w (w.alloc (.cells #[] 47)) := by go_grown
  have HR := Lib.hid (hr.below hb hB); have HN := Lib.hid hn; have HO := Lib.hid (OW.room fo w); have hBs : B ≤ (w.alloc (.cells #[] 47)).heap.size := Nat.le_trans hB hb.size
  have HL : Hid (([] : List Fo).length + l.length ≤ 1000000) := Lib.hid (by rw [hn]; simp; omega)
  clear hr hn
  have hq : (binOp .eql 24 (.slice (some ad) n c) (.slice none 0 0)).run Try.prog w = .ok (.bool false) w := Lib.run_eql_slice_nil w 24 47 (some ad) n c 0 0 Try.underlying24
  go_enter Try.func59, Try.ntmps59
  go_wp2_with (at_builtin; refine wpList_app fo rfl 24 rfl (.tmp 5) (.tmp 6) rfl w.heap.size B (.slice (some ⟨w.heap.size, 0, none⟩) 0 0) [] l (some ad) c n HN.out rfl rfl HO.out HR.out HL.out (by simp) ?_; intro A2 c2 w2 lm HLM HO2 HS2 HB2)
  go_ret
  have hl2 : lm = l := by have := HLM.out; simpa using this
  subst hl2
  refine ⟨A2, c2, (by rw [HN.out]; rfl), Lib.hid (by have := HO2.out; rw [HN.out] at this; exact this), below_app hb HS2.out (fun j hj => ?_)⟩
  simp [Value.ownBlock] at hj
  omega
theorem clone_fo (A : Option Addr) (c : Nat) (l : List Fo) (n : Nat) (hn : l.length = n) (w : World) (B : Nat) (hr : RW fo w B A l) (hB : B ≤ w.heap.size) (hl : (n : Int) ≤ 100000) :
    Calls Try.prog 59 #[.slice A n c] w (Cpd fo w l n) := by
  rcases A with _ | ad
  · have : l = [] := by
      rcases hr with h | ⟨b, off, h, _⟩
      · exact h
      · cases h
    subst this; subst hn
    exact clone_fo_nil c w
  · exact clone_fo_some ad c l n hn w B hr hB hl
end Go.Proofs.Ytekpbdjnfobobaa.Con
