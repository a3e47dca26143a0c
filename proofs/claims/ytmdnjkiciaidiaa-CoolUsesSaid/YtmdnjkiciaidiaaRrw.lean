/-
  Every call of package cool, and of the document's own, of a row that lies in memory: what it answers, in plain words.
-/
import Derived.Test.YtmdnjkiciaidiaaSma
import Derived.Test.YtmdnjkiciaidiaaCdi
import Derived.Test.YtmdnjkiciaidiaaCdj
import Derived.Test.YtmdnjkiciaidiaaCdk
namespace Go.Proofs.Ytmdnjkiciaidiaa.Con
open Go.RowKit Go.Maps

/-- The document's Use where it answers true, whole. -/
theorem ruse_yes {w : World} {B : Nat} {A : Option Addr} {l : List Co} {n cp : Nat} (a : Abl) (now : Int) (hch : Fits a.charges) (hco : Fits a.cool) (hnow : Fits now) (hfl : ∀ x ∈ l, FCo x) (hn : l.length = n) (hl : (n : Int) ≤ 100000) (hbk : ∀ x ∈ l, x.bk.length ≤ 1000) (hr : KRc w B A l) (hB : B ≤ w.heap.size) (hub : usB (l.map Co.pl) a.id a.charges now) :
    Calls Try.prog 11 #[.slice A n cp, ablv a, .int .i64 now] w (UsO w true (usL (l.map Co.pl) a.id a.cool now)) := by
  by_cases hc : 0 < a.cool
  · by_cases hp : (wyI (l.map Co.pl) a.id now).length = 0
    · exact ruse_w1 a now hch hco hnow hfl hn hl hbk hr hB hub hc hp
    · exact ruse_w2 a now hch hco hnow hfl hn hl hbk hr hB hub hc hp
  · by_cases hp : (wyI (l.map Co.pl) a.id now).length = 0
    · exact ruse_w3 a now hch hco hnow hfl hn hl hbk hr hB hub hc hp
    · exact ruse_w4 a now hch hco hnow hfl hn hl hbk hr hB hub hc hp

/-- A row that lies in memory. -/
structure RR (w : World) (A : Option Addr) (M : List Co) (P : List Cp) : Prop where
  kr : KRc w w.heap.size A M
  pl : M.map Co.pl = P
  bc : ∀ x ∈ M, x.bk.length ≤ x.bc
  bk : ∀ x ∈ M, x.bk.length ≤ 1000
  len : (M.length : Int) ≤ 1000
section
variable {V U : World} {A : Option Addr} {M : List Co} {P : List Cp} {c : Nat}
theorem RR.of (h : RR V A M P) (hb : Below V.heap.size V U) : RR U A M P := ⟨(h.kr.below hb (Nat.le_refl _)).more hb.size, h.pl, h.bc, h.bk, h.len⟩
/-- Rows whose plain form is known to be short. -/
theorem RR.mk' {A : Option Addr} {M : List Co} {P : List Cp} (h1 : KRc V V.heap.size A M) (h2 : M.map Co.pl = P) (h3 : ∀ x ∈ M, x.bk.length ≤ x.bc) (h4 : ∀ x ∈ P, x.2.length ≤ 1000) (h5 : (P.length : Int) ≤ 1000) : RR V A M P :=
  ⟨h1, h2, h3, fun x hx => h4 x.pl (by rw [← h2]; exact List.mem_map_of_mem hx), by rw [← h2, List.length_map] at h5; exact h5⟩
theorem RR.plen (h : RR V A M P) : M.length = P.length := by rw [← h.pl, List.length_map]
theorem RR.right (h : RR V A M P) (rb : Bool) (hrb : rb = true ↔ RtC P) : Calls Try.prog 17 #[.slice A M.length c] V fun e w' => e = .returned (.bool rb) ∧ Below V.heap.size V w' :=
  right_any rfl (by have := h.len; omega) h.bk h.kr (Nat.le_refl _) rb (by rw [h.pl]; exact hrb)
theorem RR.rright (h : RR V A M P) (rb : Bool) (hrb : rb = true ↔ RtC P) : Calls Try.prog 18 #[.slice A M.length c] V fun e w' => e = .returned (.bool rb) ∧ Below V.heap.size V w' :=
  rright_any rfl (by have := h.len; omega) h.bk h.kr (Nat.le_refl _) rb (by rw [h.pl]; exact hrb)
theorem RR.ready (h : RR V A M P) (a : Abl) (now r : Int) (hc : Fits a.charges) (hr : rdI a.charges (wyI P a.id now).length = r) : Calls Try.prog 19 #[.slice A M.length c, ablv a, .int .i64 now] V fun e w' => e = .returned (.int .i64 r) ∧ Below V.heap.size V w' := by
  have q := ready_any (cp := c) a now hc rfl (by have := h.len; omega) h.bk h.bc h.kr (Nat.le_refl _)
  rw [h.pl, hr] at q; exact q
theorem RR.rready (h : RR V A M P) (a : Abl) (now r : Int) (hc : Fits a.charges) (hr : rdI a.charges (wyI P a.id now).length = r) : Calls Try.prog 20 #[.slice A M.length c, ablv a, .int .i64 now] V fun e w' => e = .returned (.int .i64 r) ∧ Below V.heap.size V w' := by
  have q := rready_any (cp := c) a now hc rfl (by have := h.len; omega) h.bk h.kr (Nat.le_refl _)
  rw [h.pl, hr] at q; exact q
theorem RR.next (h : RR V A M P) (a : Abl) (now r : Int) (hc : Fits a.charges) (hr : nxI P a.id a.charges now = r) : Calls Try.prog 21 #[.slice A M.length c, ablv a, .int .i64 now] V fun e w' => e = .returned (.int .i64 r) ∧ Below V.heap.size V w' := by
  have q := next_any (cp := c) a now hc rfl (by have := h.len; omega) h.bk h.bc h.kr (Nat.le_refl _)
  rw [h.pl, hr] at q; exact q
theorem RR.rnext (h : RR V A M P) (a : Abl) (now r : Int) (hc : Fits a.charges) (hr : nxI P a.id a.charges now = r) : Calls Try.prog 22 #[.slice A M.length c, ablv a, .int .i64 now] V fun e w' => e = .returned (.int .i64 r) ∧ Below V.heap.size V w' := by
  have q := rnext_any (cp := c) a now hc rfl (by have := h.len; omega) h.bk h.kr (Nat.le_refl _)
  rw [h.pl, hr] at q; exact q
theorem RR.clean (h : RR V A M P) (now : Int) {R : List Cp} (hr : clI P now = R) : Calls Try.prog 12 #[.slice A M.length c, .int .i64 now] V (CkO V R) := by
  have q := clean_any (cp := c) now rfl (by have := h.len; omega) h.bk h.kr (Nat.le_refl _)
  rw [h.pl, hr] at q; exact q
theorem RR.rclean (h : RR V A M P) (now : Int) (hc : M.length ≤ c) {R : List Cp} (hr : clI P now = R) : Calls Try.prog 15 #[.slice A M.length c, .int .i64 now] V (CoO V R) := by
  have q := rclean_any (cp := c) now rfl hc (by have := h.len; omega) h.bk h.kr (Nat.le_refl _)
  rw [h.pl, hr] at q; exact q
theorem RR.reset (h : RR V A M P) (id : Int) {R : List Cp} (hr : rsI P id = R) : Calls Try.prog 13 #[.slice A M.length c, .int .i64 id] V (CkO V R) := by
  have q := reset_any (cp := c) id rfl (by have := h.len; omega) h.bk h.kr (Nat.le_refl _)
  rw [h.pl, hr] at q; exact q
theorem RR.rreset (h : RR V A M P) (id : Int) {R : List Cp} (hr : rsI P id = R) : Calls Try.prog 16 #[.slice A M.length c, .int .i64 id] V (CoO V R) := by
  have q := rreset_any (cp := c) id rfl (by have := h.len; omega) h.bk h.kr (Nat.le_refl _)
  rw [h.pl, hr] at q; exact q
theorem RR.rcopy (h : RR V A M P) : Calls Try.prog 9 #[.slice A M.length c] V (CoO V P) := by
  have q := rcopy_any (cp := c) rfl (by have := h.len; omega) h.bk h.kr (Nat.le_refl _)
  rw [h.pl] at q; exact q
/-- What Use answers, and whether. -/
def usA (ub : Bool) (P : List Cp) (a : Abl) (now : Int) : List Cp := if ub = true then usL P a.id a.cool now else P
theorem RR.use (h : RR V A M P) (hf : ∀ x ∈ P, ∀ y ∈ x.2, Fits y) (a : Abl) (now : Int) (hc : Fits a.charges) (hco : Fits a.cool) (hn : Fits now) (ub : Bool) (hub : ub = true ↔ usB P a.id a.charges now) : Calls Try.prog 10 #[.slice A M.length c, ablv a, .int .i64 now] V (UpO V ub (usA ub P a now)) := by
  have hf2 : ∀ x ∈ M, ∀ y ∈ x.bk, Fits y := fun x hx => hf x.pl (by rw [← h.pl]; exact List.mem_map_of_mem hx)
  by_cases hu : usB P a.id a.charges now
  · have e := hub.2 hu
    subst e
    have q := use_yes (cp := c) a now hc rfl h.len h.bk h.bc h.kr (Nat.le_refl _) (by rw [h.pl]; exact hu) hco hn hf2
    rw [h.pl] at q; exact q
  · have e : ub = false := by cases ub with | false => rfl | true => exact absurd (hub.1 rfl) hu
    subst e
    have q := use_no (cp := c) a now hc rfl h.len h.bk h.bc h.kr (Nat.le_refl _) (by rw [h.pl]; exact hu)
    rw [h.pl] at q; exact q
theorem RR.ruse (h : RR V A M P) (hf : ∀ x ∈ M, FCo x) (a : Abl) (now : Int) (hc : Fits a.charges) (hco : Fits a.cool) (hn : Fits now) (ub : Bool) (hub : ub = true ↔ usB P a.id a.charges now) : Calls Try.prog 11 #[.slice A M.length c, ablv a, .int .i64 now] V (UsO V ub (usA ub P a now)) := by
  by_cases hu : usB P a.id a.charges now
  · have e := hub.2 hu
    subst e
    have q := ruse_yes (cp := c) a now hc hco hn hf rfl (by have := h.len; omega) h.bk h.kr (Nat.le_refl _) (by rw [h.pl]; exact hu)
    rw [h.pl] at q; exact q
  · have e : ub = false := by cases ub with | false => rfl | true => exact absurd (hub.1 rfl) hu
    subst e
    have q := ruse_no (cp := c) a now hc rfl (by have := h.len; omega) h.bk h.kr (Nat.le_refl _) (by rw [h.pl]; exact hu)
    rw [h.pl] at q; exact q
theorem RR.same {A' : Option Addr} {M' : List Co} {c' : Nat} (h : RR V A M P) (h1 : KRc V V.heap.size A' M') (h2 : M'.map Co.pl = P) : Calls Try.prog 14 #[.slice A M.length c, .slice A' M'.length c'] V fun e w' => e = .returned (.bool true) ∧ Below V.heap.size V w' := by
  have e : M'.length = M.length := by rw [h.plen, ← h2, List.length_map]
  rw [e]
  exact rsame_co rfl (h.pl.trans h2.symm) (by have := h.len; omega) h.bk h.kr h1 (Nat.le_refl _) (Nat.le_refl _)
/-! ### short rows stay short -/
theorem cl_short {P : List Cp} {m : Nat} (now : Int) (h : ∀ x ∈ P, x.2.length ≤ m) : ∀ x ∈ clI P now, x.2.length ≤ m := by
  intro y hy
  obtain ⟨x, hx, rfl, _⟩ := cl_mem hy
  exact Nat.le_trans (aw_len _ _) (h x hx)
theorem rs_short {P : List Cp} {m : Nat} (id : Int) (h : ∀ x ∈ P, x.2.length ≤ m) : ∀ x ∈ rsI P id, x.2.length ≤ m := fun x hx => h x (List.mem_filter.1 hx).1
theorem rs_len (P : List Cp) (id : Int) : (rsI P id).length ≤ P.length := List.length_filter_le _ _
theorem one_short {id : Int} {b : List Int} {m : Nat} (h : b.length ≤ m) : ∀ x ∈ oneI id b, x.2.length ≤ m := by
  intro x hx
  unfold oneI at hx
  split at hx
  · cases hx
  · rcases List.mem_singleton.1 hx with rfl; exact h
theorem put_short {P : List Cp} {m : Nat} {id : Int} {b : List Int} (h : ∀ x ∈ P, x.2.length ≤ m) (hb : b.length ≤ m) : ∀ x ∈ putI P id b, x.2.length ≤ m := by
  intro x hx
  rcases put_mem hx with hx | hx
  · exact one_short hb x hx
  · exact h x hx
theorem one_le (id : Int) (b : List Int) : (oneI id b).length ≤ 1 := by unfold oneI; split <;> simp
theorem put_len {id : Int} {b : List Int} : ∀ P : List Cp, (putI P id b).length ≤ P.length + 1
  | [] => by have := one_le id b; show (oneI id b).length ≤ _; simpa using this
  | x :: r => by
    have ih := put_len (id := id) (b := b) r
    have h1 := one_le id b
    show (if x.1 < id then x :: putI r id b else oneI id b ++ (if x.1 = id then r else x :: r)).length ≤ _
    split
    · simp; omega
    · rw [List.length_append]
      split <;> simp <;> omega
theorem us_short {P : List Cp} {m : Nat} (hm : 100 ≤ m) {a : Abl} {now : Int} {ub : Bool} (hub : ub = true ↔ usB P a.id a.charges now) (h : ∀ x ∈ P, x.2.length ≤ m) : ∀ x ∈ usA ub P a now, x.2.length ≤ m := by
  unfold usA
  split
  · rename_i hu
    refine put_short h ?_
    have h9 := (hub.1 hu).2.2.2
    unfold nbI
    split
    · simp; omega
    · omega
  · exact h
theorem us_len (ub : Bool) (P : List Cp) (a : Abl) (now : Int) : (usA ub P a now).length ≤ P.length + 1 := by
  unfold usA
  split
  · exact put_len P
  · omega
end
/-! ### few, decided ahead -/
def FwP (l : List Co) : Prop := l.length ≤ 60 ∧ ∀ x ∈ l, x.bk.length ≤ 200
set_option maxRecDepth 20000 in
set_option maxHeartbeats 4000000 in
theorem few_iff {w : World} {B : Nat} {A : Option Addr} {l : List Co} {n cp : Nat} (hn : l.length = n) (hr : KRc w B A l) (hB : B ≤ w.heap.size) (fb : Bool) (hfb : fb = true ↔ FwP l) :
    Calls Try.prog 8 #[.slice A n cp] w fun e w' => e = .returned (.bool fb) ∧ Below w.heap.size w w' := by
  subst hn
  have HR := Lib.hid hr; have HB := Lib.hid hB; have HFB := Lib.hid hfb
  have HNO : Hid (¬ FwP l → fb = false) := Lib.hid (fun h => by cases fb with | false => rfl | true => exact absurd (HFB.out.1 rfl) h)
  clear hr hB hfb
  go_enter Try.func8, Try.ntmps8
  go_wp2
  go_loopg [3] 101 (fun gh s3 wr => ∃ k : Nat, k ≤ l.length ∧ k ≤ 100 ∧ gh = 101 - k ∧ s3 = .int .i64 k ∧ Hid (∀ y ∈ l.take k, y.bk.length ≤ 200) ∧ Hid (Below w.heap.size w wr))
  case atStart => exact ⟨0, by omega, by omega, rfl, rfl, Lib.hid (by simp), Lib.hid (Below.refl _ _)⟩
  case round =>
    obtain ⟨k, hk, hk1, rfl, rfl, HA, HW⟩ := hrel
    by_cases hlt : k < l.length
    · have hlt' : (k : Int) < l.length := by omega
      by_cases h100 : k < 100
      · have h100' : (k : Int) < 100 := by omega
        obtain ⟨x, hx⟩ : ∃ x, l[k]? = some x := ⟨_, List.getElem?_eq_getElem hlt⟩
        obtain ⟨b, off, hAA, hpl, d0, d1⟩ := rowCo HR.out hx HW.out HB.out
        subst hAA
        have HX := Lib.hid hx
        clear hx
        by_cases h2 : 200 < x.bk.length
        · have h2' : decide ((200 : Int) < (x.bk.length : Int)) = true := decide_eq_true (by omega)
          have HN : Hid (fb = false) := Lib.hid (HNO.out (fun h => by have := h.2 x (List.mem_of_getElem? HX.out); omega))
          (have hrf := HN.out; clear HN; subst hrf)
          go_wp2
          go_ret
          exact ⟨rfl, HW.out⟩
        · have h2' : decide ((200 : Int) < (x.bk.length : Int)) = false := decide_eq_false (by omega)
          go_wp2
          go_roundg (101 - (k + 1))
          case measure => omega
          case rel => exact ⟨k + 1, by omega, by omega, rfl, by go_num, Lib.hid (fun y hy => by
            rw [List.take_add_one, HX.out] at hy
            rcases List.mem_append.1 hy with hy | hy
            · exact HA.out y hy
            · simp at hy; rw [hy]; omega), HW⟩
      · have h100' : decide ((k : Int) < 100) = false := by simp; omega
        have h60 : decide ((l.length : Int) ≤ 60) = false := decide_eq_false (by omega)
        have HN : Hid (fb = false) := Lib.hid (HNO.out (fun h => by have := h.1; omega))
        (have hrf := HN.out; clear HN; subst hrf)
        go_wp2
        go_ret
        exact ⟨rfl, HW.out⟩
    · have hlt' : decide ((k : Int) < l.length) = false := by simp; omega
      have HALL : Hid (∀ x ∈ l, x.bk.length ≤ 200) := Lib.hid (fun x hx => HA.out x (by rw [List.take_of_length_le (by omega)]; exact hx))
      by_cases h6 : l.length ≤ 60
      · have h60 : decide ((l.length : Int) ≤ 60) = true := decide_eq_true (by omega)
        have HN : Hid (fb = true) := Lib.hid (HFB.out.2 ⟨h6, HALL.out⟩)
        (have hrf := HN.out; clear HN; subst hrf)
        go_wp2
        go_ret
        exact ⟨rfl, HW.out⟩
      · have h60 : decide ((l.length : Int) ≤ 60) = false := decide_eq_false (by omega)
        have HN : Hid (fb = false) := Lib.hid (HNO.out (fun h => h6 h.1))
        (have hrf := HN.out; clear HN; subst hrf)
        go_wp2
        go_ret
        exact ⟨rfl, HW.out⟩
theorem bex (P : Prop) : ∃ x : Bool, x = true ↔ P := ⟨@decide P (Classical.propDecidable _), by simp⟩
end Go.Proofs.Ytmdnjkiciaidiaa.Con
