/-
  Contracts of find and has: the first row of that Id, or a zero one.
-/
import Derived.Test.YtijobbdgiaiocaaVls
import Derived.Deep.LoopGhost
namespace Go.Proofs.Ytijobbdgiaiocaa.Con
open Go.RowKit Go.Maps

/-- What find answers. -/
def FD {α : Type} (idOf : α → Int) (z : α) (l : List α) (id : Int) (a : α) (x : Bool) : Prop :=
  (x = true ∧ ∃ i : Nat, l[i]? = some a ∧ idOf a = id ∧ ∀ j y, j < i → l[j]? = some y → idOf y ≠ id) ∨ (x = false ∧ a = z ∧ ∀ y ∈ l, idOf y ≠ id)
theorem fd_ex {α : Type} (idOf : α → Int) (z : α) (l : List α) (id : Int) : ∃ a x, FD idOf z l id a x := by
  induction l with
  | nil => exact ⟨z, false, .inr ⟨rfl, rfl, fun y hy => by cases hy⟩⟩
  | cons y r ih =>
    by_cases h : idOf y = id
    · exact ⟨y, true, .inl ⟨rfl, 0, rfl, h, fun j _ hj => by omega⟩⟩
    · obtain ⟨a, x, hx⟩ := ih
      refine ⟨a, x, ?_⟩
      rcases hx with ⟨rfl, i, h1, h2, h3⟩ | ⟨rfl, rfl, h3⟩
      · refine .inl ⟨rfl, i + 1, by simpa using h1, h2, fun j z hj hz => ?_⟩
        cases j with
        | zero => simp at hz; subst hz; exact h
        | succ j => exact h3 j z (by omega) (by simpa using hz)
      · refine .inr ⟨rfl, rfl, fun z hz => ?_⟩
        rcases List.mem_cons.1 hz with rfl | hz
        · exact h
        · exact h3 z hz
theorem fd_has {α : Type} {idOf : α → Int} {z : α} {l : List α} {id : Int} {a : α} {x : Bool} (h : FD idOf z l id a x) : x = true ↔ ∃ y ∈ l, idOf y = id := by
  rcases h with ⟨rfl, i, h1, h2, _⟩ | ⟨rfl, _, h3⟩
  · simp only [true_iff]; exact ⟨a, List.mem_of_getElem? h1, h2⟩
  · constructor
    · intro h; cases h
    · rintro ⟨y, hy, e⟩; exact absurd e (h3 y hy)
theorem fd_hit {α : Type} {idOf : α → Int} {z : α} {l : List α} {id : Int} {a b : α} {x : Bool} (h : FD idOf z l id a x) {k : Nat} (hk : l[k]? = some b) (hb : idOf b = id) (hn : ∀ j y, j < k → l[j]? = some y → idOf y ≠ id) : x = true ∧ a = b := by
  rcases h with ⟨rfl, i, h1, h2, h3⟩ | ⟨rfl, _, h3⟩
  · refine ⟨rfl, ?_⟩
    rcases Nat.lt_trichotomy i k with hlt | hlt | hlt
    · exact absurd h2 (hn i a hlt h1)
    · subst hlt; rw [h1] at hk; exact Option.some.inj hk
    · exact absurd hb (h3 k b hlt hk)
  · exact absurd hb (h3 b (List.mem_of_getElem? hk))
theorem fd_miss {α : Type} {idOf : α → Int} {z : α} {l : List α} {id : Int} {a : α} {x : Bool} (h : FD idOf z l id a x) (hn : ∀ j y, j < l.length → l[j]? = some y → idOf y ≠ id) : x = false ∧ a = z := by
  rcases h with ⟨rfl, i, h1, h2, h3⟩ | ⟨rfl, h2, h3⟩
  · exact absurd h2 (hn i a (List.getElem?_eq_some_iff.1 h1).1 h1)
  · exact ⟨rfl, h2⟩
theorem no_next {α : Type} {idOf : α → Int} {l : List α} {id : Int} {k : Nat} {b : α} (hk : l[k]? = some b) (hb : idOf b ≠ id) (hn : ∀ j y, j < k → l[j]? = some y → idOf y ≠ id) : ∀ j y, j < k + 1 → l[j]? = some y → idOf y ≠ id := by
  intro j y hj hy
  rcases Nat.lt_or_eq_of_le (Nat.le_of_lt_succ hj) with h | rfl
  · exact hn j y h hy
  · rw [hk] at hy; rw [← Option.some.inj hy]; exact hb

def zAb : Ab := ⟨0, 0, 0, 0, 0, 0, false, none, 0, []⟩
def zAu : Au := ⟨0, 0, 0, 0, 0, 0, false⟩
def zFo : Fo := ⟨0, 0, 0, 0, 0, none, 0, [], none, 0, [], 0⟩
abbrev zcAu : Obj := .cells #[.int .i64 0, .int .i64 0, .int .i64 0, .int .i64 0, .int .i64 0, .int .i64 0, .bool false] 54
abbrev zcFo : Obj := .cells #[.int .i64 0, .int .i64 0, .int .i64 0, .int .i64 0, .int .i64 0, .slice none 0 0, .slice none 0 0, .int .i64 0] 66
abbrev zcAb : Obj := .cells #[.int .i64 0, .int .i64 0, .int .i64 0, .int .i64 0, .int .i64 0, .int .i64 0, .bool false, .slice none 0 0] 62

set_option maxRecDepth 20000 in
set_option maxHeartbeats 4000000 in
theorem find_ab {w : World} {B : Nat} {A : Option Addr} {l : List Ab} {n c : Nat} (hn : l.length = n) (hr : RW ab w B A l) (hB : B ≤ w.heap.size) (hl : (n : Int) ≤ 1000000) (id : Int) (a : Ab) (x : Bool) (hf : FD Ab.id zAb l id a x) :
    Calls Try.prog 111 #[.slice A n c, .int .i64 id, .func (.func 61) #[] #[]] w fun e w' => e = .returned (.tuple #[abv a, .bool x]) ∧ Below w.heap.size w w' := by
  have hb0 : Below w.heap.size w (w.alloc zcAb) := (Below.refl _ w).alloc (Nat.le_refl _) _
  have hnew := heap_alloc_new w zcAb
  have hs0 : (w.alloc zcAb).heap.size = w.heap.size + 1 := by simp
  have HR := Lib.hid (hr.below hb0 hB); have HF := Lib.hid hf; have HN := Lib.hid hn; have HB0 := Lib.hid hb0
  clear hr hf hn hb0
  go_enter Try.func111, Try.ntmps111
  go_wp2
  generalize w.alloc zcAb = V at *
  have HNEW := Lib.hid hnew; have HS := Lib.hid hs0
  clear hnew hs0
  go_loopg [13] n (fun m s13 wr => ∃ k : Nat, k ≤ n ∧ m = n - k ∧ s13 = .int .i64 (k : Int) ∧ Hid (Below V.heap.size V wr) ∧ Hid (∀ j y, j < k → l[j]? = some y → Ab.id y ≠ id))
  case atStart => exact ⟨0, by omega, rfl, rfl, Lib.hid (Below.refl _ _), Lib.hid (fun j _ hj => by omega)⟩
  case round =>
    obtain ⟨k, hk, rfl, rfl, HW, HM⟩ := hrel
    by_cases hkn : k < n
    · have hkl' : (k : Int) < n := by omega
      obtain ⟨b, hb⟩ : ∃ b, l[k]? = some b := ⟨_, List.getElem?_eq_getElem (by rw [HN.out]; exact hkn)⟩
      obtain ⟨p, off, hA, hpl, c0, c1, c2, c3, c4, c5, c6, c7⟩ := rowAb HR.out hb HW.out (by rw [HS.out]; omega)
      subst hA
      have HP : Hid (p < V.heap.size) := Lib.hid (by rw [HS.out]; omega)
      have HBk := Lib.hid hb
      have hws := HW.out.size; have hbw := HW.out
      clear hb
      by_cases he : b.id = id
      · have HE := Lib.hid he
        have he' : (b.id == id) = true := by simpa using he
        clear he
        go_wp2_with (first | ((with_reducible refine (abilityId_any b _).mono ?_); rintro e w1 ⟨rfl, hB1⟩; have hV1 := bstep hB1 (V := V) (by go_grown); have g9 := fun o => hB1.cell (p := ⟨wr.heap.size, o, none⟩) (by simp); have z1 := blk_cell HNEW.out hV1 (by rw [HS.out]; omega); have y1 := blk_froz HNEW.out hV1 (by rw [HS.out]; omega)))
        obtain ⟨e1, e2⟩ := fd_hit HF.out HBk.out HE.out HM.out
        subst e1; subst e2
        refine bodyPost_ret (by simp [results, Try.results111, go_sem, z1]; try rfl) rfl ?_
        exact ⟨rfl, by have h0 := HB0.out; have h1 := HS.out; have h2 : Below w.heap.size w w1 := h0.trans (hV1.mono (by omega)); go_grown⟩
      · have HE := Lib.hid he
        have he' : (b.id == id) = false := by simpa using he
        have HM2 := Lib.hid (no_next HBk.out he HM.out)
        clear he
        go_wp2_with (first | ((with_reducible refine (abilityId_any b _).mono ?_); rintro e w1 ⟨rfl, hB1⟩; have hV1 := bstep hB1 (V := V) (by go_grown)))
        go_roundg (n - (k + 1))
        case measure => omega
        case rel => exact ⟨k + 1, by omega, rfl, by go_num, Lib.hid hV1, HM2⟩
    · have hkl' : decide ((k : Int) < n) = false := by simp; omega
      have hbw := HW.out
      have hws := HW.out.size
      have hb2 : Below V.heap.size V (wr.alloc zcAb) := by go_grown
      have z1 := blk_cell HNEW.out hb2 (by rw [HS.out]; omega)
      have y1 := blk_froz HNEW.out hb2 (by rw [HS.out]; omega)
      go_wp2
      obtain ⟨e1, e2⟩ := fd_miss HF.out (by have := HN.out; intro j y hj hy; exact HM.out j y (by omega) hy)
      subst e1; subst e2
      refine bodyPost_ret (by simp [results, Try.results111, go_sem, z1]; try rfl) rfl ?_
      exact ⟨rfl, by have h0 := HB0.out; have h1 := HS.out; have h2 : Below w.heap.size w wr := h0.trans (hbw.mono (by omega)); have h3 := hbw.size; go_grown⟩
set_option maxRecDepth 20000 in
set_option maxHeartbeats 4000000 in
theorem find_au {w : World} {B : Nat} {A : Option Addr} {l : List Au} {n c : Nat} (hn : l.length = n) (hr : RW au w B A l) (hB : B ≤ w.heap.size) (hl : (n : Int) ≤ 1000000) (id : Int) (a : Au) (x : Bool) (hf : FD Au.id zAu l id a x) :
    Calls Try.prog 51 #[.slice A n c, .int .i64 id, .func (.func 52) #[] #[]] w fun e w' => e = .returned (.tuple #[auv a, .bool x]) ∧ Below w.heap.size w w' := by
  have hb0 : Below w.heap.size w (w.alloc zcAu) := (Below.refl _ w).alloc (Nat.le_refl _) _
  have hnew := heap_alloc_new w zcAu
  have hs0 : (w.alloc zcAu).heap.size = w.heap.size + 1 := by simp
  have HR := Lib.hid (hr.below hb0 hB); have HF := Lib.hid hf; have HN := Lib.hid hn; have HB0 := Lib.hid hb0
  clear hr hf hn hb0
  go_enter Try.func51, Try.ntmps51
  go_wp2
  generalize w.alloc zcAu = V at *
  have HNEW := Lib.hid hnew; have HS := Lib.hid hs0
  clear hnew hs0
  go_loopg [13] n (fun m s13 wr => ∃ k : Nat, k ≤ n ∧ m = n - k ∧ s13 = .int .i64 (k : Int) ∧ Hid (Below V.heap.size V wr) ∧ Hid (∀ j y, j < k → l[j]? = some y → Au.id y ≠ id))
  case atStart => exact ⟨0, by omega, rfl, rfl, Lib.hid (Below.refl _ _), Lib.hid (fun j _ hj => by omega)⟩
  case round =>
    obtain ⟨k, hk, rfl, rfl, HW, HM⟩ := hrel
    by_cases hkn : k < n
    · have hkl' : (k : Int) < n := by omega
      obtain ⟨b, hb⟩ : ∃ b, l[k]? = some b := ⟨_, List.getElem?_eq_getElem (by rw [HN.out]; exact hkn)⟩
      obtain ⟨p, off, hA, hpl, c0, c1, c2, c3, c4, c5, c6⟩ := rowAu HR.out hb HW.out (by rw [HS.out]; omega)
      subst hA
      have HP : Hid (p < V.heap.size) := Lib.hid (by rw [HS.out]; omega)
      have HBk := Lib.hid hb
      have hws := HW.out.size; have hbw := HW.out
      clear hb
      by_cases he : b.id = id
      · have HE := Lib.hid he
        have he' : (b.id == id) = true := by simpa using he
        clear he
        go_wp2_with (first | ((with_reducible refine (auraId_any b _).mono ?_); rintro e w1 ⟨rfl, hB1⟩; have hV1 := bstep hB1 (V := V) (by go_grown); have g9 := fun o => hB1.cell (p := ⟨wr.heap.size, o, none⟩) (by simp); have z1 := blk_cell HNEW.out hV1 (by rw [HS.out]; omega); have y1 := blk_froz HNEW.out hV1 (by rw [HS.out]; omega)))
        obtain ⟨e1, e2⟩ := fd_hit HF.out HBk.out HE.out HM.out
        subst e1; subst e2
        refine bodyPost_ret (by simp [results, Try.results51, go_sem, z1]; try rfl) rfl ?_
        exact ⟨rfl, by have h0 := HB0.out; have h1 := HS.out; have h2 : Below w.heap.size w w1 := h0.trans (hV1.mono (by omega)); go_grown⟩
      · have HE := Lib.hid he
        have he' : (b.id == id) = false := by simpa using he
        have HM2 := Lib.hid (no_next HBk.out he HM.out)
        clear he
        go_wp2_with (first | ((with_reducible refine (auraId_any b _).mono ?_); rintro e w1 ⟨rfl, hB1⟩; have hV1 := bstep hB1 (V := V) (by go_grown)))
        go_roundg (n - (k + 1))
        case measure => omega
        case rel => exact ⟨k + 1, by omega, rfl, by go_num, Lib.hid hV1, HM2⟩
    · have hkl' : decide ((k : Int) < n) = false := by simp; omega
      have hbw := HW.out
      have hws := HW.out.size
      have hb2 : Below V.heap.size V (wr.alloc zcAu) := by go_grown
      have z1 := blk_cell HNEW.out hb2 (by rw [HS.out]; omega)
      have y1 := blk_froz HNEW.out hb2 (by rw [HS.out]; omega)
      go_wp2
      obtain ⟨e1, e2⟩ := fd_miss HF.out (by have := HN.out; intro j y hj hy; exact HM.out j y (by omega) hy)
      subst e1; subst e2
      refine bodyPost_ret (by simp [results, Try.results51, go_sem, z1]; try rfl) rfl ?_
      exact ⟨rfl, by have h0 := HB0.out; have h1 := HS.out; have h2 : Below w.heap.size w wr := h0.trans (hbw.mono (by omega)); have h3 := hbw.size; go_grown⟩
set_option maxRecDepth 20000 in
set_option maxHeartbeats 4000000 in
theorem has_ab {w : World} {B : Nat} {A : Option Addr} {l : List Ab} {n c : Nat} (hn : l.length = n) (hr : RW ab w B A l) (hB : B ≤ w.heap.size) (hl : (n : Int) ≤ 1000000) (id : Int) (x : Bool) (hx : x = true ↔ ∃ y ∈ l, y.id = id) :
    Calls Try.prog 108 #[.slice A n c, .int .i64 id, .func (.func 61) #[] #[]] w fun e w' => e = .returned (.bool x) ∧ Below w.heap.size w w' := by
  obtain ⟨a, x', hf⟩ := fd_ex Ab.id zAb l id
  have hxx : x = x' := iff_eq hx (fd_has hf)
  subst hxx
  have HC := Lib.hid (find_ab (c := c) hn hr hB hl id a x hf)
  clear hn hr hx hf
  go_enter Try.func108, Try.ntmps108
  go_wp2_with (first | ((with_reducible refine HC.out.mono ?_); rintro e w1 ⟨rfl, hB1⟩; have hs := hB1.size))
  go_ret
  exact ⟨rfl, by go_grown⟩
set_option maxRecDepth 20000 in
set_option maxHeartbeats 4000000 in
theorem has_au {w : World} {B : Nat} {A : Option Addr} {l : List Au} {n c : Nat} (hn : l.length = n) (hr : RW au w B A l) (hB : B ≤ w.heap.size) (hl : (n : Int) ≤ 1000000) (id : Int) (x : Bool) (hx : x = true ↔ ∃ y ∈ l, y.id = id) :
    Calls Try.prog 93 #[.slice A n c, .int .i64 id, .func (.func 52) #[] #[]] w fun e w' => e = .returned (.bool x) ∧ Below w.heap.size w w' := by
  obtain ⟨a, x', hf⟩ := fd_ex Au.id zAu l id
  have hxx : x = x' := iff_eq hx (fd_has hf)
  subst hxx
  have HC := Lib.hid (find_au (c := c) hn hr hB hl id a x hf)
  clear hn hr hx hf
  go_enter Try.func93, Try.ntmps93
  go_wp2_with (first | ((with_reducible refine HC.out.mono ?_); rintro e w1 ⟨rfl, hB1⟩; have hs := hB1.size))
  go_ret
  exact ⟨rfl, by go_grown⟩
end Go.Proofs.Ytijobbdgiaiocaa.Con
