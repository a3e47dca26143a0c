/-
  Contracts of Lent and Kept: bytes with a mark in their spare room, and whether they stand as they did.
-/
import Derived.Test.YtgandkgcnackkaaCom
import Derived.Laws.CopyOwn
import Derived.Deep.OwnRows
namespace Go.Proofs.Ytgandkgcnackkaa.Con
open Go.RowKit Mth Mem

/-- Block g is just the bytes l. -/
def Arr (w : World) (g : Nat) (l : List Int) : Prop := w.heap[g]? = some (.cells (vs .u8 l).toArray 5 (0, 0))
theorem Arr.lt {w : World} {g : Nat} {l : List Int} (h : Arr w g l) : g < w.heap.size := (Array.getElem?_eq_some_iff.1 h).1
theorem Arr.cell {w : World} {g : Nat} {l : List Int} (h : Arr w g l) {k : Nat} {x : Int} (hx : l[k]? = some x) : w.cell? ⟨g, k, none⟩ = some (.int .u8 x) := by
  rw [cell_of_row w g k _ 5 (0, 0) h, List.getElem?_toArray]
  exact vs_at hx
theorem Arr.frozen {w : World} {g : Nat} {l : List Int} (h : Arr w g l) (k : Nat) : w.frozen? ⟨g, k, none⟩ = false := by
  unfold Arr at h; simp [World.frozen?, h]
theorem Arr.rd {w : World} {g : Nat} {l m : List Int} (h : Arr w g (l ++ m)) : Rd .u8 w (g + 1) (some ⟨g, 0, none⟩) l := by
  refine .inr ⟨g, 0, rfl, by omega, fun k x hx => ?_⟩
  rw [Nat.zero_add]
  obtain ⟨hk, _⟩ := List.getElem?_eq_some_iff.1 hx
  exact h.cell (by rw [List.getElem?_append_left hk]; exact hx)
theorem Arr.set {w : World} {g : Nat} {l : List Int} (h : Arr w g l) (k : Nat) (x : Int) : Arr (w.setCell ⟨g, k, none⟩ (.int .u8 x)) g (l.set k x) := by
  unfold Arr at h ⊢
  have e : (vs .u8 (l.set k x)).toArray = (vs .u8 l).toArray.setIfInBounds k (.int .u8 x) := by
    simp [vs, List.map_set]
  rw [e]
  simp [World.setCell, Array.getElem?_modify, h]
theorem Arr.below {w w' : World} {g B : Nat} {l : List Int} (h : Arr w g l) (hb : Below B w w') (hg : g < B) : Arr w' g l := (hb.block g hg).trans h

theorem made_eq (n : Nat) : madeCells #[Value.int .u8 0] n = (vs .u8 (List.replicate n 0)).toArray := by
  apply Array.ext
  · simp [size_madeCells, vs]
  · intro i h1 h2
    simp [madeCells, vs, Nat.mod_one]

theorem lent_cells (l : List Int) : splice (vs .u8 (List.replicate (l.length + 1) 0)) 0 (vs .u8 l) = vs .u8 (l ++ [0]) := by
  unfold splice
  rw [List.take_zero, List.nil_append, Nat.zero_add, vs_length]
  have e : (vs .u8 (List.replicate (l.length + 1) 0)).drop l.length = vs .u8 [0] := by
    simp [vs, List.drop_replicate]
  rw [e, vs_app]

/-- What Lent answers. -/
def LentAns (w : World) (l : List Int) (e : Ending) (w' : World) : Prop :=
  ∃ g, e = .returned (.slice (some ⟨g, 0, none⟩) l.length (l.length + 1)) ∧ w.heap.size ≤ g ∧ Hid (Arr w' g (l ++ [77])) ∧ Hid (Below w.heap.size w w')

theorem run_make1 (n : Nat) (h : (n : Int) ≤ 100000) (w : World) : (Instr.makeSlice 22 (.int .i64 (n : Int)) (.int .i64 ((n : Int) + 1))).run Try.prog w = .ok (.slice (some ⟨w.heap.size, 0, none⟩) n (n + 1)) (w.alloc (.cells (vs .u8 (List.replicate (n + 1) 0)).toArray 5)) := by
  obtain ⟨i0, hi0, hz0, hz1, hz2⟩ := info_parts byte_info
  have hr := run_make (P := Try.prog) w 22 5 i0 _ Try.underlying22 hi0 hz0 .i64 .i64 (n : Int) ((n : Int) + 1) (by omega) (by omega) (by rw [hz2]; omega) (by omega)
  have e : (Value.int IntKind.u8 0).cells = #[Value.int IntKind.u8 0] := rfl
  rw [hz1, e] at hr
  rw [← made_eq]
  simpa using hr

theorem byte_size : (Try.prog.info? 5).map (·.size) = some 1 := by kernel_rfl
theorem copy_pos {w : World} {B : Nat} {A : Option Addr} {l : List Int} (hr : Rd .u8 w B A l) {g : Nat} : 0 < (vs .u8 l).length → (some ⟨g, 0, none⟩ : Option Addr) = some ⟨g, 0, none⟩ ∧ ∃ ad, A = some ad ∧ ∀ j v, (vs .u8 l)[j]? = some v → w.cell? (ad.add j) = some v := by
  intro h
  refine ⟨rfl, ?_⟩
  rcases hr with rfl | ⟨b, off, hA, _, hc⟩
  · simp [vs] at h
  · refine ⟨_, hA, fun j v hv => ?_⟩
    obtain ⟨x, hx, rfl⟩ := at_vs hv
    rw [add_none]
    exact hc j x hx

theorem run_copy (w w0 : World) (A : Option Addr) (c B g : Nat) (l cur : List Int) (ty : TypeId) (hr : Rd .u8 w B A l) (hA : Arr w g cur) (hl : l.length ≤ cur.length) (hB : Below w0.heap.size w0 w) (hg : w0.heap.size ≤ g) (d : Nat) :
    ∃ w2, (Builtin.copy_ #[22, 22] ty #[.slice (some ⟨g, 0, none⟩) l.length d, .slice A l.length c]).run Try.prog w = .ok (.int .i64 l.length) w2 ∧ Arr w2 g (l ++ cur.drop l.length) ∧ Below w0.heap.size w0 w2 := by
  by_cases h0 : l = []
  · subst h0
    refine ⟨w, ?_, by simpa using hA, hB⟩
    exact run_copy_none (P := Try.prog) w 22 22 ty 5 (some ⟨g, 0, none⟩) A 0 d 0 c Try.underlying22 byte_size rfl
  · have hpos : 0 < (vs .u8 l).length := by rw [vs_length]; exact List.length_pos_iff.2 h0
    obtain ⟨_, ad, rfl, hsrc⟩ := copy_pos hr (g := g) hpos
    have hrun := run_copy_row (P := Try.prog) w 22 22 ty 5 g 0 l.length d ad l.length c (vs .u8 cur).toArray 5 (vs .u8 l) Try.underlying22 byte_size hA (by rw [vs_length]; exact (Nat.min_self _).symm) hsrc (by simp [vs]; omega) (vs_one .u8 l)
    rw [vs_length] at hrun
    refine ⟨_, hrun, ?_, below_setRow hB hg _⟩
    have h2 := setRow_heap w g (vs .u8 cur).toArray (List.take 0 (vs .u8 cur).toArray.toList ++ vs .u8 l ++ List.drop (0 + l.length) (vs .u8 cur).toArray.toList).toArray 5 (0, 0) hA
    unfold Arr
    rw [h2]
    simp [vs]

set_option maxHeartbeats 800000 in
theorem lent_any (A : Option Addr) (c : Nat) (l : List Int) (w : World) (B : Nat) (hr : Rd .u8 w B A l) (hB : B ≤ w.heap.size) (hl : (l.length : Int) ≤ 100000) :
    Calls Try.prog 8 #[.slice A l.length c] w (LentAns w l) := by
  have hmk := run_make1 l.length hl
  obtain ⟨w2, hrun, hA2, hB2⟩ := run_copy (w.alloc (.cells (vs .u8 (List.replicate (l.length + 1) 0)).toArray 5)) w A c B w.heap.size l (List.replicate (l.length + 1) 0) 3 (hr.alloc hB _) (heap_alloc_new w _) (by simp) ((Below.refl _ _).alloc (Nat.le_refl _) _) (Nat.le_refl _) (l.length + 1)
  rw [show (List.replicate (l.length + 1) (0 : Int)).drop l.length = [0] by rw [List.drop_replicate, show l.length + 1 - l.length = 1 by omega]; rfl] at hA2
  have hc : w2.cell? ⟨w.heap.size, l.length, none⟩ = some (.int .u8 0) := hA2.cell (by simp)
  have hf := hA2.frozen l.length
  have HA3 := Lib.hid (hA2.set l.length 77)
  have HB2 := Lib.hid (hB2.setCell (p := ⟨w.heap.size, l.length, none⟩) (Nat.le_refl _) (.int .u8 77))
  clear hr hA2 hB2
  go_enter Try.func8, Try.ntmps8
  go_wp2
  go_ret
  refine ⟨w.heap.size, rfl, Nat.le_refl _, Lib.hid ?_, HB2⟩
  have := HA3.out
  rw [List.set_append_right _ _ (Nat.le_refl _), Nat.sub_self] at this
  exact this

theorem kept_any (A : Option Addr) (c : Nat) (l : List Int) (g : Nat) (w : World) (B : Nat) (hr : Rd .u8 w B A l) (hl : (l.length : Int) ≤ 100000) (hA : Arr w g (l ++ [77])) :
    Calls Try.prog 13 #[.slice (some ⟨g, 0, none⟩) l.length (l.length + 1), .slice A l.length c] w fun e w' => e = .returned (.bool true) ∧ w = w' := by
  have h1 := conv (l.length + 1) hA.rd
  have h2 := conv c hr
  have hc : w.cell? ⟨g, l.length, none⟩ = some (.int .u8 77) := hA.cell (by simp)
  clear hr hA
  go_enter Try.func13, Try.ntmps13
  go_wp2
  go_ret
  exact ⟨rfl, rfl⟩
end Go.Proofs.Ytgandkgcnackkaa.Con
