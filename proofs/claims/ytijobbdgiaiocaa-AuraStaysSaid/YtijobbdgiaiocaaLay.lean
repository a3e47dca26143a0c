/-
  The library's contract of slices.BinarySearch at numbers, laid at this program's numbers.
-/
import Derived.Test.YtijobbdgiaiocaaElm
import Derived.Shelf.Slices.SearchI
namespace Go.Proofs.Ytijobbdgiaiocaa.Con
open Go.Shelf Go.RowKit Go.Maps

def lsBin_ren : Go.Shelf.Ren := ⟨fun | 25 => 45 | 31 => 57 | 32 => 58 | 37 => 76 | n => n, fun | 22 => 77 | 40 => 91 | n => n, fun | n => n⟩
theorem lsBin : Lays2.n25 Try.prog lsBin_ren := {
  mixed := by kernel_rfl
  f25 := Try.func45.trans (congrArg some (by kernel_rfl))
  f31 := Try.func57.trans (congrArg some (by kernel_rfl))
  f32 := Try.func58.trans (congrArg some (by kernel_rfl))
  f37 := Try.func76.trans (congrArg some (by kernel_rfl))
  t0 := Try.underlying0
  a0 := Try.isAgg0
  z0 := Try.sizeOf0
  v0 := Try.zeroValue0
  t3 := Try.underlying3
  a3 := Try.isAgg3
  z3 := Try.sizeOf3
  v3 := Try.zeroValue3
  t4 := Try.underlying4
  a4 := Try.isAgg4
  z4 := Try.sizeOf4
  v4 := Try.zeroValue4
  t22 := Try.underlying77
  a22 := Try.isAgg77
  z22 := Try.sizeOf77
  v22 := Try.zeroValue77
  t40 := Try.underlying91
  a40 := Try.isAgg91
  z40 := Try.sizeOf91
  v40 := Try.zeroValue91 }
theorem bin_nil (c : Nat) (x : Int) (w : World) :
    Calls Try.prog 45 #[.slice none 0 c, .int .i64 x] w fun e w' => e = .returned (.tuple #[.int .i64 0, .bool false]) ∧ w' = w := by
  go_enter Try.func45, Try.ntmps45
  go_wp2
  go_loopg [7, 8] 1 (fun gh s7 s8 wr => gh = 1 ∧ s7 = .int .i64 0 ∧ s8 = .int .i64 0 ∧ wr = w)
  case atStart => exact ⟨rfl, rfl, rfl, rfl⟩
  case round =>
    obtain ⟨rfl, rfl, rfl, rfl⟩ := hrel
    go_wp2
    go_ret2
    exact ⟨rfl, rfl⟩
/-- Is it there? Of a row that rises. -/
theorem bin_any {w : World} {A : Option Addr} {c n : Nat} {G : List Int} (x : Int) (hA : (A = none ∧ G = []) ∨ ∃ b, A = some ⟨b, 0, none⟩) (hr : ∀ (j : Nat) y, G[j]? = some y → ∀ b, A = some ⟨b, 0, none⟩ → w.cell? ⟨b, j, none⟩ = some (.int .i64 y)) (hn : G.length = n) (hb : n ≤ 1000000) (hs : G.Pairwise (· < ·)) :
    Calls Try.prog 45 #[.slice A n c, .int .i64 x] w fun e w' => (∃ i : Int, e = .returned (.tuple #[.int .i64 i, .bool (decide (x ∈ G))])) ∧ Below w.heap.size w w' := by
  subst hn
  rcases hA with ⟨rfl, rfl⟩ | ⟨b, rfl⟩
  · exact (bin_nil c x w).mono fun e w' h => ⟨⟨0, by rw [h.1]; simp⟩, by rw [h.2]; exact Below.refl _ _⟩
  · have h := Go.Proofs.Any.slices_BinarySearch_int lsBin b 0 G.length c G x w (Nat.le_refl _) (by omega) (fun j hj => by
      rw [Nat.zero_add]
      have := hr j _ (List.getElem?_eq_getElem hj) b rfl
      rw [this, List.getD_eq_getElem?_getD, List.getElem?_eq_getElem hj]; rfl) (by rw [List.take_length]; exact hs.imp (fun h => Int.le_of_lt h))
    rw [List.take_length] at h
    have e2 : G.contains x = decide (x ∈ G) := by rw [Bool.eq_iff_iff]; simp
    rw [e2] at h
    refine h.mono fun e w' h => ⟨⟨_, h.1⟩, ?_⟩
    obtain ⟨q, rfl⟩ := h.2
    exact below_drewN (Below.refl _ _) q
end Go.Proofs.Ytijobbdgiaiocaa.Con
