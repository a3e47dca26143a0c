/-
  Plain mathematics of walks: where one comes, how many steps it took, and how far the goal still is.
-/
import Derived.Test.YtccfoeokadggaaaTwd
import Derived.Test.YtccfoeokadggaaaAlk
namespace Go.Proofs.Ytccfoeokadggaaa.Con
open Wlk

theorem far_small {a b : Int} (h1 : 0 ≤ a ∧ a ≤ 256) (h2 : 0 ≤ b ∧ b ≤ 256) : far a b = ((b - a).natAbs : Int) := by
  unfold far
  split
  · rw [held_in ⟨by omega, by omega⟩]; omega
  · rw [held_in ⟨by omega, by omega⟩]; omega
theorem stp_dist {ax ay bx by' : Int} (h1 : 0 ≤ ax ∧ ax ≤ 256) (h2 : 0 ≤ ay ∧ ay ≤ 256) (h3 : 0 ≤ bx ∧ bx ≤ 256) (h4 : 0 ≤ by' ∧ by' ≤ 256) : stp ax ay bx by' = (dist ax ay bx by' : Int) := by
  unfold stp dist
  rw [far_small h1 h3, far_small h2 h4]
  split <;> split <;> omega
theorem dist_gone {ax ay bx by' : Int} {j : Nat} (hj : j ≤ dist ax ay bx by') : dist ax ay (it bx j ax) (it by' j ay) = j := by
  have h1 := it_gone bx ax j
  have h2 := it_gone by' ay j
  unfold dist at hj ⊢
  rw [h1, h2]
  split at hj <;> split <;> split <;> (try split) <;> omega

/-- What holds of where one comes. -/
structure Came (W H : Int) (l : List Bool) (ax ay bx by' n m px py : Int) : Prop where
  tile : inB W H l.length px py = true
  few : stp ax ay px py ≤ n
  nearer : stp px py bx by' = stp ax ay bx by' - stp ax ay px py
  free : ¬ (px = ax ∧ py = ay) → wallB W H l px py = false
  more : tow W H l ax ay bx by' (n + m) = tow W H l px py bx by' m
  ends : stp ax ay px py = n ∨ (px = bx ∧ py = by') ∨ tow W H l px py bx by' 1 = (px, py)
  none' : n = 0 → px = ax ∧ py = ay

theorem side_of {W H : Int} {k : Nat} {x y : Int} (h : inB W H k x y = true) : rightB W H k = true ∧ 0 ≤ x ∧ x < W ∧ 0 ≤ y ∧ y < H := by
  unfold inB at h
  simp only [Bool.and_eq_true, decide_eq_true_eq] at h
  exact ⟨h.1.1.1.1, h.1.1.1.2, h.1.1.2, h.1.2, h.2⟩

theorem came {W H : Int} {l : List Bool} {ax ay bx by' n m : Int} (ha : inB W H l.length ax ay = true) (hb : inB W H l.length bx by' = true) (hn : 0 ≤ n) (hm : 0 ≤ m) :
    Came W H l ax ay bx by' n m (tow W H l ax ay bx by' n).1 (tow W H l ax ay bx by' n).2 := by
  have e : tow W H l ax ay bx by' n = tw (fun p => wallB W H l p.1 p.2) (bx, by') n.toNat (ax, ay) := by unfold tow; rw [ha, hb]; rfl
  obtain ⟨j, j1, j2, j3, j4, j5⟩ := tw_ends (fun p => wallB W H l p.1 p.2) ax ay bx by' n.toNat
  have sa := side_of ha
  have sb := side_of hb
  have ta := at_in ha
  have tb := at_in hb
  rw [e, j3]
  have px := it_in bx ax j (lo := 0) (hi := W - 1) (by omega) (by omega) (by omega) (by omega)
  have py := it_in by' ay j (lo := 0) (hi := H - 1) (by omega) (by omega) (by omega) (by omega)
  have hP : inB W H l.length (pos ax ay bx by' j).1 (pos ax ay bx by' j).2 = true := by
    unfold inB pos
    simp only [Bool.and_eq_true, decide_eq_true_eq]
    exact ⟨⟨⟨⟨sa.1, by omega⟩, by omega⟩, by omega⟩, by omega⟩
  have k1 : stp ax ay (pos ax ay bx by' j).1 (pos ax ay bx by' j).2 = (j : Int) := by
    unfold pos
    rw [stp_dist (by omega) (by omega) (by simp only; omega) (by simp only; omega), dist_gone j2]
  have k2 : stp (pos ax ay bx by' j).1 (pos ax ay bx by' j).2 bx by' = ((dist ax ay bx by' - j : Nat) : Int) := by
    unfold pos
    rw [stp_dist (by simp only; omega) (by simp only; omega) (by omega) (by omega)]
    simp only
    rw [dist_pos]
  have k3 : stp ax ay bx by' = (dist ax ay bx by' : Int) := stp_dist (by omega) (by omega) (by omega) (by omega)
  have tP : ∀ i, tow W H l (pos ax ay bx by' j).1 (pos ax ay bx by' j).2 bx by' i = tw (fun p => wallB W H l p.1 p.2) (bx, by') i.toNat (pos ax ay bx by' j) := fun i => by
    unfold tow; rw [hP, hb]; rfl
  refine ⟨hP, by rw [k1]; omega, by rw [k1, k2, k3]; omega, fun hne => ?_, ?_, ?_, fun h0 => ?_⟩
  · cases j with
    | zero => rw [pos_zero] at hne; exact (hne ⟨rfl, rfl⟩).elim
    | succ i => exact j4 i (by omega)
  · rw [tP m]
    have e2 : tow W H l ax ay bx by' (n + m) = tw (fun p => wallB W H l p.1 p.2) (bx, by') (n + m).toNat (ax, ay) := by unfold tow; rw [ha, hb]; rfl
    rw [e2, show (n + m).toNat = n.toNat + m.toNat by omega, tw_add, j3]
  · rcases j5 with h | h | h
    · exact .inl (by rw [k1]; omega)
    · refine .inr (.inl ?_)
      have := pos_end (ax := ax) (ay := ay) (bx := bx) (by' := by') (k := j) (by omega)
      rw [this]
      exact ⟨rfl, rfl⟩
    · refine .inr (.inr ?_)
      rw [tP 1]
      rw [pos_succ] at h
      exact tw_wall h _
  · have : j = 0 := by omega
    subst this
    rw [pos_zero]
    exact ⟨rfl, rfl⟩
end Go.Proofs.Ytccfoeokadggaaa.Con
