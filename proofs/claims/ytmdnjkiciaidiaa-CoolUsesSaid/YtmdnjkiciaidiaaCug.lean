/-
  The document's way to put a Back into a row, as plain mathematics. No memory, no program.
-/
import Derived.Test.YtmdnjkiciaidiaaCup
namespace Go.Proofs.Ytmdnjkiciaidiaa.Con

/-- What is still to come of the row that is answered: `pt` tells whether the Back is in it. -/
def gP (id : Int) (P : List Int) : Bool → List Cp → List Cp
  | pt, [] => if pt = true then [] else [(id, P)]
  | true, x :: r => if x.1 = id then gP id P true r else x :: gP id P true r
  | false, x :: r => if x.1 < id then x :: gP id P false r else (id, P) :: (if x.1 = id then gP id P true r else x :: gP id P true r)
theorem gP_true (id : Int) (P : List Int) : ∀ l : List Cp, gP id P true l = rsI l id
  | [] => rfl
  | x :: r => by
    have ih := gP_true id P r
    unfold rsI at ih ⊢
    show (if x.1 = id then gP id P true r else x :: gP id P true r) = _
    by_cases e : x.1 = id
    · rw [if_pos e, List.filter_cons_of_neg (by simpa using e), ih]
    · rw [if_neg e, List.filter_cons_of_pos (by simpa using e), ih]
theorem rs_all {id : Int} {l : List Cp} (h : ∀ x ∈ l, x.1 ≠ id) : rsI l id = l := List.filter_eq_self.2 (fun x hx => by simpa using h x hx)
theorem gP_put {id : Int} {P : List Int} : ∀ {l : List Cp}, RtC l → gP id P (decide (P.length = 0)) l = putI l id P
  | [], _ => by
    show (if decide (P.length = 0) = true then [] else [(id, P)]) = oneI id P
    unfold oneI
    by_cases e : P.length = 0
    · rw [if_pos (by simpa using e), if_pos e]
    · rw [if_neg (by simpa using e), if_neg e]
  | x :: r, h => by
    have ih := gP_put (id := id) (P := P) (rt_tail h)
    have hx := List.pairwise_cons.1 h.2
    have hr : id ≤ x.1 → rsI r id = r := fun g => rs_all (fun y hy e => by have := hx.1 y hy; omega)
    have hrr : id ≤ x.1 → (if x.1 = id then rsI r id else x :: rsI r id) = if x.1 = id then r else x :: r := fun g => by rw [hr g]
    show _ = if x.1 < id then x :: putI r id P else oneI id P ++ (if x.1 = id then r else x :: r)
    by_cases e : P.length = 0
    · have hd : decide (P.length = 0) = true := by simpa using e
      rw [hd] at ih ⊢
      show (if x.1 = id then gP id P true r else x :: gP id P true r) = _
      by_cases g : x.1 < id
      · rw [if_pos g, if_neg (by omega), ih]
      · rw [if_neg g, gP_true, hrr (by omega)]
        unfold oneI
        rw [if_pos e]; rfl
    · have hd : decide (P.length = 0) = false := by simpa using e
      rw [hd] at ih ⊢
      show (if x.1 < id then x :: gP id P false r else (id, P) :: (if x.1 = id then gP id P true r else x :: gP id P true r)) = _
      by_cases g : x.1 < id
      · rw [if_pos g, if_pos g, ih]
      · rw [if_neg g, if_neg g, gP_true, hrr (by omega)]
        unfold oneI
        rw [if_neg e]; rfl
end Go.Proofs.Ytmdnjkiciaidiaa.Con
