/-
  Plain mathematics for the product by digits: numbers as digits in base 2 to the 16.
-/
import Derived.Test.YtijobbdgiaiocaaCon
namespace Go.Proofs.Ytijobbdgiaiocaa.Num

/-- The number that the first n digits make, the lowest first, in base 65536. -/
def val (f : Nat → Int) : Nat → Int
  | 0 => 0
  | n + 1 => val f n + f n * 65536 ^ n

/-- The digits with one of them put anew. -/
def upd (f : Nat → Int) (i : Nat) (v : Int) : Nat → Int := fun j => if j = i then v else f j

theorem val_congr {f g : Nat → Int} (n : Nat) (h : ∀ j, j < n → f j = g j) : val f n = val g n := by
  induction n with
  | zero => rfl
  | succ n ih => simp only [val]; rw [ih (fun j hj => h j (by omega)), h n (by omega)]

theorem val_upd_ge (f : Nat → Int) (i : Nat) (v : Int) (n : Nat) (h : n ≤ i) : val (upd f i v) n = val f n :=
  val_congr n fun j hj => by unfold upd; rw [if_neg (by omega)]

theorem val_upd_lt (f : Nat → Int) (i : Nat) (v : Int) (n : Nat) (h : i < n) : val (upd f i v) n = val f n + (v - f i) * 65536 ^ i := by
  induction n with
  | zero => omega
  | succ n ih =>
    simp only [val]
    by_cases e : i = n
    · subst e
      rw [val_upd_ge _ _ _ _ (Nat.le_refl _)]
      have : upd f i v i = v := by unfold upd; rw [if_pos rfl]
      rw [this, Int.sub_mul]; omega
    · rw [ih (by omega)]
      have : upd f i v n = f n := by unfold upd; rw [if_neg (by omega)]
      rw [this]; omega

/-- The digits of a number, without its sign. -/
def dig (a : Int) (j : Nat) : Int := if j < 4 then ((a.natAbs / 65536 ^ j % 65536 : Nat) : Int) else 0

theorem dig_in (a : Int) (j : Nat) : 0 ≤ dig a j ∧ dig a j ≤ 65535 := by
  unfold dig
  split
  · have := Nat.mod_lt (a.natAbs / 65536 ^ j) (show 0 < 65536 by decide); omega
  · omega

theorem val_dig (a : Int) (h : a.natAbs ≤ 9223372036854775808) : val (dig a) 5 = a.natAbs := by
  have h0 : val (dig a) 5 = dig a 0 + dig a 1 * 65536 + dig a 2 * 4294967296 + dig a 3 * 281474976710656 := by
    have h4 : dig a 4 = 0 := rfl
    simp only [val, h4]; omega
  rw [h0]
  simp only [dig]
  simp
  omega

/-- One digit of the product, and what is carried: S is what the digits make, T what they ought to. -/
theorem step (S c z x y T P : Int) (h : S + c * P = T) :
    (S + ((z + x * y + c) % 65536 - z) * P) + ((z + x * y + c) / 65536) * (P * 65536) = T + x * y * P := by
  have e : (z + x * y + c) % 65536 = (z + x * y + c) - 65536 * ((z + x * y + c) / 65536) := by omega
  rw [e]
  generalize (z + x * y + c) / 65536 = q
  generalize x * y = m
  subst h
  grind

end Go.Proofs.Ytijobbdgiaiocaa.Num
