/-
  The contract of the document's own product by digits (barrowref01.Mul).
-/
import Derived.Test.YtijobbdgiaiocaaBig
import Derived.Deep.LoopGhost
import Derived.Deep.QuietTactic
import Derived.BigQuiet
namespace Go.Proofs.Ytijobbdgiaiocaa.Con
open Go.RowKit Num

/-- The memory of the product: the two factors' digits, and the product's. -/
structure MulAt (a b : Int) (w wr : World) (bx by' bz : Nat) (zf : Nat → Int) : Prop where
  grown : Gr w wr
  lx : bx < bz
  ly : by' < bz
  lz : w.heap.size ≤ bz
  x : wr.rowIs bx 94 5 (fun j => .int .i64 (dig a j))
  y : wr.rowIs by' 94 5 (fun j => .int .i64 (dig b j))
  z : wr.rowIs bz 96 10 (fun j => .int .i64 (zf j))
  dz : ∀ j, 0 ≤ zf j ∧ zf j ≤ 65535

theorem mul_set {a b : Int} {w wr : World} {bx by' bz : Nat} {zf : Nat → Int} (h : MulAt a b w wr bx by' bz zf) (i : Nat) (v : Int) (hv : 0 ≤ v ∧ v ≤ 65535) :
    MulAt a b w (wr.setCell ⟨bz, i, none⟩ (.int .i64 v)) bx by' bz (upd zf i v) := by
  have l1 := h.lx
  have l2 := h.ly
  refine ⟨h.grown.setCell h.lz _, l1, l2, h.lz, h.x.setOther (by show bx ≠ bz; omega) _, h.y.setOther (by show by' ≠ bz; omega) _, (h.z.set i _).congr (fun j _ => ?_), fun j => ?_⟩
  · unfold upd; split <;> rfl
  · unfold upd; split
    · exact hv
    · exact h.dz j
theorem mul_drew {a b : Int} {w wr : World} {bx by' bz : Nat} {zf : Nat → Int} (h : MulAt a b w wr bx by' bz zf) : MulAt a b w wr.drew bx by' bz zf :=
  ⟨h.grown.drew, h.lx, h.ly, h.lz, h.x.drew, h.y.drew, h.z.drew, h.dz⟩

theorem mul_drewN {a b : Int} {w wr : World} {bx by' bz : Nat} {zf : Nat → Int} (h : MulAt a b w wr bx by' bz zf) (n : Nat) : MulAt a b w (wr.drewN n) bx by' bz zf :=
  ⟨h.grown.drewN n, h.lx, h.ly, h.lz, h.x, h.y, h.z, h.dz⟩

theorem rowIs5_alloc (w : World) (v0 v1 v2 v3 v4 : Value) (t : TypeId) (f : Nat → Value) (h0 : v0 = f 0) (h1 : v1 = f 1) (h2 : v2 = f 2) (h3 : v3 = f 3) (h4 : v4 = f 4) : (w.alloc (Obj.cells #[v0, v1, v2, v3, v4] t)).rowIs w.heap.size t 5 f := by
  refine World.rowIs_alloc w _ t f ?_
  intro i hi
  match i, hi with
  | 0, _ => simp [h0]
  | 1, _ => simp [h1]
  | 2, _ => simp [h2]
  | 3, _ => simp [h3]
  | 4, _ => simp [h4]

theorem mul_start (a b : Int) (w w1 w2 : World) (h1 : Gr w w1)
    (h2 : Gr (w1.alloc (Obj.cells #[Value.int IntKind.i64 (dig a 0), Value.int IntKind.i64 (dig a 1), Value.int IntKind.i64 (dig a 2), Value.int IntKind.i64 (dig a 3), Value.int IntKind.i64 (dig a 4)] 94)) w2) :
    MulAt a b w ((w2.alloc (Obj.cells #[Value.int IntKind.i64 (dig b 0), Value.int IntKind.i64 (dig b 1), Value.int IntKind.i64 (dig b 2), Value.int IntKind.i64 (dig b 3), Value.int IntKind.i64 (dig b 4)] 94)).alloc (Obj.cells #[Value.int IntKind.i64 0, Value.int IntKind.i64 0, Value.int IntKind.i64 0, Value.int IntKind.i64 0, Value.int IntKind.i64 0, Value.int IntKind.i64 0, Value.int IntKind.i64 0, Value.int IntKind.i64 0, Value.int IntKind.i64 0, Value.int IntKind.i64 0] 96)) w1.heap.size w2.heap.size (w2.heap.size + 1) (fun _ => 0) := by
  have s2 := (Below.size h2)
  have s1 := (Below.size h1)
  simp at s2
  refine ⟨((grown_trans (h1.alloc _ _) h2).alloc _ _).alloc _ _, by omega, by omega, by omega, ?_, ?_, ?_, fun j => by omega⟩
  · refine World.rowIs.alloc (World.rowIs.alloc ?_ _) _
    refine (rowIs5_alloc w1 _ _ _ _ _ 94 _ rfl rfl rfl rfl rfl).of_block ?_
    exact grown_block h2 (by simp)
  · refine World.rowIs.alloc ?_ _
    exact rowIs5_alloc w2 _ _ _ _ _ 94 (fun j => .int .i64 (dig b j)) rfl rfl rfl rfl rfl
  · have := World.rowIs_alloc (w2.alloc (Obj.cells #[Value.int IntKind.i64 (dig b 0), Value.int IntKind.i64 (dig b 1), Value.int IntKind.i64 (dig b 2), Value.int IntKind.i64 (dig b 3), Value.int IntKind.i64 (dig b 4)] 94)) #[Value.int IntKind.i64 0, Value.int IntKind.i64 0, Value.int IntKind.i64 0, Value.int IntKind.i64 0, Value.int IntKind.i64 0, Value.int IntKind.i64 0, Value.int IntKind.i64 0, Value.int IntKind.i64 0, Value.int IntKind.i64 0, Value.int IntKind.i64 0] 96 (fun _ => .int .i64 0) ?_
    · simpa using this
    · intro i hi
      match i, hi with
      | 0, _ => rfl
      | 1, _ => rfl
      | 2, _ => rfl
      | 3, _ => rfl
      | 4, _ => rfl
      | 5, _ => rfl
      | 6, _ => rfl
      | 7, _ => rfl
      | 8, _ => rfl
      | 9, _ => rfl

/-- What holds at the head of the outer loop: i rows of the product are summed. -/
def Outer (a b : Int) (w wr : World) (bx by' bz i : Nat) : Prop :=
  ∃ zf : Nat → Int, MulAt a b w wr bx by' bz zf ∧ val zf 10 = val (dig a) i * val (dig b) 5 ∧ ∀ j, i + 5 ≤ j → zf j = 0
/-- What holds at the head of the inner loop: of row i k digits are done, c is carried. -/
def Inner (a b : Int) (w wr : World) (bx by' bz i k : Nat) (c : Int) (zf : Nat → Int) : Prop :=
  MulAt a b w wr bx by' bz zf ∧ val zf 10 + c * 65536 ^ (i + k) = val (dig a) i * val (dig b) 5 + dig a i * val (dig b) k * 65536 ^ i ∧ ∀ j, i + 5 ≤ j → zf j = 0

theorem inner_start {a b : Int} {w wr : World} {bx by' bz i : Nat} {zf : Nat → Int} (h : MulAt a b w wr bx by' bz zf) (hv : val zf 10 = val (dig a) i * val (dig b) 5) (h0 : ∀ j, i + 5 ≤ j → zf j = 0) :
    Inner a b w wr bx by' bz i 0 0 zf := ⟨h, by rw [hv]; simp [val], h0⟩

theorem inner_step {a b : Int} {w wr : World} {bx by' bz i k : Nat} {c : Int} {zf : Nat → Int} (h : Inner a b w wr bx by' bz i k c zf) (hi : i < 4) (hk : k < 5) :
    Inner a b w (wr.setCell ⟨bz, i + k, none⟩ (.int .i64 ((zf (i + k) + dig a i * dig b k + c) % 65536))) bx by' bz i (k + 1) ((zf (i + k) + dig a i * dig b k + c) / 65536) (upd zf (i + k) ((zf (i + k) + dig a i * dig b k + c) % 65536)) := by
  obtain ⟨hM, hv, h0⟩ := h
  refine ⟨mul_set hM _ _ (by omega), ?_, fun j hj => ?_⟩
  · rw [val_upd_lt _ _ _ _ (by omega), ← Nat.add_assoc, Int.pow_succ, Num.step _ _ _ _ _ _ _ hv]
    simp only [val]
    rw [Int.pow_add]
    generalize (65536 : Int) ^ i = p
    generalize (65536 : Int) ^ k = q
    grind
  · unfold upd
    rw [if_neg (by omega)]
    exact h0 j hj

theorem inner_drewN {a b : Int} {w wr : World} {bx by' bz i k : Nat} {c : Int} {zf : Nat → Int} (h : Inner a b w wr bx by' bz i k c zf) (n : Nat) : Inner a b w (wr.drewN n) bx by' bz i k c zf :=
  ⟨mul_drewN h.1 n, h.2.1, h.2.2⟩

theorem carry_in {z x y c : Int} (hz : 0 ≤ z ∧ z ≤ 65535) (hp : 0 ≤ x * y ∧ x * y ≤ 65535 * 65535) (hc : 0 ≤ c ∧ c ≤ 65535) : 0 ≤ (z + x * y + c) / 65536 ∧ (z + x * y + c) / 65536 ≤ 65535 := by
  generalize x * y = m at *
  omega

theorem inner_done {a b : Int} {w wr : World} {bx by' bz i : Nat} {c : Int} {zf : Nat → Int} (h : Inner a b w wr bx by' bz i 5 c zf) (hi : i < 4) (hc : 0 ≤ c ∧ c ≤ 65535) :
    Outer a b w (wr.setCell ⟨bz, i + 5, none⟩ (.int .i64 (zf (i + 5) + c))) bx by' bz (i + 1) := by
  obtain ⟨hM, hv, h0⟩ := h
  have hz : zf (i + 5) = 0 := h0 _ (Nat.le_refl _)
  refine ⟨upd zf (i + 5) (zf (i + 5) + c), mul_set hM _ _ (by omega), ?_, fun j hj => ?_⟩
  · rw [val_upd_lt _ _ _ _ (by omega), hz]
    have e : (0 + c - 0) = c := by omega
    rw [e, hv]
    show _ = (val (dig a) i + dig a i * 65536 ^ i) * val (dig b) 5
    generalize val (dig b) 5 = y
    generalize (65536 : Int) ^ i = p
    grind
  · unfold upd
    rw [if_neg (by omega)]
    exact h0 j (by omega)

/-- Is one of the n digits from the fifth on not 0? -/
def ov (f : Nat → Int) : Nat → Bool
  | 0 => false
  | n + 1 => ov f n || f (n + 4) != 0

theorem val_nonneg {f : Nat → Int} (h : ∀ j, 0 ≤ f j ∧ f j ≤ 65535) (n : Nat) : 0 ≤ val f n := by
  induction n with
  | zero => simp [val]
  | succ n ih =>
    simp only [val]
    have := Int.mul_nonneg (h n).1 (show (0 : Int) ≤ 65536 ^ n from Int.pow_nonneg (by omega))
    omega

theorem ov_true {f : Nat → Int} (h : ∀ j, 0 ≤ f j ∧ f j ≤ 65535) (n : Nat) (ho : ov f n = true) : 18446744073709551616 ≤ val f (n + 4) := by
  induction n with
  | zero => simp [ov] at ho
  | succ n ih =>
    simp only [ov, Bool.or_eq_true, bne_iff_ne] at ho
    have e : val f (n + 1 + 4) = val f (n + 4) + f (n + 4) * 65536 ^ (n + 4) := by rw [show n + 1 + 4 = (n + 4) + 1 by omega]; rfl
    have p : (1 : Int) ≤ 65536 ^ n := by have := Int.pow_pos (n := 65536) (m := n) (by omega); omega
    have p4 : (65536 : Int) ^ (n + 4) = 65536 ^ n * 18446744073709551616 := by rw [Int.pow_add, show (65536 : Int) ^ 4 = 18446744073709551616 by decide]
    rcases ho with ho | ho
    · have := ih ho
      have := Int.mul_nonneg (h (n + 4)).1 (show (0 : Int) ≤ 65536 ^ (n + 4) from Int.pow_nonneg (by omega))
      omega
    · have h1 : 1 ≤ f (n + 4) := by have := (h (n + 4)).1; omega
      have h2 : (1 : Int) * 65536 ^ (n + 4) ≤ f (n + 4) * 65536 ^ (n + 4) := Int.mul_le_mul_of_nonneg_right h1 (Int.pow_nonneg (by omega))
      have := val_nonneg h (n + 4)
      omega

theorem ov_false {f : Nat → Int} (n : Nat) (ho : ov f n = false) : val f (n + 4) = val f 4 := by
  induction n with
  | zero => rfl
  | succ n ih =>
    simp only [ov, Bool.or_eq_false_iff] at ho
    have h0 : f (n + 4) = 0 := by simpa using ho.2
    have e : val f (n + 1 + 4) = val f (n + 4) + f (n + 4) * 65536 ^ (n + 4) := by rw [show n + 1 + 4 = (n + 4) + 1 by omega]; rfl
    rw [e, h0, ih ho.1]; omega

/-- What the last loop knows with m digits to come: v is what the digits above them make, turned round; or the whole is beyond the lowest number. -/
def VAt (f : Nat → Int) (o : Bool) (v : Int) (m : Nat) : Prop :=
  (o = false → val f 10 = val f m + -v * 65536 ^ m ∧ -9223372036854775808 ≤ v ∧ v ≤ 0) ∧ (o = true → 9223372036854775808 < val f 10)

theorem vat_start {f : Nat → Int} (h : ∀ j, 0 ≤ f j ∧ f j ≤ 65535) {o : Bool} (ho : o = ov f 6) : VAt f o 0 4 := by
  refine ⟨fun e => ⟨?_, by omega, by omega⟩, fun e => ?_⟩
  · have := ov_false (f := f) 6 (by rw [← ho, e])
    rw [this]; simp
  · have : 18446744073709551616 ≤ val f 10 := ov_true h 6 (by rw [← ho, e])
    omega

theorem vtest {v z : Int} (hz : 0 ≤ z ∧ z ≤ 65535) : v < Int.tdiv (-9223372036854775808 + z) 65536 ↔ 65536 * v - z < -9223372036854775808 := by
  have e : Int.tdiv (-9223372036854775808 + z) 65536 = -((9223372036854775808 - z) / 65536) := by
    rw [show -9223372036854775808 + z = -(9223372036854775808 - z) by omega, Int.neg_tdiv, Int.tdiv_eq_ediv_of_nonneg (by omega)]
  rw [e]; omega

theorem vat_over {f : Nat → Int} (h : ∀ j, 0 ≤ f j ∧ f j ≤ 65535) {v : Int} {m : Nat} (hv : VAt f false v (m + 1)) (ht : 65536 * v - f m < -9223372036854775808) (v' : Int) (m' : Nat) : VAt f true v' m' := by
  refine ⟨fun e => (by cases e), fun _ => ?_⟩
  obtain ⟨h1, h2, h3⟩ := hv.1 rfl
  rw [h1]
  simp only [val]
  have p : (1 : Int) ≤ 65536 ^ m := by have := Int.pow_pos (n := 65536) (m := m) (by omega); omega
  have e : f m * 65536 ^ m + -v * 65536 ^ (m + 1) = (f m - 65536 * v) * 65536 ^ m := by
    rw [Int.pow_succ]; generalize (65536 : Int) ^ m = p; grind
  have q : (f m - 65536 * v) * 1 ≤ (f m - 65536 * v) * 65536 ^ m := Int.mul_le_mul_of_nonneg_left p (by omega)
  have := val_nonneg h m
  omega

theorem vat_step {f : Nat → Int} (h : ∀ j, 0 ≤ f j ∧ f j ≤ 65535) {v : Int} {m : Nat} (hv : VAt f false v (m + 1)) (ht : ¬ 65536 * v - f m < -9223372036854775808) : VAt f false (65536 * v - f m) m := by
  refine ⟨fun _ => ?_, fun e => (by cases e)⟩
  obtain ⟨h1, h2, h3⟩ := hv.1 rfl
  have := (h m).1
  refine ⟨?_, by omega, by omega⟩
  rw [h1]
  simp only [val]
  rw [Int.pow_succ]; generalize (65536 : Int) ^ m = p; grind

theorem outer_done {a b : Int} {w wr : World} {bx by' bz : Nat} (h : Outer a b w wr bx by' bz 4) (ha : Fits a) (hb : Fits b) :
    ∃ zf : Nat → Int, MulAt a b w wr bx by' bz zf ∧ val zf 10 = (a.natAbs : Int) * b.natAbs := by
  obtain ⟨zf, hM, hv, _⟩ := h
  refine ⟨zf, hM, ?_⟩
  unfold Fits at ha hb
  have e : val (dig a) 5 = val (dig a) 4 := by
    have h4 : dig a 4 = 0 := rfl
    show val (dig a) 4 + dig a 4 * 65536 ^ 4 = _
    rw [h4]; omega
  rw [hv, ← e, val_dig a (by omega), val_dig b (by omega)]

theorem abs_same {a b : Int} (h : (a < 0 ∧ b < 0) ∨ (0 ≤ a ∧ 0 ≤ b)) : (a.natAbs : Int) * b.natAbs = a * b := by
  rcases h with ⟨h1, h2⟩ | ⟨h1, h2⟩
  · rw [show (a.natAbs : Int) = -a by omega, show (b.natAbs : Int) = -b by omega, Int.neg_mul_neg]
  · rw [show (a.natAbs : Int) = a by omega, show (b.natAbs : Int) = b by omega]
theorem abs_diff {a b : Int} (h : (a < 0 ∧ 0 ≤ b) ∨ (0 ≤ a ∧ b < 0)) : (a.natAbs : Int) * b.natAbs = -(a * b) := by
  rcases h with ⟨h1, h2⟩ | ⟨h1, h2⟩
  · rw [show (a.natAbs : Int) = -a by omega, show (b.natAbs : Int) = b by omega, Int.neg_mul]
  · rw [show (a.natAbs : Int) = a by omega, show (b.natAbs : Int) = -b by omega, Int.mul_neg]
theorem vat_end {f : Nat → Int} {v : Int} (h : VAt f false v 0) : val f 10 = -v ∧ -9223372036854775808 ≤ v ∧ v ≤ 0 := by
  obtain ⟨h1, h2, h3⟩ := h.1 rfl
  refine ⟨?_, h2, h3⟩
  rw [h1]; simp [val]

set_option maxHeartbeats 4000000 in
set_option maxRecDepth 100000 in
theorem rmul_any (a b : Int) (w : World) (ha : Fits a) (hb : Fits b) :
    Calls Try.prog 48 #[.int .i64 a, .int .i64 b] w fun e w' => e = .returned (.int .i64 (held (a * b))) ∧ Gr w w' := by
  go_enter Try.func48, Try.ntmps48
  go_wp2_with (first
    | ((with_reducible refine (big_any a _ ha).mono ?_); rintro e w1 ⟨rfl, hg1⟩)
    | ((with_reducible refine (big_any b _ hb).mono ?_); rintro e w2 ⟨rfl, hg2⟩))
  have hM := Lib.hid (mul_start a b w w1 w2 hg1 hg2)
  clear hg1 hg2
  go_loopg [8] 4 (fun g s8 wr => ∃ i : Nat, i ≤ 4 ∧ g = 4 - i ∧ s8 = .int .i64 i ∧ Outer a b w wr w1.heap.size w2.heap.size (w2.heap.size + 1) i)
  case atStart => exact ⟨0, by omega, rfl, rfl, _, hM.out, by simp [val], fun _ _ => rfl⟩
  case round =>
    obtain ⟨i, hi, rfl, rfl, hO⟩ := hrel
    clear hM
    by_cases hlt : i < 4
    · have hlt' : (i : Int) < 4 := by omega
      go_wp2
      go_loopg [9, 10] 5 (fun g s9 s10 wi => ∃ (k : Nat) (c : Int) (zf : Nat → Int), k ≤ 5 ∧ g = 5 - k ∧ s9 = .int .i64 c ∧ s10 = .int .i64 k ∧ 0 ≤ c ∧ c ≤ 65535 ∧ Inner a b w wi w1.heap.size w2.heap.size (w2.heap.size + 1) i k c zf)
      case atStart =>
        obtain ⟨zf, hM, hv, h0⟩ := hO
        exact ⟨0, 0, zf, by omega, rfl, rfl, rfl, by omega, by omega, inner_start hM hv h0⟩
      case round =>
        obtain ⟨k, c, zf, hk, rfl, rfl, rfl, hc0, hc1, hI⟩ := hrel
        by_cases hkl : k < 5
        · have cz := hI.1.z.cell (i := i + k) (by omega)
          have cx := hI.1.x.cell (i := i) (by omega)
          have cy := hI.1.y.cell (i := k) (by omega)
          have fz := hI.1.z.frozen (i + k)
          have bz := hI.1.dz (i + k)
          have bx := dig_in a i
          have by' := dig_in b k
          have bp : 0 ≤ dig a i * dig b k ∧ dig a i * dig b k ≤ 65535 * 65535 := ⟨Int.mul_nonneg bx.1 by'.1, Int.mul_le_mul bx.2 by'.2 by'.1 (by omega)⟩
          have HI := Lib.hid hI; clear hI
          have hkl' : (k : Int) < 5 := by omega
          have e1 : IntKind.i64.wrap ((i : Int) + k) = (i : Int) + k := IntWalk.i64_in _ (by omega)
          have e2 : ((i : Int) + k).toNat = i + k := by omega
          have e3 : (0 : Int) ≤ (i : Int) + k := by omega
          have e4 : IntKind.i64.wrap (dig a i * dig b k) = dig a i * dig b k := IntWalk.i64_in _ (by omega)
          have e5 : IntKind.i64.wrap (zf (i + k) + dig a i * dig b k) = zf (i + k) + dig a i * dig b k := IntWalk.i64_in _ (by omega)
          have e6 : IntKind.i64.wrap (zf (i + k) + dig a i * dig b k + c) = zf (i + k) + dig a i * dig b k + c := IntWalk.i64_in _ (by omega)
          have e7 : (i : Int) + k < 10 := by omega
          have e8 : (i : Int) < 5 := by omega
          go_wp2
          go_quiet (fail)
          clear e1 e2 e3 e4 e5 e6 e7 e8
          have hcar := carry_in bz bp ⟨hc0, hc1⟩
          go_wp2
          go_roundg (5 - (k + 1))
          case measure => omega
          case rel => exact ⟨k + 1, _, _, by omega, rfl, rfl, by go_num, hcar.1, hcar.2, inner_step (inner_drewN HI.out _) hlt hkl⟩
        · obtain rfl : k = 5 := by omega
          have hkl' : ¬ ((5 : Nat) : Int) < 5 := by omega
          have cz := hI.1.z.cell (i := i + 5) (by omega)
          have fz := hI.1.z.frozen (i + 5)
          have bz := hI.1.dz (i + 5)
          have HI := Lib.hid hI; clear hI
          go_wp2
          go_roundg (4 - (i + 1))
          case measure => omega
          case rel => exact ⟨i + 1, by omega, rfl, by go_num, inner_done HI.out hlt ⟨hc0, hc1⟩⟩
    · obtain rfl : i = 4 := by omega
      have hlt' : ¬ ((4 : Nat) : Int) < 4 := by omega
      obtain ⟨zf, hM, hv⟩ := outer_done hO ha hb
      clear hO
      have HV := Lib.hid hv; clear hv
      have HM := Lib.hid hM; clear hM
      go_wp2
      go_loop [12, 13] (fun s12 s13 => ∃ (n : Nat) (o : Bool), n ≤ 6 ∧ s13 = .int .i64 (n + 4 : Nat) ∧ s12 = .bool o ∧ Hid (o = ov zf n)) (fun _ s13 => 10 - (intOf s13).toNat)
      case atStart => exact ⟨0, false, by omega, rfl, rfl, rfl⟩
      case round =>
        obtain ⟨n, o, hn, rfl, rfl, ho⟩ := hrel
        by_cases hnl : n < 6
        · have cz := HM.out.z.cell (i := n + 4) (by omega)
          have hnl' : ((n + 4 : Nat) : Int) < 10 := by omega
          cases o
          · by_cases hz : zf (n + 4) = 0
            · have hz' : (zf (n + 4) != 0) = false := by simpa using hz
              have HZ := Lib.hid hz; clear hz
              go_wp2
              go_round
              case rel => exact ⟨n + 1, false, by omega, by go_num, rfl, by show _ = (ov zf n || _); rw [← ho.out]; exact hz'.symm⟩
              case measure => simp [intOf]; omega
            · have hz' : (zf (n + 4) != 0) = true := by simpa using hz
              go_wp2
              go_round
              case rel => exact ⟨n + 1, true, by omega, by go_num, rfl, by show _ = (ov zf n || _); rw [← ho.out]; exact hz'.symm⟩
              case measure => simp [intOf]; omega
          · go_wp2
            go_round
            case rel => exact ⟨n + 1, true, by omega, by go_num, rfl, by show _ = (ov zf n || _); rw [← ho.out]; rfl⟩
            case measure => simp [intOf]; omega
        · obtain rfl : n = 6 := by omega
          by_cases sa : a < 0
          · by_cases sb : b < 0
            · have da : decide (a < 0) = true := by simpa using sa
              have db : decide (b < 0) = true := by simpa using sb
              have hs := Lib.hid (abs_same (a := a) (b := b) (Or.inl ⟨sa, sb⟩))
              have VS := Lib.hid (vat_start HM.out.dz ho.out)
              clear ho
              go_wp2
              go_loop [12, 15, 16] (fun s12 s15 s16 => ∃ (m : Nat) (q v : Int) (o : Bool), m ≤ 4 ∧ s16 = .int .i64 q ∧ Hid (q = (m : Int) - 1) ∧ s15 = .int .i64 v ∧ s12 = .bool o ∧ Hid (VAt zf o v m)) (fun _ _ s16 => (intOf s16 + 1).toNat)
              case atStart => exact ⟨4, 3, 0, _, by omega, rfl, by show (3 : Int) = _; omega, rfl, rfl, VS.out⟩
              case round =>
                obtain ⟨m, q, v, o, hm, rfl, hq, rfl, rfl, hV⟩ := hrel
                clear VS
                cases o
                · cases m with
                  | zero =>
                    obtain rfl : q = -1 := by have := hq.out; omega
                    obtain ⟨x1, x2, x3⟩ := vat_end hV.out
                    have X1 := Lib.hid x1; clear x1
                    by_cases hv : v = -9223372036854775808
                    · have hv' : (v == -9223372036854775808) = true := by simpa using hv
                      have HV2 := Lib.hid hv; clear hv
                      go_wp2
                      go_ret
                      exact ⟨ret_int (held_hi (by have := HV.out; have := hs.out; have := X1.out; have := HV2.out; omega)).symm, HM.out.grown⟩
                    · have hv' : (v == -9223372036854775808) = false := by simpa using hv
                      go_wp2
                      go_ret
                      exact ⟨ret_int (by have h1 := HV.out; have h2 := hs.out; have h3 := X1.out; rw [held_in ⟨by omega, by omega⟩]; omega), HM.out.grown⟩
                  | succ j =>
                    obtain rfl : q = (j : Int) := by have := hq.out; omega
                    clear hq
                    have cz := HM.out.z.cell (i := j) (by omega)
                    have bz := HM.out.dz j
                    obtain ⟨_, x2, x3⟩ := hV.out.1 rfl
                    have ht := vtest (v := v) bz
                    have j0 : (0 : Int) ≤ j := by omega
                    have j1 : (j : Int) < 10 := by omega
                    by_cases hc : v < Int.tdiv (-9223372036854775808 + zf j) 65536
                    · have HC := Lib.hid (ht.1 hc)
                      clear ht
                      go_wp2
                      go_round
                      case rel => exact ⟨j, _, v, true, by omega, rfl, by show _ = _; omega, rfl, rfl, vat_over HM.out.dz hV.out HC.out _ _⟩
                      case measure => simp [intOf] <;> omega
                    · have hc2 := mt ht.2 hc
                      have hc' : decide (v < Int.tdiv (-9223372036854775808 + zf j) 65536) = false := by simpa using hc
                      have HC := Lib.hid hc2
                      have hc3 : -9223372036854775808 ≤ 65536 * v - zf j := by omega
                      have hc4 : -9223372036854775808 ≤ 65536 * v := by omega
                      clear ht hc2
                      go_wp2
                      go_round
                      case rel => exact ⟨j, _, _, false, by omega, rfl, by show _ = _; omega, rfl, rfl, vat_step HM.out.dz hV.out HC.out⟩
                      case measure => simp [intOf] <;> omega
                · have hN := hV.out.2 rfl
                  go_wp2
                  all_goals
                    go_ret
                    exact ⟨ret_int (held_hi (by have := HV.out; have := hs.out; omega)).symm, HM.out.grown⟩
            · have da : decide (a < 0) = true := by simpa using sa
              have db : decide (b < 0) = false := by simpa using sb
              have hs := Lib.hid (abs_diff (a := a) (b := b) (Or.inl ⟨sa, by omega⟩))
              have VS := Lib.hid (vat_start HM.out.dz ho.out)
              clear ho
              go_wp2
              go_loop [12, 15, 16] (fun s12 s15 s16 => ∃ (m : Nat) (q v : Int) (o : Bool), m ≤ 4 ∧ s16 = .int .i64 q ∧ Hid (q = (m : Int) - 1) ∧ s15 = .int .i64 v ∧ s12 = .bool o ∧ Hid (VAt zf o v m)) (fun _ _ s16 => (intOf s16 + 1).toNat)
              case atStart => exact ⟨4, 3, 0, _, by omega, rfl, by show (3 : Int) = _; omega, rfl, rfl, VS.out⟩
              case round =>
                obtain ⟨m, q, v, o, hm, rfl, hq, rfl, rfl, hV⟩ := hrel
                clear VS
                cases o
                · cases m with
                  | zero =>
                    obtain rfl : q = -1 := by have := hq.out; omega
                    obtain ⟨x1, x2, x3⟩ := vat_end hV.out
                    have X1 := Lib.hid x1; clear x1
                    go_wp2
                    go_ret
                    exact ⟨ret_int (by have h1 := HV.out; have h2 := hs.out; have h3 := X1.out; rw [held_in ⟨by omega, by omega⟩]; omega), HM.out.grown⟩
                  | succ j =>
                    obtain rfl : q = (j : Int) := by have := hq.out; omega
                    clear hq
                    have cz := HM.out.z.cell (i := j) (by omega)
                    have bz := HM.out.dz j
                    obtain ⟨_, x2, x3⟩ := hV.out.1 rfl
                    have ht := vtest (v := v) bz
                    have j0 : (0 : Int) ≤ j := by omega
                    have j1 : (j : Int) < 10 := by omega
                    by_cases hc : v < Int.tdiv (-9223372036854775808 + zf j) 65536
                    · have HC := Lib.hid (ht.1 hc)
                      clear ht
                      go_wp2
                      go_round
                      case rel => exact ⟨j, _, v, true, by omega, rfl, by show _ = _; omega, rfl, rfl, vat_over HM.out.dz hV.out HC.out _ _⟩
                      case measure => simp [intOf] <;> omega
                    · have hc2 := mt ht.2 hc
                      have hc' : decide (v < Int.tdiv (-9223372036854775808 + zf j) 65536) = false := by simpa using hc
                      have HC := Lib.hid hc2
                      have hc3 : -9223372036854775808 ≤ 65536 * v - zf j := by omega
                      have hc4 : -9223372036854775808 ≤ 65536 * v := by omega
                      clear ht hc2
                      go_wp2
                      go_round
                      case rel => exact ⟨j, _, _, false, by omega, rfl, by show _ = _; omega, rfl, rfl, vat_step HM.out.dz hV.out HC.out⟩
                      case measure => simp [intOf] <;> omega
                · have hN := hV.out.2 rfl
                  go_wp2
                  all_goals
                    go_ret
                    exact ⟨ret_int (held_lo (by have := HV.out; have := hs.out; omega)).symm, HM.out.grown⟩
          · by_cases sb : b < 0
            · have da : decide (a < 0) = false := by simpa using sa
              have db : decide (b < 0) = true := by simpa using sb
              have hs := Lib.hid (abs_diff (a := a) (b := b) (Or.inr ⟨by omega, sb⟩))
              have VS := Lib.hid (vat_start HM.out.dz ho.out)
              clear ho
              go_wp2
              go_loop [12, 15, 16] (fun s12 s15 s16 => ∃ (m : Nat) (q v : Int) (o : Bool), m ≤ 4 ∧ s16 = .int .i64 q ∧ Hid (q = (m : Int) - 1) ∧ s15 = .int .i64 v ∧ s12 = .bool o ∧ Hid (VAt zf o v m)) (fun _ _ s16 => (intOf s16 + 1).toNat)
              case atStart => exact ⟨4, 3, 0, _, by omega, rfl, by show (3 : Int) = _; omega, rfl, rfl, VS.out⟩
              case round =>
                obtain ⟨m, q, v, o, hm, rfl, hq, rfl, rfl, hV⟩ := hrel
                clear VS
                cases o
                · cases m with
                  | zero =>
                    obtain rfl : q = -1 := by have := hq.out; omega
                    obtain ⟨x1, x2, x3⟩ := vat_end hV.out
                    have X1 := Lib.hid x1; clear x1
                    go_wp2
                    go_ret
                    exact ⟨ret_int (by have h1 := HV.out; have h2 := hs.out; have h3 := X1.out; rw [held_in ⟨by omega, by omega⟩]; omega), HM.out.grown⟩
                  | succ j =>
                    obtain rfl : q = (j : Int) := by have := hq.out; omega
                    clear hq
                    have cz := HM.out.z.cell (i := j) (by omega)
                    have bz := HM.out.dz j
                    obtain ⟨_, x2, x3⟩ := hV.out.1 rfl
                    have ht := vtest (v := v) bz
                    have j0 : (0 : Int) ≤ j := by omega
                    have j1 : (j : Int) < 10 := by omega
                    by_cases hc : v < Int.tdiv (-9223372036854775808 + zf j) 65536
                    · have HC := Lib.hid (ht.1 hc)
                      clear ht
                      go_wp2
                      go_round
                      case rel => exact ⟨j, _, v, true, by omega, rfl, by show _ = _; omega, rfl, rfl, vat_over HM.out.dz hV.out HC.out _ _⟩
                      case measure => simp [intOf] <;> omega
                    · have hc2 := mt ht.2 hc
                      have hc' : decide (v < Int.tdiv (-9223372036854775808 + zf j) 65536) = false := by simpa using hc
                      have HC := Lib.hid hc2
                      have hc3 : -9223372036854775808 ≤ 65536 * v - zf j := by omega
                      have hc4 : -9223372036854775808 ≤ 65536 * v := by omega
                      clear ht hc2
                      go_wp2
                      go_round
                      case rel => exact ⟨j, _, _, false, by omega, rfl, by show _ = _; omega, rfl, rfl, vat_step HM.out.dz hV.out HC.out⟩
                      case measure => simp [intOf] <;> omega
                · have hN := hV.out.2 rfl
                  go_wp2
                  all_goals
                    go_ret
                    exact ⟨ret_int (held_lo (by have := HV.out; have := hs.out; omega)).symm, HM.out.grown⟩
            · have da : decide (a < 0) = false := by simpa using sa
              have db : decide (b < 0) = false := by simpa using sb
              have hs := Lib.hid (abs_same (a := a) (b := b) (Or.inr ⟨by omega, by omega⟩))
              have VS := Lib.hid (vat_start HM.out.dz ho.out)
              clear ho
              go_wp2
              go_loop [12, 15, 16] (fun s12 s15 s16 => ∃ (m : Nat) (q v : Int) (o : Bool), m ≤ 4 ∧ s16 = .int .i64 q ∧ Hid (q = (m : Int) - 1) ∧ s15 = .int .i64 v ∧ s12 = .bool o ∧ Hid (VAt zf o v m)) (fun _ _ s16 => (intOf s16 + 1).toNat)
              case atStart => exact ⟨4, 3, 0, _, by omega, rfl, by show (3 : Int) = _; omega, rfl, rfl, VS.out⟩
              case round =>
                obtain ⟨m, q, v, o, hm, rfl, hq, rfl, rfl, hV⟩ := hrel
                clear VS
                cases o
                · cases m with
                  | zero =>
                    obtain rfl : q = -1 := by have := hq.out; omega
                    obtain ⟨x1, x2, x3⟩ := vat_end hV.out
                    have X1 := Lib.hid x1; clear x1
                    by_cases hv : v = -9223372036854775808
                    · have hv' : (v == -9223372036854775808) = true := by simpa using hv
                      have HV2 := Lib.hid hv; clear hv
                      go_wp2
                      go_ret
                      exact ⟨ret_int (held_hi (by have := HV.out; have := hs.out; have := X1.out; have := HV2.out; omega)).symm, HM.out.grown⟩
                    · have hv' : (v == -9223372036854775808) = false := by simpa using hv
                      go_wp2
                      go_ret
                      exact ⟨ret_int (by have h1 := HV.out; have h2 := hs.out; have h3 := X1.out; rw [held_in ⟨by omega, by omega⟩]; omega), HM.out.grown⟩
                  | succ j =>
                    obtain rfl : q = (j : Int) := by have := hq.out; omega
                    clear hq
                    have cz := HM.out.z.cell (i := j) (by omega)
                    have bz := HM.out.dz j
                    obtain ⟨_, x2, x3⟩ := hV.out.1 rfl
                    have ht := vtest (v := v) bz
                    have j0 : (0 : Int) ≤ j := by omega
                    have j1 : (j : Int) < 10 := by omega
                    by_cases hc : v < Int.tdiv (-9223372036854775808 + zf j) 65536
                    · have HC := Lib.hid (ht.1 hc)
                      clear ht
                      go_wp2
                      go_round
                      case rel => exact ⟨j, _, v, true, by omega, rfl, by show _ = _; omega, rfl, rfl, vat_over HM.out.dz hV.out HC.out _ _⟩
                      case measure => simp [intOf] <;> omega
                    · have hc2 := mt ht.2 hc
                      have hc' : decide (v < Int.tdiv (-9223372036854775808 + zf j) 65536) = false := by simpa using hc
                      have HC := Lib.hid hc2
                      have hc3 : -9223372036854775808 ≤ 65536 * v - zf j := by omega
                      have hc4 : -9223372036854775808 ≤ 65536 * v := by omega
                      clear ht hc2
                      go_wp2
                      go_round
                      case rel => exact ⟨j, _, _, false, by omega, rfl, by show _ = _; omega, rfl, rfl, vat_step HM.out.dz hV.out HC.out⟩
                      case measure => simp [intOf] <;> omega
                · have hN := hV.out.2 rfl
                  go_wp2
                  all_goals
                    go_ret
                    exact ⟨ret_int (held_hi (by have := HV.out; have := hs.out; omega)).symm, HM.out.grown⟩
end Go.Proofs.Ytijobbdgiaiocaa.Con
