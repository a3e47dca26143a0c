/-
  Contracts of the program's read and Decode.
-/
import Derived.Test.YtadpajkjjmdcnaaDoorMsn
import Derived.Test.YtadpajkjjmdcnaaDoorPnu
namespace Go.Proofs.YtadpajkjjmdcnaaDoor.Con
open Go.RowKit Pm Mth
set_option linter.unusedVariables false

theorem Bx.set0 {w : World} {b : Nat} {m : Ms} {A : Option Addr} {c : Nat} (h : Bx w b m A c) (x : Int) : Bx (w.setCell ⟨b, 0, none⟩ (.int .i64 x)) b ⟨x, m.l, m.t⟩ A c := by
  unfold Bx at h ⊢
  rw [heap_setCell_same w b 0 _ 24 _ h]; rfl
theorem Bx.set1 {w : World} {b : Nat} {m : Ms} {A : Option Addr} {c : Nat} (h : Bx w b m A c) (l : List Int) (A' : Option Addr) (c' : Nat) : Bx (w.setCell ⟨b, 1, none⟩ (.slice A' l.length c')) b ⟨m.d, l, m.t⟩ A' c' := by
  unfold Bx at h ⊢
  rw [heap_setCell_same w b 1 _ 24 _ h]; rfl
theorem Bx.set2 {w : World} {b : Nat} {m : Ms} {A : Option Addr} {c : Nat} (h : Bx w b m A c) (t : List Int) : Bx (w.setCell ⟨b, 2, none⟩ (.string (strOfNums t))) b ⟨m.d, m.l, t⟩ A c := by
  unfold Bx at h ⊢
  rw [heap_setCell_same w b 2 _ 24 _ h]; rfl
theorem Bx.alloc {w : World} {b : Nat} {m : Ms} {A : Option Addr} {c : Nat} (h : Bx w b m A c) (o : Obj) : Bx (w.alloc o) b m A c := (Below.heap_alloc w o b h.lt).trans h
theorem Bx.other {w : World} {b r : Nat} {m : Ms} {A : Option Addr} {c : Nat} (h : Bx w b m A c) (hne : b ≠ r) (v : Value) (o : Nat) : Bx (w.setCell ⟨r, o, none⟩ v) b m A c := (heap_setCell_other w ⟨r, o, none⟩ b v hne).trans h
/-- The whole message is laid into a box. -/
abbrev put (w : World) (b : Nat) (m : Ms) (A : Option Addr) (c : Nat) : World := ((w.setCell ⟨b, 0, none⟩ (.int .i64 m.d)).setCell ⟨b, 1, none⟩ (.slice A m.l.length c)).setCell ⟨b, 2, none⟩ (.string (strOfNums m.t))
theorem Bx.put {w : World} {b : Nat} {m : Ms} {A : Option Addr} {c : Nat} (h : Bx w b m A c) (m' : Ms) (A' : Option Addr) (c' : Nat) : Bx (put w b m' A' c') b m' A' c' :=
  ((h.set0 m'.d).set1 m'.l A' c').set2 m'.t
theorem below_set {B : Nat} {w0 w : World} (h : Below B w0 w) {b o : Nat} (hb : B ≤ b) (v : Value) : Below B w0 (w.setCell ⟨b, o, none⟩ v) := h.setCell (p := ⟨b, o, none⟩) hb v
theorem below_put {B : Nat} {w0 w : World} (h : Below B w0 w) {b : Nat} (hb : B ≤ b) (m : Ms) (A : Option Addr) (c : Nat) : Below B w0 (put w b m A c) :=
  below_set (below_set (below_set h hb _) hb _) hb _
theorem own_set_other {w : World} {base : Nat} {K : IntKind} {e : TypeId} {A : Option Addr} {c : Nat} {l : List Int} (h : Own w base K e A c l) {b o : Nat} (hb : b < base) (v : Value) : Own (w.setCell ⟨b, o, none⟩ v) base K e A c l :=
  own_far h fun k hk => by
    have := (h.lt k ((blk_own A l.length c).symm.trans hk)).1
    exact heap_setCell_other w ⟨b, o, none⟩ k v (by simp; omega)
theorem own_put {w : World} {base : Nat} {K : IntKind} {e : TypeId} {A : Option Addr} {c : Nat} {l : List Int} (h : Own w base K e A c l) {b : Nat} (hb : b < base) (m : Ms) (A' : Option Addr) (c' : Nat) : Own (put w b m A' c') base K e A c l :=
  own_set_other (own_set_other (own_set_other h hb _) hb _) hb _
theorem rd_set {w : World} {K : IntKind} {B : Nat} {A : Option Addr} {l : List Int} (h : Rd K w B A l) {b o : Nat} (hb : B ≤ b) (v : Value) : Rd K (w.setCell ⟨b, o, none⟩ v) B A l :=
  h.keep fun k hk => heap_setCell_other w ⟨b, o, none⟩ k v (by simp; omega)
theorem Bx.zero {w : World} {b : Nat} {m : Ms} {A : Option Addr} {c : Nat} (h : Bx w b m A c) :
    (((w.setCell ⟨b, 0, none⟩ (.int .i64 0)).setCell ⟨b, 1, none⟩ (.slice none 0 0)).setCell ⟨b, 2, none⟩ (.string { data := #[] })).cell? ⟨b, 0, none⟩ = some (.int .i64 0) ∧
    (((w.setCell ⟨b, 0, none⟩ (.int .i64 0)).setCell ⟨b, 1, none⟩ (.slice none 0 0)).setCell ⟨b, 2, none⟩ (.string { data := #[] })).cell? ⟨b, 1, none⟩ = some (.slice none 0 0) ∧
    (((w.setCell ⟨b, 0, none⟩ (.int .i64 0)).setCell ⟨b, 1, none⟩ (.slice none 0 0)).setCell ⟨b, 2, none⟩ (.string { data := #[] })).cell? ⟨b, 2, none⟩ = some (.string { data := #[] }) := (h.put zM none 0).at
/-- What read answers. -/
def RA (w : World) (b : List Int) (e : Ending) (w' : World) : Prop :=
  ∃ (A : Option Addr) (c : Nat) (m : Ms) (y : Bool), Hid (m = orZ (say b) ∧ y = (say b).isSome) ∧ e = .returned (.tuple #[mv m A c, .bool y]) ∧ Hid (Own w' (w.heap.size + 1) .i64 3 A c m.l) ∧ Hid (Below w.heap.size w w')
theorem rl_at {b ls : List Int} {n j : Nat} {a : Int} (hj : n ≤ j) (h : rl b n 1 = pre ls (rl b (n - j) a)) : rl b n 1 = some (ls, a) := by
  rw [h, show n - j = 0 by omega, rl_zero]
theorem rl_next {b ls l2 : List Int} {n j : Nat} {a v k : Int} (hj : j < n) (h : rl b n 1 = pre ls (rl b (n - j) a)) (hr : ri b a = some (v, k)) (h2 : l2 = ls ++ [v]) : rl b n 1 = pre l2 (rl b (n - (j + 1)) k) := by
  rw [h, h2, show n - j = (n - (j + 1)) + 1 by omega, rl_yes _ hr]
theorem rl_stop {b ls : List Int} {n j : Nat} {a : Int} (hj : j < n) (h : rl b n 1 = pre ls (rl b (n - j) a)) (hr : ri b a = none) : rl b n 1 = none := by
  rw [h, show n - j = (n - (j + 1)) + 1 by omega, rl_no _ hr]
theorem own_new (w : World) (v : Int) : Rd .i64 (w.alloc (.cells #[.int .i64 v] 3)) (w.heap.size + 1) (some ⟨w.heap.size, 0, none⟩) [v] := rd_new w [v] #[.int .i64 v] 3 rfl
set_option maxRecDepth 20000 in
set_option maxHeartbeats 4000000 in
theorem read_any (A : Option Addr) (c : Nat) (b : List Int) (w : World) (B : Nat) (hr : Rd .u8 w B A b) (hB : B ≤ w.heap.size) (hl : (b.length : Int) ≤ 100000) (hb : Byt b) (hc : b.length ≤ c) (hS : Sz w) :
    Calls Tryd.prog 25 #[.slice A b.length c] w (RA w b) := by
  have HRa : Hid (∀ V, Below w.heap.size w V → Rd .u8 V B A b) := Lib.hid (fun V hV => hr.below hV hB)
  have HBy := Lib.hid hb; have HBw := Lib.hid hB; have HC := Lib.hid hc
  have HX0 : Hid (Bx (w.alloc (.cells #[.int .i64 0, .slice none 0 0, .string { data := #[] }] 24)) w.heap.size zM none 0) := Lib.hid (heap_alloc_new w _)
  have HV0 : Hid (Below w.heap.size w (w.alloc (.cells #[.int .i64 0, .slice none 0 0, .string { data := #[] }] 24))) := Lib.hid (by go_grown)
  have HS0 := Lib.hid (hS.keep HV0.out hS.pos)
  by_cases h0 : b.length = 0
  · have HS : Hid (zM = orZ (say b) ∧ false = (say b).isSome) := Lib.hid (by cases b with
      | nil => exact ⟨rfl, rfl⟩
      | cons x r => simp at h0)
    have h0' : ((b.length : Int) == 0) = true := by simpa using h0
    clear hr hB hb hc hS
    clear HS0 HX0 HV0
    go_enter Tryd.func25, Tryd.ntmps25
    go_wp2
    refine bodyPost_ret (by simp [results, Tryd.results25, go_sem]; try rfl) rfl ?_
    exact ⟨none, 0, zM, false, HS, rfl, Lib.hid (own_none _ _ _ _), Lib.hid (by go_grown)⟩
  · have h0' : ((b.length : Int) == 0) = false := by simpa using h0
    have hlt0 : 0 < b.length := by omega
    have hlt0' : (0 : Int) < b.length := by omega
    obtain ⟨p, off, d, rfl, hpB, hd, hcell⟩ := hr.at' hlt0
    have hpw : p < w.heap.size := by omega
    obtain ⟨hd0, hd1⟩ := hb.at hd
    have HD := Lib.hid hd
    rw [Nat.add_zero] at hcell
    have HP := Lib.hid (size_any d _ HS0.out (by omega) (by omega))
    have HN := Lib.hid (szN_le d)
    have hcell2 : (w.alloc (.cells #[.int .i64 0, .slice none 0 0, .string { data := #[] }] 24)).cell? ⟨p, off, none⟩ = some (.int .u8 d) := (World.cell?_of_block (Below.heap_alloc w _ p hpw)).trans hcell
    clear hr hB hb hc hS hd h0 hcell
    generalize hnn : szN d = n at HP HN
    have HNn := Lib.hid hnn; clear hnn
    go_enter Tryd.func25, Tryd.ntmps25
    go_wp2_with (fail)
    generalize w.alloc (.cells #[.int .i64 0, .slice none 0 0, .string { data := #[] }] 24) = w0 at *
    (with_reducible refine HP.out.mono ?_); rintro e w1 ⟨rfl, rfl⟩
    have hn10 : (n : Int) ≤ 10 := by have := HN.out; omega
    have HLT := Lib.hid HX0.out.lt
    go_wp2_with (fail)
    go_loopg [7, 8, 26] n (fun g s7 s8 s26 wr => ∃ (j : Nat) (ls : List Int) (A3 : Option Addr) (c3 : Nat) (a : Int), j ≤ n ∧ g = n - j ∧ s7 = .slice A3 ls.length c3 ∧ s8 = .int .i64 a ∧ s26 = .int .i64 (j : Int) ∧ Hid (Own wr (w.heap.size + 1) .i64 3 A3 c3 ls) ∧ Hid (Below w.heap.size w wr) ∧ Hid (Bx wr w.heap.size zM none 0) ∧ Hid (ls.length = j) ∧ Hid (1 ≤ a ∧ a ≤ b.length) ∧ Hid (rl b n 1 = pre ls (rl b (n - j) a)))
    case atStart => exact ⟨0, [], none, 0, 1, by omega, rfl, rfl, rfl, rfl, Lib.hid (own_none _ _ _ _), HV0, HX0, Lib.hid rfl, Lib.hid (by omega), Lib.hid (pre_nil _).symm⟩
    case round =>
      obtain ⟨j, ls, A3, c3, a, hj, rfl, rfl, rfl, rfl, HO3, HB3, HX3, HL3, HA, HE⟩ := hrel
      obtain ⟨z0, z1, z2⟩ := HX3.out.at
      simp only [zM] at z0 z1 z2
      have zf := frozOf' HX3.out
      have ha0 : -9223372036854775808 ≤ a := by have := HA.out; omega
      have ha1 : a ≤ 9223372036854775807 := by have := HA.out; omega
      by_cases hjn : j < n
      · have hjn' : (j : Int) < n := by omega
        rcases hri : ri b a with _ | ⟨v, k⟩
        · have HRi := Lib.hid hri
          have HSn : Hid (zM = orZ (say b) ∧ false = (say b).isSome) := Lib.hid (by
            have := say_none HD.out (by rw [HNn.out]; exact rl_stop hjn HE.out hri)
            rw [this]; exact ⟨rfl, rfl⟩)
          have HZn := Lib.hid HX3.out.zero
          have HVn := Lib.hid (below_put HB3.out (Nat.le_refl _) zM none 0)
          clear hri
          go_wp2_with ((with_reducible refine (Pk.ri_no (some ⟨p, off, none⟩) c b a _ B (HRa.out _ HB3.out) (by omega) HBy.out ha1 HRi.out).mono ?_); rintro e w4 ⟨rfl, rfl⟩)
          obtain ⟨q0, q1, q2⟩ := HZn.out
          refine bodyPost_ret (by simp [results, Tryd.results25, go_sem, q0, q1, q2]; try rfl) rfl ?_
          exact ⟨none, 0, zM, false, HSn, rfl, Lib.hid (own_none _ _ _ _), HVn⟩
        · have HRi := Lib.hid hri
          obtain ⟨_, hv0, hv1, hk0, hk1⟩ := ri_bound HBy.out hri
          have hls : (ls.length : Int) ≤ 10 := by have := HL3.out; omega
          clear hri z0 z1 z2
          go_wp2_with (first
            | ((with_reducible refine (Pk.ri_yes (some ⟨p, off, none⟩) c b a _ B (HRa.out _ HB3.out) (by omega) HBy.out ha1 HRi.out).mono ?_); rintro e w4 ⟨rfl, rfl⟩)
            | (at_builtin; refine wpList_app (K := .i64) (t := 22) (e := 3) Tryd.underlying22 int_info rfl (by omega) rfl (.tmp 38) (.tmp 40) rfl (w.heap.size + 1) (wr.heap.size + 1) A3 c3 ls [v] (some ⟨wr.heap.size, 0, none⟩) 1 rfl rfl (HO3.out.alloc _) (own_new wr v) (by simp; omega) (by have := HX3.out.lt; simp; omega) ?_; intro A4 c4 w4 l4 HL4 HO4 HS4))
          have HB4 : Hid (Below (w.heap.size + 1) wr w4) := Lib.hid ((Below.alloc (Below.refl _ _) (by have := HX3.out.lt; omega) _).trans (HS4.out.below (fun k hk => (HO3.out.lt k hk).1) (by have := HX3.out.lt; simp; omega)))
          go_roundg (n - (j + 1))
          case measure => omega
          case rel => exact ⟨j + 1, l4, A4, c4, k, by omega, rfl, rfl, rfl, by go_num, HO4, Lib.hid (HB3.out.trans (HB4.out.mono (Nat.le_succ _))), Lib.hid (HX3.out.of HB4.out (Nat.lt_succ_self _)), Lib.hid (by rw [HL4.out, List.length_append, HL3.out]; rfl), Lib.hid (by have := HA.out; omega), Lib.hid (rl_next hjn HE.out HRi.out HL4.out)⟩
      · have hjn' : decide ((j : Int) < n) = false := by simp; omega
        have hjn2 : decide (j < n) = false := by simpa using hjn
        obtain ⟨z, rfl⟩ : ∃ z : Nat, a = (z : Int) := ⟨a.toNat, by have := HA.out; omega⟩
        have hz0 : (z : Int) ≤ b.length := by have := HA.out; omega
        have hz1 : z ≤ b.length := by omega
        have hz2 : z ≤ c := by have := HC.out; omega
        have hz3 : (z : Int) ≤ c := by omega
        have HSy := Lib.hid (say_some HD.out (by rw [HNn.out]; exact rl_at (by omega) HE.out))
        rw [Int.toNat_natCast] at HSy
        have hRd := (HRa.out _ HB3.out).cut z
        have hlen : (b.drop z).length = b.length - z := List.length_drop
        have HFin : Hid (∀ m : List Int, b.drop z = m → (⟨d, ls, m⟩ : Ms) = orZ (say b) ∧ true = (say b).isSome) := Lib.hid (fun m e => by rw [HSy.out, e]; exact ⟨rfl, rfl⟩)
        have HB5 := Lib.hid (fun m : List Int => (HX3.out.put ⟨d, ls, m⟩ A3 c3).at)
        have HV5 := Lib.hid (fun m : List Int => below_put HB3.out (Nat.le_refl _) ⟨d, ls, m⟩ A3 c3)
        have HO5 := Lib.hid (fun m : List Int => own_put HO3.out (Nat.lt_succ_self _) ⟨d, ls, m⟩ A3 c3)
        clear HSy
        generalize b.drop z = m at hRd hlen HFin
        have HL := Lib.hid hlen
        have HRd := Lib.hid hRd
        clear hlen hRd
        have HFi := Lib.hid (HFin.out m rfl)
        clear HFin
        by_cases hcz : c = z
        · subst hcz
          have e0 : b.length - c = 0 := by have := HC.out; omega
          obtain rfl : m = [] := List.eq_nil_of_length_eq_zero (by have := HL.out; omega)
          have hcv : (convert 27 9 (.slice (some ⟨p, off, none⟩) (b.length - c) 0)).run Tryd.prog wr = .ok (.string (strOfNums [])) wr := by
            have := conv (c := 0) (Rd.nil (K := .u8) (w := wr) (B := B) (A := some ⟨p, off, none⟩))
            rw [e0]; exact this
          clear e0
          go_wp2
          obtain ⟨q0, q1, q2⟩ := HB5.out []
          simp only [put] at q0 q1 q2
          refine bodyPost_ret (by simp [results, Tryd.results25, go_sem, q0, q1, q2]; try rfl) rfl ?_
          exact ⟨A3, c3, ⟨d, ls, []⟩, true, HFi, rfl, Lib.hid (HO5.out []), Lib.hid (HV5.out [])⟩
        · have hcv := conv (c := c - z) HRd.out
          rw [HL.out] at hcv
          go_wp2
          obtain ⟨q0, q1, q2⟩ := HB5.out m
          simp only [put] at q0 q1 q2
          refine bodyPost_ret (by simp [results, Tryd.results25, go_sem, q0, q1, q2]; try rfl) rfl ?_
          exact ⟨A3, c3, ⟨d, ls, m⟩, true, HFi, rfl, Lib.hid (HO5.out m), Lib.hid (HV5.out m)⟩
/-- What Decode answers. -/
def DA (w : World) (b : List Int) (e : Ending) (w' : World) : Prop :=
  ∃ (A : Option Addr) (c : Nat) (m : Ms) (er : Int), Hid (m = deC b ∧ er = deE b) ∧ e = .returned (.tuple #[mv m A c, .int .i64 er]) ∧ Hid (Own w' w.heap.size .i64 3 A c m.l) ∧ Hid (Below w.heap.size w w')
theorem de_zero {b : List Int} (h : deO b = none) : zM = deC b ∧ (2 : Int) = deE b := by simp [deC, deE, h, orZ, orE]
theorem de_some {b : List Int} {m : Ms} (h : deO b = some m) : m = deC b ∧ (0 : Int) = deE b := by simp [deC, deE, h, orZ, orE]
theorem ra_none {b : List Int} {m : Ms} {y : Bool} (hs : say b = none) (h : m = orZ (say b) ∧ y = (say b).isSome) : m = zM ∧ y = false := by rw [hs] at h; exact h
theorem ra_some {b : List Int} {m m' : Ms} {y : Bool} (hs : say b = some m') (h : m = orZ (say b) ∧ y = (say b).isSome) : m = m' ∧ y = true := by rw [hs] at h; exact h
set_option maxRecDepth 20000 in
set_option maxHeartbeats 4000000 in
theorem decode_any (A : Option Addr) (c : Nat) (b : List Int) (w : World) (B : Nat) (hr : Rd .u8 w B A b) (hB : B ≤ w.heap.size) (hl : (b.length : Int) ≤ 100000) (hb : Byt b) (hc : b.length ≤ c) (hS : Sz w) :
    Calls Tryd.prog 17 #[.slice A b.length c] w (DA w b) := by
  have HX0 : Hid (Bx (w.alloc (.cells #[.int .i64 0, .slice none 0 0, .string { data := #[] }] 24)) w.heap.size zM none 0) := Lib.hid (heap_alloc_new w _)
  have HV0 : Hid (Below w.heap.size w (w.alloc (.cells #[.int .i64 0, .slice none 0 0, .string { data := #[] }] 24))) := Lib.hid (by go_grown)
  have HS0 := Lib.hid (hS.keep HV0.out hS.pos)
  have HRe := Lib.hid (read_any A c b _ B (hr.below HV0.out hB) (Nat.le_trans hB HV0.out.size) hl hb hc HS0.out)
  have HBy := Lib.hid hb
  clear hr hB hb hc hS
  go_enter Tryd.func17, Tryd.ntmps17
  go_wp2_with (fail)
  generalize w.alloc (.cells #[.int .i64 0, .slice none 0 0, .string { data := #[] }] 24) = w0 at *
  have HP0 := Lib.hid HX0.out.lt
  (with_reducible refine HRe.out.mono ?_); rintro e w1 ⟨A1, c1, m1, y, HS, rfl, HO1, HB1⟩
  have HX1 := Lib.hid (HX0.out.of HB1.out HP0.out)
  have HV1 : Hid (Below w.heap.size w w1) := Lib.hid (HV0.out.trans (HB1.out.mono (Nat.le_of_lt HP0.out)))
  have HP1 := Lib.hid HX1.out.lt
  have HX2 := Lib.hid (HX1.out.alloc (oM m1 A1 c1))
  have HY2 : Hid (Bx (w1.alloc (oM m1 A1 c1)) w1.heap.size m1 A1 c1) := Lib.hid (heap_alloc_new w1 _)
  have HV2 := Lib.hid (HV1.out.alloc (Nat.le_of_lt HP1.out) (oM m1 A1 c1))
  have HO2 := Lib.hid (HO1.out.alloc (oM m1 A1 c1))
  have HS2 := Lib.hid (HS0.out.keep (HB1.out.alloc HB1.out.size (oM m1 A1 c1)) (by have := HS0.out.pos; omega))
  have HQ2 := Lib.hid (lt_of_block HY2.out)
  rcases hs : say b with _ | m
  · obtain ⟨hm, rfl⟩ := ra_none hs HS.out
    clear hm
    have HD := Lib.hid (de_zero (de_none hs))
    obtain ⟨z0, z1, z2⟩ := HX2.out.at
    simp only [zM] at z0 z1 z2
    have zf := frozOf' HX2.out
    clear hs
    go_wp2
    obtain ⟨q0, q1, q2⟩ := HX2.out.zero
    refine bodyPost_ret (by simp [results, Tryd.results17, go_sem, q0, q1, q2]; try rfl) rfl ?_
    exact ⟨none, 0, zM, 2, HD, rfl, Lib.hid (own_none _ _ _ _), Lib.hid (below_put HV2.out (Nat.le_refl _) zM none 0)⟩
  · obtain ⟨hm, rfl⟩ := ra_some hs HS.out
    subst hm
    obtain ⟨hf, hn, ht, _⟩ := ld_say HBy.out hs
    have HRi := Lib.hid (right_any m1 A1 c1 hf (by have := szN_le m1.d; omega) (by omega) _ HS2.out)
    clear hf hn ht
    cases hrt : rtM m1 with
    | false =>
      have HD := Lib.hid (de_zero (de_bad hs hrt))
      rw [hrt] at HRi
      clear hs hrt
      go_wp2_with ((with_reducible refine HRi.out.mono ?_); rintro e w3 ⟨rfl, hB3⟩; have HB3 := Lib.hid hB3; have HX3 := Lib.hid (HX2.out.of hB3 HX2.out.lt); have hz3 := HX3.out.at; obtain ⟨z0, z1, z2⟩ := hz3; simp only [zM] at z0 z1 z2; have zf := frozOf' HX3.out; clear hB3)
      obtain ⟨q0, q1, q2⟩ := HX3.out.zero
      refine bodyPost_ret (by simp [results, Tryd.results17, go_sem, q0, q1, q2]; try rfl) rfl ?_
      exact ⟨none, 0, zM, 2, HD, rfl, Lib.hid (own_none _ _ _ _), Lib.hid (below_put (below_more HV2.out HB3.out) (Nat.le_refl _) zM none 0)⟩
    | true =>
      have HD := Lib.hid (de_some (de_good hs hrt))
      rw [hrt] at HRi
      clear hs hrt
      go_wp2_with ((with_reducible refine HRi.out.mono ?_); rintro e w3 ⟨rfl, hB3⟩; have HB3 := Lib.hid hB3; have HX3 := Lib.hid (HX2.out.of hB3 HX2.out.lt); have hz3 := HX3.out.at; obtain ⟨z0, z1, z2⟩ := hz3; simp only [zM] at z0 z1 z2; have zf := frozOf' HX3.out; have HY3 := Lib.hid (Bx.of HY2.out hB3 (lt_of_block HY2.out)); have hy3 := HY3.out.at; obtain ⟨y0, y1, y2⟩ := hy3; clear hB3)
      obtain ⟨q0, q1, q2⟩ := (HX3.out.put m1 A1 c1).at
      simp only [put] at q0 q1 q2
      refine bodyPost_ret (by simp [results, Tryd.results17, go_sem, q0, q1, q2]; try rfl) rfl ?_
      exact ⟨A1, c1, m1, 0, HD, rfl, Lib.hid (own_base (own_put (HO2.out.below HB3.out (Nat.le_refl _)) (by have := HP0.out; omega) m1 A1 c1) (by have := HP0.out; omega)), Lib.hid (below_put (below_more HV2.out HB3.out) (Nat.le_refl _) m1 A1 c1)⟩
end Go.Proofs.YtadpajkjjmdcnaaDoor.Con
