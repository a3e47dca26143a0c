/-
  The contract of the document's own read: where a number ends, whether it is one, and what it is.
-/
import Derived.Test.YtadpajkjjmdcnaaDoorPre
namespace Go.Proofs.YtadpajkjjmdcnaaDoor.Pk
open Go.RowKit Mth Pm

/-- All bytes from a up to e are 128 at least. -/
def Lead (l : List Int) (a e : Nat) : Prop := ∀ j d, a ≤ j → j < e → l[j]? = some d → 128 ≤ d
theorem Lead.start (l : List Int) (a : Nat) : Lead l a a := fun j d h1 h2 _ => by omega
theorem Lead.next {l : List Int} {a e : Nat} {x : Int} (h : Lead l a e) (hx : l[e]? = some x) (h1 : 128 ≤ x) : Lead l a (e + 1) := by
  intro j d h2 h3 h4
  by_cases hj : j = e
  · subst hj
    rw [hx] at h4
    injection h4 with h4
    omega
  · exact h j d h2 (by omega) h4
theorem Lead.drop {l : List Int} {a e : Nat} (h : Lead l a e) : ∀ j d, j < e - a → (l.drop a)[j]? = some d → 128 ≤ d := by
  intro j d h1 h2
  rw [List.getElem?_drop] at h2
  exact h (a + j) d (by omega) (by omega) h2

theorem none_end {l : List Int} {a e : Nat} (h : Lead l a e) (hae : a ≤ e) (he : e = a ∨ e ≤ l.length) (hl : l.length ≤ e) : gt 0 (l.drop a) = none := by
  by_cases h9 : 9 < e - a
  · exact lead_many h9 h.drop (by rw [List.length_drop]; omega)
  · rcases he with rfl | he
    · rw [List.drop_eq_nil_of_le hl]; rfl
    · exact lead_none (k := e - a) (by omega) h.drop (by rw [List.length_drop]; omega) (gt_end (by rw [List.length_drop]; omega))
theorem none_many {l : List Int} {a e : Nat} (h : Lead l a e) (he : e < l.length) (h9 : 9 < e - a) : gt 0 (l.drop a) = none :=
  lead_many h9 h.drop (by rw [List.length_drop]; omega)
theorem at_drop {l : List Int} {a e : Nat} {x : Int} (hae : a ≤ e) (hx : l[e]? = some x) : (l.drop a)[e - a]? = some x := by
  rw [List.getElem?_drop, show a + (e - a) = e by omega]; exact hx
theorem none_zero {l : List Int} {a e : Nat} (h : Lead l a e) (he : e < l.length) (h9 : e - a ≤ 9) (hae : a < e) (hx : l[e]? = some 0) : gt 0 (l.drop a) = none :=
  lead_none (k := e - a) h9 h.drop (by rw [List.length_drop]; omega) (gt_zero (at_drop (by omega) hx) (by omega))
theorem none_big {l : List Int} {a e : Nat} {x : Int} (h : Lead l a e) (he : e < l.length) (h9 : e - a = 9) (hx : l[e]? = some x) (h1 : 1 < x) : gt 0 (l.drop a) = none := by
  refine lead_none (k := e - a) (by omega) h.drop (by rw [List.length_drop]; omega) ?_
  have := at_drop (l := l) (a := a) (e := e) (by omega) hx
  rw [h9] at this ⊢
  exact gt_big this h1

/-- What is known of the digits behind p. -/
def Tail (l : List Int) (a e : Nat) (p n : Int) : Prop :=
  (p = e ∧ n = 0) ∨ (p < e ∧ gt (p + 1 - a).toNat ((l.drop a).drop (p + 1 - a).toNat) = some (n, (e - p).toNat))
/-- A last byte that may end a number. -/
def Fine (l : List Int) (a e : Nat) : Prop := ∃ x, l[e]? = some x ∧ x < 128 ∧ ¬ (x = 0 ∧ a < e) ∧ ¬ (e - a = 9 ∧ 1 < x)

theorem tail_bound {l : List Int} {a e : Nat} {p n : Int} (h : Tail l a e p n) (hb : Byt l) (h9 : e - a ≤ 9) (hae : a ≤ e) (hp : (a : Int) ≤ p) : 0 ≤ n ∧ 128 * n + 127 < 18446744073709551616 := by
  rcases h with ⟨_, rfl⟩ | ⟨h1, h2⟩
  · omega
  · have := gt_bound (hb.drop a |>.drop _) (by omega) h2
    have hpw : (2 : Nat) ^ (64 - 7 * (p + 1 - a).toNat) ≤ 2 ^ 57 := Nat.pow_le_pow_right (by omega) (by omega)
    have e57 : (2 : Nat) ^ 57 = 144115188075855872 := by decide
    rw [e57] at hpw
    omega
theorem tail_next {l : List Int} {a e q : Nat} {n x : Int} (h : Tail l a e q n) (hb : Byt l) (hL : Lead l a e) (hF : Fine l a e) (h9 : e - a ≤ 9) (hae : a ≤ e) (hq : a ≤ q) (hqe : q ≤ e) (hx : l[q]? = some x) : Tail l a e ((q : Int) - 1) (128 * n + x % 128) := by
  have hxb := hb.at hx
  rcases h with ⟨h1, rfl⟩ | ⟨h1, h2⟩
  · have hqe' : q = e := by omega
    subst hqe'
    obtain ⟨y, hy, f1, f2, f3⟩ := hF
    rw [hx] at hy
    injection hy with hy
    subst hy
    refine .inr ⟨by omega, ?_⟩
    rw [show ((q : Int) - 1 + 1 - a).toNat = q - a by omega, show ((q : Int) - ((q : Int) - 1)).toNat = 1 by omega]
    rw [gt_last (at_drop hq hx) f1 (by omega) f3]
    congr 2
    omega
  · have h128 := hL q x hq (by omega) hx
    refine .inr ⟨by omega, ?_⟩
    rw [show ((q : Int) - 1 + 1 - a).toNat = q - a by omega]
    rw [show ((q : Int) + 1 - a).toNat = q - a + 1 by omega] at h2
    rw [gt_back (at_drop hq hx) h128 (by omega) h2]
    congr 2
    · omega
    · omega
theorem tail_done {l : List Int} {a e : Nat} {p n : Int} (h : Tail l a e p n) (hae : a ≤ e) (hp : p = (a : Int) - 1) : gt 0 (l.drop a) = some (n, e + 1 - a) := by
  rcases h with ⟨h1, _⟩ | ⟨_, h2⟩
  · omega
  · subst hp
    rw [show ((a : Int) - 1 + 1 - a).toNat = 0 by omega, show ((e : Int) - ((a : Int) - 1)).toNat = e + 1 - a by omega] at h2
    simpa using h2

theorem read_neg (A : Option Addr) (c : Nat) (l : List Int) (a : Int) (w : World) (ha : a < 0) :
    Calls Tryd.prog 34 #[.slice A l.length c, .int .i64 a] w fun e w' => e = .returned (.tuple #[.int .u64 0, .int .i64 a, .bool false]) ∧ w = w' := by
  go_enter Tryd.func34, Tryd.ntmps34
  go_wp2
  go_ret3
  exact ⟨rfl, rfl⟩

def nx (a : Int) (o : Option (Int × Nat)) : Int := a + ss o
def ok (o : Option (Int × Nat)) : Bool := o.isSome
theorem read_none {o : Option (Int × Nat)} {a : Int} (h : o = none) : Ending.returned (.tuple #[.int .u64 0, .int .i64 a, .bool false]) = .returned (.tuple #[.int .u64 (vv o), .int .i64 (nx a o), .bool (ok o)]) := by
  subst h; simp [vv, nx, ss, ok]
theorem read_some {o : Option (Int × Nat)} {a v k : Int} {s : Nat} (h : o = some (v, s)) (hk : k = a + s) : Ending.returned (.tuple #[.int .u64 v, .int .i64 k, .bool true]) = .returned (.tuple #[.int .u64 (vv o), .int .i64 (nx a o), .bool (ok o)]) := by
  subst h; subst hk; rfl

set_option maxHeartbeats 1600000 in
theorem read_nat (A : Option Addr) (c : Nat) (l : List Int) (a : Nat) (w : World) (B : Nat) (hr : Rd .u8 w B A l) (hl : (l.length : Int) ≤ 10000000) (hb : Byt l) (ha : (a : Int) ≤ 9223372036854775807) :
    Calls Tryd.prog 34 #[.slice A l.length c, .int .i64 a] w fun e w' => e = .returned (.tuple #[.int .u64 (vv (gt 0 (l.drop a))), .int .i64 (nx a (gt 0 (l.drop a))), .bool (ok (gt 0 (l.drop a)))]) ∧ w = w' := by
  have HR := Lib.hid hr; clear hr
  have HBy := Lib.hid hb; clear hb
  have ha0 : decide ((a : Int) < 0) = false := by simp
  go_enter Tryd.func34, Tryd.ntmps34
  go_wp2
  go_loopg [7] (l.length - a) (fun g s7 wr => ∃ e : Nat, a ≤ e ∧ (e = a ∨ e ≤ l.length) ∧ g = l.length - e ∧ s7 = .int .i64 (e : Int) ∧ w = wr ∧ Hid (Lead l a e))
  case atStart => exact ⟨a, Nat.le_refl _, .inl rfl, rfl, rfl, rfl, Lib.hid (Lead.start l a)⟩
  case round =>
    obtain ⟨e, hae, hel, rfl, rfl, rfl, HL⟩ := hrel
    have HEL := Lib.hid hel; clear hel
    by_cases hlt : e < l.length
    · have hlt' : decide (l.length ≤ e) = false := by simp; omega
      obtain ⟨b, off, x, rfl, _, hx, hc⟩ := HR.out.at' hlt
      obtain ⟨hx0, hx1⟩ := HBy.out.at hx
      have HX := Lib.hid hx
      clear hx
      by_cases h128 : 128 ≤ x
      · go_wp2
        go_roundg (l.length - (e + 1))
        case measure => omega
        case rel => exact ⟨e + 1, by omega, by omega, rfl, by go_num, rfl, Lib.hid (HL.out.next HX.out h128)⟩
      · have h128' : decide (128 ≤ x) = false := by simpa using h128
        by_cases h9 : 9 < e - a
        · have h9' : (9 : Int) < (e : Int) - a := by omega
          go_wp2
          go_ret3
          exact ⟨read_none (none_many HL.out hlt h9), rfl⟩
        · have h9' : decide ((9 : Int) < (e : Int) - a) = false := by simp; omega
          by_cases hae2 : a < e
          · by_cases hz : x = 0
            · have hz' : (x == 0) = true := by simpa using hz
              have HZ := Lib.hid hz; clear hz
              go_wp2
              go_ret3
              exact ⟨read_none (none_zero HL.out hlt (by omega) hae2 (HZ.out ▸ HX.out)), rfl⟩
            · have hz' : (x == 0) = false := by simpa using hz
              by_cases h9e : e - a = 9
              · have h9e' : ((e : Int) - a == 9) = true := by simp; omega
                have H9 := Lib.hid h9e; clear h9e
                by_cases h1 : 1 < x
                · go_wp2
                  go_ret3
                  exact ⟨read_none (none_big HL.out hlt H9.out HX.out h1), rfl⟩
                · have h1' : decide (1 < x) = false := by simpa using h1
                  have HF : Hid (Fine l a e) := Lib.hid ⟨x, HX.out, by omega, by omega, by omega⟩
                  go_wp2
                  go_loopg [8, 9] (e + 1 - a) (fun g s8 s9 wr => ∃ (p n : Int), (a : Int) - 1 ≤ p ∧ p ≤ e ∧ g = (p + 1 - a).toNat ∧ s8 = .int .u64 n ∧ s9 = .int .i64 p ∧ w = wr ∧ Hid (Tail l a e p n))
                  case atStart => exact ⟨e, 0, by omega, by omega, by omega, rfl, rfl, rfl, Lib.hid (.inl ⟨rfl, rfl⟩)⟩
                  case round =>
                    obtain ⟨p, n, hp0, hp1, rfl, rfl, rfl, rfl, HT⟩ := hrel
                    by_cases hpa : (a : Int) ≤ p
                    · obtain ⟨hn0, hn1⟩ := tail_bound HT.out HBy.out (by omega) hae hpa
                      obtain ⟨q, rfl⟩ := Int.eq_ofNat_of_zero_le (show 0 ≤ p by omega)
                      have hql : q < l.length := by omega
                      obtain ⟨b2, off2, y, hA2, _, hy, hcy⟩ := HR.out.at' hql
                      injection hA2 with hA2
                      injection hA2 with hb2 ho2
                      subst hb2; subst ho2
                      obtain ⟨hy0, hy1⟩ := HBy.out.at hy
                      have HY := Lib.hid hy
                      clear hy
                      have hpa' : a ≤ q := by omega
                      go_wp2
                      go_roundg (q - a)
                      case measure => omega
                      case rel => exact ⟨(q : Int) - 1, 128 * n + y % 128, by omega, by omega, by omega, rfl, rfl, rfl, Lib.hid (tail_next HT.out HBy.out HL.out HF.out (by omega) hae (by omega) (by omega) HY.out)⟩
                    · have hpa' : decide ((a : Int) ≤ p) = false := by simpa using hpa
                      have HD := Lib.hid (tail_done HT.out hae (by omega))
                      go_wp2
                      go_ret3
                      exact ⟨read_some HD.out (by omega), rfl⟩
              · have h9e' : ((e : Int) - a == 9) = false := by simp; omega
                have HF : Hid (Fine l a e) := Lib.hid ⟨x, HX.out, by omega, by omega, by omega⟩
                go_wp2
                go_loopg [8, 9] (e + 1 - a) (fun g s8 s9 wr => ∃ (p n : Int), (a : Int) - 1 ≤ p ∧ p ≤ e ∧ g = (p + 1 - a).toNat ∧ s8 = .int .u64 n ∧ s9 = .int .i64 p ∧ w = wr ∧ Hid (Tail l a e p n))
                case atStart => exact ⟨e, 0, by omega, by omega, by omega, rfl, rfl, rfl, Lib.hid (.inl ⟨rfl, rfl⟩)⟩
                case round =>
                  obtain ⟨p, n, hp0, hp1, rfl, rfl, rfl, rfl, HT⟩ := hrel
                  by_cases hpa : (a : Int) ≤ p
                  · obtain ⟨hn0, hn1⟩ := tail_bound HT.out HBy.out (by omega) hae hpa
                    obtain ⟨q, rfl⟩ := Int.eq_ofNat_of_zero_le (show 0 ≤ p by omega)
                    have hql : q < l.length := by omega
                    obtain ⟨b2, off2, y, hA2, _, hy, hcy⟩ := HR.out.at' hql
                    injection hA2 with hA2
                    injection hA2 with hb2 ho2
                    subst hb2; subst ho2
                    obtain ⟨hy0, hy1⟩ := HBy.out.at hy
                    have HY := Lib.hid hy
                    clear hy
                    have hpa' : a ≤ q := by omega
                    go_wp2
                    go_roundg (q - a)
                    case measure => omega
                    case rel => exact ⟨(q : Int) - 1, 128 * n + y % 128, by omega, by omega, by omega, rfl, rfl, rfl, Lib.hid (tail_next HT.out HBy.out HL.out HF.out (by omega) hae (by omega) (by omega) HY.out)⟩
                  · have hpa' : decide ((a : Int) ≤ p) = false := by simpa using hpa
                    have HD := Lib.hid (tail_done HT.out hae (by omega))
                    go_wp2
                    go_ret3
                    exact ⟨read_some HD.out (by omega), rfl⟩
          · have hae3 : decide (a < e) = false := by simpa using hae2
            have h9e' : ((e : Int) - a == 9) = false := by simp; omega
            have HF : Hid (Fine l a e) := Lib.hid ⟨x, HX.out, by omega, by omega, by omega⟩
            go_wp2
            go_loopg [8, 9] (e + 1 - a) (fun g s8 s9 wr => ∃ (p n : Int), (a : Int) - 1 ≤ p ∧ p ≤ e ∧ g = (p + 1 - a).toNat ∧ s8 = .int .u64 n ∧ s9 = .int .i64 p ∧ w = wr ∧ Hid (Tail l a e p n))
            case atStart => exact ⟨e, 0, by omega, by omega, by omega, rfl, rfl, rfl, Lib.hid (.inl ⟨rfl, rfl⟩)⟩
            case round =>
              obtain ⟨p, n, hp0, hp1, rfl, rfl, rfl, rfl, HT⟩ := hrel
              by_cases hpa : (a : Int) ≤ p
              · obtain ⟨hn0, hn1⟩ := tail_bound HT.out HBy.out (by omega) hae hpa
                obtain ⟨q, rfl⟩ := Int.eq_ofNat_of_zero_le (show 0 ≤ p by omega)
                have hql : q < l.length := by omega
                obtain ⟨b2, off2, y, hA2, _, hy, hcy⟩ := HR.out.at' hql
                injection hA2 with hA2
                injection hA2 with hb2 ho2
                subst hb2; subst ho2
                obtain ⟨hy0, hy1⟩ := HBy.out.at hy
                have HY := Lib.hid hy
                clear hy
                have hpa' : a ≤ q := by omega
                go_wp2
                go_roundg (q - a)
                case measure => omega
                case rel => exact ⟨(q : Int) - 1, 128 * n + y % 128, by omega, by omega, by omega, rfl, rfl, rfl, Lib.hid (tail_next HT.out HBy.out HL.out HF.out (by omega) hae (by omega) (by omega) HY.out)⟩
              · have hpa' : decide ((a : Int) ≤ p) = false := by simpa using hpa
                have HD := Lib.hid (tail_done HT.out hae (by omega))
                go_wp2
                go_ret3
                exact ⟨read_some HD.out (by omega), rfl⟩
    · have hlt' : decide (e < l.length) = false := by simp; omega
      have hlt2 : l.length ≤ e := by omega
      go_wp2
      go_ret3
      exact ⟨read_none (none_end HL.out hae HEL.out hlt2), rfl⟩

/-- The document's read: what is written from a place on, and the byte behind it. -/
theorem read_any (A : Option Addr) (c : Nat) (l : List Int) (a : Int) (w : World) (B : Nat) (hr : Rd .u8 w B A l) (hl : (l.length : Int) ≤ 10000000) (hb : Byt l) (ha : a ≤ 9223372036854775807) :
    Calls Tryd.prog 34 #[.slice A l.length c, .int .i64 a] w fun e w' => e = .returned (.tuple #[.int .u64 (vv (rd l a)), .int .i64 (nx a (rd l a)), .bool (ok (rd l a))]) ∧ w = w' := by
  by_cases h : a < 0
  · exact (read_neg A c l a w h).mono fun e w' hh => ⟨hh.1.trans (read_none (rd_neg h)), hh.2⟩
  · obtain ⟨n, rfl⟩ := Int.eq_ofNat_of_zero_le (show 0 ≤ a by omega)
    rw [rd_pos (by omega)]
    exact read_nat A c l n w B hr hl hb ha
end Go.Proofs.YtadpajkjjmdcnaaDoor.Pk
