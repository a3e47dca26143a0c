/-
  The contract of the document's Push.
-/
import Derived.Test.YtcefkjeoknaijaaRps
namespace Go.Proofs.Ytcefkjeoknaijaa.Con
open Go.RowKit Mth Mem

theorem rfin {l2 : List Int} {a : Nat} {l3 : List Int} {L L' : List (List Int)} {z : List Int} {x : Int} {y : List Int × Int} (hr : l3 = l2.drop a) (hp : parse l2 = (L, z, x)) (he : parse l2 = (L' ++ (parse (l2.drop a)).1, (parse (l2.drop a)).2)) (hs : parse l3 = ([], y)) : L' = L ∧ y.1 = z ∧ y.2 = x := by
  subst hr
  exact parse_fin rfl hp he hs
theorem num_bad {A : Option Addr} {c : Nat} {l : List Int} {w : World} {B : Nat} (hr : Rd .u8 w B A l) (hl : (l.length : Int) ≤ 90000) (hb : Byt l) {x : Int} (h : st l = .bad x) : Calls Try.prog 20 #[.slice A l.length c] w fun e w' => e = .returned (.tuple #[.int .i64 0, .int .i64 0, .bool false, .int .i64 x]) ∧ w = w' := by
  unfold st at h
  split at h
  · next hu =>
    split at h
    · cases h
    · next ho =>
      injection h with h
      exact num_none A c l w B hr hl hb hu x (by rw [if_neg ho]; exact h.symm)
  · next v k hu =>
    split at h
    · next hv =>
      injection h with h
      subst h
      exact num_long A c l w B hr hl hb hu hv
    · split at h <;> cases h
/-- Where no frame has come whole: what number tells, and that nothing is taken. -/
theorem num_wait {A : Option Addr} {c : Nat} {l : List Int} {w : World} {B : Nat} (hr : Rd .u8 w B A l) (hl : (l.length : Int) ≤ 90000) (hb : Byt l) (h : st l = .wait) : (Calls Try.prog 20 #[.slice A l.length c] w fun e w' => e = .returned (.tuple #[.int .i64 0, .int .i64 0, .bool false, .int .i64 0]) ∧ w = w') ∨ ∃ v k : Int, (Calls Try.prog 20 #[.slice A l.length c] w fun e w' => e = .returned (.tuple #[.int .i64 v, .int .i64 k, .bool true, .int .i64 0]) ∧ w = w') ∧ 0 ≤ v ∧ v ≤ 4096 ∧ 0 ≤ k ∧ k ≤ l.length ∧ (l.length : Int) - k < v := by
  unfold st at h
  split at h
  · next hu =>
    split at h
    · next ho => exact .inl (num_none A c l w B hr hl hb hu 0 (by rw [if_pos ho]))
    · cases h
  · next v k hu =>
    have hbd := ru_bound hb hu
    split at h
    · cases h
    · split at h
      · next hv hs => exact .inr ⟨v, k, num_yes A c l w B hr hl hb hu (by omega), by omega, by omega, by omega, by omega, hs⟩
      · cases h

theorem RIn.start {w w2 : World} {g : Nat} {u : Value} {A2 : Option Addr} {c2 : Nat} {l2 : List Int} (hd : Duo w2 g 30 u (.bool false)) (hg : g < w.heap.size) (hb : Below w.heap.size w w2) (ho : Own w2 w.heap.size .u8 5 A2 c2 l2) : RIn w w2 (w2.setCell ⟨g, 0, none⟩ (.slice A2 l2.length c2)) g A2 l2 0 A2 c2 l2 none 0 [] := by
  have hcap : l2.length ≤ c2 := by
    rcases own_cases ho with ⟨_, rfl, rfl⟩ | ⟨_, _, h⟩
    · simp
    · exact h
  refine ⟨hd.set0 _, by simp, rd_blk (Rd.of_own ho) (fun k hk => Below.heap_setCell _ _ _ _ ?_), hcap, rfl, Rows.nil _ _ _, (Turn.refl _ _ _).setCell _, hb, hg, fun k hk => ⟨(Own.lt ho k hk).1, ?_⟩, by simp⟩
  · have := (Own.lt ho k hk).1
    simp only
    omega
  · rcases ho.2 with ⟨hv, _⟩ | ⟨g2, cap, cur, hv, _, hh, _⟩
    · injection hv with hv; subst hv; simp [blk] at hk
    · injection hv with hv
      subst hv
      simp only [blk, Option.map_some, Option.some.injEq] at hk
      subst hk
      exact ⟨cur, hh⟩
theorem rd_ite {w : World} {B bb off : Nat} {l : List Int} (h : Rd .u8 w B (some ⟨bb, off, none⟩) l) (s : Nat) {c : Nat} (hc : l.length ≤ c) (n : Nat) : Rd .u8 w B (if c = s then some ⟨bb, off, none⟩ else some ⟨bb, off + s, none⟩) ((l.drop s).take n) := by
  split
  · exact .inl (by rw [List.drop_eq_nil_of_le (by omega), List.take_nil])
  · exact (Rd.cut h s).take n
theorem rd_ite' {w : World} {B bb off : Nat} {l : List Int} (h : Rd .u8 w B (some ⟨bb, off, none⟩) l) (s : Nat) {c : Nat} (hc : l.length ≤ c) : Rd .u8 w B (if c = s then some ⟨bb, off, none⟩ else some ⟨bb, off + s, none⟩) (l.drop s) := by
  split
  · exact .inl (List.drop_eq_nil_of_le (by omega))
  · exact Rd.cut h s
theorem blk_ite (bb off s c : Nat) : blk (if c = s then some ⟨bb, off, none⟩ else some ⟨bb, off + s, none⟩) = blk (some ⟨bb, off, none⟩) := by
  split <;> rfl
theorem row_lt {w : World} {lo : Nat} {f : Option Nat} {A : Option Addr} {c : Nat} {L : List (List Int)} (h : Rows w lo f A c L) : ∀ k, blk A = some k → lo ≤ k ∧ k < w.heap.size := by
  obtain ⟨xs, h1, _, _⟩ := h
  exact fun k hk => h1.lt k ((blk_own A L.length c).trans hk)

set_option maxHeartbeats 4000000 in
theorem rpush_any (w : World) (base g : Nat) (r : Option Nat) (l b : List Int) (B : Nat) (A : Option Addr) (c : Nat) (h : RFeed w base g r l false) (hr : Rd .u8 w B A b) (hB : B ≤ w.heap.size) (hl : (l.length : Int) ≤ 4104) (hm : (b.length : Int) ≤ 20000) (hby : Byt (l ++ b)) (L : List (List Int)) (z : List Int) (x : Int) (hp : parse (l ++ b) = (L, z, x)) :
    Calls Try.prog 11 #[.pointer (some ⟨g, 0, none⟩), .slice A b.length c] w (RCame w base g L z x) := by
  obtain ⟨A0, c0, hd, hbg, hrd, hrr, hty⟩ := h
  have hc1 := hd.cell1
  have hda := hd.below ((Below.refl w.heap.size w).alloc (Nat.le_refl _) (.cells #[] 5)) (Nat.le_refl _)
  have hca := hda.cell0
  have hg := hd.lt
  have HD := Lib.hid hd; have HRd := Lib.hid hrd; have HR := Lib.hid hr; have HBy := Lib.hid hby; have HP := Lib.hid hp
  clear hd hrd hrr hty hr hby hp hda
  go_enter Try.func11, Try.ntmps11
  go_wp2_with (first
    | (at_builtin; refine wpList_appN (K := .u8) (t := 23) (e := 5) Try.underlying23 byte_info rfl (by omega) rfl (.tmp 16) (.tmp 20) rfl w.heap.size w.heap.size (some ⟨w.heap.size, 0, none⟩) 0 0 [] l A0 _ c0 rfl rfl rfl rfl (own_empty w) (HRd.out.alloc (Nat.le_refl _) _) (by simp; omega) (by simp) ?_; intro A1 c1 w1 l1 HL1 HO1 HS1; have HB1 := Lib.hid (below_step ((Below.refl w.heap.size w).alloc (Nat.le_refl _) _) HS1.out (fun k hk => (by simp [blk] at hk; omega)) (by simp)); have hl1 : (l1.length : Int) ≤ 4104 := (by rw [HL1.out]; simpa using hl))
    | (at_builtin; refine wpList_appN (K := .u8) (t := 23) (e := 5) Try.underlying23 byte_info rfl (by omega) rfl (.tmp 21) (.tmp 22) rfl w.heap.size B A1 _ c1 l1 b A _ c rfl rfl rfl rfl HO1.out (HR.out.below HB1.out hB) (by omega) HB1.out.size ?_; intro A2 c2 w2 l2 HL2 HO2 HS2; have HB2 := Lib.hid (below_step HB1.out HS2.out (fun k hk => (HO1.out.lt k hk).1) HB1.out.size); have hd2 := HD.out.below HB2.out (Nat.le_refl _); have hc2 := hd2.cell0; have hf2 := hd2.frozen0; have HD2 := Lib.hid hd2; clear hd2))
  have HBl2 : Hid (Byt l2) := Lib.hid (by rw [HL2.out, HL1.out]; exact HBy.out)
  have HP2 : Hid (parse l2 = (L, z, x)) := Lib.hid (by rw [HL2.out, HL1.out]; exact HP.out)
  have hl2 : (l2.length : Int) ≤ 24104 := by rw [HL2.out, List.length_append]; omega
  have HI := Lib.hid (RIn.start HD2.out hg HB2.out HO2.out)
  go_loopg [6] l2.length (fun m s6 wr => ∃ (a : Nat) (L1 : List (List Int)) (LA : Option Addr) (Lc : Nat) (A3 : Option Addr) (c3 : Nat) (l3 : List Int), a ≤ l2.length ∧ (L1.length : Int) ≤ a ∧ m = l2.length - a ∧ s6 = .slice LA L1.length Lc ∧ Hid (RIn w w2 wr g A2 l2 a A3 c3 l3 LA Lc L1))
  case atStart => exact ⟨0, [], none, 0, A2, c2, l2, by omega, by simp, rfl, rfl, HI⟩
  case round =>
    obtain ⟨a, L1, LA, Lc, A3, c3, l3, ha, hLa, rfl, rfl, HI3⟩ := hrel
    have hc3 := HI3.out.duo.cell0
    have hl3 : (l3.length : Int) ≤ 24104 := by rw [HI3.out.rest, List.length_drop]; omega
    have HB3 : Hid (Byt l3) := Lib.hid (by rw [HI3.out.rest]; exact HBl2.out.drop a)
    have hwr := HI3.out.turn.size
    have hcap := HI3.out.cap
    rcases hst : st l3 with _ | y | ⟨s, n⟩
    · have HF := Lib.hid (rfin HI3.out.rest HP2.out HI3.out.par (parse_wait hst))
      rcases num_wait (c := c3) HI3.out.rd (by omega) HB3.out hst with hn | ⟨v, k, hn, hv0, hv1, hk0, hk1, hvk⟩
      · have HN := Lib.hid hn; clear hn hst
        go_wp2_with ((with_reducible refine (HN.out).mono ?_); rintro e w' ⟨rfl, rfl⟩)
        go_ret2
        obtain ⟨f1, f2, f3⟩ := HF.out
        subst f1; subst f3
        rw [← f2]
        exact HI3.out.done hbg
      · have HN := Lib.hid hn; clear hn hst
        go_wp2_with ((with_reducible refine (HN.out).mono ?_); rintro e w' ⟨rfl, rfl⟩)
        go_ret2
        obtain ⟨f1, f2, f3⟩ := HF.out
        subst f1; subst f3
        rw [← f2]
        exact HI3.out.done hbg
    · have HF := Lib.hid (rfin HI3.out.rest HP2.out HI3.out.par (parse_bad hst))
      have hy := st_bad hst
      have HST := Lib.hid hst; clear hst
      have hy0 : (y != 0) = true := by simp; omega
      have hy1 : (y == 0) = false := by simp; omega
      have hf1 := HI3.out.duo.frozen1
      have hk1 := HI3.out.duo.cell1
      have hk0 := (HI3.out.duo.set1 (.bool true)).cell0
      have hf0 := (HI3.out.duo.set1 (.bool true)).frozen0
      go_wp2_with ((with_reducible refine (num_bad (c := c3) HI3.out.rd (by omega) HB3.out HST.out).mono ?_); rintro e w' ⟨rfl, rfl⟩)
      go_ret2
      obtain ⟨f1, f2, f3⟩ := HF.out
      subst f1; subst f3
      rw [← f2]
      exact HI3.out.bad hbg (by omega)
    · obtain ⟨k1, k2, k3, k4⟩ := st_load HB3.out hst
      have HU := Lib.hid k1
      have HST := Lib.hid hst; clear hst k1
      obtain ⟨bb, off, _, hA3, _, _, _⟩ := HI3.out.rd.at' (k := 0) (by omega)
      subst hA3
      obtain ⟨q, hq⟩ : ∃ q : Nat, s + n = q := ⟨_, rfl⟩
      have hn4 : (n : Int) ≤ 4096 := by omega
      have hs' : decide ((l3.length : Int) - s < n) = false := by simp; omega
      have hql : q ≤ l3.length := by omega
      have hsq : s ≤ q := by omega
      have HRc : Hid (Rd .u8 wr w2.heap.size (if c3 = s then some ⟨bb, off, none⟩ else some ⟨bb, off + s, none⟩) ((l3.drop s).take n)) := Lib.hid (rd_ite HI3.out.rd s hcap n)
      have HDn : Hid (((l3.drop s).take n).length = n) := Lib.hid (by simp; omega)
      have hca4 := (HI3.out.duo.below ((Below.refl wr.heap.size wr).alloc (Nat.le_refl _) (.cells #[] 5)) (Nat.le_refl _)).cell0
      go_wp2_with (first
        | ((with_reducible refine (num_yes _ c3 l3 _ _ HI3.out.rd (by omega) HB3.out HU.out hn4).mono ?_); rintro e w' ⟨rfl, rfl⟩)
        | (at_builtin; refine wpList_appN (K := .u8) (t := 23) (e := 5) Try.underlying23 byte_info rfl (by omega) rfl (.tmp 61) (.tmp 70) rfl wr.heap.size w2.heap.size (some ⟨wr.heap.size, 0, none⟩) 0 0 [] ((l3.drop s).take n) _ _ _ rfl rfl rfl (by have := HDn.out; omega) (own_empty wr) (HRc.out.alloc hwr _) (by rw [HDn.out]; simp; omega) (by simp) ?_; intro A5 c5 w5 x5 HX5 HO5 HS5; have HB5 := Lib.hid (below_step ((Below.refl wr.heap.size wr).alloc (Nat.le_refl _) _) HS5.out (fun k hk => (by simp [blk] at hk; omega)) (by simp)))
        | (at_builtin; refine wpList_appL rfl (.tmp 60) (.tmp 72) rfl w2.heap.size none LA Lc L1 [x5] [.slice A5 x5.length c5] _ _ _ rfl rfl rfl ((HI3.out.rows.below HB5.out (Nat.le_refl _)).below ((Below.refl _ _).alloc (Nat.le_refl _) _) (Nat.le_refl _)) (rdv_new _ _ _ _ rfl) (LoadsAt.one (own_base (HO5.out.alloc _) hwr) (fun j _ => by simp)) (by simp; omega) (by have := HB5.out.size; simp; omega) (fun k hk => by cases hk) ?_; intro A7 c7 w7 L7 HL7 HR7 HS7; have HB7 := Lib.hid (below_step ((HB5.out.mono hwr).alloc (by have := HB5.out.size; omega) _) HS7.out (fun k hk => (row_lt HI3.out.rows k hk).1) (by have := HB5.out.size; simp; omega)); have hd7 := HI3.out.duo.keep (HB7.out.block g (by have := HI3.out.g0; have := HI3.out.from0.size; omega)); have hc7 := hd7.cell0; have hf7 := hd7.frozen0; clear hd7))
      all_goals
        have HX : Hid (x5 = (l3.drop s).take n) := Lib.hid (by rw [HX5.out]; rfl)
        have HQ : Hid (l3.drop q = l3.drop (s + n)) := Lib.hid (by rw [hq])
        have hlq := List.length_drop (i := q) (l := l3)
        have hal : a + l3.length = l2.length := by rw [HI3.out.rest, List.length_drop]; omega
        have hL7 : (L7.length : Int) ≤ ((a + q : Nat) : Int) := by rw [HL7.out, List.length_append]; simp only [List.length_cons, List.length_nil]; omega
        go_roundg (l2.length - (a + q))
        case measure => omega
        case rel =>
          first
          | exact ⟨a + q, L7, A7, c7, some ⟨bb, off + q, none⟩, c3 - q, l3.drop q, by omega, hL7, rfl, rfl, Lib.hid (HI3.out.next HBl2.out HST.out (by omega) HX.out HL7.out HB7.out HR7.out HQ.out hlq (Rd.cut (HI3.out.rd.below HB7.out (Nat.le_refl _)) q) (by omega) rfl)⟩
          | exact ⟨a + q, L7, A7, c7, some ⟨bb, off, none⟩, 0, l3.drop q, by omega, hL7, rfl, rfl, Lib.hid (HI3.out.next HBl2.out HST.out (by omega) HX.out HL7.out HB7.out HR7.out HQ.out hlq (rd_empty (List.drop_eq_nil_of_le (by omega))) (by omega) rfl)⟩
end Go.Proofs.Ytcefkjeoknaijaa.Con
