/-
  Contracts of bytes.Clone, mayBeNumber, readFrame and Wrap: what they answer is new memory, and nothing else has turned.
-/
import Derived.Test.YtcefkjeoknaijaaRow
import Derived.Lib.SliceRun
namespace Go.Proofs.Ytcefkjeoknaijaa.Con
open Go.RowKit Mth Mem

theorem clone_nil (c : Nat) (w : World) : Calls Try.prog 25 #[.slice none 0 c] w (New w []) := by
  have hq : (binOp .eql 23 (.slice none 0 c) (.slice none 0 0)).run Try.prog w = .ok (.bool true) w := Lib.run_eql_slice_nil w 23 5 none 0 c 0 0 Try.underlying23
  go_enter Try.func25, Try.ntmps25
  go_wp2
  go_ret
  exact ⟨[], none, 0, rfl, rfl, World.ownsRow_nil w w.heap.size 5 1, Below.refl _ _⟩

theorem clone_some (ad : Addr) (c : Nat) (l : List Int) (w : World) (B : Nat) (hr : Rd .u8 w B (some ad) l) (hB : B ≤ w.heap.size) (hl : (l.length : Int) ≤ 100000) :
    Calls Try.prog 25 #[.slice (some ad) l.length c] w (New w l) := by
  have HR := Lib.hid hr; clear hr
  have hq : (binOp .eql 23 (.slice (some ad) l.length c) (.slice none 0 0)).run Try.prog w = .ok (.bool false) w := Lib.run_eql_slice_nil w 23 5 (some ad) l.length c 0 0 Try.underlying23
  go_enter Try.func25, Try.ntmps25
  go_wp2_with (at_builtin; refine wpList_app (K := .u8) (t := 23) (e := 5) Try.underlying23 byte_info rfl (by omega) rfl (.tmp 5) (.tmp 6) rfl w.heap.size B (some ⟨w.heap.size, 0, none⟩) 0 [] l (some ad) c rfl rfl (own_empty w) (HR.out.alloc hB _) (by simp; omega) (by simp) ?_; intro A2 c2 w2 lm HL HO2 HS2)
  go_ret
  have hl2 : lm = l := HL.out
  subst hl2
  exact ⟨lm, A2, c2, rfl, rfl, HO2, below_step ((Below.refl _ _).alloc (Nat.le_refl _) _) HS2.out (fun k hk => by simp [blk] at hk; omega) (by simp)⟩

/-- Clone: the same bytes in new memory. -/
theorem clone_any (A : Option Addr) (n c : Nat) (l : List Int) (hn : l.length = n) (w : World) (B : Nat) (hr : Rd .u8 w B A l) (hB : B ≤ w.heap.size) (hl : (l.length : Int) ≤ 100000) :
    Calls Try.prog 25 #[.slice A n c] w (New w l) := by
  subst hn
  rcases A with _ | ad
  · have : l = [] := by
      rcases hr with h | ⟨b, off, h, _⟩
      · exact h
      · cases h
    subst this
    exact clone_nil c w
  · exact clone_some ad c l w B hr hB hl

theorem rd_empty {K : IntKind} {w : World} {B : Nat} {A : Option Addr} {m : List Int} (h : m = []) : Rd K w B A m := .inl h
theorem app_one_len {l l1 : List Int} (h : l1 = l ++ [1]) (hl : (l.length : Int) ≤ 90000) : (l1.length : Int) ≤ 100000 := by rw [h, List.length_append]; simp only [List.length_cons, List.length_nil]; omega
theorem app_one_byt {l l1 : List Int} (h : l1 = l ++ [1]) (hl : Byt l) : Byt l1 := by rw [h]; exact hl.app (by intro x hx; simp at hx; omega)
theorem dg_one : dg (1 : Int).toNat = [1] := by
  show dg 1 = _
  rw [dg_lt (by omega)]; rfl

theorem may_t (A : Option Addr) (n c : Nat) (l : List Int) (hn : l.length = n) (w : World) (B : Nat) (hr : Rd .u8 w B A l) (hB : B ≤ w.heap.size) (hl : (l.length : Int) ≤ 90000) (hb : Byt l) (h : opn l = true) :
    Calls Try.prog 24 #[.slice A n c] w fun e w' => e = .returned (.bool true) ∧ Below w.heap.size w w' := by
  subst hn
  obtain ⟨v, k, hv⟩ := may_yes hb h
  have HV := Lib.hid hv; have HR := Lib.hid hr; have HBy := Lib.hid hb
  clear hv hr hb h
  go_enter Try.func24, Try.ntmps24
  go_wp2_with (first
    | ((with_reducible refine (uint_any A c l 1 _ B HR.out hB hl (by omega) (by omega)).mono ?_); rintro e w1 ⟨l1, A1, c1, HL1, rfl, HO1, HB1⟩; have HL2 : Hid (l1 = l ++ [1]) := Lib.hid (by rw [HL1.out, dg_one]); have HV2 : Hid (ru l1 0 = some (v, k)) := Lib.hid (by rw [HL2.out]; exact HV.out); have HRd := Lib.hid (Rd.of_own HO1.out); have hl1 := app_one_len HL2.out hl; have HBy1 := Lib.hid (app_one_byt HL2.out HBy.out))
    | ((with_reducible refine (ru_yes A1 c1 l1 0 _ _ HRd.out hl1 HBy1.out (by omega) HV2.out).mono ?_); rintro e w' ⟨rfl, rfl⟩))
  go_ret
  exact ⟨rfl, HB1.out⟩
theorem may_f (A : Option Addr) (n c : Nat) (l : List Int) (hn : l.length = n) (w : World) (B : Nat) (hr : Rd .u8 w B A l) (hB : B ≤ w.heap.size) (hl : (l.length : Int) ≤ 90000) (hb : Byt l) (hu : ru l 0 = none) (h : opn l = false) :
    Calls Try.prog 24 #[.slice A n c] w fun e w' => e = .returned (.bool false) ∧ Below w.heap.size w w' := by
  subst hn
  have hv := may_no hb hu h
  have HV := Lib.hid hv; have HR := Lib.hid hr; have HBy := Lib.hid hb
  clear hv hr hb h hu
  go_enter Try.func24, Try.ntmps24
  go_wp2_with (first
    | ((with_reducible refine (uint_any A c l 1 _ B HR.out hB hl (by omega) (by omega)).mono ?_); rintro e w1 ⟨l1, A1, c1, HL1, rfl, HO1, HB1⟩; have HL2 : Hid (l1 = l ++ [1]) := Lib.hid (by rw [HL1.out, dg_one]); have HV2 : Hid (ru l1 0 = none) := Lib.hid (by rw [HL2.out]; exact HV.out); have HRd := Lib.hid (Rd.of_own HO1.out); have hl1 := app_one_len HL2.out hl; have HBy1 := Lib.hid (app_one_byt HL2.out HBy.out))
    | ((with_reducible refine (ru_no A1 c1 l1 0 _ _ HRd.out hl1 HBy1.out (by omega) HV2.out).mono ?_); rintro e w' ⟨rfl, rfl⟩))
  go_ret
  exact ⟨rfl, HB1.out⟩

section
variable (g : Nat) (c : Nat) (l : List Int) (a : Nat) (w : World) (B : Nat) (hr : Rd .u8 w B (some ⟨g, 0, none⟩) l) (hB : B ≤ w.heap.size) (hl : (l.length : Int) ≤ 90000) (hlc : l.length ≤ c) (hb : Byt l) (ha : a ≤ l.length)
include hr hB hl hlc hb ha

theorem rf_may (ho : opn (l.drop a) = true) (hu : ru (l.drop a) 0 = none) : Calls Try.prog 17 #[.slice (some ⟨g, 0, none⟩) l.length c, .int .i64 a] w fun e w' => e = .returned (.tuple #[.slice none 0 0, .int .i64 a, .int .i64 8]) ∧ Below w.heap.size w w' := by
  have HU := Lib.hid (ru_drop_none hu); have HO := Lib.hid ho; have HR := Lib.hid hr; have HBy := Lib.hid hb; have HRc : Hid (Rd .u8 w B (some ⟨g, a, none⟩) (l.drop a)) := Lib.hid (by simpa using Rd.cut hr a); have HBc := Lib.hid (hb.drop a)
  have HDL := Lib.hid (List.length_drop (i := a) (l := l))
  have HD0 : Hid (c = a → l.drop a = []) := fun e => List.drop_eq_nil_of_le (by omega)
  clear hu ho hr hb
  go_enter Try.func17, Try.ntmps17
  go_wp2_with (first
    | ((with_reducible refine (ru_no _ c l a _ B HR.out (by omega) HBy.out (by omega) HU.out).mono ?_); rintro e w' ⟨rfl, rfl⟩)
    | ((with_reducible refine (may_t _ _ _ (l.drop a) HDL.out _ B HRc.out hB (by rw [HDL.out]; omega) HBc.out HO.out).mono ?_); rintro e w1 ⟨rfl, hb1⟩)
    | ((with_reducible refine (may_t _ _ _ (l.drop a) HDL.out _ B (rd_empty (HD0.out (by omega))) hB (by rw [HDL.out]; omega) HBc.out HO.out).mono ?_); rintro e w1 ⟨rfl, hb1⟩))
  all_goals
    go_ret3
    exact ⟨rfl, hb1⟩

theorem rf_form (ho : opn (l.drop a) = false) (hu : ru (l.drop a) 0 = none) : Calls Try.prog 17 #[.slice (some ⟨g, 0, none⟩) l.length c, .int .i64 a] w fun e w' => e = .returned (.tuple #[.slice none 0 0, .int .i64 a, .int .i64 2]) ∧ Below w.heap.size w w' := by
  have HU := Lib.hid (ru_drop_none hu); have HO := Lib.hid ho; have HR := Lib.hid hr; have HBy := Lib.hid hb; have HRc : Hid (Rd .u8 w B (some ⟨g, a, none⟩) (l.drop a)) := Lib.hid (by simpa using Rd.cut hr a); have HBc := Lib.hid (hb.drop a)
  have HUd := Lib.hid hu
  have HDL := Lib.hid (List.length_drop (i := a) (l := l))
  have HD0 : Hid (c = a → l.drop a = []) := fun e => List.drop_eq_nil_of_le (by omega)
  clear hu ho hr hb
  go_enter Try.func17, Try.ntmps17
  go_wp2_with (first
    | ((with_reducible refine (ru_no _ c l a _ B HR.out (by omega) HBy.out (by omega) HU.out).mono ?_); rintro e w' ⟨rfl, rfl⟩)
    | ((with_reducible refine (may_f _ _ _ (l.drop a) HDL.out _ B HRc.out hB (by rw [HDL.out]; omega) HBc.out HUd.out HO.out).mono ?_); rintro e w1 ⟨rfl, hb1⟩)
    | ((with_reducible refine (may_f _ _ _ (l.drop a) HDL.out _ B (rd_empty (HD0.out (by omega))) hB (by rw [HDL.out]; omega) HBc.out HUd.out HO.out).mono ?_); rintro e w1 ⟨rfl, hb1⟩))
  all_goals
    go_ret3
    exact ⟨rfl, hb1⟩

omit hB hlc in
theorem rf_long {v k : Int} (hu : ru (l.drop a) 0 = some (v, k)) (hv : 4096 < v) : Calls Try.prog 17 #[.slice (some ⟨g, 0, none⟩) l.length c, .int .i64 a] w fun e w' => e = .returned (.tuple #[.slice none 0 0, .int .i64 a, .int .i64 3]) ∧ Below w.heap.size w w' := by
  have HU := Lib.hid (ru_drop_some hu); have HR := Lib.hid hr; have HBy := Lib.hid hb
  clear hu hr hb
  go_enter Try.func17, Try.ntmps17
  go_wp2_with ((with_reducible refine (ru_yes _ c l a _ B HR.out (by omega) HBy.out (by omega) HU.out).mono ?_); rintro e w' ⟨rfl, rfl⟩)
  go_ret3
  exact ⟨rfl, Below.refl _ _⟩

omit hB hlc in
theorem rf_short {v k : Int} (hu : ru (l.drop a) 0 = some (v, k)) (hv : v ≤ 4096) (hs : ((l.drop a).length : Int) - k < v) : Calls Try.prog 17 #[.slice (some ⟨g, 0, none⟩) l.length c, .int .i64 a] w fun e w' => e = .returned (.tuple #[.slice none 0 0, .int .i64 a, .int .i64 8]) ∧ Below w.heap.size w w' := by
  have hkb := ru_bound (hb.drop a) hu
  rw [List.length_drop] at hs hkb
  obtain ⟨p, hp⟩ : ∃ p : Int, a + k = p := ⟨_, rfl⟩
  have hus := ru_drop_some hu
  rw [hp] at hus
  have HU := Lib.hid hus; have HR := Lib.hid hr; have HBy := Lib.hid hb
  have hv' : decide (4096 < v) = false := by simp; omega
  have hs' : (l.length : Int) - p < v := by omega
  have hp0 : 0 ≤ p := by omega
  have hp1 : p ≤ l.length := by omega
  clear hu hr hb hs hus hkb hp
  go_enter Try.func17, Try.ntmps17
  go_wp2_with ((with_reducible refine (ru_yes _ c l a _ B HR.out (by omega) HBy.out (by omega) HU.out).mono ?_); rintro e w' ⟨rfl, rfl⟩)
  go_ret3
  exact ⟨rfl, Below.refl _ _⟩

theorem rf_load {s n : Nat} (h : st (l.drop a) = .load s n) (q : Nat) (hq : a + s + n = q) : Calls Try.prog 17 #[.slice (some ⟨g, 0, none⟩) l.length c, .int .i64 a] w fun e w' => ∃ x A1 c1, Hid (x = ((l.drop a).drop s).take n) ∧ e = .returned (.tuple #[.slice A1 x.length c1, .int .i64 q, .int .i64 0]) ∧ Hid (Own w' w.heap.size .u8 5 A1 c1 x) ∧ Hid (Below w.heap.size w w') := by
  obtain ⟨h1, h2, h3, h4⟩ := st_load (hb.drop a) h
  rw [List.length_drop] at h3
  obtain ⟨p, hp⟩ : ∃ p : Nat, a + s = p := ⟨_, rfl⟩
  have hus := ru_drop_some h1
  rw [show ((a : Int) + s) = (p : Int) by omega] at hus
  have hn4 : (n : Int) ≤ 4096 := by omega
  have hv' : decide ((4096 : Int) < n) = false := by simp; omega
  have hs' : decide ((l.length : Int) - p < n) = false := by simp; omega
  have hpq : p + n = q := by omega
  have hql : q ≤ l.length := by omega
  have HE := Lib.hid (show ((l.drop a).drop s).take n = (l.drop p).take n by rw [List.drop_drop, hp])
  have HRc : Hid (Rd .u8 w B (some ⟨g, p, none⟩) ((l.drop p).take n)) := Lib.hid (by simpa using (Rd.cut hr p).take n)
  have HDL : Hid (((l.drop p).take n).length = q - p) := Lib.hid (by simp; omega)
  have HDn : Hid (((l.drop p).take n).length = n) := Lib.hid (by simp; omega)
  have HD0 : Hid (c = p → (l.drop p).take n = []) := fun e => by rw [List.drop_eq_nil_of_le (by omega), List.take_nil]
  have HU := Lib.hid hus; have HR := Lib.hid hr; have HBy := Lib.hid hb
  clear hus hr hb h h1 h3 hp hq
  go_enter Try.func17, Try.ntmps17
  go_wp2_with (first
    | ((with_reducible refine (ru_yes _ c l a _ B HR.out (by omega) HBy.out (by omega) HU.out).mono ?_); rintro e w' ⟨rfl, rfl⟩)
    | ((with_reducible refine (clone_any _ _ _ ((l.drop p).take n) HDn.out _ B HRc.out hB (by rw [HDn.out]; omega)).mono ?_); rintro e w1 ⟨x, A1, c1, HX, rfl, HO1, HB1⟩)
    | ((with_reducible refine (clone_any _ _ _ ((l.drop p).take n) HDL.out _ B HRc.out hB (by rw [HDn.out]; omega)).mono ?_); rintro e w1 ⟨x, A1, c1, HX, rfl, HO1, HB1⟩)
    | ((with_reducible refine (clone_any _ _ _ ((l.drop p).take n) HDn.out _ B (rd_empty (HD0.out (by omega))) hB (by rw [HDn.out]; omega)).mono ?_); rintro e w1 ⟨x, A1, c1, HX, rfl, HO1, HB1⟩)
    | ((with_reducible refine (clone_any _ _ _ ((l.drop p).take n) HDL.out _ B (rd_empty (HD0.out (by omega))) hB (by rw [HDn.out]; omega)).mono ?_); rintro e w1 ⟨x, A1, c1, HX, rfl, HO1, HB1⟩))
  all_goals
    go_ret3
    exact ⟨x, A1, c1, by rw [HE.out]; exact HX, by rw [← hpq]; simp, HO1, HB1⟩

/-- readFrame where no frame has come whole. -/
theorem rf_wait (h : st (l.drop a) = .wait) : Calls Try.prog 17 #[.slice (some ⟨g, 0, none⟩) l.length c, .int .i64 a] w fun e w' => e = .returned (.tuple #[.slice none 0 0, .int .i64 a, .int .i64 8]) ∧ Below w.heap.size w w' := by
  unfold st at h
  split at h
  · next hu =>
    split at h
    · next ho => exact rf_may g c l a w B hr hB hl hlc hb ha ho hu
    · cases h
  · next v k hu =>
    split at h
    · cases h
    · split at h
      · next hv hs => exact rf_short g c l a w B hr hl hb ha hu (by omega) hs
      · cases h
/-- readFrame where none begins. -/
theorem rf_bad {x : Int} (h : st (l.drop a) = .bad x) : Calls Try.prog 17 #[.slice (some ⟨g, 0, none⟩) l.length c, .int .i64 a] w fun e w' => e = .returned (.tuple #[.slice none 0 0, .int .i64 a, .int .i64 x]) ∧ Below w.heap.size w w' := by
  unfold st at h
  split at h
  · next hu =>
    split at h
    · cases h
    · next ho =>
      injection h with h
      subst h
      exact rf_form g c l a w B hr hB hl hlc hb ha (by simpa using ho) hu
  · next v k hu =>
    split at h
    · next hv =>
      injection h with h
      subst h
      exact rf_long g c l a w B hr hl hb ha hu hv
    · split at h <;> cases h
end

theorem ru_nil (w : World) : Calls Try.prog 23 #[.slice none 0 0, .int .i64 0] w fun e w' => e = .returned (.tuple #[.int .i64 0, .int .i64 0, .int .i64 2]) ∧ w = w' :=
  ru_no none 0 [] 0 w 0 Rd.nil (by simp) Byt.nil (by omega) rfl
theorem may_nil (w : World) : Calls Try.prog 24 #[.slice none 0 0] w fun e w' => e = .returned (.bool true) ∧ Below w.heap.size w w' :=
  may_t none 0 0 [] rfl w 0 Rd.nil (Nat.zero_le _) (by simp) Byt.nil rfl
theorem rf_nil (w : World) : Calls Try.prog 17 #[.slice none 0 0, .int .i64 0] w fun e w' => e = .returned (.tuple #[.slice none 0 0, .int .i64 0, .int .i64 8]) ∧ Below w.heap.size w w' := by
  go_enter Try.func17, Try.ntmps17
  go_wp2_with (first
    | ((with_reducible refine (ru_nil _).mono ?_); rintro e w' ⟨rfl, rfl⟩)
    | ((with_reducible refine (may_nil _).mono ?_); rintro e w1 ⟨rfl, hb1⟩))
  go_ret3
  exact ⟨rfl, hb1⟩

theorem wrap_long (A : Option Addr) (c : Nat) (l : List Int) (w : World) (h : (4096 : Int) < l.length) : Calls Try.prog 15 #[.slice A l.length c] w fun e w' => e = .returned (.tuple #[.slice none 0 0, .int .i64 3]) ∧ w = w' := by
  go_enter Try.func15, Try.ntmps15
  go_wp2
  go_ret2
  exact ⟨rfl, rfl⟩
theorem uint_nil (n : Int) (w : World) (h0 : -9223372036854775808 ≤ n) (h1 : n ≤ 9223372036854775807) : Calls Try.prog 21 #[.slice none 0 0, .int .i64 n] w (New w (dg n.toNat)) :=
  uint_any none 0 [] n w 0 Rd.nil (Nat.zero_le _) (by simp) h0 h1
/-- What Wrap leaves: the frame in new memory, OK. -/
def Wrapped (w : World) (l : List Int) (e : Ending) (w' : World) : Prop :=
  ∃ lm A c, Hid (lm = frm l) ∧ e = .returned (.tuple #[.slice A lm.length c, .int .i64 0]) ∧ Hid (Own w' w.heap.size .u8 5 A c lm) ∧ Hid (Below w.heap.size w w')
theorem wrap_ok (A : Option Addr) (n c : Nat) (l : List Int) (hn : l.length = n) (w : World) (B : Nat) (hr : Rd .u8 w B A l) (hB : B ≤ w.heap.size) (h : (l.length : Int) ≤ 4096) : Calls Try.prog 15 #[.slice A n c] w (Wrapped w l) := by
  subst hn
  have HR := Lib.hid hr; clear hr
  have h' : decide ((4096 : Int) < l.length) = false := by simp; omega
  have h10 := dg_len10 (n := l.length) (by omega)
  have h10' : ((dg l.length).length : Int) ≤ 10 := by omega
  clear h10
  go_enter Try.func15, Try.ntmps15
  go_wp2_with (first
    | ((with_reducible refine (uint_nil _ _ (by omega) (by omega)).mono ?_); rintro e w1 ⟨l1, A1, c1, HL1, rfl, HO1, HB1⟩; have hl1 : (l1.length : Int) ≤ 10 := (by rw [HL1.out, Int.toNat_natCast]; omega))
    | (at_builtin; refine wpList_app (K := .u8) (t := 23) (e := 5) Try.underlying23 byte_info rfl (by omega) rfl (.tmp 9) (.tmp 10) rfl w.heap.size B A1 c1 l1 l A c rfl rfl HO1.out (HR.out.below HB1.out hB) (by omega) HB1.out.size ?_; intro A2 c2 w2 lm HL HO2 HS2))
  go_ret2
  refine ⟨lm, A2, c2, by rw [HL.out, HL1.out, Int.toNat_natCast]; rfl, rfl, HO2, new_step HB1.out HO1.out HS2.out⟩
end Go.Proofs.Ytcefkjeoknaijaa.Con
