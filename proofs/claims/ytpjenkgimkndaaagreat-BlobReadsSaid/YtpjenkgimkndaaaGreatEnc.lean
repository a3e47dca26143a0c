/-
  Contracts of the program's calls that write content as bytes and read it: Encode, read, Decode; and of bytes.HasPrefix.
-/
import Derived.Test.YtpjenkgimkndaaaGreatRdd
import Derived.Test.YtpjenkgimkndaaaGreatBca
import Derived.Lib.SlBytesConst
namespace Go.Proofs.YtpjenkgimkndaaaGreat.Con
open Go.RowKit Go.Maps Pm Mth

abbrev oMk : Obj := .cells #[.int .u8 66, .int .u8 82, .int .u8 87, .int .u8 49] 5 (4, 5)
theorem conv_mk (w : World) : (convert 38 38 (.slice (some ⟨w.heap.size, 0, none⟩) 4 4)).run Tryz.prog (w.alloc (.cells #[.int .u8 66, .int .u8 82, .int .u8 87, .int .u8 49] 5)) = .ok (.slice (some ⟨w.heap.size, 0, none⟩) 4 4) (w.alloc oMk) :=
  Lib.run_convert_bytes_const w 38 5 #[.int .u8 66, .int .u8 82, .int .u8 87, .int .u8 49] 4 4 Tryz.underlying38 Tryz.underlying5
theorem conv_mk' {w : World} {b : Nat} (hb : w.heap.size = b) : (convert 38 38 (.slice (some ⟨b, 0, none⟩) 4 4)).run Tryz.prog (w.alloc (.cells #[.int .u8 66, .int .u8 82, .int .u8 87, .int .u8 49] 5)) = .ok (.slice (some ⟨b, 0, none⟩) 4 4) (w.alloc oMk) := by
  subst hb; exact conv_mk w
theorem rd_mk (w : World) : Rd .u8 (w.alloc oMk) (w.heap.size + 1) (some ⟨w.heap.size, 0, none⟩) mk4 := by
  refine .inr ⟨w.heap.size, 0, rfl, by omega, fun k x hx => ?_⟩
  have hc := cell_of_row (w.alloc oMk) w.heap.size (0 + k) #[.int .u8 66, .int .u8 82, .int .u8 87, .int .u8 49] 5 (4, 5) (heap_alloc_new w _)
  rw [hc, Nat.zero_add, ← Array.getElem?_toList]
  exact vs_at hx
theorem mk_byt : Byt mk4 := by intro x hx; simp [mk4] at hx; omega
theorem ints_mk (ad : Addr) (A' : Option Addr) (c' : Nat) (m : List Int) (w : World) (B B' : Nat) (hr : Rd .u8 w B (some ad) mk4) (hB : B ≤ w.heap.size) (hr' : Rd .i64 w B' A' m) (hB' : B' ≤ w.heap.size) (hm : Fit m) (hm2 : (m.length : Int) ≤ 800000) :
    Calls Tryz.prog 33 #[.slice (some ad) 4 4, .slice A' m.length c'] w (Pk.New w (En m)) :=
  Pk.ints_any (some ad) 4 mk4 A' c' m w B B' hr hB (by simp [mk4]) hr' hB' hm hm2
theorem Own.cap {w : World} {base : Nat} {K : IntKind} {e : TypeId} {A : Option Addr} {c : Nat} {l : List Int} (h : Own w base K e A c l) : l.length ≤ c := by
  rcases h.2 with ⟨hv, h0⟩ | ⟨g, cap, cur, hv, _, _, hn, _⟩
  · injection hv with _ h1 h2; omega
  · injection hv with _ h1 h2; omega
theorem Own.rd {w : World} {base : Nat} {K : IntKind} {e : TypeId} {A : Option Addr} {c : Nat} {l : List Int} (h : Own w base K e A c l) : Rd K w w.heap.size A l := Rd.of_own h
/-- What Encode answers. -/
def EA (w : World) (c : Cn) (e : Ending) (w' : World) : Prop :=
  ∃ (lm : List Int) (A : Option Addr) (cc : Nat) (er : Int), e = .returned (.tuple #[.slice A lm.length cc, .int .i64 er]) ∧ Hid ((RightC c ∧ er = 0 ∧ lm = En (fCn c)) ∨ (¬ RightC c ∧ er = 1 ∧ lm = [])) ∧ Hid (Own w' w.heap.size .u8 5 A cc lm) ∧ Hid (Below w.heap.size w w')
theorem own_none8 (w : World) (b : Nat) : Own w b .u8 5 none 0 [] := ⟨rfl, .inl ⟨rfl, rfl⟩⟩
set_option maxRecDepth 20000 in
set_option maxHeartbeats 4000000 in
theorem encode_c {w : World} {B : Nat} (x : Cn) (hr : RC w B x) (hB : B ≤ w.heap.size) (hs : Sm x) (hf : RightC x → Fit (fCn x)) (hl : ((fCn x).length : Int) ≤ 800000) :
    Calls Tryz.prog 13 #[cnv x] w (EA w x) := by
  obtain ⟨y, hy⟩ := bex (RightC x)
  have hb0 : Below w.heap.size w (w.alloc (.cells #[.slice x.aA x.ab.length x.aC, .slice x.uA x.au.length x.uC, .slice x.fA x.fo.length x.fC, .int .i64 x.W, .int .i64 x.H, .slice x.gA x.wl.length x.gC, .int .i64 x.dx, .int .i64 x.dy, .int .i64 x.lx, .int .i64 x.ly] 31)) := by go_grown
  have HBX : Hid (∀ V, Below (w.heap.size + 1) (w.alloc (.cells #[.slice x.aA x.ab.length x.aC, .slice x.uA x.au.length x.uC, .slice x.fA x.fo.length x.fC, .int .i64 x.W, .int .i64 x.H, .slice x.gA x.wl.length x.gC, .int .i64 x.dx, .int .i64 x.dy, .int .i64 x.lx, .int .i64 x.ly] 31)) V → ∀ o, V.cell? ⟨w.heap.size, o, none⟩ = _) := Lib.hid (fun V hV o => (hV.cell (p := ⟨w.heap.size, o, none⟩) (by simp)).trans (cellOf' (heap_alloc_new w _) o))
  have HR := Lib.hid (hr.below hb0 hB); have HB0 := Lib.hid hb0; have HS := Lib.hid hs; have HF := Lib.hid hf; have HL := Lib.hid hl; have HY := Lib.hid hy; have HBw := Lib.hid hB
  have hsz0 : (w.alloc (.cells #[.slice x.aA x.ab.length x.aC, .slice x.uA x.au.length x.uC, .slice x.fA x.fo.length x.fC, .int .i64 x.W, .int .i64 x.H, .slice x.gA x.wl.length x.gC, .int .i64 x.dx, .int .i64 x.dy, .int .i64 x.lx, .int .i64 x.ly] 31)).heap.size = w.heap.size + 1 := by simp
  clear hr hs hf hl hy hb0 hB
  have hz := HBX.out _ (Below.refl _ _)
  go_enter Tryz.func13, Tryz.ntmps13
  go_wp2_with (fail)
  generalize w.alloc (.cells #[.slice x.aA x.ab.length x.aC, .slice x.uA x.au.length x.uC, .slice x.fA x.fo.length x.fC, .int .i64 x.W, .int .i64 x.H, .slice x.gA x.wl.length x.gC, .int .i64 x.dx, .int .i64 x.dy, .int .i64 x.lx, .int .i64 x.ly] 31) = w0 at *
  have HSz := Lib.hid hsz0
  clear hsz0
  have hlt0 : w.heap.size < w0.heap.size := by have := HSz.out; omega
  (with_reducible refine (right_c HR.out (by have := HBw.out; omega) HS.out y HY.out).mono ?_); rintro e w1 ⟨rfl, hB1⟩
  have HB1 := Lib.hid hB1
  have hz1 := HBX.out _ (hB1.mono (by have := HSz.out; omega))
  have hlt1 : w.heap.size < w1.heap.size := Nat.lt_of_lt_of_le hlt0 hB1.size
  have HV1 : Hid (Below w.heap.size w w1) := Lib.hid (HB0.out.trans (hB1.mono (by omega)))
  clear hB1 hz
  cases y with
  | false =>
    go_wp2
    go_ret2
    exact ⟨[], none, 0, 1, rfl, Lib.hid (.inr ⟨fun h => (by have := HY.out.2 h; cases this), rfl, rfl⟩), Lib.hid (own_none8 _ _), HV1⟩
  | true =>
    have HRt := Lib.hid (HY.out.1 rfl)
    have hcv := conv_mk w1
    have hz2 := HBX.out (w1.alloc oMk) ((HB1.out.mono (by have := HSz.out; omega)).alloc (by omega) _)
    have HV2 : Hid (Below w.heap.size w (w1.alloc oMk)) := Lib.hid (HV1.out.alloc (by omega) _)
    have HM := Lib.hid (rd_mk w1)
    have HRm : Hid (RC (w1.alloc oMk) w.heap.size x) := Lib.hid ((HR.out.below (HB1.out.mono (by have := HSz.out; omega)) HBw.out |>.below ((Below.refl w1.heap.size w1).alloc (Nat.le_refl _) oMk) (by have := HBw.out; omega)).more HBw.out)
    have hlt2 : w.heap.size < (w1.alloc oMk).heap.size := by simp; omega
    go_wp2_with (first
      | ((with_reducible refine (flat_c (w := w1.alloc oMk) x HRm.out (Nat.le_of_lt hlt2) (by have := HL.out; omega)).mono ?_); rintro e w3 ⟨l3, A3, c3, HL3, rfl, HO3, HB3⟩)
      | ((with_reducible refine (ints_mk _ A3 c3 l3 _ _ w3.heap.size (HM.out.below HB3.out (by simp)) (by have := HB3.out.size; simp at this; omega) (Own.rd HO3.out) (Nat.le_refl _) (by rw [HL3.out]; exact HF.out HRt.out) (by rw [HL3.out]; exact HL.out)).mono ?_); rintro e w4 ⟨l4, A4, c4, HL4, rfl, HO4, HB4⟩))
    go_ret2
    refine ⟨l4, A4, c4, 0, rfl, Lib.hid (.inl ⟨HRt.out, rfl, by rw [HL4.out, HL3.out]⟩), Lib.hid (own_base HO4.out (Nat.le_trans (HV2.out.trans (HB3.out.mono (Nat.le_of_lt hlt2))).size (Nat.le_refl _))), Lib.hid ?_⟩
    exact (HV2.out.trans (HB3.out.mono (Nat.le_of_lt hlt2))).trans (HB4.out.mono (Nat.le_trans (Nat.le_of_lt hlt2) HB3.out.size))

/-! ### reading -/
theorem str_iff {l m : List Int} (hl : Byt l) (hm : Byt m) : (strOfNums l).toList = (strOfNums m).toList ↔ l = m := by
  constructor
  · intro h
    refine str_inj hl hm ?_
    rw [ByteArray.toList_eq, ByteArray.toList_eq] at h
    exact ByteArray.ext (Array.toList_inj.1 h)
  · intro h; rw [h]
theorem beq_str {l m : List Int} (hl : Byt l) (hm : Byt m) (x : Bool) (hx : x = true ↔ l = m) : ((strOfNums l).toList == (strOfNums m).toList) = x := by
  rw [Bool.eq_iff_iff, hx, beq_iff_eq]
  exact str_iff hl hm
set_option maxHeartbeats 1000000 in
theorem equal_any (A A' : Option Addr) (c c' n n' : Nat) (l m : List Int) (hn : l.length = n) (hn' : m.length = n') (w : World) (B B' : Nat) (hr : Rd .u8 w B A l) (hr' : Rd .u8 w B' A' m) (hl : Byt l) (hm : Byt m) (x : Bool) (hx : x = true ↔ l = m) :
    Calls Tryz.prog 112 #[.slice A n c, .slice A' n' c'] w fun e w' => e = .returned (.bool x) ∧ w = w' := by
  subst hn; subst hn'
  have h1 := conv c hr; have h2 := conv c' hr'
  have h3 := beq_str hl hm x hx
  have H3 := Lib.hid h3
  clear hr hr' hl hm hx h3
  go_enter Tryz.func112, Tryz.ntmps112
  go_wp2
  go_ret
  exact ⟨ret_bool H3.out, rfl⟩
theorem pre_iff {b : List Int} (h : 4 ≤ b.length) : b.take 4 = mk4 ↔ ∃ t, b = mk4 ++ t := by
  constructor
  · intro e; exact ⟨b.drop 4, by rw [← e, List.take_append_drop]⟩
  · rintro ⟨t, rfl⟩; rfl
set_option maxHeartbeats 1000000 in
theorem prefix_any (A : Option Addr) (ad : Addr) (c : Nat) (b : List Int) (w : World) (B B' : Nat) (hr : Rd .u8 w B A b) (hr' : Rd .u8 w B' (some ad) mk4) (hb : Byt b) (hc : b.length ≤ c) (hl : (b.length : Int) ≤ 10000000) (x : Bool) (hx : x = true ↔ ∃ t, b = mk4 ++ t) :
    Calls Tryz.prog 77 #[.slice A b.length c, .slice (some ad) 4 4] w fun e w' => e = .returned (.bool x) ∧ w = w' := by
  by_cases h4 : 4 ≤ b.length
  · have h4' : (4 : Int) ≤ b.length := by omega
    have HE := Lib.hid (equal_any A (some ad) c 4 4 4 (b.take 4) mk4 (by rw [List.length_take]; omega) rfl w B B' (hr.take 4) hr' (hb.take 4) mk_byt x (by rw [hx]; exact (pre_iff h4).symm))
    clear hr hr' hb hx
    rcases A with _ | a
    · go_enter Tryz.func77, Tryz.ntmps77
      go_wp2_with ((with_reducible refine HE.out.mono ?_); rintro e w' ⟨rfl, rfl⟩)
      go_ret
      exact ⟨rfl, rfl⟩
    · go_enter Tryz.func77, Tryz.ntmps77
      go_wp2_with ((with_reducible refine HE.out.mono ?_); rintro e w' ⟨rfl, rfl⟩)
      go_ret
      exact ⟨rfl, rfl⟩
  · have h4' : decide ((4 : Int) ≤ b.length) = false := by simp; omega
    have hx' : x = false := by
      cases hxx : x with
      | false => rfl
      | true =>
        obtain ⟨t, e⟩ := hx.1 hxx
        rw [e] at h4; simp [mk4] at h4
    subst hx'
    clear hr hr' hb hx
    go_enter Tryz.func77, Tryz.ntmps77
    go_wp2
    go_ret
    exact ⟨rfl, rfl⟩

theorem kp_below {w w' : World} {M : Nat} (h : Below w.heap.size w w') : Kp w w' (fun k => k < M) := ⟨h.size, fun k hk _ => h.block k hk⟩
theorem kp_set {w w' : World} {b M : Nat} (h : Below w.heap.size w w') (hb : b < M) (vs : List Value) : Kp w (w'.setCells b 0 vs) (fun k => k < M) :=
  ⟨by rw [size_setCells]; exact h.size, fun k hk hn => (setCells_other (by omega) vs 0 w').trans (h.block k hk)⟩
theorem rl_end {l : List Int} (hb : Byt l) : ∀ {n : Nat} {a z : Int} {r : List Int}, rl l n a = some (r, z) → a ≤ l.length → z ≤ l.length
  | 0, a, z, r, h, ha => by simp [rl] at h; omega
  | n + 1, a, z, r, h, ha => by
    unfold rl at h
    split at h
    · cases h
    · next v k hr =>
      split at h
      · cases h
      · next r' z' hr2 =>
        injection h with h
        injection h with h1 h2
        subst h2
        exact rl_end hb hr2 (by have := ri_bound hb hr; omega)
theorem ix_end {b : List Int} (hb : Byt b) {m : Int} {l : List Int} {z : Int} (h : Pk.ix b 4 m = (l, z, 0)) : z ≤ b.length := by
  unfold Pk.ix at h
  split at h
  · injection h with _ h; injection h with _ h; cases h
  · next n k hr =>
    split at h
    · injection h with _ h; injection h with _ h; cases h
    · split at h
      · injection h with _ h; injection h with _ h; cases h
      · next r z' hr2 =>
        injection h with h1 h2
        injection h2 with h2 _
        subst h2
        exact rl_end hb hr2 (by have := ru_bound hb hr; omega)
/-- What ReadInts answers. -/
theorem ri_row (A : Option Addr) (c : Nat) (b : List Int) (w : World) (B : Nat) (hr : Rd .u8 w B A b) (hB : B ≤ w.heap.size) (hl : (b.length : Int) ≤ 10000000) (hb : Byt b) (l : List Int) (z er : Int) (h : Pk.ix b 4 9223372036854775807 = (l, z, er)) :
    Calls Tryz.prog 78 #[.slice A b.length c, .int .i64 4, .int .i64 9223372036854775807] w fun e w' => ∃ A' c', e = .returned (.tuple #[.slice A' l.length c', .int .i64 z, .int .i64 er]) ∧ Hid (Own w' w.heap.size .i64 3 A' c' l) ∧ Hid (Below w.heap.size w w') :=
  (Pk.ints_read A c b 4 w B hr hB hl hb (by omega) 9223372036854775807).mono (by
    rintro e w' ⟨lm, A', c', HL, rfl, HO, HB⟩
    rw [h] at HL ⊢
    have hl : lm = l := HL.out
    subst hl
    exact ⟨A', c', rfl, HO, HB⟩)
/-- What read answers. -/
def RA (w : World) (b : List Int) (e : Ending) (w' : World) : Prop :=
  ∃ (k : Cn) (x : Bool), e = .returned (.tuple #[cnv k, .bool x]) ∧ Hid (NC w' w.heap.size k) ∧ Hid (∃ o, DC b o ∧ ((x = true ∧ o = some k.pl) ∨ (x = false ∧ o = none ∧ k = zCn))) ∧ Hid (Below w.heap.size w w')
set_option maxRecDepth 20000 in
set_option maxHeartbeats 8000000 in
theorem read_any (A : Option Addr) (c : Nat) (b : List Int) (w : World) (B : Nat) (hr : Rd .u8 w B A b) (hB : B ≤ w.heap.size) (hb : Byt b) (hc : b.length ≤ c) (hl : (b.length : Int) ≤ 10000000) (hd : ∀ l, DL b (some l) → l.length ≤ 400000) :
    Calls Tryz.prog 45 #[.slice A b.length c] w (RA w b) := by
  have hN := heap_alloc_new w (.cells #[.slice none 0 0, .slice none 0 0, .slice none 0 0, .int .i64 0, .int .i64 0, .slice none 0 0, .int .i64 0, .int .i64 0, .int .i64 0, .int .i64 0] 31)
  have hb0 : Below w.heap.size w (w.alloc (.cells #[.slice none 0 0, .slice none 0 0, .slice none 0 0, .int .i64 0, .int .i64 0, .slice none 0 0, .int .i64 0, .int .i64 0, .int .i64 0, .int .i64 0] 31)) := by go_grown
  have HR := Lib.hid (hr.below hb0 hB); have HBy := Lib.hid hb; have HC := Lib.hid hc; have HL := Lib.hid hl; have HD := Lib.hid hd; have HBw := Lib.hid hB; have HB0 := Lib.hid hb0
  have hsz : (w.alloc (.cells #[.slice none 0 0, .slice none 0 0, .slice none 0 0, .int .i64 0, .int .i64 0, .slice none 0 0, .int .i64 0, .int .i64 0, .int .i64 0, .int .i64 0] 31)).heap.size = w.heap.size + 1 := by simp
  obtain ⟨y, hy⟩ := bex (∃ t, b = mk4 ++ t)
  have HY := Lib.hid hy
  clear hr hb hc hl hd hB hb0 hy
  have hcv := conv_mk' hsz
  go_enter Tryz.func45, Tryz.ntmps45
  go_wp2_with (fail)
  generalize w.alloc (.cells #[.slice none 0 0, .slice none 0 0, .slice none 0 0, .int .i64 0, .int .i64 0, .slice none 0 0, .int .i64 0, .int .i64 0, .int .i64 0, .int .i64 0] 31) = w0 at *
  have HSz := Lib.hid hsz; have HN := Lib.hid hN
  have HM : Hid (Rd .u8 (w0.alloc oMk) (w0.heap.size + 1) (some ⟨w.heap.size + 1, 0, none⟩) mk4) := Lib.hid (by have := rd_mk w0; rw [HSz.out] at this ⊢; exact this)
  have HV1 : Hid (Below w0.heap.size w0 (w0.alloc oMk)) := Lib.hid ((Below.refl _ _).alloc (Nat.le_refl _) _)
  clear hsz hN
  have hw0 : w.heap.size < w0.heap.size := by have := HSz.out; omega
  (with_reducible refine (prefix_any A ⟨w.heap.size + 1, 0, none⟩ c b _ B (w0.heap.size + 1) (HR.out.below HV1.out (by have := HBw.out; omega)) HM.out HBy.out HC.out HL.out y HY.out).mono ?_); rintro e w' ⟨rfl, rfl⟩
  clear hcv
  generalize hw1 : w0.alloc oMk = w1 at *
  have HN1 : Hid (w1.heap[w.heap.size]? = some (.cells #[.slice none 0 0, .slice none 0 0, .slice none 0 0, .int .i64 0, .int .i64 0, .slice none 0 0, .int .i64 0, .int .i64 0, .int .i64 0, .int .i64 0] 31)) := Lib.hid ((HV1.out.block _ hw0).trans HN.out)
  have hw1' : w.heap.size < w1.heap.size := Nat.lt_of_lt_of_le hw0 HV1.out.size
  have HW1 : Hid (Below w.heap.size w w1) := Lib.hid (HB0.out.trans (HV1.out.mono (Nat.le_of_lt hw0)))
  have HR1 := Lib.hid (HR.out.below HV1.out (by have := HBw.out; omega))
  clear hw1
  cases y with
  | false =>
    have hz := cellOf' HN1.out; have hyy := frozOf' HN1.out
    go_wp2
    refine bodyPost_ret (by simp [results, Tryz.results45, go_sem, hz]; try rfl) rfl ?_
    exact ⟨zCn, false, rfl, Lib.hid (nc_zero _ _), Lib.hid ⟨none, .inr ⟨dl_none1 (fun t e => (by have := HY.out.2 ⟨t, e⟩; cases this)), rfl⟩, .inr ⟨rfl, rfl, rfl⟩⟩, Lib.hid (below_setCells _ (Nat.le_refl _) [.slice none 0 0, .slice none 0 0, .slice none 0 0, .int .i64 0, .int .i64 0, .slice none 0 0, .int .i64 0, .int .i64 0, .int .i64 0, .int .i64 0] 0 _ HW1.out)⟩
  | true =>
    obtain ⟨l, z, er, hix⟩ : ∃ l z er, Pk.ix b 4 9223372036854775807 = (l, z, er) := ⟨_, _, _, rfl⟩
    have HIx := Lib.hid hix; clear hix
    obtain ⟨t, ht⟩ := HY.out.1 rfl
    have HT := Lib.hid ht; clear ht
    go_wp2_with (fail)
    (with_reducible refine (ri_row A c b _ B HR1.out (by have := HBw.out; omega) HL.out HBy.out l z er HIx.out).mono ?_); rintro e w2 ⟨A2, c2, rfl, HO2, HB2⟩
    have HN2 : Hid (w2.heap[w.heap.size]? = some (.cells #[.slice none 0 0, .slice none 0 0, .slice none 0 0, .int .i64 0, .int .i64 0, .slice none 0 0, .int .i64 0, .int .i64 0, .int .i64 0, .int .i64 0] 31)) := Lib.hid ((HB2.out.block _ hw1').trans HN1.out)
    have HW2 : Hid (Below w.heap.size w w2) := Lib.hid (HW1.out.trans (HB2.out.mono (Nat.le_of_lt hw1')))
    have hw2 : w.heap.size < w2.heap.size := Nat.lt_of_lt_of_le hw1' HB2.out.size
    by_cases he : er = 0
    · subst he
      have HZ := Lib.hid (ix_end HBy.out HIx.out)
      by_cases hz9 : z < (b.length : Int)
      · have hz := cellOf' HN2.out; have hyy := frozOf' HN2.out
        have HNo := Lib.hid (dl_none2 HIx.out (by have := HL.out; omega) (by have := HL.out; omega) (.inr (by omega)))
        go_wp2
        refine bodyPost_ret (by simp [results, Tryz.results45, go_sem, hz]; try rfl) rfl ?_
        exact ⟨zCn, false, rfl, Lib.hid (nc_zero _ _), Lib.hid ⟨none, .inr ⟨HNo.out, rfl⟩, .inr ⟨rfl, rfl, rfl⟩⟩, Lib.hid (below_setCells _ (Nat.le_refl _) [.slice none 0 0, .slice none 0 0, .slice none 0 0, .int .i64 0, .int .i64 0, .slice none 0 0, .int .i64 0, .int .i64 0, .int .i64 0, .int .i64 0] 0 _ HW2.out)⟩
      · have hzz : z = (b.length : Int) := by have := HZ.out; omega
        have hz9' : decide (z < (b.length : Int)) = false := by simpa using hz9
        have HDL := Lib.hid (dl_some HBy.out HT.out (hzz ▸ HIx.out))
        have HLl := Lib.hid (HD.out l HDL.out)
        clear hzz hz9
        have HRl := Lib.hid (Own.rd HO2.out); have HCl := Lib.hid (Own.cap HO2.out)
        go_wp2_with (fail)
        (with_reducible refine (unflat_any A2 c2 l _ w2.heap.size HRl.out (Nat.le_refl _) HCl.out HLl.out).mono ?_); rintro e w3 ⟨k, x, rfl, HK, HU, HB3⟩
        have HN3 : Hid (w3.heap[w.heap.size]? = some (.cells #[.slice none 0 0, .slice none 0 0, .slice none 0 0, .int .i64 0, .int .i64 0, .slice none 0 0, .int .i64 0, .int .i64 0, .int .i64 0, .int .i64 0] 31)) := Lib.hid ((HB3.out.block _ hw2).trans HN2.out)
        have HW3 : Hid (Below w.heap.size w w3) := Lib.hid (HW2.out.trans (HB3.out.mono (Nat.le_of_lt hw2)))
        have hw3 : w.heap.size < w3.heap.size := Nat.lt_of_lt_of_le hw2 HB3.out.size
        have hz := cellOf' HN3.out; have hyy := frozOf' HN3.out
        go_wp2
        refine bodyPost_ret (by simp [results, Tryz.results45, go_sem, hz]; try rfl) rfl ?_
        refine ⟨k, x, rfl, Lib.hid ((HK.out.kp (kp_set (Below.refl _ _) hw2 [.slice k.aA k.ab.length k.aC, .slice k.uA k.au.length k.uC, .slice k.fA k.fo.length k.fC, .int .i64 k.W, .int .i64 k.H, .slice k.gA k.wl.length k.gC, .int .i64 k.dx, .int .i64 k.dy, .int .i64 k.lx, .int .i64 k.ly])).mono (Nat.le_of_lt hw2)), Lib.hid ⟨unfl l, .inl ⟨l, HDL.out, rfl⟩, ?_⟩, Lib.hid (below_setCells _ (Nat.le_refl _) [.slice k.aA k.ab.length k.aC, .slice k.uA k.au.length k.uC, .slice k.fA k.fo.length k.fC, .int .i64 k.W, .int .i64 k.H, .slice k.gA k.wl.length k.gC, .int .i64 k.dx, .int .i64 k.dy, .int .i64 k.lx, .int .i64 k.ly] 0 _ HW3.out)⟩
        exact HU.out
    · have he' : (er != 0) = true := by simpa using he
      have HNo := Lib.hid (dl_none2 HIx.out (by have := HL.out; omega) (by have := HL.out; omega) (.inl he))
      have hz := cellOf' HN2.out; have hyy := frozOf' HN2.out
      clear he
      go_wp2
      refine bodyPost_ret (by simp [results, Tryz.results45, go_sem, hz]; try rfl) rfl ?_
      exact ⟨zCn, false, rfl, Lib.hid (nc_zero _ _), Lib.hid ⟨none, .inr ⟨HNo.out, rfl⟩, .inr ⟨rfl, rfl, rfl⟩⟩, Lib.hid (below_setCells _ (Nat.le_refl _) [.slice none 0 0, .slice none 0 0, .slice none 0 0, .int .i64 0, .int .i64 0, .slice none 0 0, .int .i64 0, .int .i64 0, .int .i64 0, .int .i64 0] 0 _ HW2.out)⟩
/-- What Decode answers. -/
def DA (w : World) (b : List Int) (e : Ending) (w' : World) : Prop :=
  ∃ (k : Cn) (er : Int), e = .returned (.tuple #[cnv k, .int .i64 er]) ∧ Hid (NC w' w.heap.size k) ∧ Hid (∃ o, DC b o ∧ ((o = none ∧ k = zCn ∧ er = 2) ∨ (∃ d, o = some d ∧ ¬ RightC d ∧ k = zCn ∧ er = 1) ∨ (∃ d, o = some d ∧ RightC d ∧ k.pl = d ∧ er = 0))) ∧ Hid (Below w.heap.size w w')
theorem right_nc {w : World} {N : Nat} {c : Cn} (hr : NC w N c) (hs : Sm c) (x : Bool) (hx : x = true ↔ RightC c) :
    Calls Tryz.prog 20 #[cnv c] w fun e w' => e = .returned (.bool x) ∧ Below w.heap.size w w' := right_c hr.rc (Nat.le_refl _) hs x hx
set_option maxRecDepth 20000 in
set_option maxHeartbeats 8000000 in
theorem decode_any (A : Option Addr) (c : Nat) (b : List Int) (w : World) (B : Nat) (hr : Rd .u8 w B A b) (hB : B ≤ w.heap.size) (hb : Byt b) (hc : b.length ≤ c) (hl : (b.length : Int) ≤ 10000000) (hd : ∀ l, DL b (some l) → l.length ≤ 400000) (hsm : ∀ d, DC b (some d) → Sm d) :
    Calls Tryz.prog 18 #[.slice A b.length c] w (DA w b) := by
  have hN := heap_alloc_new w (.cells #[.slice none 0 0, .slice none 0 0, .slice none 0 0, .int .i64 0, .int .i64 0, .slice none 0 0, .int .i64 0, .int .i64 0, .int .i64 0, .int .i64 0] 31)
  have hb0 : Below w.heap.size w (w.alloc (.cells #[.slice none 0 0, .slice none 0 0, .slice none 0 0, .int .i64 0, .int .i64 0, .slice none 0 0, .int .i64 0, .int .i64 0, .int .i64 0, .int .i64 0] 31)) := by go_grown
  have HRA := Lib.hid (read_any A c b (w.alloc (.cells #[.slice none 0 0, .slice none 0 0, .slice none 0 0, .int .i64 0, .int .i64 0, .slice none 0 0, .int .i64 0, .int .i64 0, .int .i64 0, .int .i64 0] 31)) B (hr.below hb0 hB) (by simp; omega) hb hc hl hd)
  have HB0 := Lib.hid hb0; have HSm := Lib.hid hsm
  have hsz : (w.alloc (.cells #[.slice none 0 0, .slice none 0 0, .slice none 0 0, .int .i64 0, .int .i64 0, .slice none 0 0, .int .i64 0, .int .i64 0, .int .i64 0, .int .i64 0] 31)).heap.size = w.heap.size + 1 := by simp
  clear hr hb hc hl hd hB hb0 hsm
  go_enter Tryz.func18, Tryz.ntmps18
  go_wp2_with (fail)
  generalize w.alloc (.cells #[.slice none 0 0, .slice none 0 0, .slice none 0 0, .int .i64 0, .int .i64 0, .slice none 0 0, .int .i64 0, .int .i64 0, .int .i64 0, .int .i64 0] 31) = w0 at *
  have HSz := Lib.hid hsz; have HN := Lib.hid hN
  clear hsz hN
  have hw0 : w.heap.size < w0.heap.size := by have := HSz.out; omega
  (with_reducible refine HRA.out.mono ?_); rintro e w1 ⟨k, x, rfl, HK, HO, HB1⟩
  have HN1 : Hid (w1.heap[w.heap.size]? = some (.cells #[.slice none 0 0, .slice none 0 0, .slice none 0 0, .int .i64 0, .int .i64 0, .slice none 0 0, .int .i64 0, .int .i64 0, .int .i64 0, .int .i64 0] 31)) := Lib.hid ((HB1.out.block _ hw0).trans HN.out)
  have hw1 : w.heap.size < w1.heap.size := Nat.lt_of_lt_of_le hw0 HB1.out.size
  have HW1 : Hid (Below w.heap.size w w1) := Lib.hid (HB0.out.trans (HB1.out.mono (Nat.le_of_lt hw0)))
  obtain ⟨o, hDC, hor⟩ := HO.out
  have HDC := Lib.hid hDC; have HOR := Lib.hid hor
  clear hDC hor
  have HN2 : Hid ((w1.alloc (.cells #[.slice k.aA k.ab.length k.aC, .slice k.uA k.au.length k.uC, .slice k.fA k.fo.length k.fC, .int .i64 k.W, .int .i64 k.H, .slice k.gA k.wl.length k.gC, .int .i64 k.dx, .int .i64 k.dy, .int .i64 k.lx, .int .i64 k.ly] 31)).heap[w.heap.size]? = some (.cells #[.slice none 0 0, .slice none 0 0, .slice none 0 0, .int .i64 0, .int .i64 0, .slice none 0 0, .int .i64 0, .int .i64 0, .int .i64 0, .int .i64 0] 31)) := Lib.hid ((Below.heap_alloc _ _ _ hw1).trans HN1.out)
  have HW2 : Hid (Below w.heap.size w (w1.alloc (.cells #[.slice k.aA k.ab.length k.aC, .slice k.uA k.au.length k.uC, .slice k.fA k.fo.length k.fC, .int .i64 k.W, .int .i64 k.H, .slice k.gA k.wl.length k.gC, .int .i64 k.dx, .int .i64 k.dy, .int .i64 k.lx, .int .i64 k.ly] 31))) := Lib.hid (HW1.out.alloc (Nat.le_of_lt hw1) _)
  have hz := cellOf' HN2.out; have hyy := frozOf' HN2.out
  have Hw1 := Lib.hid hw1; clear hw1
  cases x with
  | false =>
    go_wp2
    refine bodyPost_ret (by simp [results, Tryz.results18, go_sem, hz]; try rfl) rfl ?_
    refine ⟨zCn, 2, rfl, Lib.hid (nc_zero _ _), Lib.hid ⟨o, HDC.out, .inl ⟨?_, rfl, rfl⟩⟩, Lib.hid (below_setCells _ (Nat.le_refl _) [.slice none 0 0, .slice none 0 0, .slice none 0 0, .int .i64 0, .int .i64 0, .slice none 0 0, .int .i64 0, .int .i64 0, .int .i64 0, .int .i64 0] 0 _ HW2.out)⟩
    rcases HOR.out with ⟨h, _⟩ | ⟨_, h, _⟩
    · cases h
    · exact h
  | true =>
    have HOk : Hid (o = some k.pl) := Lib.hid (by
      rcases HOR.out with ⟨_, h⟩ | ⟨h, _⟩
      · exact h
      · cases h)
    have HSk : Hid (Sm k) := Lib.hid ((HSm.out k.pl (HOk.out ▸ HDC.out)).of_pl (by simp [Cn.pl, Ab.pl, Fo.pl, Function.comp_def]))
    obtain ⟨y, hy⟩ := bex (RightC k)
    have HY := Lib.hid hy; clear hy
    have HKb : Hid (NC (w1.alloc (.cells #[.slice k.aA k.ab.length k.aC, .slice k.uA k.au.length k.uC, .slice k.fA k.fo.length k.fC, .int .i64 k.W, .int .i64 k.H, .slice k.gA k.wl.length k.gC, .int .i64 k.dx, .int .i64 k.dy, .int .i64 k.lx, .int .i64 k.ly] 31)) w0.heap.size k) := Lib.hid (HK.out.kp (kp_below ((Below.refl _ _).alloc (Nat.le_refl _) _)))
    have hnew := heap_alloc_new w1 (.cells #[.slice k.aA k.ab.length k.aC, .slice k.uA k.au.length k.uC, .slice k.fA k.fo.length k.fC, .int .i64 k.W, .int .i64 k.H, .slice k.gA k.wl.length k.gC, .int .i64 k.dx, .int .i64 k.dy, .int .i64 k.lx, .int .i64 k.ly] 31)
    have HNew := Lib.hid hnew; clear hnew
    go_wp2_with (fail)
    generalize hwa : w1.alloc (.cells #[.slice k.aA k.ab.length k.aC, .slice k.uA k.au.length k.uC, .slice k.fA k.fo.length k.fC, .int .i64 k.W, .int .i64 k.H, .slice k.gA k.wl.length k.gC, .int .i64 k.dx, .int .i64 k.dy, .int .i64 k.lx, .int .i64 k.ly] 31) = wa at *
    clear hwa
    have hwa : w1.heap.size < wa.heap.size := lt_of_block HNew.out
    have hw1 := Hw1.out
    (with_reducible refine (right_nc HKb.out HSk.out y HY.out).mono ?_); rintro e w3 ⟨rfl, hB3⟩
    have HB3 := Lib.hid hB3
    have HN3 : Hid (w3.heap[w.heap.size]? = some (.cells #[.slice none 0 0, .slice none 0 0, .slice none 0 0, .int .i64 0, .int .i64 0, .slice none 0 0, .int .i64 0, .int .i64 0, .int .i64 0, .int .i64 0] 31)) := Lib.hid ((hB3.block _ (by omega)).trans HN2.out)
    have HNk : Hid (w3.heap[w1.heap.size]? = some (.cells #[.slice k.aA k.ab.length k.aC, .slice k.uA k.au.length k.uC, .slice k.fA k.fo.length k.fC, .int .i64 k.W, .int .i64 k.H, .slice k.gA k.wl.length k.gC, .int .i64 k.dx, .int .i64 k.dy, .int .i64 k.lx, .int .i64 k.ly] 31)) := Lib.hid ((hB3.block _ hwa).trans HNew.out)
    have HW3 : Hid (Below w.heap.size w w3) := Lib.hid (HW2.out.trans (hB3.mono (by omega)))
    have hw3 : w1.heap.size < w3.heap.size := Nat.lt_of_lt_of_le hwa hB3.size
    clear hB3 hz hyy
    have hz := cellOf' HN3.out; have hyy := frozOf' HN3.out; have hk := cellOf' HNk.out
    cases y with
    | false =>
      have HNr : Hid (¬ RightC k) := Lib.hid (fun h => by have := HY.out.2 h; cases this)
      go_wp2
      refine bodyPost_ret (by simp [results, Tryz.results18, go_sem, hz]; try rfl) rfl ?_
      exact ⟨zCn, 1, rfl, Lib.hid (nc_zero _ _), Lib.hid ⟨o, HDC.out, .inr (.inl ⟨k.pl, HOk.out, fun h => HNr.out ((rightC_pl k).1 h), rfl, rfl⟩)⟩, Lib.hid (below_setCells _ (Nat.le_refl _) [.slice none 0 0, .slice none 0 0, .slice none 0 0, .int .i64 0, .int .i64 0, .slice none 0 0, .int .i64 0, .int .i64 0, .int .i64 0, .int .i64 0] 0 _ HW3.out)⟩
    | true =>
      have HRt := Lib.hid (HY.out.1 rfl)
      go_wp2
      refine bodyPost_ret (by simp [results, Tryz.results18, go_sem, hz]; try rfl) rfl ?_
      exact ⟨k, 0, rfl, Lib.hid ((HKb.out.kp (kp_set HB3.out hw0 [.slice k.aA k.ab.length k.aC, .slice k.uA k.au.length k.uC, .slice k.fA k.fo.length k.fC, .int .i64 k.W, .int .i64 k.H, .slice k.gA k.wl.length k.gC, .int .i64 k.dx, .int .i64 k.dy, .int .i64 k.lx, .int .i64 k.ly])).mono (Nat.le_of_lt hw0)), Lib.hid ⟨o, HDC.out, .inr (.inr ⟨k.pl, HOk.out, (rightC_pl k).2 HRt.out, rfl, rfl⟩)⟩, Lib.hid (below_setCells _ (Nat.le_refl _) [.slice k.aA k.ab.length k.aC, .slice k.uA k.au.length k.uC, .slice k.fA k.fo.length k.fC, .int .i64 k.W, .int .i64 k.H, .slice k.gA k.wl.length k.gC, .int .i64 k.dx, .int .i64 k.dy, .int .i64 k.lx, .int .i64 k.ly] 0 _ HW3.out)⟩
end Go.Proofs.YtpjenkgimkndaaaGreat.Con
