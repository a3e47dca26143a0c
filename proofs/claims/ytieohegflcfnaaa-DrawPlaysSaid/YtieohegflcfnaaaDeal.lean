/-
  The contract of Deal: the numbers 0 to n - 1 in new memory, or none and nothing changes.
-/
import Derived.Test.YtieohegflcfnaaaDm
import Derived.Test.YtieohegflcfnaaaPik
import Derived.RegionTactic
namespace Go.Proofs.Ytieohegflcfnaaa.Con
open Go.RowKit Mth Mem

theorem deal_out (w : World) (base g : Nat) (r : Option Nat) (l : List Int) (n : Int) (h : Str w base 50 g r l) (hn : n < 0 ∨ 256 < n) :
    Calls Try.prog 18 #[.pointer (some ⟨g, 0, none⟩), .int .i64 n] w fun e w' => e = .returned (.tuple #[.slice none 0 0, .bool false]) ∧ Went w w' base 50 g r l := by
  have HS := Lib.hid h; clear h
  by_cases h0 : n < 0
  · go_enter Try.func18, Try.ntmps18
    go_wp2
    go_ret2
    exact ⟨rfl, Went.same HS.out⟩
  · have h0' : decide (n < 0) = false := by simpa using h0
    have h1 : 256 < n := by omega
    clear hn
    go_enter Try.func18, Try.ntmps18
    go_wp2
    go_ret2
    exact ⟨rfl, Went.same HS.out⟩

/-- What is known while Deal goes on: the stream as it was, the new row, and nothing else has turned. -/
structure Dealing (w wr : World) (base g : Nat) (r : Option Nat) (l : List Int) (gd : Nat) (p : List Int) : Prop where
  str : Str wr base 50 g r l
  arr : Arr wr gd p
  new : w.heap.size ≤ gd
  below : Below w.heap.size w wr

theorem made (n : Nat) : (madeCells (Value.int .i64 0).cells (n * 1)).toList = vs (List.replicate n 0) := by
  apply List.ext_getElem?
  intro k
  by_cases hk : k < n
  · simp [madeCells, vs, Value.cells, hk, Nat.mod_one]
  · rw [List.getElem?_eq_none (by simp [madeCells]; omega), List.getElem?_eq_none (by simp [vs]; omega)]

/-- The first k numbers are laid. -/
def fill (n k : Nat) : List Int := iota k ++ List.replicate (n - k) 0
theorem fill_zero (n : Nat) : fill n 0 = List.replicate n 0 := by simp [fill, iota]
theorem fill_all (n : Nat) : fill n n = iota n := by simp [fill]
theorem fill_at {n k : Nat} (h : k < n) : (fill n k)[k]? = some 0 := by
  unfold fill
  rw [List.getElem?_append_right (by rw [iota_length]; omega), iota_length, Nat.sub_self, List.getElem?_replicate, if_pos (by omega)]
theorem fill_next {n k : Nat} (h : k < n) : (fill n k).set k (k : Int) = fill n (k + 1) := by
  apply List.ext_getElem?
  intro j
  have hl : k < (fill n k).length := by unfold fill; simp [iota]; omega
  by_cases hj : j = k
  · subst hj
    rw [List.getElem?_set_self hl]
    unfold fill
    rw [List.getElem?_append_left (by rw [iota_length]; omega), iota_get (by omega)]
  · rw [List.getElem?_set_ne (fun e => hj e.symm)]
    unfold fill
    by_cases hj2 : j < k
    · rw [List.getElem?_append_left (by rw [iota_length]; omega), List.getElem?_append_left (by rw [iota_length]; omega), iota_get hj2, iota_get (by omega)]
    · rw [List.getElem?_append_right (by rw [iota_length]; omega), List.getElem?_append_right (by rw [iota_length]; omega), iota_length, iota_length, List.getElem?_replicate, List.getElem?_replicate]
      by_cases hj3 : j < n
      · rw [if_pos (by omega), if_pos (by omega)]
      · rw [if_neg (by omega), if_neg (by omega)]

theorem Dealing.set {w wr : World} {base g : Nat} {r : Option Nat} {l : List Int} {gd : Nat} {p : List Int} (h : Dealing w wr base g r l gd p) (hs : Str w base 50 g r l) (i : Nat) (x : Int) : Dealing w (wr.setCell ⟨gd, i, none⟩ (.int .i64 x)) base g r l gd (p.set i x) := by
  have hlt := hs.lt
  have hn := h.new
  refine ⟨h.str.keep (Below.heap_setCell _ _ _ _ (by show g ≠ gd; omega)) (fun k hk => Below.heap_setCell _ _ _ _ (by have := (hlt.2.2 k hk).2; show k ≠ gd; omega)), h.arr.set i x, h.new, h.below.setCell h.new _⟩
theorem Dealing.drew {w wr : World} {base g : Nat} {r : Option Nat} {l : List Int} {gd : Nat} {p : List Int} (h : Dealing w wr base g r l gd p) : Dealing w wr.drew base g r l gd p := ⟨h.str, h.arr, h.new, h.below.drew⟩
theorem Dealing.went {w wr : World} {base g : Nat} {r : Option Nat} {l : List Int} {gd : Nat} {p : List Int} (h : Dealing w wr base g r l gd p) : Went w wr base 50 g r l := ⟨r, h.str, Turn.of_below h.below, .inl rfl⟩

/-- What Deal leaves. -/
def Dealt (w w' : World) (base g : Nat) (r : Option Nat) (l : List Int) (e : Ending) : Option (List Int × Nat) → Prop
  | none => e = .returned (.tuple #[.slice none 0 0, .bool false]) ∧ Went w w' base 50 g r l
  | some (p, t) => ∃ gd, e = .returned (.tuple #[.slice (some ⟨gd, 0, none⟩) p.length p.length, .bool true]) ∧ Went w w' base 50 g r (l.drop t) ∧ Arr w' gd p ∧ w.heap.size ≤ gd

theorem dealt_end {w wr w' : World} {base g : Nat} {r : Option Nat} {l : List Int} {gd t n : Nat} {p : List Int} (h : Dealing w wr base g r l gd p) (hs : Str w base 50 g r l) (hp : p.length = n) (hw : Went wr w' base 50 g r (l.drop t)) :
    Dealt w w' base g r l (.returned (.tuple #[.slice (some ⟨gd, 0, none⟩) n n, .bool true])) (some (p, t)) := by
  subst hp
  obtain ⟨r', s1, hT, hr⟩ := hw
  have hlt := hs.lt
  have hsz := h.below.size
  have hn := h.new
  refine ⟨gd, rfl, ⟨r', s1, ⟨hT.os.trans h.below.os, hT.tape.trans h.below.tape, hT.output.trans h.below.output, Nat.le_trans hsz hT.size, fun k hk h1 h2 => (hT.block k (by omega) h1 h2).trans (h.below.block k hk)⟩, ?_⟩, h.arr.keep (hT.block gd h.arr.lt (by omega) (fun e => ?_)), h.new⟩
  · rcases hr with hr | ⟨k, hk, hk2⟩
    · exact .inl hr
    · exact .inr ⟨k, hk, by omega⟩
  · have := (hlt.2.2 gd e.symm).2
    omega

theorem fair_n_some (B : Nat) (A : Option Addr) (m c : Nat) (l : List Int) (n d : Int) (u : Nat) (w : World) (hm : l.length = m) (hr : Rd w B A l) (hl : l.length ≤ 9223372036854775807) (hf : fair l n = some (d, u)) :
    Calls Try.prog 9 #[.slice A m c, .int .i64 n] w fun e w' => e = .returned (.tuple #[.int .i64 d, .int .i64 u, .bool true]) ∧ w = w' := by
  subst hm
  have := fair_any B A c l n w hr hl
  rw [hf] at this
  exact this
theorem fair_n_none (B : Nat) (A : Option Addr) (m c : Nat) (l : List Int) (n : Int) (w : World) (hm : l.length = m) (hr : Rd w B A l) (hl : l.length ≤ 9223372036854775807) (hf : fair l n = none) :
    Calls Try.prog 9 #[.slice A m c, .int .i64 n] w fun e w' => e = .returned (.tuple #[.int .i64 0, .int .i64 0, .bool false]) ∧ w = w' := by
  subst hm
  have := fair_any B A c l n w hr hl
  rw [hf] at this
  exact this

theorem cut_rd {w : World} {B : Nat} {A : Option Addr} {l : List Int} (h : Rd w B A l) (k : Nat) : Rd w B (Option.map (fun x => x.add k) A) (l.drop k) := by
  rcases h with rfl | ⟨b, off, rfl, hb, hc⟩
  · exact .inl (by simp)
  · have e : (⟨b, off, none⟩ : Addr).add k = ⟨b, off + k, none⟩ := by unfold Addr.add; split <;> simp_all
    show Rd w B (some ((⟨b, off, none⟩ : Addr).add k)) (l.drop k)
    rw [e]
    exact Rd.cut (.inr ⟨b, off, rfl, hb, hc⟩) k
theorem no_rd {w : World} {B : Nat} {A : Option Addr} {l : List Int} {k : Nat} (h : l.length ≤ k) : Rd w B A (l.drop k) := .inl (List.drop_eq_nil_of_le h)

theorem cell_set_some {w : World} {p q : Addr} {x v : Value} (h : w.cell? q = some v) : ∃ v', (w.setCell p x).cell? q = some v' := by
  by_cases e : p = q
  · subst e; exact ⟨x, World.cell?_setCell_same w p x h⟩
  · exact ⟨v, (World.cell?_setCell_other w p q x e).trans h⟩

set_option maxHeartbeats 4000000 in
set_option maxRecDepth 100000 in
theorem deal_in (w : World) (base g : Nat) (r : Option Nat) (l : List Int) (n : Nat) (h : Str w base 50 g r l) (hl : l.length ≤ 4096) (hn : n ≤ 256) :
    Calls Try.prog 18 #[.pointer (some ⟨g, 0, none⟩), .int .i64 n] w fun e w' => Dealt w w' base g r l e (deal l n) := by
  obtain ⟨i0, hi0, hz0, hz1, hz2⟩ := info_parts int_info
  have hn' : (n : Int) ≤ 256 := by omega
  have h0' : (0 : Int) ≤ n := by omega
  have HS := Lib.hid h; clear h
  go_enter Try.func18, Try.ntmps18
  go_wp2_with (at_make; refine wpList_make_full _ rfl (.tmp 19) (.tmp 19) 22 rfl base 3 i0 (.int .i64 0) 1 Try.underlying22 hi0 hz0 hz1 _ _ _ _ n rfl rfl rfl rfl (by rw [hz2]; omega) (by unfold maxLen; omega) (Nat.le_of_lt (Nat.lt_of_le_of_lt HS.out.lt.1 HS.out.lt.2.1)) ?_; intro w1 ho1 hg1)
  have HD1 : Hid (Dealing w w1 base g r l w.heap.size (fill n 0)) := by
    rw [made, ← fill_zero] at ho1
    have hk : ∀ k, k < w.heap.size → w1.heap[k]? = w.heap[k]? := fun k hk => hg1.block k hk (by simp)
    exact ⟨HS.out.keep (hk _ HS.out.lt.2.1) (fun k h => hk k (HS.out.lt.2.2 k h).2), Arr.of_own ho1, Nat.le_refl _, (Below.refl _ _).grown hg1 (Nat.le_refl _) (fun k h => by cases h)⟩
  clear ho1 hg1 hi0 hz0 hz1 hz2
  go_loopg [23] n (fun gh s23 wr => ∃ k : Nat, k ≤ n ∧ gh = n - k ∧ s23 = .int .i64 k ∧ Hid (Dealing w wr base g r l w.heap.size (fill n k)))
  case atStart => exact ⟨0, by omega, rfl, rfl, HD1.out⟩
  case round =>
    obtain ⟨k, hk, rfl, rfl, HD⟩ := hrel
    clear HD1
    by_cases hlt : k < n
    · have hc := HD.out.arr.cell (fill_at hlt)
      have hf := HD.out.arr.frozen k
      go_wp2
      go_roundg (n - (k + 1))
      case measure => omega
      case rel => exact ⟨k + 1, by omega, rfl, by go_num, by rw [← fill_next hlt]; exact Dealing.set HD.out HS.out k k⟩
    · obtain rfl : n = k := by omega
      have HD2 : Hid (Dealing w wr base g r l w.heap.size (iota n)) := by rw [← fill_all]; exact HD.out
      clear HD
      go_wp2
      go_loopg [8, 9] n (fun gh s8 s9 wq => ∃ (i : Int) (p : List Int) (t : Nat), -1 ≤ i ∧ i < n ∧ gh = (i + 1).toNat ∧ s8 = .int .i64 t ∧ s9 = .int .i64 i ∧ t ≤ l.length ∧ Hid (p.length = n ∧ dealGo l i.toNat p t = deal l n ∧ Dealing w wq base g r l w.heap.size p))
      case atStart => exact ⟨(n : Int) - 1, iota n, 0, by omega, by omega, by omega, rfl, by go_num, by omega, iota_length n, by unfold deal; rw [show ((n : Int) - 1).toNat = n - 1 by omega], HD2.out⟩
      case round =>
        obtain ⟨i, p, t, hi0, hi1, rfl, rfl, rfl, ht, HH⟩ := hrel
        clear HD2
        by_cases hi : 1 ≤ i
        · obtain ⟨j, rfl⟩ : ∃ j : Nat, i = (j : Int) + 1 := ⟨(i - 1).toNat, by omega⟩
          obtain ⟨A, c, hb, _, ho, hor⟩ := HH.out.2.2.str
          have hcl := hb.cell
          have hlc : l.length ≤ c := by
            rcases ho.2 with ⟨hv, hz⟩ | ⟨_, cap, _, hv, _, _, hcc, _⟩
            · omega
            · injection hv with _ _ hv
              omega
          have HR := Lib.hid (Rd.of_own ho)
          have HDL := Lib.hid (List.length_drop (i := t) (l := l))
          clear hb ho hor
          have hjj : (1 : Int) ≤ (j : Int) + 1 := by omega
          rcases hf : fair (l.drop t) ((j : Int) + 1 + 1) with _ | ⟨d, u⟩
          · have HF := Lib.hid hf; clear hf
            go_wp2_with (first
              | ((with_reducible refine (fair_n_none wr.heap.size A (l.length - t) _ (l.drop t) _ _ HDL.out (no_rd (by omega)) (by have := HDL.out; omega) HF.out).mono ?_); rintro e w' ⟨rfl, rfl⟩)
              | ((with_reducible refine (fair_n_none _ (Option.map (fun x => x.add t) A) (l.length - t) _ (l.drop t) _ _ HDL.out (cut_rd HR.out t) (by have := HDL.out; omega) HF.out).mono ?_); rintro e w' ⟨rfl, rfl⟩))
            all_goals
              go_ret2
              have hd := HH.out.2.1
              rw [show ((j : Int) + 1).toNat = j + 1 by omega, dealGo_none (by rw [show (j : Int) + 2 = (j : Int) + 1 + 1 by omega]; exact HF.out)] at hd
              rw [← hd]
              exact ⟨rfl, HH.out.2.2.went⟩
          · have hfs := fair_some hf
            have hu := hfs.2.2.2.2.2
            rw [List.length_drop] at hu
            obtain ⟨e, rfl⟩ : ∃ e : Nat, d = (e : Int) := ⟨d.toNat, by omega⟩
            have HF := Lib.hid hf; clear hf
            have hpl := HH.out.1
            have hct : ¬ c = t := by omega
            have hj1 : j + 1 < n := by omega
            have he1 : e < n := by omega
            obtain ⟨x1, hgx⟩ : ∃ x, p[j + 1]? = some x := ⟨_, List.getElem?_eq_getElem (by omega)⟩
            obtain ⟨x2, hgy⟩ : ∃ x, p[e]? = some x := ⟨_, List.getElem?_eq_getElem (by omega)⟩
            have hx1 := HH.out.2.2.arr.cell hgx
            have hx2 := HH.out.2.2.arr.cell hgy
            have hf1 := HH.out.2.2.arr.frozen (j + 1)
            have hf2 := HH.out.2.2.arr.frozen e
            obtain ⟨v', hy'⟩ := cell_set_some (w := wr) (p := ⟨w.heap.size, j + 1, none⟩) (x := .int .i64 x2) hx2
            have HGX := Lib.hid hgx; have HGY := Lib.hid hgy; have HPL := Lib.hid hpl
            clear hgx hgy hpl hfs
            have hj2 : (j : Int) + 1 < n := by omega
            have he2 : (e : Int) < n := by omega
            have ew : ((j : Int) + 1).toNat = j + 1 := by omega
            go_wp2_with (first
              | ((with_reducible refine (fair_n_some _ (Option.map (fun x => x.add t) A) (l.length - t) _ (l.drop t) _ _ _ _ HDL.out (cut_rd HR.out t) (by have := HDL.out; omega) HF.out).mono ?_); rintro e w' ⟨rfl, rfl⟩))
            go_region
            all_goals go_wp2
            clear ew
            go_roundg (((j : Int) + 1).toNat)
            case measure => omega
            case rel =>
              refine ⟨(j : Int), swp p (j + 1) e, t + u, by omega, by omega, rfl, by go_num, rfl, by omega, by rw [swp_length]; exact HPL.out, ?_, ?_⟩
              · have hd := HH.out.2.1
                rw [show ((j : Int) + 1).toNat = j + 1 by omega, dealGo_some (by rw [show (j : Int) + 2 = (j : Int) + 1 + 1 by omega]; exact HF.out)] at hd
                simpa using hd
              · have h2 := Dealing.drew (Dealing.set (Dealing.set HH.out.2.2 HS.out (j + 1) x2) HS.out e x1)
                have e1 : p.getD e 0 = x2 := by simp [List.getD, HGY.out]
                have e2 : p.getD (j + 1) 0 = x1 := by simp [List.getD, HGX.out]
                unfold swp
                rw [e1, e2]
                exact h2
        · have hi' : decide (1 ≤ i) = false := by simpa using hi
          go_wp2_with ((with_reducible refine (drop_any _ base g r l t HH.out.2.2.str ht).mono ?_); rintro e w' ⟨rfl, hw⟩)
          go_ret2
          have hd := HH.out.2.1
          rw [show i.toNat = 0 by omega] at hd
          rw [← hd]
          exact dealt_end HH.out.2.2 HS.out HH.out.1 hw
end Go.Proofs.Ytieohegflcfnaaa.Con
