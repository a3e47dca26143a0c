/-
  Contracts of total, Pick, and of the small case that each law begins with.
-/
import Derived.Test.YtieohegflcfnaaaStr
namespace Go.Proofs.Ytieohegflcfnaaa.Con
open Go.RowKit Mth Mem

set_option maxHeartbeats 400000 in
theorem total_any (B : Nat) (A : Option Addr) (c : Nat) (l : List Int) (w : World) (hr : Rd w B A l) (hl : l.length ≤ 9223372036854775807) :
    Calls Try.prog 25 #[.slice A l.length c] w fun e w' => e = .returned (.tuple #[.int .i64 (tv (tot l 0)), .bool (tb (tot l 0))]) ∧ w = w' := by
  go_enter Try.func25, Try.ntmps25
  go_wp2
  go_loopg [4, 9] l.length (fun g s4 s9 wr => ∃ (k : Nat) (s : Int), k ≤ l.length ∧ g = l.length - k ∧ s4 = .int .i64 s ∧ 0 ≤ s ∧ s ≤ 4294967296 ∧ s9 = .int .i64 k ∧ w = wr ∧ Hid (tot l 0 = tot (l.drop k) s))
  case atStart => exact ⟨0, 0, by omega, rfl, rfl, by omega, by omega, rfl, rfl, rfl⟩
  case round =>
    obtain ⟨k, s, hk, rfl, rfl, hs0, hs1, rfl, rfl, hs⟩ := hrel
    by_cases hlt : k < l.length
    · obtain ⟨b, off, x, rfl, _, hx, hc⟩ := hr.at' hlt
      have HX := Lib.hid hx; clear hx hr
      by_cases h0 : x < 0
      · go_wp2
        go_ret2
        exact ⟨by rw [hs.out, tot_no HX.out (.inl h0)]; rfl, rfl⟩
      · have h0' : decide (x < 0) = false := by simpa using h0
        by_cases h1 : 4294967296 - s < x
        · go_wp2
          go_ret2
          exact ⟨by rw [hs.out, tot_no HX.out (.inr h1)]; rfl, rfl⟩
        · have h1' : decide (4294967296 - s < x) = false := by simpa using h1
          go_wp2
          go_roundg (l.length - (k + 1))
          case measure => omega
          case rel => exact ⟨k + 1, s + x, by omega, rfl, rfl, by omega, by omega, by go_num, rfl, hs.out.trans (tot_next HX.out (by omega) (by omega))⟩
    · go_wp2
      go_ret2
      exact ⟨by rw [hs.out, tot_end (by omega)]; rfl, rfl⟩
theorem total_none (B : Nat) (A : Option Addr) (c : Nat) (l : List Int) (w : World) (hr : Rd w B A l) (hl : l.length ≤ 9223372036854775807) (h : tot l 0 = none) :
    Calls Try.prog 25 #[.slice A l.length c] w fun e w' => e = .returned (.tuple #[.int .i64 0, .bool false]) ∧ w = w' := by
  have := total_any B A c l w hr hl; rw [h] at this; exact this
theorem total_some (B : Nat) (A : Option Addr) (c : Nat) (l : List Int) (w : World) (s : Int) (hr : Rd w B A l) (hl : l.length ≤ 9223372036854775807) (h : tot l 0 = some s) :
    Calls Try.prog 25 #[.slice A l.length c] w fun e w' => e = .returned (.tuple #[.int .i64 s, .bool true]) ∧ w = w' := by
  have := total_any B A c l w hr hl; rw [h] at this; exact this
theorem below_none (w : World) (base g : Nat) (r : Option Nat) (l : List Int) (n : Int) (h : Str w base 50 g r l) (hl : l.length ≤ 4096) (hf : fair l n = none) :
    Calls Try.prog 14 #[.pointer (some ⟨g, 0, none⟩), .int .i64 n] w fun e w' => e = .returned (.tuple #[.int .i64 0, .bool false]) ∧ Went w w' base 50 g r l := by
  have := below_any w base g r l n h hl; rw [hf] at this; exact this
theorem below_some (w : World) (base g : Nat) (r : Option Nat) (l : List Int) (n d : Int) (u : Nat) (h : Str w base 50 g r l) (hl : l.length ≤ 4096) (hf : fair l n = some (d, u)) :
    Calls Try.prog 14 #[.pointer (some ⟨g, 0, none⟩), .int .i64 n] w fun e w' => e = .returned (.tuple #[.int .i64 d, .bool true]) ∧ Went w w' base 50 g r (l.drop u) := by
  have := below_any w base g r l n h hl; rw [hf] at this; exact this

theorem Went.rd {w w' : World} {base : Nat} {t : TypeId} {g : Nat} {r : Option Nat} {l' m : List Int} {B : Nat} {A : Option Addr} (h : Went w w' base t g r l') (hB : B ≤ w.heap.size) (hgB : ∀ b off, A = some ⟨b, off, none⟩ → b ≠ g ∧ some b ≠ r) (hr : Rd w B A m) : Rd w' B A m := by
  obtain ⟨r', _, hT, _⟩ := h
  rcases hr with rfl | ⟨b, off, hA, hb, hc⟩
  · exact .inl rfl
  · exact .inr ⟨b, off, hA, hb, fun k x hx => (World.cell?_of_block (w := w) (hT.block b (by omega) (hgB b off hA).1 (hgB b off hA).2)).trans (hc k x hx)⟩

theorem place_stop {ws : List Int} {p : Nat} {x d : Int} (h : ws[p]? = some x) (hd : d < x) : place (ws.drop p) d = 0 := by
  rw [drop_at h]; unfold place; rw [if_pos hd]
theorem place_next {ws : List Int} {p : Nat} {x d : Int} (h : ws[p]? = some x) (hd : ¬ d < x) : place (ws.drop p) d = place (ws.drop (p + 1)) (d - x) + 1 := by
  rw [drop_at h]; conv => lhs; unfold place
  rw [if_neg hd]
theorem sum_drop {ws : List Int} {p : Nat} {x : Int} (h : ws[p]? = some x) : (ws.drop p).sum = x + (ws.drop (p + 1)).sum := by
  rw [drop_at h, List.sum_cons]

set_option maxHeartbeats 400000 in
theorem pick_any (w : World) (base g : Nat) (r : Option Nat) (l ws : List Int) (B : Nat) (A : Option Addr) (c : Nat) (h : Str w base 50 g r l) (hl : l.length ≤ 4096) (hr : Rd w B A ws) (hB : B ≤ w.heap.size) (hA : ∀ b off, A = some ⟨b, off, none⟩ → b ≠ g ∧ some b ≠ r) (hm : ws.length ≤ 9223372036854770000) :
    Calls Try.prog 16 #[.pointer (some ⟨g, 0, none⟩), .slice A ws.length c] w fun e w' => e = .returned (.tuple #[.int .i64 (pv (pick l ws)), .bool (pb (pick l ws))]) ∧ Went w w' base 50 g r (l.drop (pu (pick l ws))) := by
  rcases ht : tot ws 0 with _ | s
  · have hp := pick_tot (l := l) ht
    rw [hp]
    have HT := Lib.hid ht; have HS := Lib.hid h; have HR := Lib.hid hr
    clear ht h hr hp hA
    go_enter Try.func16, Try.ntmps16
    go_wp2_with ((with_reducible refine (total_none B A c ws _ HR.out (by omega) HT.out).mono ?_); rintro e w' ⟨rfl, rfl⟩)
    go_ret2
    exact ⟨rfl, Went.same HS.out⟩
  · rcases hf : fair l s with _ | ⟨d, u⟩
    · have hp := pick_fair ht hf
      rw [hp]
      have HT := Lib.hid ht; have HS := Lib.hid h; have HR := Lib.hid hr; have HF := Lib.hid hf
      clear ht h hr hp hA hf
      go_enter Try.func16, Try.ntmps16
      go_wp2_with (first
        | ((with_reducible refine (total_some B A c ws _ s HR.out (by omega) HT.out).mono ?_); rintro e w' ⟨rfl, rfl⟩)
        | ((with_reducible refine (below_none _ base g r l s HS.out hl HF.out).mono ?_); rintro e w' ⟨rfl, hw⟩))
      go_ret2
      exact ⟨rfl, hw⟩
    · have hp := pick_some ht hf
      rw [hp]
      have hfs := fair_some hf
      have hts := tot_some ht
      have hsum : d < ws.sum := by omega
      have hd0 : 0 ≤ d := hfs.2.2.1
      have hs4 : s ≤ 4294967296 := hfs.2.1
      have hd4 : d < s := hfs.2.2.2.1
      have HNN := Lib.hid hts.1
      have HSU := Lib.hid hsum
      have HT := Lib.hid ht; have HS := Lib.hid h; have HR := Lib.hid hr; have HF := Lib.hid hf; have HA := Lib.hid hA
      clear ht h hr hp hA hf hfs hts hsum
      go_enter Try.func16, Try.ntmps16
      go_wp2_with (first
        | ((with_reducible refine (total_some B A c ws _ s HR.out (by omega) HT.out).mono ?_); rintro e w' ⟨rfl, rfl⟩)
        | ((with_reducible refine (below_some _ base g r l s d u HS.out hl HF.out).mono ?_); rintro e w1 ⟨rfl, hw⟩; have HR1 := Lib.hid (Went.rd hw hB HA.out HR.out); have HW := Lib.hid hw; clear hw))
      go_loopg [8, 9] ws.length (fun g s8 s9 wr => ∃ (p : Nat) (q : Int), p ≤ ws.length ∧ g = ws.length - p ∧ s8 = .int .i64 q ∧ 0 ≤ q ∧ q ≤ 4294967296 ∧ s9 = .int .i64 p ∧ w1 = wr ∧ Hid (place ws d = p + place (ws.drop p) q ∧ q < (ws.drop p).sum))
      case atStart => exact ⟨0, d, by omega, rfl, rfl, by omega, by omega, rfl, rfl, by simp, by simpa using HSU.out⟩
      case round =>
        obtain ⟨p, q, hp, rfl, rfl, hq0, hq1, rfl, rfl, hh⟩ := hrel
        have hlt : p < ws.length := by
          rcases Nat.lt_or_ge p ws.length with h | h
          · exact h
          · have := hh.out.2
            rw [List.drop_eq_nil_of_le h] at this
            simp at this
            omega
        obtain ⟨b, off, x, rfl, _, hx, hc⟩ := HR1.out.at' hlt
        have hx0 : 0 ≤ x := HNN.out x (List.mem_of_getElem? hx)
        have hlt' : (p : Int) < ws.length := by omega
        have HX := Lib.hid hx; clear hx
        by_cases hq : q < x
        · have hq' : decide (x ≤ q) = false := by simp; omega
          go_wp2
          go_ret2
          exact ⟨by rw [hh.out.1, place_stop HX.out hq]; rfl, HW.out⟩
        · have hq' : x ≤ q := by omega
          go_wp2
          go_roundg (ws.length - (p + 1))
          case measure => omega
          case rel => exact ⟨p + 1, q - x, by omega, rfl, rfl, by omega, by omega, by go_num, rfl, by rw [hh.out.1, place_next HX.out (by omega)]; omega, by have := hh.out.2; rw [sum_drop HX.out] at this; omega⟩

theorem Went.below {w w' : World} {base : Nat} {t : TypeId} {g : Nat} {r : Option Nat} {l l' : List Int} (h : Went w w' base t g r l') (hs : Str w base t g r l) : Below base w w' := by
  obtain ⟨r', _, hT, _⟩ := h
  have := hs.lt
  exact hT.below (by omega) this.1 (fun k hk => (this.2.2 k hk).1)

/-- A new stream in which no word waits. -/
theorem str_new (w : World) (base : Nat) (t : TypeId) (hb : base ≤ w.heap.size) : Str (w.alloc (.cells #[.slice none 0 0] t)) base t w.heap.size none [] :=
  ⟨none, 0, heap_alloc_new w _, hb, World.ownsRow_nil _ _ _ _, rfl⟩
theorem Str.alloc {w : World} {base : Nat} {t : TypeId} {g : Nat} {r : Option Nat} {l : List Int} (h : Str w base t g r l) (o : Obj) : Str (w.alloc o) base t g r l :=
  h.keep (Below.heap_alloc _ _ _ h.lt.2.1) (fun k hk => Below.heap_alloc _ _ _ (h.lt.2.2 k hk).2)
theorem rd_new (w : World) (l : List Int) (xs : Array Value) (hx : xs.toList = vs l) : Rd (w.alloc (.cells xs 3)) (w.heap.size + 1) (some ⟨w.heap.size, 0, none⟩) l := by
  refine .inr ⟨w.heap.size, 0, rfl, by omega, fun k x hk => ?_⟩
  rw [cell_of_row _ _ (0 + k) xs 3 (0, 0) (heap_alloc_new w _), Nat.zero_add, ← Array.getElem?_toList, hx]
  exact vs_at hk

theorem s_feed (w : World) (base g : Nat) (B : Nat) (A : Option Addr) (h : Str w base 50 g none []) (hr : Rd w B A [7, 8, 5]) (hbase : base ≤ w.heap.size) :
    Calls Try.prog 12 #[.pointer (some ⟨g, 0, none⟩), .slice A 3 3] w fun e w' => e = .returned (.int .i64 0) ∧ Went w w' base 50 g none [7, 8, 5] :=
  feed_any w base g none [] [7, 8, 5] B A 3 h hr (by decide) (by decide) hbase
theorem s_bad (w : World) (base g : Nat) (r : Option Nat) (l : List Int) (B : Nat) (A : Option Addr) (h : Str w base 50 g r l) (hr : Rd w B A [-1]) (hl : l.length ≤ 4096) (hbase : base ≤ w.heap.size) :
    Calls Try.prog 12 #[.pointer (some ⟨g, 0, none⟩), .slice A 1 1] w fun e w' => e = .returned (.int .i64 1) ∧ Went w w' base 50 g r l :=
  feed_any w base g r l [-1] B A 1 h hr hl (by decide) hbase
theorem s_b5 (w : World) (base g : Nat) (r : Option Nat) (h : Str w base 50 g r [7, 8, 5]) :
    Calls Try.prog 14 #[.pointer (some ⟨g, 0, none⟩), .int .i64 5] w fun e w' => e = .returned (.tuple #[.int .i64 2, .bool true]) ∧ Went w w' base 50 g r [8, 5] :=
  below_some w base g r [7, 8, 5] 5 2 1 h (by decide) (by decide)
theorem s_b9 (w : World) (base g : Nat) (r : Option Nat) (h : Str w base 50 g r [8, 5]) :
    Calls Try.prog 14 #[.pointer (some ⟨g, 0, none⟩), .int .i64 9] w fun e w' => e = .returned (.tuple #[.int .i64 8, .bool true]) ∧ Went w w' base 50 g r [5] :=
  below_some w base g r [8, 5] 9 8 1 h (by decide) (by decide)
theorem s_left (w : World) (base g : Nat) (r : Option Nat) (h : Str w base 50 g r [8, 5]) : Calls Try.prog 21 #[.pointer (some ⟨g, 0, none⟩)] w fun e w' => e = .returned (.int .i64 2) ∧ w = w' :=
  left_any w base g r [8, 5] h
theorem s_fair (w : World) (B : Nat) (A : Option Addr) (hr : Rd w B A [4294967295, 1]) :
    Calls Try.prog 9 #[.slice A 2 2, .int .i64 3] w fun e w' => e = .returned (.tuple #[.int .i64 1, .int .i64 2, .bool true]) ∧ w = w' := by
  have := fair_any B A 2 [4294967295, 1] 3 w hr (by decide)
  rw [show fair [4294967295, 1] 3 = some (1, 2) by decide] at this
  exact this
theorem s_pick (w : World) (base g : Nat) (r : Option Nat) (B : Nat) (A : Option Addr) (h : Str w base 50 g r [5]) (hr : Rd w B A [0, 4, 3]) (hB : B ≤ w.heap.size) (hA : ∀ b off, A = some ⟨b, off, none⟩ → b ≠ g ∧ some b ≠ r) :
    Calls Try.prog 16 #[.pointer (some ⟨g, 0, none⟩), .slice A 3 3] w fun e w' => e = .returned (.tuple #[.int .i64 2, .bool true]) ∧ Went w w' base 50 g r [] := by
  have := pick_any w base g r [5] [0, 4, 3] B A 3 h (by decide) hr hB hA (by decide)
  rw [show pick [5] [0, 4, 3] = some (2, 1) by decide] at this
  exact this
end Go.Proofs.Ytieohegflcfnaaa.Con
