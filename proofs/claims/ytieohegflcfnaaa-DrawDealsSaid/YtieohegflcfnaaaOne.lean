/-
  One stream: what its methods leave; a row of truths; what is seen while a deal is gone over.
-/
import Derived.Test.YtieohegflcfnaaaDeal
import Derived.Test.YtieohegflcfnaaaSmall
import Derived.Test.YtieohegflcfnaaaOpen
namespace Go.Proofs.Ytieohegflcfnaaa.Con
open Go.RowKit Mth Mem

/-- A stream at block g; below 'base' nothing has turned since w0. -/
def One (base : Nat) (w0 w : World) (g : Nat) (l : List Int) : Prop := ∃ r, Str w base 50 g r l ∧ Below base w0 w
theorem One.below {base : Nat} {w0 w : World} {g : Nat} {l : List Int} (h : One base w0 w g l) : Below base w0 w := by
  obtain ⟨_, _, h⟩ := h
  exact h
theorem One.went {base : Nat} {w0 w w' : World} {g : Nat} {r : Option Nat} {l l' : List Int} (h : Str w base 50 g r l) (hb : Below base w0 w) (hw : Went w w' base 50 g r l') : One base w0 w' g l' := by
  have hb2 := Went.below hw h
  obtain ⟨r', s, _⟩ := hw
  exact ⟨r', s, hb.trans hb2⟩
theorem one_new {w0 w : World} (base : Nat) (hb : Below base w0 w) (hs : base ≤ w.heap.size) : One base w0 (w.alloc (.cells #[.slice none 0 0] 50)) w.heap.size [] :=
  ⟨none, str_new w base 50 hs, hb.alloc hs _⟩

theorem o_feed_bad {base : Nat} {w0 w : World} {g : Nat} {l : List Int} (h : One base w0 w g l) (m : List Int) (B : Nat) (A : Option Addr) (c : Nat) (hr : Rd w B A m) (hl : l.length ≤ 4096) (hm : m.length ≤ 9223372036854770000) (hb : bad m = true) :
    Calls Try.prog 12 #[.pointer (some ⟨g, 0, none⟩), .slice A m.length c] w fun e w' => e = .returned (.int .i64 1) ∧ One base w0 w' g l := by
  obtain ⟨r, hs, hbl⟩ := h
  have hlt := hs.lt
  refine (feed_any w base g r l m B A c hs hr hl hm (by omega)).mono ?_
  rintro e w' ⟨rfl, hw⟩
  rw [(feed_bad hb).2] at hw
  exact ⟨by rw [(feed_bad hb).1], One.went hs hbl hw⟩
theorem o_feed_ok {base : Nat} {w0 w : World} {g : Nat} {l : List Int} (h : One base w0 w g l) (m : List Int) (B : Nat) (A : Option Addr) (c : Nat) (hr : Rd w B A m) (hl : l.length + m.length ≤ 4096) (hb : bad m = false) (l' : List Int) (hl' : l ++ m = l') :
    Calls Try.prog 12 #[.pointer (some ⟨g, 0, none⟩), .slice A m.length c] w fun e w' => e = .returned (.int .i64 0) ∧ One base w0 w' g l' := by
  obtain ⟨r, hs, hbl⟩ := h
  have hlt := hs.lt
  refine (feed_any w base g r l m B A c hs hr (by omega) (by omega) (by omega)).mono ?_
  rintro e w' ⟨rfl, hw⟩
  rw [(feed_ok hb hl).2, hl'] at hw
  exact ⟨by rw [(feed_ok hb hl).1], One.went hs hbl hw⟩
theorem o_deal_out {base : Nat} {w0 w : World} {g : Nat} {l : List Int} (h : One base w0 w g l) (n : Int) (hn : n < 0 ∨ 256 < n) :
    Calls Try.prog 18 #[.pointer (some ⟨g, 0, none⟩), .int .i64 n] w fun e w' => e = .returned (.tuple #[.slice none 0 0, .bool false]) ∧ One base w0 w' g l := by
  obtain ⟨r, hs, hbl⟩ := h
  exact (deal_out w base g r l n hs hn).mono fun e w' ⟨he, hw⟩ => ⟨he, One.went hs hbl hw⟩
theorem o_deal_none {base : Nat} {w0 w : World} {g : Nat} {l : List Int} (h : One base w0 w g l) (n : Nat) (hl : l.length ≤ 4096) (hn : n ≤ 256) (hd : deal l n = none) :
    Calls Try.prog 18 #[.pointer (some ⟨g, 0, none⟩), .int .i64 n] w fun e w' => e = .returned (.tuple #[.slice none 0 0, .bool false]) ∧ One base w0 w' g l := by
  obtain ⟨r, hs, hbl⟩ := h
  refine (deal_in w base g r l n hs hl hn).mono fun e w' hD => ?_
  rw [hd] at hD
  exact ⟨hD.1, One.went hs hbl hD.2⟩
theorem o_deal_some {base : Nat} {w0 w : World} {g : Nat} {l : List Int} (h : One base w0 w g l) (n : Nat) (hl : l.length ≤ 4096) (hn : n ≤ 256) (p : List Int) (t : Nat) (hd : deal l n = some (p, t)) (l' : List Int) (hl' : l.drop t = l') :
    Calls Try.prog 18 #[.pointer (some ⟨g, 0, none⟩), .int .i64 n] w fun e w' => ∃ gd, e = .returned (.tuple #[.slice (some ⟨gd, 0, none⟩) p.length p.length, .bool true]) ∧ One base w0 w' g l' ∧ Arr w' gd p := by
  subst hl'
  obtain ⟨r, hs, hbl⟩ := h
  refine (deal_in w base g r l n hs hl hn).mono fun e w' hD => ?_
  rw [hd] at hD
  obtain ⟨gd, he, hw, ha, _⟩ := hD
  exact ⟨gd, he, One.went hs hbl hw, ha⟩

/-- Pick behind all that, its weights below 'base'. -/
theorem one_far {base : Nat} {w : World} {g : Nat} {r : Option Nat} {l ws : List Int} {A : Option Addr} (hs : Str w base 50 g r l) (hr : Rd w base A ws) (hne : ws ≠ []) : ∀ b off, A = some ⟨b, off, none⟩ → b ≠ g ∧ some b ≠ r := by
  intro b off hA
  rcases hr with rfl | ⟨b', off', hA', hb, _⟩
  · exact absurd rfl hne
  · rw [hA'] at hA
    injection hA with hA
    injection hA with h1 _
    subst h1
    have hlt := hs.lt
    refine ⟨by omega, fun e => ?_⟩
    have := (hlt.2.2 _ e.symm).1
    omega
theorem total_nil (A : Option Addr) (c : Nat) (w : World) : Calls Try.prog 25 #[.slice A 0 c] w fun e w' => e = .returned (.tuple #[.int .i64 0, .bool true]) ∧ w = w' :=
  total_some 0 A c [] w 0 Rd.nil (by simp) rfl
theorem o_pick_nil {base : Nat} {w0 w : World} {g : Nat} {l : List Int} (h : One base w0 w g l) (hl : l.length ≤ 4096) (A : Option Addr) (c : Nat) :
    Calls Try.prog 16 #[.pointer (some ⟨g, 0, none⟩), .slice A 0 c] w fun e w' => e = .returned (.tuple #[.int .i64 0, .bool false]) ∧ One base w0 w' g l := by
  obtain ⟨r, hs, hbl⟩ := h
  have hf : fair l 0 = none := by unfold fair; rw [if_pos (by omega)]
  have HS := Lib.hid hs; clear hs
  have HF := Lib.hid hf; clear hf
  go_enter Try.func16, Try.ntmps16
  go_wp2_with (first
    | ((with_reducible refine (total_nil A c _).mono ?_); rintro e w' ⟨rfl, rfl⟩)
    | ((with_reducible refine (below_none _ base g r l 0 HS.out hl HF.out).mono ?_); rintro e w' ⟨rfl, hw⟩))
  go_ret2
  exact ⟨rfl, One.went HS.out hbl hw⟩
theorem o_pick_none {base : Nat} {w0 w : World} {g : Nat} {l : List Int} (h : One base w0 w g l) (hl : l.length ≤ 4096) (ws : List Int) (A : Option Addr) (c : Nat) (hr : Rd w base A ws) (hm : ws.length ≤ 9223372036854770000) (hp : pick l ws = none) :
    Calls Try.prog 16 #[.pointer (some ⟨g, 0, none⟩), .slice A ws.length c] w fun e w' => e = .returned (.tuple #[.int .i64 0, .bool false]) ∧ One base w0 w' g l := by
  by_cases hne : ws = []
  · subst hne; exact o_pick_nil h hl A c
  · obtain ⟨r, hs, hbl⟩ := h
    have hlt := hs.lt
    have := pick_any w base g r l ws base A c hs hl hr (by omega) (one_far hs hr hne) hm
    rw [hp] at this
    exact this.mono fun e w' ⟨he, hw⟩ => ⟨he, One.went hs hbl hw⟩
theorem o_pick_some {base : Nat} {w0 w : World} {g : Nat} {l : List Int} (h : One base w0 w g l) (hl : l.length ≤ 4096) (ws : List Int) (A : Option Addr) (c : Nat) (hr : Rd w base A ws) (hm : ws.length ≤ 9223372036854770000) (p u : Nat) (hp : pick l ws = some (p, u)) (l' : List Int) (hl' : l.drop u = l') :
    Calls Try.prog 16 #[.pointer (some ⟨g, 0, none⟩), .slice A ws.length c] w fun e w' => e = .returned (.tuple #[.int .i64 p, .bool true]) ∧ One base w0 w' g l' := by
  subst hl'
  have hne : ws ≠ [] := by
    rintro rfl
    have := (pick_lt hp).1
    simp at this
  obtain ⟨r, hs, hbl⟩ := h
  have hlt := hs.lt
  have := pick_any w base g r l ws base A c hs hl hr (by omega) (one_far hs hr hne) hm
  rw [hp] at this
  exact this.mono fun e w' ⟨he, hw⟩ => ⟨he, One.went hs hbl hw⟩

/-- Block g is just the truths bs. -/
def ArrB (w : World) (g : Nat) (bs : List Bool) : Prop := w.heap[g]? = some (.cells (bs.map Value.bool).toArray 4 (0, 0))
theorem ArrB.lt {w : World} {g : Nat} {bs : List Bool} (h : ArrB w g bs) : g < w.heap.size := (Array.getElem?_eq_some_iff.1 h).1
theorem ArrB.cell {w : World} {g : Nat} {bs : List Bool} (h : ArrB w g bs) {i : Nat} {x : Bool} (hx : bs[i]? = some x) : w.cell? ⟨g, i, none⟩ = some (.bool x) := by
  rw [cell_of_row w g i _ 4 (0, 0) h]
  simp [hx]
theorem ArrB.frozen {w : World} {g : Nat} {bs : List Bool} (h : ArrB w g bs) (i : Nat) : w.frozen? ⟨g, i, none⟩ = false := by
  unfold ArrB at h; simp [World.frozen?, h]
theorem ArrB.set {w : World} {g : Nat} {bs : List Bool} (h : ArrB w g bs) (i : Nat) (x : Bool) : ArrB (w.setCell ⟨g, i, none⟩ (.bool x)) g (bs.set i x) := by
  unfold ArrB at h ⊢
  simp [World.setCell, Array.getElem?_modify, h, List.map_set]

theorem bool_info : (Try.prog.info? 4).map (fun i => (i.zero, i.size, i.bytes)) = some (some (.bool false), 1, 1) := by kernel_rfl
theorem madeB (n : Nat) : (madeCells (Value.bool false).cells (n * 1)).toList = (List.replicate n false).map Value.bool := by
  apply List.ext_getElem?
  intro k
  by_cases hk : k < n
  · simp [madeCells, Value.cells, hk, Nat.mod_one]
  · rw [List.getElem?_eq_none (by simp [madeCells]; omega), List.getElem?_eq_none (by simp; omega)]
theorem ArrB.of_own {w : World} {base g n : Nat} {bs : List Bool} (h : w.ownsRow base 4 1 (.slice (some ⟨g, 0, none⟩) n n) n (bs.map Value.bool)) : ArrB w g bs := by
  rcases h.2 with ⟨hv, _⟩ | ⟨g', cap, cur, hv, _, hg, hn, hm, hs, ht⟩
  · cases hv
  · injection hv with h1 h2 h3
    injection h1 with h1
    injection h1 with h1 _ _
    subst h1; subst h3
    unfold ArrB
    rw [hg]
    have : cur = (bs.map Value.bool).toArray := by
      apply Array.ext'
      rw [← ht, List.take_of_length_le (by simp [hs])]
    rw [this]

/-- What is known while what was dealt is gone over: j is seen just if it stands ahead of place i. -/
structure Seeing (base : Nat) (w0 wr : World) (g : Nat) (l : List Int) (gd : Nat) (p : List Int) (gs : Nat) (bs : List Bool) (i : Nat) : Prop where
  one : ∃ r, Str wr base 50 g r l ∧ g < gs ∧ ∀ k, r = some k → k < gs
  arr : Arr wr gd p
  lt : gd < gs
  arrb : ArrB wr gs bs
  len : bs.length = p.length
  below : Below base w0 wr
  base : base ≤ gs
  bits : ∀ (j : Nat) (b : Bool), bs[j]? = some b → (b = true ↔ ∃ a, a < i ∧ p[a]? = some (j : Int))
theorem Seeing.toOne {base : Nat} {w0 wr : World} {g : Nat} {l : List Int} {gd : Nat} {p : List Int} {gs : Nat} {bs : List Bool} {i : Nat} (h : Seeing base w0 wr g l gd p gs bs i) : One base w0 wr g l := by
  obtain ⟨r, hs, _⟩ := h.one
  exact ⟨r, hs, h.below⟩
theorem Seeing.start {base : Nat} {w0 w w' : World} {g : Nat} {l : List Int} {gd : Nat} {p : List Int} (h : One base w0 w g l) (ha : Arr w gd p) (hg : w.grownBy w' none) (ho : w'.ownsRow base 4 1 (.slice (some ⟨w.heap.size, 0, none⟩) p.length p.length) p.length ((List.replicate p.length false).map Value.bool)) :
    Seeing base w0 w' g l gd p w.heap.size (List.replicate p.length false) 0 := by
  obtain ⟨r, hs, hb⟩ := h
  have hlt := hs.lt
  have hk : ∀ k, k < w.heap.size → w'.heap[k]? = w.heap[k]? := fun k hk => hg.block k hk (by simp)
  refine ⟨⟨r, hs.keep (hk _ hlt.2.1) (fun k h => hk k (hlt.2.2 k h).2), hlt.2.1, fun k h => (hlt.2.2 k h).2⟩, ha.keep (hk _ ha.lt), ha.lt, ArrB.of_own ho, by simp, hb.grown hg (by omega) (fun k h => by cases h), by omega, fun j b hj => ?_⟩
  rw [List.getElem?_replicate] at hj
  split at hj
  · injection hj with hj
    subst hj
    simp
  · cases hj
theorem Seeing.set {base : Nat} {w0 wr : World} {g : Nat} {l : List Int} {gd : Nat} {p : List Int} {gs : Nat} {bs : List Bool} {i : Nat} (h : Seeing base w0 wr g l gd p gs bs i) {e : Nat} (he : p[i]? = some (e : Int)) :
    Seeing base w0 (wr.setCell ⟨gs, e, none⟩ (.bool true)) g l gd p gs (bs.set e true) (i + 1) := by
  obtain ⟨r, hs, hg, hr⟩ := h.one
  have hlt := h.lt
  refine ⟨⟨r, hs.keep (Below.heap_setCell _ _ _ _ (by show g ≠ gs; omega)) (fun k hk => Below.heap_setCell _ _ _ _ (by have := hr k hk; show k ≠ gs; omega)), hg, hr⟩, h.arr.far (by show gd ≠ gs; omega) _, hlt, h.arrb.set e true, by simp [h.len], h.below.setCell h.base _, h.base, fun j b hj => ?_⟩
  by_cases hje : j = e
  · subst hje
    rw [List.getElem?_set] at hj
    simp at hj
    obtain ⟨_, rfl⟩ := hj
    exact ⟨fun _ => ⟨i, by omega, he⟩, fun _ => rfl⟩
  · rw [List.getElem?_set_ne (fun e => hje e.symm)] at hj
    rw [h.bits j b hj]
    constructor
    · rintro ⟨a, ha, hp⟩
      exact ⟨a, by omega, hp⟩
    · rintro ⟨a, ha, hp⟩
      by_cases hai : a = i
      · subst hai
        rw [he] at hp
        injection hp with hp
        omega
      · exact ⟨a, by omega, hp⟩
/-- What stands at place i is not yet seen. -/
theorem Seeing.fresh {base : Nat} {w0 wr : World} {g : Nat} {l : List Int} {gd : Nat} {p : List Int} {gs : Nat} {bs : List Bool} {i : Nat} (h : Seeing base w0 wr g l gd p gs bs i) (hp : Each p) {e : Nat} (he : p[i]? = some (e : Int)) : wr.cell? ⟨gs, e, none⟩ = some (.bool false) := by
  have hb := (hp.2 i _ he).2
  have hl : e < bs.length := by rw [h.len]; omega
  have hx := List.getElem?_eq_getElem hl
  have := h.bits e _ hx
  cases hv : bs[e] with
  | false => rw [hv] at hx; exact h.arrb.cell hx
  | true =>
    rw [hv] at this
    obtain ⟨a, ha, hpa⟩ := this.1 rfl
    have := hp.1 _ _ _ hpa he
    omega
end Go.Proofs.Ytieohegflcfnaaa.Con
