/-
  The document's own feed, and the contract of its Push.
-/
import Derived.Test.YtcefkjeoknaijaaRnm
import Derived.Test.YtcefkjeoknaijaaPsh
namespace Go.Proofs.Ytcefkjeoknaijaa.Con
open Go.RowKit Mth Mem

theorem wpList_appN {K : IntKind} {t e : TypeId} {z : Value} {by' : Nat} (hu : Try.prog.underlying t = some (.slice e)) (hinf : (Try.prog.info? e).map (fun i => (i.zero, i.size, i.bytes)) = some (some z, 1, by')) (hz : z.cells.size = 1) (hby : by' ≤ 8)
    {w : World} {ops : Array Oper} {rest : List Oper} {o : Oper} {a : Act} {Q : Exit → Act → World → Prop} (hgd : o.guard = none) (s x : Operand)
    (ho : o.op = .call { callee := .builtin .append, args := #[s, x], argTypes := #[t, t] })
    (base B : Nat) (A0 : Option Addr) (n0 c0 : Nat) (l m : List Int) (A : Option Addr) (n c : Nat) (hs : a.eval s = .slice A0 n0 c0) (hx : a.eval x = .slice A n c) (hn0 : l.length = n0) (hn : m.length = n)
    (hown : Own w base K e A0 c0 l) (hr : Rd K w B A m) (hlen : l.length + m.length ≤ 17179869184) (hbase : base ≤ w.heap.size)
    (h : ∀ A' c' w' lm, Hid (lm = l ++ m) → Hid (Own w' base K e A' c' lm) → Hid (Step w w' (blk A0) A') → wpList Try.prog ops Q rest (a.put o.dst (.slice A' lm.length c')) w') :
    wpList Try.prog ops Q (o :: rest) a w := by
  subst hn0; subst hn
  exact wpList_app hu hinf hz hby hgd s x ho base B A0 c0 l m A c hs hx hown hr hlen hbase h

theorem rd_blk {K : IntKind} {w w' : World} {B : Nat} {A : Option Addr} {l : List Int} (h : Rd K w B A l) (hk : ∀ k, blk A = some k → w'.heap[k]? = w.heap[k]?) : Rd K w' B A l := by
  rcases h with rfl | ⟨b, off, rfl, hb, hc⟩
  · exact .inl rfl
  · exact .inr ⟨b, off, rfl, hb, fun k x hx => (World.cell?_of_block (w := w) (hk b rfl)).trans (hc k x hx)⟩

/-- The document's feed: a struct at block g, with a slice (its row: block r) that reads as l, and whether it is over. -/
def RFeed (w : World) (base g : Nat) (r : Option Nat) (l : List Int) (d : Bool) : Prop :=
  ∃ A c, Duo w g 30 (.slice A l.length c) (.bool d) ∧ base ≤ g ∧ Rd .u8 w w.heap.size A l ∧ blk A = r ∧ ∀ k, r = some k → base ≤ k ∧ ∃ cur, w.heap[k]? = some (.cells cur 5 (0, 0))
theorem RFeed.lt {w : World} {base g : Nat} {r : Option Nat} {l : List Int} {d : Bool} (h : RFeed w base g r l d) : base ≤ g ∧ g < w.heap.size ∧ ∀ k, r = some k → base ≤ k ∧ k < w.heap.size := by
  obtain ⟨A, c, h1, h2, h3, h4, h5⟩ := h
  exact ⟨h2, h1.lt, fun k hk => ⟨(h5 k hk).1, by obtain ⟨cur, hc⟩ := (h5 k hk).2; exact (Array.getElem?_eq_some_iff.1 hc).1⟩⟩
theorem RFeed.keep {w w' : World} {base g : Nat} {r : Option Nat} {l : List Int} {d : Bool} (h : RFeed w base g r l d) (hs : w.heap.size ≤ w'.heap.size) (hg : w'.heap[g]? = w.heap[g]?) (hr : ∀ k, r = some k → w'.heap[k]? = w.heap[k]?) : RFeed w' base g r l d := by
  obtain ⟨A, c, h1, h2, h3, h4, h5⟩ := h
  subst h4
  refine ⟨A, c, h1.keep hg, h2, (rd_blk h3 hr).more hs, rfl, fun k hk => ⟨(h5 k hk).1, ?_⟩⟩
  obtain ⟨cur, hc⟩ := (h5 k hk).2
  exact ⟨cur, (hr k hk).trans hc⟩
theorem RFeed.below {w w' : World} {B base g : Nat} {r : Option Nat} {l : List Int} {d : Bool} (h : RFeed w base g r l d) (hb : Below B w w') (hB : w.heap.size ≤ B) : RFeed w' base g r l d := by
  have := h.lt
  exact h.keep hb.size (hb.block g (by omega)) (fun k hk => hb.block k (by have := this.2.2 k hk; omega))
theorem RFeed.drewN {w : World} {base g : Nat} {r : Option Nat} {l : List Int} {d : Bool} (h : RFeed w base g r l d) (n : Nat) : RFeed (w.drewN n) base g r l d := h
theorem RFeed.alloc {w : World} {base g : Nat} {r : Option Nat} {l : List Int} {d : Bool} (h : RFeed w base g r l d) (o : Obj) : RFeed (w.alloc o) base g r l d := h.below (((Below.refl w.heap.size w).alloc (Nat.le_refl _) o)) (Nat.le_refl _)
theorem RFeed.more {w : World} {base base' g : Nat} {r : Option Nat} {l : List Int} {d : Bool} (h : RFeed w base g r l d) (hb : base' ≤ base) : RFeed w base' g r l d := by
  obtain ⟨A, c, h1, h2, h3, h4, h5⟩ := h
  exact ⟨A, c, h1, by omega, h3, h4, fun k hk => ⟨by have := (h5 k hk).1; omega, (h5 k hk).2⟩⟩
theorem rfeed_new (w : World) : RFeed (w.alloc (.cells #[.slice none 0 0, .bool false] 30)) w.heap.size w.heap.size none [] false :=
  ⟨none, 0, heap_alloc_new w _, Nat.le_refl _, Rd.nil, rfl, fun k hk => by cases hk⟩

theorem rpush_dead {w : World} {base g : Nat} {r : Option Nat} {l : List Int} (h : RFeed w base g r l true) (A : Option Addr) (n c : Nat) :
    Calls Try.prog 11 #[.pointer (some ⟨g, 0, none⟩), .slice A n c] w fun e w' => e = .returned (.tuple #[.slice none 0 0, .int .i64 14]) ∧ w = w' := by
  obtain ⟨A0, c0, hd, _⟩ := h
  have hc := hd.cell1
  clear hd
  go_enter Try.func11, Try.ntmps11
  go_wp2
  go_ret2
  exact ⟨rfl, rfl⟩

/-- What the document's Push leaves of a feed that is not over. -/
def RCame (w : World) (base g : Nat) (L : List (List Int)) (z : List Int) (x : Int) (e : Ending) (w' : World) : Prop :=
  ∃ A c r', e = .returned (.tuple #[.slice A L.length c, .int .i64 x]) ∧ Hid (RFeed w' base g r' z (x != 0)) ∧ Hid (Rows w' w.heap.size none A c L) ∧ Hid (Turn w w' g none) ∧ Hid (∀ k, r' = some k → w.heap.size ≤ k)

/-- What holds in the loop of the document's Push. -/
structure RIn (w w2 wr : World) (g : Nat) (A2 : Option Addr) (l2 : List Int) (a : Nat) (A3 : Option Addr) (c3 : Nat) (l3 : List Int) (LA : Option Addr) (Lc : Nat) (L : List (List Int)) : Prop where
  duo : Duo wr g 30 (.slice A3 l3.length c3) (.bool false)
  rest : l3 = l2.drop a
  rd : Rd .u8 wr w2.heap.size A3 l3
  cap : l3.length ≤ c3
  blk3 : blk A3 = blk A2
  rows : Rows wr w2.heap.size none LA Lc L
  turn : Turn w2 wr g none
  from0 : Below w.heap.size w w2
  g0 : g < w.heap.size
  typ : ∀ k, blk A2 = some k → w.heap.size ≤ k ∧ ∃ cur, w2.heap[k]? = some (.cells cur 5 (0, 0))
  par : parse l2 = (L ++ (parse (l2.drop a)).1, (parse (l2.drop a)).2)

theorem RIn.done {w w2 wr : World} {base g : Nat} {A2 : Option Addr} {l2 : List Int} {a : Nat} {A3 : Option Addr} {c3 : Nat} {l3 : List Int} {LA : Option Addr} {Lc : Nat} {L : List (List Int)} (h : RIn w w2 wr g A2 l2 a A3 c3 l3 LA Lc L) (hb : base ≤ g) : RCame w base g L l3 0 (.returned (.tuple #[.slice LA L.length Lc, .int .i64 0])) wr := by
  have e1 := h.from0.size
  have e2 := h.turn.size
  have e3 := h.g0
  refine ⟨LA, Lc, blk A3, rfl, ⟨A3, c3, h.duo, hb, h.rd.more e2, rfl, fun k hk => ?_⟩, h.rows.more e1, (Turn.of_below h.from0).trans h.turn, fun k hk => (h.typ k (h.blk3 ▸ hk)).1⟩
  obtain ⟨k1, cur, hc⟩ := h.typ k (h.blk3 ▸ hk)
  exact ⟨by omega, cur, (h.turn.block k (Array.getElem?_eq_some_iff.1 hc).1 (by omega) (by simp)).trans hc⟩
theorem RIn.bad {w w2 wr : World} {base g : Nat} {A2 : Option Addr} {l2 : List Int} {a : Nat} {A3 : Option Addr} {c3 : Nat} {l3 : List Int} {LA : Option Addr} {Lc : Nat} {L : List (List Int)} (h : RIn w w2 wr g A2 l2 a A3 c3 l3 LA Lc L) (hb : base ≤ g) {x : Int} (hx : x ≠ 0) : RCame w base g L [] x (.returned (.tuple #[.slice LA L.length Lc, .int .i64 x])) ((wr.setCell ⟨g, 1, none⟩ (.bool true)).setCell ⟨g, 0, none⟩ (.slice none 0 0)) := by
  have e1 := h.from0.size
  have e3 := h.g0
  have hx' : (x != 0) = true := by simpa using hx
  refine ⟨LA, Lc, none, rfl, ?_, (h.rows.keep (fun k h1 h2 _ => (Below.heap_setCell _ _ _ _ (by simp only; omega)).trans (Below.heap_setCell _ _ _ _ (by simp only; omega)))).more e1, ((Turn.of_below h.from0).trans ((h.turn).setCell _)).setCell _, fun k hk => by cases hk⟩
  rw [hx']
  exact ⟨none, 0, (h.duo.set1 _).set0 _, hb, Rd.nil, rfl, fun k hk => by cases hk⟩
/-- One frame further. -/
theorem RIn.next {w w2 wr w7 : World} {g : Nat} {A2 : Option Addr} {l2 : List Int} {a : Nat} {A3 : Option Addr} {c3 : Nat} {l3 : List Int} {LA : Option Addr} {Lc : Nat} {L : List (List Int)} (h : RIn w w2 wr g A2 l2 a A3 c3 l3 LA Lc L) (hby : Byt l2) {s n q : Nat} (hst : st l3 = .load s n) (hq : a + s + n = q) {x : List Int} (hx : x = (l3.drop s).take n) {L' : List (List Int)} (hL : L' = L ++ [x]) {LA' : Option Addr} {Lc' : Nat}
    (hb7 : Below w2.heap.size wr w7) (hr7 : Rows w7 w2.heap.size none LA' Lc' L') {A8 : Option Addr} {n8 c8 : Nat} {l8 : List Int} (hl8 : l8 = l3.drop (s + n)) (hn8 : l8.length = n8) (hr8 : Rd .u8 w7 w2.heap.size A8 l8) (hc8 : l8.length ≤ c8) (hb8 : blk A8 = blk A3) :
    RIn w w2 (w7.setCell ⟨g, 0, none⟩ (.slice A8 n8 c8)) g A2 l2 q A8 c8 l8 LA' Lc' L' := by
  have e1 := h.from0.size
  have e2 := h.turn.size
  have e3 := h.g0
  have e4 : l8 = l2.drop q := by rw [hl8, h.rest, List.drop_drop, ← hq]; congr 1; omega
  subst hn8
  refine ⟨(h.duo.keep (hb7.block g (by omega))).set0 _, e4, rd_blk hr8 (fun k hk => Below.heap_setCell _ _ _ _ ?_), hc8, hb8.trans h.blk3, hr7.keep (fun k h1 _ _ => Below.heap_setCell _ _ _ _ (by simp only; omega)), ?_, h.from0, h.g0, h.typ, ?_⟩
  · have := (h.typ k (h.blk3 ▸ hb8 ▸ hk)).1
    simp only
    omega
  · refine Turn.setCell ⟨hb7.os.trans h.turn.os, hb7.tape.trans h.turn.tape, hb7.output.trans h.turn.output, Nat.le_trans h.turn.size hb7.size, fun k hk hg hr => ?_⟩ _
    exact (hb7.block k hk).trans (h.turn.block k hk hg hr)
  · exact parse_step hby (h.rest ▸ hst) hq (h.rest ▸ hx) h.par hL
end Go.Proofs.Ytcefkjeoknaijaa.Con
