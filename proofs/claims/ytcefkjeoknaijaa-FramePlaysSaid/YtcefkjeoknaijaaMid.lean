/-
  Two feeds, the loads that came out of the first, and the bytes that it was pushed, side by side: what a push and an append leave of them all.
-/
import Derived.Test.YtcefkjeoknaijaaGrd
namespace Go.Proofs.Ytcefkjeoknaijaa.Con
open Go.RowKit Mth Mem

/-- A row of loads stays where only block f1 has turned that none of it lies in; what else it avoids it avoids still. -/
theorem rows_two {w w' : World} {lo : Nat} {f1 f2 : Option Nat} {A : Option Addr} {c : Nat} {L : List (List Int)} (h1 : Rows w lo f1 A c L) (h2 : Rows w lo f2 A c L) (hk : ∀ k, lo ≤ k → k < w.heap.size → some k ≠ f1 → w'.heap[k]? = w.heap[k]?) : Rows w' lo f2 A c L := by
  obtain ⟨xs, k1, k2, k3⟩ := h1
  obtain ⟨xs', m1, m2, m3⟩ := h2
  have e : xs' = xs := by
    rcases k1.2 with ⟨hv, h0⟩ | ⟨g1, cap, cur, hv, _, hg1, _, _, _, ht1⟩
    · have a1 := k1.1
      have a2 := m1.1
      rw [h0] at a1 a2
      simp at a1 a2
      rw [a1, a2]
    · rcases m1.2 with ⟨hv', h0⟩ | ⟨g2, cap2, cur2, hv2, _, hg2, _, _, _, ht2⟩
      · have a1 := k1.1
        have a2 := m1.1
        rw [h0] at a1 a2
        simp at a1 a2
        rw [a1, a2]
      · rw [hv] at hv2
        injection hv2 with hv2
        injection hv2 with hv2
        injection hv2 with hv2
        subst hv2
        rw [hg1] at hg2
        injection hg2 with hg2
        injection hg2 with hg2
        subst hg2
        rw [← ht1, ← ht2]
  subst e
  refine ⟨xs', own_far k1 (fun j hj => ?_), ⟨k2.1, fun k x hx => ?_⟩, m3⟩
  · have hj' := (blk_own A L.length c).symm.trans hj
    have := k1.lt j hj
    exact hk j this.1 this.2 (k3 j hj')
  · obtain ⟨A1, c1, a1, a2, a3⟩ := k2.2 k x hx
    obtain ⟨B1, d1, b1, b2, b3⟩ := m2.2 k x hx
    rw [a1] at b1
    injection b1 with b1
    injection b1 with b1 _ b1'
    subst b1; subst b1'
    refine ⟨A1, c1, a1, own_far a2 (fun j hj => ?_), b3⟩
    have hj' := (blk_own A1 x.length c1).symm.trans hj
    have := a2.lt j hj'
    exact hk j this.1 this.2 (a3 j hj')

/-- append of loads, both of what the row avoids. -/
theorem run_appL2 (w : World) (base : Nat) (f f2 : Option Nat) (ty : TypeId) (A0 : Option Addr) (c0 : Nat) (L M : List (List Int)) (A : Option Addr) (c : Nat) (h1 : Rows w base f A0 c0 L) (h2 : Rows w base f2 A0 c0 L) (hr1 : Rows w base f A c M) (hr2 : Rows w base f2 A c M) (hlen : L.length + M.length ≤ 1000000) (hbase : base ≤ w.heap.size) (hf : ∀ k, f = some k → k < w.heap.size) (hf2 : ∀ k, f2 = some k → k < w.heap.size) :
    ∃ A' c' w', (Builtin.append_ #[22, 22] ty #[.slice A0 L.length c0, .slice A M.length c]).run Try.prog w = .ok (.slice A' (L ++ M).length c') w' ∧ Rows w' base f A' c' (L ++ M) ∧ Rows w' base f2 A' c' (L ++ M) ∧ Step w w' (blk A0) A' := by
  obtain ⟨ys, a1, a2⟩ := RdV.of_rows hr1
  obtain ⟨zs, b1, b2⟩ := RdV.of_rows hr2
  obtain ⟨A', c', w', k1, k2, k3⟩ := run_appL w base f ty A0 c0 L M ys A M.length c rfl h1 a1 a2 hlen hbase hf
  obtain ⟨A2, c2, w2, m1, m2, m3⟩ := run_appL w base f2 ty A0 c0 L M zs A M.length c rfl h2 b1 b2 hlen hbase hf2
  rw [k1] at m1
  injection m1 with m1 m1'
  injection m1 with m1 _ m1''
  subst m1; subst m1'; subst m1''
  exact ⟨A', c', w', k1, k2, m2, k3⟩
theorem wpList_app2 {w : World} {ops : Array Oper} {rest : List Oper} {o : Oper} {a : Act} {Q : Exit → Act → World → Prop} (hgd : o.guard = none) (s x : Operand)
    (ho : o.op = .call { callee := .builtin .append, args := #[s, x], argTypes := #[22, 22] })
    (base : Nat) (f f2 : Option Nat) (A0 : Option Addr) (c0 : Nat) (L M : List (List Int)) (A : Option Addr) (m c : Nat) (hs : a.eval s = .slice A0 L.length c0) (hx : a.eval x = .slice A m c) (hm : M.length = m)
    (h1 : Rows w base f A0 c0 L) (h2 : Rows w base f2 A0 c0 L) (hr1 : Rows w base f A c M) (hr2 : Rows w base f2 A c M) (hlen : (L.length : Int) + M.length ≤ 1000000) (hbase : base ≤ w.heap.size) (hf : ∀ k, f = some k → k < w.heap.size) (hf2 : ∀ k, f2 = some k → k < w.heap.size)
    (h : ∀ A' c' w' LM, Hid (LM = L ++ M) → Hid (Rows w' base f A' c' LM) → Hid (Rows w' base f2 A' c' LM) → Hid (Step w w' (blk A0) A') → wpList Try.prog ops Q rest (a.put o.dst (.slice A' LM.length c')) w') :
    wpList Try.prog ops Q (o :: rest) a w := by
  subst hm
  refine wpList_plain hgd fun Kk hK => ?_
  obtain ⟨A', c', w', hrun, k1, k2, k3⟩ := run_appL2 w base f f2 o.type A0 c0 L M A c h1 h2 hr1 hr2 (by omega) hbase hf hf2
  unfold Oper.wp execOp
  simp only [ho, resolve, invoke, builtin, Sem.run_bind, Sem.run_pure, Result.andThen_ok, List.map_toArray, List.map_cons, List.map_nil, hs, hx, hrun]
  exact hK _ _ (h A' c' w' (L ++ M) rfl k1 k2 k3)

/-- All side by side. -/
structure Mid (w0 w : World) (base lo gx gy : Nat) (rx : Option Nat) (lx : List Int) (d : Bool) (Ao : Option Addr) (co : Nat) (Lo : List (List Int)) (Aa : Option Addr) (ca : Nat) (la : List Int) : Prop where
  fx : Feed w base gx rx lx d
  fy : Feed w base gy none [] false
  r1 : Rows w lo rx Ao co Lo
  r2 : Rows w lo (blk Aa) Ao co Lo
  oa : Own w lo .u8 5 Aa ca la
  ne : ∀ j, blk Aa = some j → some j ≠ rx
  below : Below base w0 w
  lox : gx < lo
  loy : gy < lo
  gxy : gx ≠ gy
  hlo : lo ≤ w.heap.size
  hb : base ≤ lo

section
variable {w0 w w' : World} {base lo gx gy : Nat} {rx : Option Nat} {lx : List Int} {d : Bool} {Ao : Option Addr} {co : Nat} {Lo : List (List Int)} {Aa : Option Addr} {ca : Nat} {la : List Int}

theorem Mid.aLt (h : Mid w0 w base lo gx gy rx lx d Ao co Lo Aa ca la) : ∀ k, blk Aa = some k → lo ≤ k ∧ k < w.heap.size := fun k hk => Own.lt h.oa k hk
theorem Mid.oLt (h : Mid w0 w base lo gx gy rx lx d Ao co Lo Aa ca la) : ∀ k, blk Ao = some k → lo ≤ k ∧ k < w.heap.size := by
  obtain ⟨xs, h1, _, _⟩ := h.r1
  exact fun k hk => h1.lt k ((blk_own Ao Lo.length co).trans hk)

theorem Mid.push (h : Mid w0 w base lo gx gy rx lx d Ao co Lo Aa ca la) {rx' : Option Nat} {lx' : List Int} {d' : Bool} (hf : Feed w' base gx rx' lx' d') (ht : Turn w w' gx rx) (hr : rx' = rx ∨ ∀ k, rx' = some k → w.heap.size ≤ k) : Mid w0 w' base lo gx gy rx' lx' d' Ao co Lo Aa ca la := by
  have hx := h.fx.lt
  have hy := h.fy.lt
  refine ⟨hf, ?_, rows_kept h.r1 h.lox ht hr, ?_, own_kept h.oa (h.fx.ne_own h.oa) h.ne ht, fun j hj e => ?_, h.below.trans (ht.below_feed h.fx), h.lox, h.loy, h.gxy, Nat.le_trans h.hlo ht.size, h.hb⟩
  · refine h.fy.keep (ht.block gy hy.2.1 (fun e => h.gxy e.symm) (fun e => ?_)) (fun k hk => by cases hk)
    obtain ⟨A, c, hd, _, ho, hrr⟩ := h.fx
    obtain ⟨A2, c2, hd2, _⟩ := h.fy
    exact hd2.ne ho (by decide) (hrr.trans e.symm)
  · exact rows_two h.r1 h.r2 (fun k h1 h2 h3 => ht.block k h2 (by have := h.lox; omega) h3)
  · rcases hr with rfl | hr
    · exact h.ne j hj e
    · have := hr j e.symm
      have := h.aLt j hj
      omega

theorem Mid.out (h : Mid w0 w base lo gx gy rx lx d Ao co Lo Aa ca la) {A' : Option Addr} {c' : Nat} {L' : List (List Int)} (hs : Step w w' (blk Ao) A') (h1 : Rows w' lo rx A' c' L') (h2 : Rows w' lo (blk Aa) A' c' L') : Mid w0 w' base lo gx gy rx lx d A' c' L' Aa ca la := by
  refine ⟨feed_app h.fx h.r1 h.lox hs, ?_, h1, h2, ?_, h.ne, below_app h.below h.r1 h.hb hs (Nat.le_trans h.hb h.hlo), h.lox, h.loy, h.gxy, Nat.le_trans h.hlo hs.grown.size, h.hb⟩
  · have hy := h.fy.lt
    refine h.fy.keep (hs.grown.block gy hy.2.1 (fun e => ?_)) (fun k hk => by cases hk)
    have := (h.oLt gy e.symm).1
    have := h.loy
    omega
  · obtain ⟨xs, _, _, h3⟩ := h.r2
    refine own_far h.oa (fun k hk => hs.grown.block k (h.aLt k ((blk_own Aa la.length ca).symm.trans hk)).2 (fun e => ?_))
    exact h3 k e.symm ((blk_own Aa la.length ca).symm.trans hk).symm

theorem Mid.all (h : Mid w0 w base lo gx gy rx lx d Ao co Lo Aa ca la) {A' : Option Addr} {c' : Nat} {l' : List Int} (hs : Step w w' (blk Aa) A') (ho : Own w' lo .u8 5 A' c' l') : Mid w0 w' base lo gx gy rx lx d Ao co Lo A' c' l' := by
  have hx := h.fx.lt
  have hy := h.fy.lt
  have key : ∀ k, lo ≤ k → k < w.heap.size → some k ≠ blk Aa → w'.heap[k]? = w.heap[k]? := fun k _ h2 h3 => hs.grown.block k h2 h3
  refine ⟨?_, ?_, rows_two h.r2 h.r1 key, ?_, ho, fun j hj e => ?_, ?_, h.lox, h.loy, h.gxy, Nat.le_trans h.hlo hs.grown.size, h.hb⟩
  · refine h.fx.keep (hs.grown.block gx hx.2.1 (fun e => h.fx.ne_own h.oa e.symm)) (fun k hk => hs.grown.block k (hx.2.2 k hk).2 (fun e => h.ne k e.symm hk.symm))
  · exact h.fy.keep (hs.grown.block gy hy.2.1 (fun e => h.fy.ne_own h.oa e.symm)) (fun k hk => by cases hk)
  · refine rows_two h.r2 (h.r2.other (fun k h1 h2 h3 e => ?_)) key
    rcases hs.lies with e2 | ⟨j, e2, hj⟩
    · exact h3 (e.trans e2)
    · rw [e2] at e
      injection e with e
      omega
  · rcases hs.lies with e2 | ⟨i, e2, hi⟩
    · exact h.ne j (e2.symm.trans hj) e
    · rw [e2] at hj
      injection hj with hj
      have := (hx.2.2 j e.symm).2
      omega
  · exact below_step h.below hs (fun k hk => by have := (h.aLt k hk).1; have := h.hb; omega) (Nat.le_trans h.hb h.hlo)
theorem Mid.aAvoid (h : Mid w0 w base lo gx gy rx lx d Ao co Lo Aa ca la) {w'' : World} {f : Option Nat} {A : Option Addr} {c : Nat} {L : List (List Int)} (hr : Rows w'' w.heap.size f A c L) : Rows w'' lo f A c L ∧ Rows w'' lo (blk Aa) A c L := by
  refine ⟨hr.more h.hlo, (hr.other (fun k h1 _ _ e => ?_)).more h.hlo⟩
  have := (h.aLt k e.symm).2
  omega
end

/-- A feed's row is no feed. -/
theorem Feed.ne_feed {w : World} {base base' g g' : Nat} {r r' : Option Nat} {l l' : List Int} {d d' : Bool} (h : Feed w base g r l d) (h' : Feed w base' g' r' l' d') : r' ≠ some g := by
  obtain ⟨A, c, hd, _⟩ := h
  obtain ⟨A', c', _, _, ho, hr⟩ := h'
  rw [← hr]
  exact hd.ne ho (by decide)
theorem parts_next {la lx x z : List Int} {Lo L : List (List Int)} {y : Int} (hb : Byt (la ++ x)) (h1 : parse la = (Lo, lx, 0)) (h2 : parse (lx ++ x) = (L, z, y)) : parse (la ++ x) = (Lo ++ L, z, y) := by
  have := (parse_app x hb).2 (by rw [h1])
  rw [h1] at this
  simp only at this
  rw [h2] at this
  exact this
theorem parts_dead {la lx x : List Int} {Lo : List (List Int)} {e : Int} (hb : Byt (la ++ x)) (h1 : parse la = (Lo, lx, e)) (he : e ≠ 0) : parse (la ++ x) = (Lo, lx, e) := by
  have := (parse_app x hb).1 (by rw [h1]; exact he)
  rw [this, h1]
end Go.Proofs.Ytcefkjeoknaijaa.Con
