/-
  Words for rows of loads: a slice of slices of bytes, all of the call's own; append onto such a row; what stays of it.
-/
import Derived.Test.YtcefkjeoknaijaaNum
import Derived.Test.YtcefkjeoknaijaaWri
import Derived.Test.YtcefkjeoknaijaaFrm
namespace Go.Proofs.Ytcefkjeoknaijaa.Con
open Go.RowKit Mth Mem

theorem row_info : (Try.prog.info? 23).map (fun i => (i.zero, i.size, i.bytes)) = some (some (.slice none 0 0), 1, 24) := by kernel_rfl

/-- A slice at A has the cells ys. -/
def RdV (w : World) (A : Option Addr) (ys : List Value) : Prop :=
  ys = [] ∨ ∃ b off, A = some ⟨b, off, none⟩ ∧ ∀ k u, ys[k]? = some u → w.cell? ⟨b, off + k, none⟩ = some u
theorem RdV.of_own {w : World} {base : Nat} {e : TypeId} {A : Option Addr} {n c : Nat} {xs : List Value} (h : w.ownsRow base e 1 (.slice A n c) n xs) : RdV w A xs := by
  rcases h.2 with ⟨hv, rfl⟩ | ⟨g, cap, cur, hv, _, hg, _⟩
  · left
    have := h.1
    simpa using this
  · injection hv with hA _ _
    subst hA
    refine .inr ⟨g, 0, rfl, fun k x hx => ?_⟩
    have := h.cells (g := g) rfl k _ hx
    rw [add_none] at this
    exact this
theorem rdv_new (w : World) (xs : List Value) (cs : Array Value) (t : TypeId) (h : cs.toList = xs) : RdV (w.alloc (.cells cs t)) (some ⟨w.heap.size, 0, none⟩) xs := by
  refine .inr ⟨w.heap.size, 0, rfl, fun k x hx => ?_⟩
  have hc := cell_of_row (w.alloc (.cells cs t)) w.heap.size (0 + k) cs t (0, 0) (heap_alloc_new w _)
  rw [hc, Nat.zero_add, ← Array.getElem?_toList, h]
  exact hx

theorem run_appV {t e : TypeId} {z : Value} {by' : Nat} (hu : Try.prog.underlying t = some (.slice e)) (hinf : (Try.prog.info? e).map (fun i => (i.zero, i.size, i.bytes)) = some (some z, 1, by')) (hz : z.cells.size = 1) (hby : by' ≤ 24)
    (w : World) (base : Nat) (ty : TypeId) (A0 : Option Addr) (n c0 : Nat) (xs ys : List Value) (A : Option Addr) (m c : Nat) (hm : ys.length = m) (hown : w.ownsRow base e 1 (.slice A0 n c0) n xs) (hr : RdV w A ys) (hone : ∀ u ∈ ys, u.oneCell' = true) (hlen : n + m ≤ 1000000) (hbase : base ≤ w.heap.size) :
    ∃ A' c' w', (Builtin.append_ #[t, t] ty #[.slice A0 n c0, .slice A m c]).run Try.prog w = .ok (.slice A' (n + m) c') w' ∧ w'.ownsRow base e 1 (.slice A' (n + m) c') (n + m) (xs ++ ys) ∧ Step w w' (blk A0) A' := by
  obtain ⟨i0, hi0, hz0, hz1, hz2⟩ := info_parts hinf
  rcases A with _ | ad
  · have hy : ys = [] := by
      rcases hr with h | ⟨b, off, h, _⟩
      · exact h
      · cases h
    subst hy
    obtain rfl : m = 0 := by simpa using hm.symm
    refine ⟨A0, c0, w, ?_, ?_, Step.refl _ _⟩
    · exact run_app_nil hu hinf w base ty _ _ c _ hown
    · rw [List.append_nil]; exact hown
  · have hcells : ∀ j u, ys[j]? = some u → w.cell? (ad.add j) = some u := by
      intro j u hu
      rcases hr with rfl | ⟨b, off, h, hc⟩
      · simp at hu
      · injection h with h
        subst h
        rw [add_none]; exact hc j u hu
    have hb2 : (n + m) * by' ≤ (n + m) * 24 := Nat.mul_le_mul_left _ hby
    obtain ⟨v', w', hrun, h2, h3, _, h5⟩ := run_append_own_at (P := Try.prog) w base t ty e i0 _ 1 by' hu hi0 hz0 hz1 hz2 hz (by omega) _ n xs hown ad m c ys (by omega) hcells hone (by unfold maxLen; omega) (by omega) hbase
    obtain ⟨A', c', rfl⟩ := own_shape h2
    refine ⟨A', c', w', hrun, h2, ⟨by rw [← blk_own A0 n c0]; exact h3, ?_⟩⟩
    rw [blk_own, blk_own] at h5
    rcases h5 with h5 | h5
    · exact .inl h5
    · exact .inr ⟨_, h5, Nat.le_refl _⟩

/-- The cells xs are slices of bytes, each of the call's own (from block lo on, none in block f), that read as L. -/
def LoadsAt (w : World) (lo : Nat) (f : Option Nat) (xs : List Value) (L : List (List Int)) : Prop :=
  xs.length = L.length ∧ ∀ (k : Nat) (x : List Int), L[k]? = some x → ∃ (A : Option Addr) (c : Nat), xs[k]? = some (Value.slice A x.length c) ∧ Own w lo .u8 5 A c x ∧ ∀ j, blk A = some j → some j ≠ f
/-- A row of loads, all of the call's own. -/
def Rows (w : World) (lo : Nat) (f : Option Nat) (A : Option Addr) (c : Nat) (L : List (List Int)) : Prop :=
  ∃ xs, w.ownsRow lo 23 1 (.slice A L.length c) L.length xs ∧ LoadsAt w lo f xs L ∧ ∀ j, blk A = some j → some j ≠ f

theorem LoadsAt.keep {w w' : World} {lo : Nat} {f : Option Nat} {xs : List Value} {L : List (List Int)} (h : LoadsAt w lo f xs L) (hk : ∀ k, lo ≤ k → k < w.heap.size → some k ≠ f → (∃ cur, w.heap[k]? = some (.cells cur 5 (0, 0))) → w'.heap[k]? = w.heap[k]?) : LoadsAt w' lo f xs L := by
  refine ⟨h.1, fun k x hx => ?_⟩
  obtain ⟨A, c, h1, h2, h3⟩ := h.2 k x hx
  refine ⟨A, c, h1, own_far h2 (fun j hj => ?_), h3⟩
  have hj' := (blk_own A x.length c).symm.trans hj
  have := h2.lt j hj'
  refine hk j this.1 this.2 (h3 j hj') ?_
  rcases h2.2 with ⟨hv, _⟩ | ⟨g, cap, cur, hv, _, hg, _⟩
  · rw [hv] at hj; simp [Value.ownBlock] at hj
  · rw [hv] at hj
    simp only [Value.ownBlock, Option.some.injEq] at hj
    subst hj
    exact ⟨cur, hg⟩
theorem Rows.keep {w w' : World} {lo : Nat} {f : Option Nat} {A : Option Addr} {c : Nat} {L : List (List Int)} (h : Rows w lo f A c L) (hk : ∀ k, lo ≤ k → k < w.heap.size → some k ≠ f → w'.heap[k]? = w.heap[k]?) : Rows w' lo f A c L := by
  obtain ⟨xs, h1, h2, h3⟩ := h
  refine ⟨xs, own_far h1 (fun j hj => ?_), h2.keep (fun k a b c _ => hk k a b c), h3⟩
  have hj' := (blk_own A L.length c).symm.trans hj
  have := h1.lt j hj
  exact hk j this.1 this.2 (h3 j hj')
theorem LoadsAt.other {w : World} {lo : Nat} {f f' : Option Nat} {xs : List Value} {L : List (List Int)} (h : LoadsAt w lo f xs L) (hf : ∀ k, lo ≤ k → k < w.heap.size → some k ≠ f → some k ≠ f') : LoadsAt w lo f' xs L := by
  refine ⟨h.1, fun k x hx => ?_⟩
  obtain ⟨A, c, h1, h2, h3⟩ := h.2 k x hx
  refine ⟨A, c, h1, h2, fun j hj => ?_⟩
  have := h2.lt j hj
  exact hf j this.1 this.2 (h3 j hj)
theorem Rows.other {w : World} {lo : Nat} {f f' : Option Nat} {A : Option Addr} {c : Nat} {L : List (List Int)} (h : Rows w lo f A c L) (hf : ∀ k, lo ≤ k → k < w.heap.size → some k ≠ f → some k ≠ f') : Rows w lo f' A c L := by
  obtain ⟨xs, h1, h2, h3⟩ := h
  refine ⟨xs, h1, h2.other hf, fun j hj => ?_⟩
  have := h1.lt j ((blk_own A L.length c).trans hj)
  exact hf j this.1 this.2 (h3 j hj)
theorem LoadsAt.more {w : World} {lo lo' : Nat} {f : Option Nat} {xs : List Value} {L : List (List Int)} (h : LoadsAt w lo f xs L) (hl : lo' ≤ lo) : LoadsAt w lo' f xs L := by
  refine ⟨h.1, fun k x hx => ?_⟩
  obtain ⟨A, c, h1, h2, h3⟩ := h.2 k x hx
  exact ⟨A, c, h1, own_base h2 hl, h3⟩
theorem Rows.more {w : World} {lo lo' : Nat} {f : Option Nat} {A : Option Addr} {c : Nat} {L : List (List Int)} (h : Rows w lo f A c L) (hl : lo' ≤ lo) : Rows w lo' f A c L := by
  obtain ⟨xs, h1, h2, h3⟩ := h
  exact ⟨xs, own_base h1 hl, h2.more hl, h3⟩
theorem Rows.nil (w : World) (lo : Nat) (f : Option Nat) : Rows w lo f none 0 [] := ⟨[], World.ownsRow_nil w lo 23 1, ⟨rfl, by simp⟩, by simp [blk]⟩
theorem Rows.below {w w' : World} {B lo : Nat} {f : Option Nat} {A : Option Addr} {c : Nat} {L : List (List Int)} (h : Rows w lo f A c L) (hb : Below B w w') (hB : w.heap.size ≤ B) : Rows w' lo f A c L := h.keep fun k _ hk _ => hb.block k (by omega)
theorem LoadsAt.below {w w' : World} {B lo : Nat} {f : Option Nat} {xs : List Value} {L : List (List Int)} (h : LoadsAt w lo f xs L) (hb : Below B w w') (hB : w.heap.size ≤ B) : LoadsAt w' lo f xs L := h.keep fun k _ hk _ _ => hb.block k (by omega)
theorem LoadsAt.one {w : World} {lo : Nat} {f : Option Nat} {A : Option Addr} {c : Nat} {x : List Int} (h : Own w lo .u8 5 A c x) (hf : ∀ j, blk A = some j → some j ≠ f) : LoadsAt w lo f [Value.slice A x.length c] [x] := by
  refine ⟨rfl, fun k y hy => ?_⟩
  have : k = 0 := by
    have := (List.getElem?_eq_some_iff.1 hy).1
    simp at this; exact this
  subst this
  simp only [List.getElem?_cons_zero, Option.some.injEq] at hy
  subst hy
  exact ⟨A, c, rfl, h, hf⟩
theorem LoadsAt.app {w : World} {lo : Nat} {f : Option Nat} {xs ys : List Value} {L M : List (List Int)} (h : LoadsAt w lo f xs L) (k : LoadsAt w lo f ys M) : LoadsAt w lo f (xs ++ ys) (L ++ M) := by
  refine ⟨by simp [h.1, k.1], fun j x hx => ?_⟩
  by_cases hj : j < L.length
  · rw [List.getElem?_append_left hj] at hx
    obtain ⟨A, c, h1, h2⟩ := h.2 j x hx
    exact ⟨A, c, by rw [List.getElem?_append_left (by rw [h.1]; exact hj)]; exact h1, h2⟩
  · rw [List.getElem?_append_right (by omega)] at hx
    obtain ⟨A, c, h1, h2⟩ := k.2 _ x hx
    exact ⟨A, c, by rw [List.getElem?_append_right (by rw [h.1]; omega), h.1]; exact h1, h2⟩
theorem LoadsAt.one_cell {w : World} {lo : Nat} {f : Option Nat} {xs : List Value} {L : List (List Int)} (h : LoadsAt w lo f xs L) : ∀ u ∈ xs, u.oneCell' = true := by
  intro u hu
  obtain ⟨k, hk, rfl⟩ := List.mem_iff_getElem.1 hu
  obtain ⟨A, c, h1, _⟩ := h.2 k (L[k]'(by rw [← h.1]; exact hk)) (List.getElem?_eq_getElem _)
  rw [List.getElem?_eq_getElem hk] at h1
  injection h1 with h1
  rw [h1]
  rfl

/-- append of loads onto a row of loads. -/
theorem run_appL (w : World) (base : Nat) (f : Option Nat) (ty : TypeId) (A0 : Option Addr) (c0 : Nat) (L M : List (List Int)) (ys : List Value) (A : Option Addr) (m c : Nat) (hm : M.length = m) (hown : Rows w base f A0 c0 L) (hr : RdV w A ys) (hy : LoadsAt w base f ys M) (hlen : L.length + M.length ≤ 1000000) (hbase : base ≤ w.heap.size) (hf : ∀ k, f = some k → k < w.heap.size) :
    ∃ A' c' w', (Builtin.append_ #[22, 22] ty #[.slice A0 L.length c0, .slice A m c]).run Try.prog w = .ok (.slice A' (L ++ M).length c') w' ∧ Rows w' base f A' c' (L ++ M) ∧ Step w w' (blk A0) A' := by
  obtain ⟨xs, h1, h2, h3⟩ := hown
  obtain ⟨A', c', w', k1, k2, k3⟩ := run_appV (t := 22) (e := 23) Try.underlying22 row_info rfl (by omega) w base ty A0 L.length c0 xs ys A m c (by rw [hy.1, hm]) h1 hr hy.one_cell (by omega) hbase
  have e : L.length + m = (L ++ M).length := by simp [hm]
  rw [e] at k1 k2
  refine ⟨A', c', w', k1, ⟨xs ++ ys, k2, (h2.app hy).keep (fun k a b d ⟨cur, hc⟩ => k3.grown.block k b (fun e => ?_)), fun j hj => ?_⟩, k3⟩
  · rcases h1.2 with ⟨hv, _⟩ | ⟨g, cap, cur', hv, _, hg, _⟩
    · injection hv with hv
      subst hv
      simp [blk] at e
    · injection hv with hv
      subst hv
      simp only [blk, Option.map_some, Option.some.injEq] at e
      subst e
      rw [hc] at hg
      injection hg with hg
      injection hg with _ hg
      cases hg
  · rcases k3.lies with e | ⟨i, e, hi⟩
    · exact h3 j (e.symm.trans hj)
    · rw [e] at hj
      injection hj with hj
      subst hj
      intro e2
      have := hf i e2.symm
      omega

theorem wpList_appL {w : World} {ops : Array Oper} {rest : List Oper} {o : Oper} {a : Act} {Q : Exit → Act → World → Prop} (hgd : o.guard = none) (s x : Operand)
    (ho : o.op = .call { callee := .builtin .append, args := #[s, x], argTypes := #[22, 22] })
    (base : Nat) (f : Option Nat) (A0 : Option Addr) (c0 : Nat) (L M : List (List Int)) (ys : List Value) (A : Option Addr) (m c : Nat) (hs : a.eval s = .slice A0 L.length c0) (hx : a.eval x = .slice A m c) (hm : M.length = m)
    (hown : Rows w base f A0 c0 L) (hr : RdV w A ys) (hy : LoadsAt w base f ys M) (hlen : (L.length : Int) + M.length ≤ 1000000) (hbase : base ≤ w.heap.size) (hf : ∀ k, f = some k → k < w.heap.size)
    (h : ∀ A' c' w' LM, Hid (LM = L ++ M) → Hid (Rows w' base f A' c' LM) → Hid (Step w w' (blk A0) A') → wpList Try.prog ops Q rest (a.put o.dst (.slice A' LM.length c')) w') :
    wpList Try.prog ops Q (o :: rest) a w := by
  refine wpList_plain hgd fun Kk hK => ?_
  obtain ⟨A', c', w', hrun, h2, h3⟩ := run_appL w base f o.type A0 c0 L M ys A m c hm hown hr hy (by omega) hbase hf
  unfold Oper.wp execOp
  simp only [ho, resolve, invoke, builtin, Sem.run_bind, Sem.run_pure, Result.andThen_ok, List.map_toArray, List.map_cons, List.map_nil, hs, hx, hrun]
  exact hK _ _ (h A' c' w' (L ++ M) rfl h2 h3)
end Go.Proofs.Ytcefkjeoknaijaa.Con
