/-
  The library's slices.Insert of one Cool into a row of the call's own: at the end; in place; into a new row.
-/
import Derived.Test.YtmdnjkiciaidiaaPcd
import Derived.Lib.Overlaps
import Derived.Lib.AppendZerosOnto
import Derived.Laws.Externs
import Derived.Laws.NewBlocks
import Derived.Deep.RegionLawGrows
namespace Go.Proofs.Ytmdnjkiciaidiaa.Con
open Go.RowKit Go.Maps

/-! ### copy, of elements of any size -/
theorem run_copyE {α : Type} (E : El α) (w : World) (ty : TypeId) (b o dLen dCap : Nat) (a : Addr) (sLen sCap m : Nat) (cs : List Value) (hm : Nat.min sLen dLen = m) (hl : cs.length = m * E.k)
    (hsrc : ∀ j v, cs[j]? = some v → w.cell? (a.add j) = some v) (hc : ∀ j, j < cs.length → (w.cell? ⟨b, o + j, none⟩).isSome = true) (hf : ∀ j, j < cs.length → w.frozen? ⟨b, o + j, none⟩ = false) (h1 : ∀ v ∈ cs, v.oneCell' = true) :
    (Builtin.copy_ #[E.t, E.t] ty #[.slice (some ⟨b, o, none⟩) dLen dCap, .slice (some a) sLen sCap]).run Try.prog w = .ok (goInt m) (w.setCells b o cs) := by
  obtain ⟨i0, hi0, hz0, hz1, hz2⟩ := info_parts' E.info
  have hld := run_loadCells_list (P := Try.prog) w a cs hsrc
  have hst := run_storeCells_cells (P := Try.prog) b o cs 0 w (by simpa using hc) (by simpa using hf) h1
  rw [hl] at hld
  simp [Builtin.copy_, run_underlying E.und, Builtin.lenOf, Builtin.firstCells, sizeOf, typeInfo, hi0, hz1, hm, hld, hst]
/-- copy as an operation of a walk, where its run is known. -/
theorem wpList_copyE {ops : Array Oper} {rest : List Oper} {o : Oper} {a : Act} {Q : Exit → Act → World → Prop} {w w' : World} (hgd : o.guard = none) (d s : Operand) (t : TypeId)
    (ho : o.op = .call { callee := .builtin .copy, args := #[d, s], argTypes := #[t, t] }) (v u r : Value) (hd : a.eval d = v) (hs : a.eval s = u)
    (hr : (Builtin.copy_ #[t, t] o.type #[v, u]).run Try.prog w = .ok r w') (h : wpList Try.prog ops Q rest (a.put o.dst r) w') : wpList Try.prog ops Q (o :: rest) a w := by
  refine wpList_plain hgd fun K hK => ?_
  unfold Oper.wp execOp
  simp only [ho, resolve, invoke, builtin, Sem.run_bind, Sem.run_pure, Result.andThen_ok, List.map_toArray, List.map_cons, List.map_nil, hd, hs, hr]
  exact hK _ _ h
/-- append of a row that make would make, where its run is known. -/
theorem wpList_appE {ops : Array Oper} {rest : List Oper} {o : Oper} {a : Act} {Q : Exit → Act → World → Prop} {w w' : World} (hgd : o.guard = none) (d s : Operand) (t t' : TypeId)
    (ho : o.op = .call { callee := .builtin .append, args := #[d, s], argTypes := #[t, t'] }) (v u r : Value) (hd : a.eval d = v) (hs : a.eval s = u)
    (hr : (Builtin.append_ #[t, t'] o.type #[v, u]).run Try.prog w = .ok r w') (h : wpList Try.prog ops Q rest (a.put o.dst r) w') : wpList Try.prog ops Q (o :: rest) a w := by
  refine wpList_plain hgd fun K hK => ?_
  unfold Oper.wp execOp
  simp only [ho, resolve, invoke, builtin, Sem.run_bind, Sem.run_pure, Result.andThen_ok, List.map_toArray, List.map_cons, List.map_nil, hd, hs, hr]
  exact hK _ _ h
theorem step_copyE {w w' : World} {ops : Array Oper} {o : Oper} {a : Act} {K : Act → World → Prop} {Q : Exit → Act → World → Prop} {Ep : Prop} (hgd : o.guard = none) (d s : Operand) (t : TypeId)
    (ho : o.op = .call { callee := .builtin .copy, args := #[d, s], argTypes := #[t, t] }) (v u r : Value) (hd : a.eval d = v) (hs : a.eval s = u)
    (hr : (Builtin.copy_ #[t, t] o.type #[v, u]).run Try.prog w = .ok r w') (h : K (a.put o.dst r) w') : if Region.wanted o (yielded ops a.tmps) = true then Oper.wp Try.prog o a w K Q else Ep := by
  have hw : Region.wanted o (yielded ops a.tmps) = true := by simp [Region.wanted, hgd]
  rw [if_pos hw]
  unfold Oper.wp execOp
  simp only [ho, resolve, invoke, builtin, Sem.run_bind, Sem.run_pure, Result.andThen_ok, List.map_toArray, List.map_cons, List.map_nil, hd, hs, hr]
  exact h
theorem setCells_block {g : Nat} {t : TypeId} {fr : Nat × Nat} : ∀ (xs : List Value) (o : Nat) (w : World) (cur : Array Value), w.heap[g]? = some (.cells cur t fr) → o + xs.length ≤ cur.size →
    ∃ cur', (w.setCells g o xs).heap[g]? = some (.cells cur' t fr) ∧ cur'.size = cur.size ∧ ∀ j, cur'[j]? = if o ≤ j ∧ j < o + xs.length then xs[j - o]? else cur[j]?
  | [], o, w, cur, h, _ => ⟨cur, h, rfl, fun j => by rw [if_neg (by simp)]⟩
  | x :: r, o, w, cur, h, hl => by
    simp only [List.length_cons] at hl
    have h1 : (w.setCell ⟨g, o, none⟩ x).heap[g]? = some (.cells (cur.setIfInBounds o x) t fr) := by
      simp [World.setCell, Array.getElem?_modify, h]
    obtain ⟨cur', h2, h3, h4⟩ := setCells_block r (o + 1) (w.setCell ⟨g, o, none⟩ x) _ h1 (by simp; omega)
    refine ⟨cur', h2, by simpa using h3, fun j => ?_⟩
    rw [h4 j]
    simp only [List.length_cons]
    by_cases hj : j = o
    · subst hj
      rw [if_neg (by omega), if_pos (by omega), Array.getElem?_setIfInBounds_self_of_lt (by omega)]
      simp
    · by_cases hj2 : o ≤ j ∧ j < o + (r.length + 1)
      · rw [if_pos (by omega), if_pos hj2, show j - o = (j - (o + 1)) + 1 by omega]
        simp
      · rw [if_neg (by omega), if_neg hj2, Array.getElem?_setIfInBounds_ne (by omega)]
theorem heap_setCells_other (g : Nat) : ∀ (xs : List Value) (o : Nat) (w : World) (k : Nat), k ≠ g → (w.setCells g o xs).heap[k]? = w.heap[k]?
  | [], _, _, _, _ => rfl
  | x :: r, o, w, k, h => (heap_setCells_other g r (o + 1) (w.setCell ⟨g, o, none⟩ x) k h).trans (Below.heap_setCell _ _ _ _ h)
theorem rest_setCells (g : Nat) : ∀ (xs : List Value) (o : Nat) (w : World), (w.setCells g o xs).os = w.os ∧ (w.setCells g o xs).tape = w.tape ∧ (w.setCells g o xs).output = w.output
  | [], _, _ => ⟨rfl, rfl, rfl⟩
  | x :: r, o, w => rest_setCells g r (o + 1) (w.setCell ⟨g, o, none⟩ x)
/-- The cells behind an insertion. -/
theorem ins_flat {l : List Co} {x : Co} {i : Nat} {cs : List Value} (hi : i ≤ l.length) (h : ∀ j, j < (l.length + 1) * 2 → cs[j]? = if j < i * 2 then (flat co l)[j]? else if j < i * 2 + 2 then (encCo x)[j - i * 2]? else (flat co l)[j - 2]?) : cs.take ((l.length + 1) * 2) = flat co (l.take i ++ x :: l.drop i) := by
  have e1 : flat co (l.take i) = (flat co l).take (i * 2) := (flat_take co l i).symm
  have hlen : (flat co l).length = l.length * 2 := flat_len co l
  have e2 : flat co (l.drop i) = (flat co l).drop (i * 2) := by
    have h0 : flat co l = flat co (l.take i) ++ flat co (l.drop i) := by rw [← flat_app, List.take_append_drop]
    have h3 : (flat co (l.take i)).length = i * 2 := by
      have h4 : (flat co (l.take i)).length = (l.take i).length * 2 := flat_len co (l.take i)
      rw [List.length_take] at h4; omega
    conv => rhs; rw [h0, List.drop_append, h3, Nat.sub_self, List.drop_of_length_le (by omega)]
    simp
  rw [flat_app, flat_cons, e1, e2]
  apply List.ext_getElem?
  intro j
  have hx2 : (encCo x).length = 2 := rfl
  have hx3 : (co.enc x) = encCo x := rfl
  rw [hx3]
  by_cases hj : j < (l.length + 1) * 2
  · rw [List.getElem?_take, if_pos hj, h j hj]
    by_cases h1 : j < i * 2
    · rw [if_pos h1, List.getElem?_append_left (by rw [List.length_take, hlen]; omega), List.getElem?_take, if_pos h1]
    · rw [if_neg h1, List.getElem?_append_right (by rw [List.length_take, hlen]; omega), List.length_take, hlen, show min (i * 2) (l.length * 2) = i * 2 by omega]
      by_cases h2 : j < i * 2 + 2
      · rw [if_pos h2, List.getElem?_append_left (by rw [hx2]; omega)]
      · rw [if_neg h2, List.getElem?_append_right (by rw [hx2]; omega), hx2, List.getElem?_drop, show i * 2 + (j - i * 2 - 2) = j - 2 by omega]
  · rw [List.getElem?_eq_none (by rw [List.length_take]; omega), List.getElem?_eq_none (by simp [hlen, hx2]; omega)]

/-- What an insertion leaves. -/
def InO (w : World) (base : Nat) (v : Value) (L : List Co) (e : Ending) (w' : World) : Prop := ∃ A c M, e = .returned (.slice A (List.length M) c) ∧ Hid (M = L) ∧ Hid (OW co w' base (.slice A M.length c) M) ∧ Hid (w.grownBy w' v.ownBlock) ∧ Hid ((Value.slice A M.length c).ownBlock = v.ownBlock ∨ (Value.slice A M.length c).ownBlock = some w.heap.size)
theorem inO_cap {w w' : World} {base n c n' c' : Nat} {A : Option Addr} {L : List Co} {e : Ending} (h : InO w base (.slice A n c) L e w') : InO w base (.slice A n' c') L e w' := by
  cases A <;> exact h

set_option maxRecDepth 20000 in
set_option maxHeartbeats 4000000 in
theorem insert_end {w : World} {base n c p : Nat} {A : Option Addr} {l : List Co} (x : Co) (hn : l.length = n) (hl : (n : Int) ≤ 1000) (hO : OW co w base (.slice A n c) l) (hbase : base ≤ w.heap.size) (hx : w.heap[p]? = some (oCo x)) :
    Calls Try.prog 43 #[.slice A n c, .int .i64 n, .slice (some ⟨p, 0, none⟩) 1 1] w (InO w base (.slice A n c) (l ++ [x])) := by
  have HO := Lib.hid hO
  have HLb : Hid (l.length + [x].length ≤ 1000000) := Lib.hid (by simp; omega)
  have hnc : n ≤ c := by rw [← hn]; exact hO.cap
  have HRW : Hid (RW co w (p + 1) (some ⟨p, 0, none⟩) [x]) := Lib.hid (.inr ⟨p, 0, rfl, Nat.lt_succ_self _, fun i y hy j v hv => by
    cases i with
    | zero => simp at hy; subst hy; show w.cell? ⟨p, 0 + 0 * 2 + j, none⟩ = some v; rw [show 0 + 0 * 2 + j = j by omega, cell_of_row w p j _ _ (0, 0) hx, ← Array.getElem?_toList]; exact hv
    | succ i => simp at hy⟩)
  have HB := Lib.hid hbase
  clear hO hbase hx
  go_enter Try.func43, Try.ntmps43
  go_wp2_with (at_builtin; refine wpList_app co rfl 22 rfl (.tmp 23) (.tmp 24) rfl base (p + 1) (.slice A n c) l [x] (some ⟨p, 0, none⟩) 1 1 rfl rfl rfl HO.out HRW.out HLb.out HB.out ?_; intro A3 c3 w3 lm HLM HO3 HS3 HB3)
  all_goals (go_ret; refine inO_cap (n := n) (c := c) ?_; exact ⟨A3, c3, lm, rfl, HLM, HO3, HS3, HB3⟩)

theorem overlaps_no {w : World} {p g la ca lb cb o : Nat} {x : Co} {cur : Array Value} (hne : p ≠ g) (hx : w.heap[p]? = some (oCo x)) (hg : w.heap[g]? = some (.cells cur 35 (0, 0))) (hs : cur.size ≠ 0) :
    (callFunc 46 #[.slice (some ⟨p, 0, none⟩) la ca, .slice (some ⟨g, o, none⟩) lb cb]).run Try.prog w = .ok (.value (.bool false)) w := by
  rw [run_callFunc_extern Try.func46 (by kernel_rfl) (by kernel_rfl) (by kernel_rfl) (e := Extern.SlicesOverlaps.overlaps #[22, 22] #[4]) (by kernel_rfl),
    Lib.run_overlaps_apart w 22 4 35 Try.underlying22 2 Try.sizeOf35 ⟨p, 0, none⟩ ⟨g, o, none⟩ la ca lb cb hne 35 35 2 cur.size (by simp [World.shape?, hx]) (by simp [World.shape?, hg]) hs (by simp [World.frozen?, hx]) (by simp [World.frozen?, hx])]
  rfl

set_option maxRecDepth 200000 in
set_option maxHeartbeats 4000000 in
theorem ins_core {w W1 W2 : World} {n c p g i off : Nat} (hi : i < n) (hl : (n : Int) ≤ 1000) (hc : n + 1 ≤ c) (hb4 : ¬ (c = i)) (hb5 : ¬ (c = i + 1)) (hin : i ≤ n) (hc63 : c ≤ 9223372036854775807)
    (hov : ∀ lb cb, (callFunc 46 #[.slice (some ⟨p, 0, none⟩) 1 1, .slice (some ⟨g, off + (i + 1) * 2, none⟩) lb cb]).run Try.prog w = .ok (.value (.bool false)) w)
    (hc1 : ∀ ty, (Builtin.copy_ #[22, 22] ty #[.slice (some ⟨g, off + (i + 1) * 2, none⟩) (n - i) (c - (i + 1)), .slice (some ⟨g, off + i * 2, none⟩) (n + 1 - i) (c - i)]).run Try.prog w.drew = .ok (goInt ((n - i : Nat) : Int)) W1)
    (hc2 : ∀ ty, (Builtin.copy_ #[22, 22] ty #[.slice (some ⟨g, off + i * 2, none⟩) (n + 1 - i) (c - i), .slice (some ⟨p, 0, none⟩) 1 1]).run Try.prog W1 = .ok (goInt 1) W2) :
    Calls Try.prog 43 #[.slice (some ⟨g, off, none⟩) n c, .int .i64 i, .slice (some ⟨p, 0, none⟩) 1 1] w fun e w' => e = .returned (.slice (some ⟨g, off, none⟩) (n + 1) c) ∧ w' = W2 := by
  have H1 := Lib.hid hc1; have H2 := Lib.hid hc2
  clear hc1 hc2
  go_enter Try.func43, Try.ntmps43
  go_wp2_with (simp only [hov])
  have hz2 : ¬ ((i : Int) = (n : Int)) := by omega
  have hw1 : IntKind.i64.wrap ((i : Int) + 1) = (i : Int) + 1 := IntWalk.i64_in _ (by omega)
  have hi0 : (0 : Int) ≤ (i : Int) + 1 := by omega
  have htn : ((i : Int) + 1).toNat = i + 1 := by omega
  have hi1n : (i : Int) + 1 ≤ (n : Int) + 1 := by omega
  have hin1 : (i : Int) ≤ (n : Int) + 1 := by omega
  have hnc1 : n + 1 - (i + 1) = n - i := by omega
  go_region_law (refine step_copyE rfl _ _ 22 rfl (.slice (some ⟨g, off + (i + 1) * 2, none⟩) (n - i) (c - (i + 1))) (.slice (some ⟨g, off + i * 2, none⟩) (n + 1 - i) (c - i)) _ (by simp [Act.eval, Act.put]) (by simp [Act.eval, Act.put]) (H1.out _) ?_)

  have h2 := H2.out 3
  go_wp2

  go_ret
  exact ⟨rfl, rfl⟩

set_option maxRecDepth 200000 in
set_option maxHeartbeats 4000000 in
theorem ins_grow {w W0 W1 W2 : World} {n c p g i off N off2 G : Nat} (hi : i < n) (hl : (n : Int) ≤ 1000) (hcn : n ≤ c) (hc : c < n + 1) (hb4 : ¬ (c = i)) (hin : i ≤ n) (hg4 : ¬ (G = i)) (hg5 : ¬ (G = i + 1))
    (hap : ∀ ty, (Builtin.append_ #[22, 3] ty #[.slice (some ⟨g, off, none⟩) i c, .int .i64 ((n : Int) + 1 - (i : Int))]).run Try.prog w = .ok (.slice (some ⟨N, off2, none⟩) (n + 1) G) W0)
    (hc1 : ∀ ty, (Builtin.copy_ #[22, 22] ty #[.slice (some ⟨N, off2 + i * 2, none⟩) (n + 1 - i) (G - i), .slice (some ⟨p, 0, none⟩) 1 1]).run Try.prog W0 = .ok (goInt 1) W1)
    (hc2 : ∀ ty, (Builtin.copy_ #[22, 22] ty #[.slice (some ⟨N, off2 + (i + 1) * 2, none⟩) (n - i) (G - (i + 1)), .slice (some ⟨g, off + i * 2, none⟩) (n - i) (c - i)]).run Try.prog W1.drew = .ok (goInt ((n - i : Nat) : Int)) W2) :
    Calls Try.prog 43 #[.slice (some ⟨g, off, none⟩) n c, .int .i64 i, .slice (some ⟨p, 0, none⟩) 1 1] w fun e w' => e = .returned (.slice (some ⟨N, off2, none⟩) (n + 1) G) ∧ w' = W2 := by
  have H2 := Lib.hid hc2
  have hz2 : ¬ ((i : Int) = (n : Int)) := by omega
  have hcc : (c : Int) < (n : Int) + 1 := by omega
  have hic : i ≤ c := by omega
  have hc1' := hc1 3
  have HAP := Lib.hid hap
  clear hc2 hap hc1
  go_enter Try.func43, Try.ntmps43
  go_wp2_with (at_builtin; refine wpList_appE rfl (.tmp 34) (.tmp 39) 22 3 rfl (.slice (some ⟨g, off, none⟩) i c) (.int .i64 ((n : Int) + 1 - (i : Int))) _ rfl rfl (HAP.out _) ?_)
  have hw1 : IntKind.i64.wrap ((i : Int) + 1) = (i : Int) + 1 := IntWalk.i64_in _ (by omega)
  have hi0 : (0 : Int) ≤ (i : Int) + 1 := by omega
  have htn : ((i : Int) + 1).toNat = i + 1 := by omega
  have hi1n : (i : Int) + 1 ≤ (n : Int) + 1 := by omega
  have hnc1 : n + 1 - (i + 1) = n - i := by omega
  go_region_law (refine step_copyE rfl _ _ 22 rfl (.slice (some ⟨N, off2 + (i + 1) * 2, none⟩) (n - i) (G - (i + 1))) (.slice (some ⟨g, off + i * 2, none⟩) (n - i) (c - i)) _ (by simp [Act.eval, Act.put]) (by simp [Act.eval, Act.put]) (H2.out _) ?_)
  go_wp2
  go_ret
  exact ⟨rfl, rfl⟩

theorem cells_of {w : World} {g : Nat} {cur : Array Value} {e : TypeId} {l : List Co} (hg : w.heap[g]? = some (.cells cur e (0, 0))) (hxs : cur.toList.take (l.length * 2) = flat co l) : ∀ k v, (flat co l)[k]? = some v → w.cell? ⟨g, k, none⟩ = some v := by
  intro k v hv
  rw [cell_of_row w g k _ _ (0, 0) hg, ← Array.getElem?_toList]
  rw [← hxs, List.getElem?_take] at hv
  split at hv
  · exact hv
  · cases hv
theorem flat_drop {l : List Co} {i : Nat} (hi : i ≤ l.length) (j : Nat) : (flat co (l.drop i))[j]? = (flat co l)[i * 2 + j]? := by
  have h0 : flat co l = flat co (l.take i) ++ flat co (l.drop i) := by rw [← flat_app, List.take_append_drop]
  have h3 : (flat co (l.take i)).length = i * 2 := by
    have h4 : (flat co (l.take i)).length = (l.take i).length * 2 := flat_len co (l.take i)
    rw [List.length_take] at h4; omega
  rw [h0, List.getElem?_append_right (by omega), h3]
  congr 1; omega
theorem flen (l : List Co) : (flat co l).length = l.length * 2 := flat_len co l
theorem box_cells {w : World} {p : Nat} {x : Co} (hx : w.heap[p]? = some (oCo x)) : ∀ j v, (encCo x)[j]? = some v → w.cell? ⟨p, j, none⟩ = some v := by
  intro j v hv
  rw [cell_of_row w p j _ _ (0, 0) hx, ← Array.getElem?_toList]; exact hv

theorem insert_in {w : World} {base n c p g i : Nat} {l : List Co} (x : Co) (hn : l.length = n) (hi : i < n) (hl : (n : Int) ≤ 1000) (hO : OW co w base (.slice (some ⟨g, 0, none⟩) n c) l) (hx : w.heap[p]? = some (oCo x)) (hne : p ≠ g) (hc : n + 1 ≤ c) :
    Calls Try.prog 43 #[.slice (some ⟨g, 0, none⟩) n c, .int .i64 i, .slice (some ⟨p, 0, none⟩) 1 1] w (InO w base (.slice (some ⟨g, 0, none⟩) n c) (l.take i ++ x :: l.drop i)) := by
  subst hn
  obtain ⟨A', c', hv, _, h2⟩ := hO.shape
  injection hv with e1 e2 e3
  subst e1; subst e3
  rcases h2 with ⟨h, _⟩ | ⟨g', cur, hA, hb, hlt, _, hg, hs, hm, hxs⟩
  · cases h
  injection hA with hA; injection hA with hA _
  subst hA
  have hs2 : cur.size = c * 2 := hs
  have hxs2 : cur.toList.take (l.length * 2) = flat co l := hxs
  have hgd : w.drew.heap[g]? = some (.cells cur 35 (0, 0)) := hg
  have hdl : (flat co (l.drop i)).length = (l.length - i) * 2 := by rw [flen, List.length_drop]
  obtain ⟨cur1, k1, k2, k3⟩ := setCells_block (flat co (l.drop i)) ((i + 1) * 2) w.drew cur hgd (by rw [hdl, hs2]; omega)
  obtain ⟨cur2, m1, m2, m3⟩ := setCells_block (encCo x) (i * 2) (w.drew.setCells g ((i + 1) * 2) (flat co (l.drop i))) cur1 k1 (by rw [k2, hs2]; show _ + 2 ≤ _; omega)
  have hcell1 : ∀ o, (w.drew.setCells g ((i + 1) * 2) (flat co (l.drop i))).cell? ⟨g, o, none⟩ = cur1[o]? := fun o => cell_of_row _ g o _ _ (0, 0) k1
  refine (ins_core (W1 := w.drew.setCells g ((i + 1) * 2) (flat co (l.drop i))) (W2 := (w.drew.setCells g ((i + 1) * 2) (flat co (l.drop i))).setCells g (i * 2) (encCo x)) (off := 0) hi hl hc (by omega) (by omega) (by omega) (by unfold maxLen at hm; omega)
    (fun lb cb => overlaps_no hne hx hg (by omega)) (fun ty => ?_) (fun ty => ?_)).mono fun e w' h => ?_
  · rw [Nat.zero_add, Nat.zero_add]
    refine run_copyE co w.drew ty g ((i + 1) * 2) (l.length - i) (c - (i + 1)) ⟨g, i * 2, none⟩ (l.length + 1 - i) (c - i) (l.length - i) (flat co (l.drop i)) (Nat.min_eq_right (by omega)) hdl (fun j v hj => ?_) (fun j hj => ?_) (fun j _ => by simp [World.frozen?, hgd]) (flat_one co _)
    · rw [add_at]
      rw [flat_drop (by omega)] at hj
      exact cells_of hgd hxs2 _ _ hj
    · rw [hdl] at hj
      rw [cell_of_row w.drew g _ _ _ (0, 0) hgd, Array.getElem?_eq_getElem (by omega)]; rfl
  · rw [Nat.zero_add]
    refine run_copyE co _ ty g (i * 2) (l.length + 1 - i) (c - i) ⟨p, 0, none⟩ 1 1 1 (encCo x) (Nat.min_eq_left (by omega)) rfl (fun j v hj => ?_) (fun j hj => ?_) (fun j _ => by simp [World.frozen?, k1]) (co.one x)
    · rw [add_at, Nat.zero_add]
      exact box_cells ((heap_setCells_other g _ _ w.drew _ hne).trans hx) j v hj
    · have hj2 : j < 2 := hj
      rw [hcell1, Array.getElem?_eq_getElem (by omega)]; rfl
  · obtain ⟨rfl, rfl⟩ := h
    have hL : (l.take i ++ x :: l.drop i).length = l.length + 1 := by simp; omega
    refine ⟨some ⟨g, 0, none⟩, c, _, ret_sl hL.symm, Lib.hid rfl, Lib.hid ⟨flat_len co _, .inr ⟨g, c, cur2, rfl, hb, m1, by rw [hL]; exact hc, hm, by rw [m2, k2, hs2]; rfl, ?_⟩⟩, Lib.hid ⟨?_, ?_, ?_, by simp [size_setCells], fun k hk hk2 => ?_⟩, Lib.hid (.inl rfl)⟩
    · rw [hL]
      refine ins_flat (by omega) fun j hj => ?_
      rw [Array.getElem?_toList, m3 j]
      have hx2 : (encCo x).length = 2 := rfl
      rw [hx2]
      by_cases h1 : j < i * 2
      · rw [if_neg (by omega), k3 j, if_neg (by omega), if_pos h1, ← hxs2, List.getElem?_take, if_pos (by omega), Array.getElem?_toList]
      · by_cases h2 : j < i * 2 + 2
        · rw [if_pos (by omega), if_neg h1, if_pos h2]
        · rw [if_neg (by omega), k3 j, if_neg h1, if_neg h2, hdl, if_pos (by omega), flat_drop (by omega)]
          congr 1; omega
    · rw [(rest_setCells g _ _ _).1, (rest_setCells g _ _ _).1]; rfl
    · rw [(rest_setCells g _ _ _).2.1, (rest_setCells g _ _ _).2.1]; rfl
    · rw [(rest_setCells g _ _ _).2.2, (rest_setCells g _ _ _).2.2]; rfl
    · have hkg : k ≠ g := fun e => hk2 (by rw [e]; rfl)
      rw [heap_setCells_other g _ _ _ _ hkg, heap_setCells_other g _ _ _ _ hkg]; rfl

theorem insert_gr {w : World} {base n c p g i : Nat} {l : List Co} (x : Co) (hn : l.length = n) (hi : i < n) (hl : (n : Int) ≤ 1000) (hO : OW co w base (.slice (some ⟨g, 0, none⟩) n c) l) (hx : w.heap[p]? = some (oCo x)) (hc : c < n + 1) (hbase : base ≤ w.heap.size) :
    Calls Try.prog 43 #[.slice (some ⟨g, 0, none⟩) n c, .int .i64 i, .slice (some ⟨p, 0, none⟩) 1 1] w (InO w base (.slice (some ⟨g, 0, none⟩) n c) (l.take i ++ x :: l.drop i)) := by
  subst hn
  obtain ⟨A', c', hv, _, h2⟩ := hO.shape
  injection hv with e1 e2 e3
  subst e1; subst e3
  rcases h2 with ⟨h, _⟩ | ⟨g', cur, hA, hb, hlt, hlc, hg, hs, hm, hxs⟩
  · cases h
  injection hA with hA; injection hA with hA _
  subst hA
  have hxs2 : cur.toList.take (l.length * 2) = flat co l := hxs
  have hgd : w.drew.heap[g]? = some (.cells cur 35 (0, 0)) := hg
  have hdl : (flat co (l.drop i)).length = (l.length - i) * 2 := by rw [flen, List.length_drop]
  have htl : (flat co (l.take i)).length = i * 2 := by rw [flen, List.length_take]; omega
  have htk : ∀ j, j < i * 2 → (flat co (l.take i))[j]? = (flat co l)[j]? := fun j hj => by
    have := flat_take co l i
    have e : co.k = 2 := rfl
    rw [e] at this
    rw [← this, List.getElem?_take, if_pos hj]
  obtain ⟨i0, hi0, hz0, hz1, hz2⟩ := info_parts' co.info
  have hz1' : i0.size = 2 := hz1
  have hz2' : i0.bytes = 32 := hz2
  have hpl : p < w.heap.size := (Array.getElem?_eq_some_iff.1 hx).1
  obtain ⟨G, hG⟩ : ∃ G, G = grownCap w (l.length + 1) c 35 := ⟨_, rfl⟩
  have hG1 : l.length + 1 ≤ G := by rw [hG]; exact grownCap_ge w _ _ _
  have hG2 : G ≤ maxLen := by rw [hG]; exact grownCap_le_maxLen w _ _ _ (by unfold maxLen; omega)
  obtain ⟨ROW, hROW⟩ : ∃ ROW : Array Value, ROW = (flat co (l.take i)).toArray ++ Builtin.zeroCells co.z.cells (l.length + 1 - i) ++ Builtin.zeroCells co.z.cells (G - (l.length + 1)) := ⟨_, rfl⟩
  have hzc : co.z.cells.size = 2 := rfl
  have hRs : ROW.size = G * 2 := by
    rw [hROW]; simp only [Array.size_append, List.size_toArray, size_zeroCells, hzc, htl]; omega
  have hRt : ∀ j, j < i * 2 → ROW[j]? = (flat co l)[j]? := fun j hj => by
    rw [hROW, Array.append_assoc, Array.getElem?_append_left (by simp [htl]; exact hj), List.getElem?_toArray, htk j hj]
  have hap : ∀ ty, (Builtin.append_ #[22, 3] ty #[.slice (some ⟨g, 0, none⟩) i c, .int .i64 ((l.length : Int) + 1 - (i : Int))]).run Try.prog w = .ok (.slice (some ⟨w.heap.size, 0, none⟩) (l.length + 1) G) (w.drew.alloc (.cells ROW 35)) := fun ty => by
    have hold : (Builtin.firstCells i0.size i (.slice (some ⟨g, 0, none⟩) i c)).run Try.prog w.drew = .ok (flat co (l.take i)).toArray w.drew := by
      rw [hz1']
      refine run_firstCells_some (w := w.drew) 2 i ⟨g, 0, none⟩ i c (flat co (l.take i)) htl fun j v hj => ?_
      have hj2 : j < i * 2 := by rw [← htl]; exact (List.getElem?_eq_some_iff.1 hj).1
      rw [htk j hj2] at hj
      rw [add_at, Nat.zero_add]
      exact cells_of hgd hxs2 _ _ hj
    have h := Lib.run_append_grow_zeros w 22 3 ty 35 i0 co.z .i64 .i64 Try.underlying22 Try.underlying3 hi0 hz0 (some ⟨g, 0, none⟩) i c (flat co (l.take i)) hold (l.length + 1 - i) (by omega) (by omega) (by omega) (by omega) (by rw [hz2']; omega) (by rw [hz2']; exact growslice_fits (by omega) (by omega))
    rw [show i + (l.length + 1 - i) = l.length + 1 by omega, ← hG, ← hROW, show (((l.length + 1 - i : Nat) : Int)) = (l.length : Int) + 1 - (i : Int) by omega] at h
    exact h
  obtain ⟨W0, hW0⟩ : ∃ W0, W0 = w.drew.alloc (.cells ROW 35) := ⟨_, rfl⟩
  have hN : W0.heap[w.heap.size]? = some (.cells ROW 35 (0, 0)) := by rw [hW0]; exact heap_alloc_new w.drew _
  have hsz0 : W0.heap.size = w.heap.size + 1 := by rw [hW0]; show (w.alloc (.cells ROW 35)).heap.size = _; simp
  have hold0 : ∀ k, k < w.heap.size → W0.heap[k]? = w.heap[k]? := fun k hk => by rw [hW0]; exact Below.heap_alloc w.drew _ k hk
  rw [← hW0] at hap
  obtain ⟨cur1, k1, k2, k3⟩ := setCells_block (encCo x) (i * 2) W0 ROW hN (by rw [hRs]; show _ + 2 ≤ _; omega)
  obtain ⟨W1, hW1⟩ : ∃ W1, W1 = W0.setCells w.heap.size (i * 2) (encCo x) := ⟨_, rfl⟩
  have k1d : W1.drew.heap[w.heap.size]? = some (.cells cur1 35 (0, 0)) := by rw [hW1]; exact k1
  obtain ⟨cur2, m1, m2, m3⟩ := setCells_block (flat co (l.drop i)) ((i + 1) * 2) W1.drew cur1 k1d (by rw [hdl, k2, hRs]; omega)
  have hold1 : ∀ k, k < w.heap.size → W1.drew.heap[k]? = w.heap[k]? := fun k hk => by
    have h9 : k ≠ w.heap.size := by omega
    have : W1.heap[k]? = w.heap[k]? := by rw [hW1, heap_setCells_other _ _ _ _ _ h9]; exact hold0 k hk
    exact this
  have hglt : g < w.heap.size := hlt
  refine (ins_grow (W0 := W0) (W1 := W1) (W2 := W1.drew.setCells w.heap.size ((i + 1) * 2) (flat co (l.drop i))) (off := 0) (off2 := 0) (N := w.heap.size) (G := G) hi hl hlc hc (by omega) (by omega) (by omega) (by omega) hap (fun ty => ?_) (fun ty => ?_)).mono fun e w' h => ?_
  · rw [Nat.zero_add, hW1]
    refine run_copyE co W0 ty w.heap.size (i * 2) (l.length + 1 - i) (G - i) ⟨p, 0, none⟩ 1 1 1 (encCo x) (Nat.min_eq_left (by omega)) rfl (fun j v hj => ?_) (fun j hj => ?_) (fun j _ => by simp [World.frozen?, hN]) (co.one x)
    · rw [add_at, Nat.zero_add]
      exact box_cells ((hold0 p hpl).trans hx) j v hj
    · have hj2 : j < 2 := hj
      rw [cell_of_row W0 w.heap.size _ _ _ (0, 0) hN, Array.getElem?_eq_getElem (by omega)]; rfl
  · rw [Nat.zero_add, Nat.zero_add]
    refine run_copyE co W1.drew ty w.heap.size ((i + 1) * 2) (l.length - i) (G - (i + 1)) ⟨g, i * 2, none⟩ (l.length - i) (c - i) (l.length - i) (flat co (l.drop i)) (Nat.min_self _) hdl (fun j v hj => ?_) (fun j hj => ?_) (fun j _ => by simp [World.frozen?, k1d]) (flat_one co _)
    · rw [add_at]
      rw [flat_drop (by omega)] at hj
      exact cells_of ((hold1 g hglt).trans hg) hxs2 _ _ hj
    · rw [hdl] at hj
      rw [cell_of_row W1.drew w.heap.size _ _ _ (0, 0) k1d, Array.getElem?_eq_getElem (by omega)]; rfl
  · obtain ⟨rfl, rfl⟩ := h
    have hL : (l.take i ++ x :: l.drop i).length = l.length + 1 := by simp; omega
    refine ⟨some ⟨w.heap.size, 0, none⟩, G, _, ret_sl hL.symm, Lib.hid rfl, Lib.hid ⟨flat_len co _, .inr ⟨w.heap.size, G, cur2, rfl, hbase, m1, by rw [hL]; exact hG1, hG2, by rw [m2, k2, hRs]; rfl, ?_⟩⟩, Lib.hid ⟨?_, ?_, ?_, ?_, fun k hk hk2 => ?_⟩, Lib.hid (.inr rfl)⟩
    · rw [hL]
      refine ins_flat (by omega) fun j hj => ?_
      rw [Array.getElem?_toList, m3 j, hdl]
      have hx2 : (encCo x).length = 2 := rfl
      by_cases h1 : j < i * 2
      · rw [if_neg (by omega), k3 j, hx2, if_neg (by omega), if_pos h1, hRt j h1]
      · by_cases h2 : j < i * 2 + 2
        · rw [if_neg (by omega), k3 j, hx2, if_pos (by omega), if_neg h1, if_pos h2]
        · rw [if_pos (by omega), if_neg h1, if_neg h2, flat_drop (by omega)]
          congr 1; omega
    · rw [(rest_setCells _ _ _ _).1, hW1]; show (W0.setCells _ _ _).os = _; rw [(rest_setCells _ _ _ _).1, hW0]; rfl
    · rw [(rest_setCells _ _ _ _).2.1, hW1]; show (W0.setCells _ _ _).tape = _; rw [(rest_setCells _ _ _ _).2.1, hW0]; rfl
    · rw [(rest_setCells _ _ _ _).2.2, hW1]; show (W0.setCells _ _ _).output = _; rw [(rest_setCells _ _ _ _).2.2, hW0]; rfl
    · rw [size_setCells]; show _ ≤ W1.heap.size; rw [hW1, size_setCells]; omega
    · rw [heap_setCells_other _ _ _ _ _ (by omega)]; exact hold1 k hk

/-- slices.Insert of one more. -/
theorem insert_any {w : World} {base n c p i : Nat} {A : Option Addr} {l : List Co} (x : Co) (hn : l.length = n) (hi : i ≤ n) (hl : (n : Int) ≤ 1000) (hO : OW co w base (.slice A n c) l) (hx : w.heap[p]? = some (oCo x)) (hne : (Value.slice A n c).ownBlock ≠ some p) (hbase : base ≤ w.heap.size) :
    Calls Try.prog 43 #[.slice A n c, .int .i64 i, .slice (some ⟨p, 0, none⟩) 1 1] w (InO w base (.slice A n c) (l.take i ++ x :: l.drop i)) := by
  rcases Nat.lt_or_eq_of_le hi with h | rfl
  · obtain ⟨y, hy⟩ : ∃ y, l[i]? = some y := ⟨_, List.getElem?_eq_getElem (by omega)⟩
    subst hn
    obtain ⟨A', c', hv, _, h2⟩ := hO.shape
    injection hv with e1 e2 e3
    subst e1; subst e3
    rcases h2 with ⟨_, h0, _⟩ | ⟨g, cur, rfl, _⟩
    · rw [h0] at h; simp at h
    · by_cases hc : l.length + 1 ≤ c
      · exact insert_in x rfl h hl hO hx (fun e => hne (by rw [e]; rfl)) hc
      · exact insert_gr x rfl h hl hO hx (by omega) hbase
  · have := insert_end x hn hl hO hbase hx
    rw [List.take_of_length_le (by omega), List.drop_eq_nil_of_le (by omega)]
    exact this
end Go.Proofs.Ytmdnjkiciaidiaa.Con
