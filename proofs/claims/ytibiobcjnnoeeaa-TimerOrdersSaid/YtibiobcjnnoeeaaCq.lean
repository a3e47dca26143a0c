/-
  A queue beside a row of marks: which timers came; what TimerOrders asks of each.
-/
import Derived.Test.YtibiobcjnnoeeaaPq
import Derived.Test.YtibiobcjnnoeeaaSrt
import Derived.Test.YtibiobcjnnoeeaaOpen
import Derived.Deep.OwnRows
namespace Go.Proofs.Ytibiobcjnnoeeaa.Tmr
/-- The timer that is added k-th. -/
def mkT (l : List Int) (k : Nat) : Tm := ⟨l[k]?.getD 0, k, (k : Int) + 1⟩
def all (l : List Int) (k : Nat) : List Tm := (List.range k).map (mkT l)
theorem all_succ (l : List Int) (k : Nat) : all l (k + 1) = all l k ++ [mkT l k] := by simp [all, List.range_succ]
theorem all_len (l : List Int) (k : Nat) : (all l k).length = k := by simp [all]
def Right (l : List Int) (S : List Tm) : Prop := ∀ t ∈ S, ∃ k, k < l.length ∧ t = mkT l k
theorem all_right (l : List Int) : Right l (all l l.length) := by
  intro t ht
  obtain ⟨k, hk, e⟩ := List.mem_map.1 ht
  exact ⟨k, List.mem_range.1 hk, e.symm⟩
theorem all_has (l : List Int) {j k : Nat} (h : j < k) : hasId (all l k) ((j : Int) + 1) = true :=
  hasId_iff.2 ⟨mkT l j, List.mem_map.2 ⟨j, List.mem_range.2 h, rfl⟩, rfl⟩
/-- The marks: of a queue S, and of what came of it. -/
def mk (S T : List Tm) (j : Nat) : Bool := !hasId S ((j : Int) + 1) || hasId T ((j : Int) + 1)
theorem has_or {S : List Tm} {last now : Int} (hg : Good S last) (id : Int) : hasId S id = (hasId (come S now) id || hasId (rest S now) id) := by
  rw [Bool.eq_iff_iff, Bool.or_eq_true, hasId_iff, hasId_iff, hasId_iff]
  rw [rest_eq S hg]
  constructor
  · rintro ⟨t, ht, e⟩
    by_cases hd : now < t.due
    · exact .inr ⟨t, List.mem_filter.2 ⟨ht, by simpa using hd⟩, e⟩
    · exact .inl ⟨t, (come_mem S hg t).2 ⟨ht, by omega⟩, e⟩
  · rintro (⟨t, ht, e⟩ | ⟨t, ht, e⟩)
    · exact ⟨t, ((come_mem S hg t).1 ht).1, e⟩
    · exact ⟨t, (List.mem_filter.1 ht).1, e⟩
theorem has_not {S : List Tm} {last now : Int} (hg : Good S last) {id : Int} (h : hasId (come S now) id = true) : hasId (rest S now) id = false := by
  rw [Bool.eq_false_iff]
  intro h2
  rw [rest_eq S hg] at h2
  obtain ⟨t, ht, e⟩ := hasId_iff.1 h
  obtain ⟨u, hu, e2⟩ := hasId_iff.1 h2
  obtain ⟨k1, k2⟩ := (come_mem S hg t).1 ht
  obtain ⟨k3, k4⟩ := List.mem_filter.1 hu
  have := uniq hg.ne k1 k3 (e.trans e2.symm)
  subst this
  simp at k4
  omega
theorem mk_done {S : List Tm} {last now : Int} (hg : Good S last) (j : Nat) : mk S (come S now) j = mk (rest S now) [] j := by
  unfold mk
  rw [has_or (now := now) hg]
  have e : hasId [] ((j : Int) + 1) = false := rfl
  rw [e]
  rcases h : hasId (come S now) ((j : Int) + 1) with _ | _
  · simp
  · rw [has_not hg h]; simp
theorem mk_snoc (S T : List Tm) (t : Tm) (k : Nat) (ht : t.id = (k : Int) + 1) (j : Nat) : mk S (T ++ [t]) j = if j = k then true else mk S T j := by
  have e : hasId (T ++ [t]) ((j : Int) + 1) = (hasId T ((j : Int) + 1) || (t.id == (j : Int) + 1)) := by simp [hasId]
  unfold mk
  rw [e, ht]
  by_cases h : j = k
  · subst h; simp
  · rw [if_neg h]
    have : ((k : Int) + 1 == (j : Int) + 1) = false := by simp; omega
    rw [this, Bool.or_false]
theorem Right.sub {l : List Int} {S T : List Tm} (h : Right l S) (hs : ∀ t ∈ T, t ∈ S) : Right l T := fun t ht => h t (hs t ht)
/-- What is known of the j-th that came. -/
structure Kth (l : List Int) (S C : List Tm) (now : Int) (j k : Nat) : Prop where
  lt : k < l.length
  eq : g C j = mkT l k
  due : l[k]?.getD 0 ≤ now
  mark : mk S (C.take j) k = false
theorem kth {l : List Int} {S : List Tm} {last now : Int} (hg : Good S last) (hr : Right l S) {j : Nat} (hj : j < (come S now).length) : ∃ k, Kth l S (come S now) now j k := by
  have hm := g_mem hj
  obtain ⟨h1, h2⟩ := (come_mem S hg _).1 hm
  obtain ⟨k, hk, e⟩ := hr _ h1
  refine ⟨k, hk, e, by rw [e] at h2; exact h2, ?_⟩
  unfold mk
  have e1 : hasId S ((k : Int) + 1) = true := hasId_iff.2 ⟨_, h1, by rw [e]; rfl⟩
  have e2 : hasId ((come S now).take j) ((k : Int) + 1) = false := by
    rw [Bool.eq_false_iff]
    intro h
    obtain ⟨u, hu, eu⟩ := hasId_iff.1 h
    obtain ⟨i, hi, ei⟩ := List.mem_iff_getElem.1 hu
    rw [List.length_take] at hi
    rw [List.getElem_take] at ei
    have hs := List.pairwise_iff_getElem.1 (come_sorted (now := now) S hg) i j (by omega) hj (by omega)
    have e3 : (come S now)[j] = mkT l k := by rw [← e]; simp [g, hj]
    rw [ei, e3] at hs
    have hu2 := ((come_mem S hg u).1 (List.mem_of_mem_take hu)).1
    have := uniq hg.ne hu2 h1 (by rw [eu, e]; rfl)
    rw [this, e] at hs
    unfold Lt at hs
    omega
  rw [e1, e2]; rfl
theorem sorted_at {S : List Tm} {last now : Int} (hg : Good S last) {i j : Nat} (hij : i < j) (hj : j < (come S now).length) : Lt (g (come S now) i) (g (come S now) j) := by
  have := List.pairwise_iff_getElem.1 (come_sorted (now := now) S hg) i j (by omega) hj hij
  have e1 : g (come S now) i = (come S now)[i] := by have : i < (come S now).length := by omega
                                                     simp [g, this]
  have e2 : g (come S now) j = (come S now)[j] := by simp [g, hj]
  rw [e1, e2]; exact this
theorem rest_right {l : List Int} {S : List Tm} {last now : Int} (hg : Good S last) (hr : Right l S) : Right l (rest S now) := by
  rw [rest_eq S hg]
  exact hr.sub fun t ht => (List.mem_filter.1 ht).1
/-- Those of dues by now have come. -/
theorem rest_came {l : List Int} {S : List Tm} {last now : Int} (hg : Good S last) (hr : Right l S) {k : Nat} (hd : l[k]?.getD 0 ≤ now) : mk (rest S now) [] k = true := by
  unfold mk
  have : hasId (rest S now) ((k : Int) + 1) = false := by
    rw [Bool.eq_false_iff]
    intro h
    rw [rest_eq S hg] at h
    obtain ⟨u, hu, e⟩ := hasId_iff.1 h
    obtain ⟨k1, k2⟩ := List.mem_filter.1 hu
    obtain ⟨i, hi, e2⟩ := hr u k1
    subst e2
    have : i = k := by simp only [mkT] at e; omega
    subst this
    have k3 := of_decide_eq_true k2
    simp only [mkT] at k3
    omega
  rw [this]; rfl
theorem rest_first {S : List Tm} {last now : Int} (hg : Good S last) {t : Tm} (h : first (rest S now) = some t) : now < t.due := by
  rw [rest_eq S hg] at h
  have := (first_some ((hg.filter _).1) h).1
  simpa using (List.mem_filter.1 this).2
end Go.Proofs.Ytibiobcjnnoeeaa.Tmr
namespace Go.Proofs.Ytibiobcjnnoeeaa.Con
open Go.RowKit Tmr Go.Maps

/-- A queue and, beside it, a row of marks. -/
structure CQ (W w : World) (q mb cb n : Nat) (S : List Tm) (last : Int) (f : Nat → Bool) : Prop where
  ex : ∃ A c l, TQ w W.heap.size q mb A c l S last ∧ cb ∉ bls q mb A
  below : Below W.heap.size W w
  row : w.rowIs cb 4 n (fun j => .bool (f j))
  lo : W.heap.size ≤ cb
section
variable {W w w' : World} {q mb cb n : Nat} {S : List Tm} {last : Int} {f : Nat → Bool}
theorem CQ.step (h : CQ W w q mb cb n S last f) (hb : Below w.heap.size w w') : CQ W w' q mb cb n S last f := by
  obtain ⟨⟨A, c, l, h1, h2⟩, h3, h4, h5⟩ := h
  exact ⟨⟨A, c, l, h1.step hb, h2⟩, h3.trans (hb.mono h3.size), h4.of_block (hb.block cb h4.lt), h5⟩
theorem CQ.good (h : CQ W w q mb cb n S last f) : Tmr.Good S last := by
  obtain ⟨⟨A, c, l, h1, h2⟩, _⟩ := h
  exact h1.good
theorem CQ.set (h : CQ W w q mb cb n S last f) (k : Nat) (f' : Nat → Bool) (hf : ∀ j, f' j = if j = k then true else f j) : CQ W (w.setCell ⟨cb, k, none⟩ (.bool true)) q mb cb n S last f' := by
  obtain ⟨⟨A, c, l, h1, h2⟩, h3, h4, h5⟩ := h
  have ho : Off w (w.setCell ⟨cb, k, none⟩ (.bool true)) [cb] := (Off.refl w _).setCell (by simp) _
  refine ⟨⟨A, c, l, h1.off ho (fun x hx e => h2 (by simp at e; exact e ▸ hx)), h2⟩, h3.setCell h5 _, (h4.set k _).congr (fun i hi => ?_), h5⟩
  rw [hf]
  by_cases e : i = k <;> simp [e]
theorem CQ.congr (h : CQ W w q mb cb n S last f) {f' : Nat → Bool} (hf : ∀ j, j < n → f j = f' j) : CQ W w q mb cb n S last f' := ⟨h.ex, h.below, h.row.congr (fun i hi => by rw [hf i hi]), h.lo⟩
theorem cq_made {W w : World} {q mb n : Nat} {S : List Tm} {last : Int} {w' : World} (h : PQ W w q mb S last) (hw : w' = w.alloc (.cells (madeCells #[.bool false] n) 4)) : CQ W w' q mb w.heap.size n S last (fun _ => false) := by
  subst hw
  obtain ⟨⟨A, c, l, h1⟩, h2⟩ := h
  have hb : Below w.heap.size w (w.alloc (.cells (madeCells #[.bool false] n) 4)) := (Below.refl _ _).alloc (Nat.le_refl _) _
  refine ⟨⟨A, c, l, h1.step hb, fun hm => ?_⟩, h2.trans (hb.mono h2.size), World.rowIs_made w (.bool false) n 4, h2.size⟩
  have := (h1.qs.que.lo _ hm).2
  omega
theorem cq_len (h : CQ W w q mb cb n S last f) (k : Nat) (hk : S.length = k) : Calls Try.prog 11 #[.pointer (some ⟨q, 0, none⟩)] w fun e w' => e = .returned (.int .i64 k) ∧ w = w' := by
  obtain ⟨⟨A, c, l, h1, h2⟩, _⟩ := h
  exact qlen_s h1 k hk
theorem cq_len_q (h : CQ W w q mb cb n S last f) (k : Nat) (hk : S.length = k) (i : Nat) : Calls Try.prog 11 #[.pointer (some ⟨q, 0, none⟩)] (w.drewN i) fun e w' => e = .returned (.int .i64 k) ∧ w' = w.drewN i :=
  (cq_len (h.step (below_drewN w i)) k hk).mono fun _ _ ⟨he, hw⟩ => ⟨he, hw.symm⟩
theorem cq_due (h : CQ W w q mb cb n S last f) (now : Int) (C S' : List Tm) (hC : come S now = C) (hS' : rest S now = S') : Calls Try.prog 13 #[.pointer (some ⟨q, 0, none⟩), .int .i64 now] w fun e w' => ∃ Ac cc, e = .returned (.slice Ac C.length cc) ∧ Hid (RT w' w'.heap.size Ac C) ∧ Hid (∀ k, blk Ac = some k → k ≠ cb) ∧ Hid (CQ W w' q mb cb n S' last f) := by
  obtain ⟨⟨A, c, l, h1, h2⟩, h3, h4, h5⟩ := h
  refine (due_any h1 now C S' hC hS').mono ?_
  rintro e w' ⟨Ac, cc, rfl, k1, l', k2, k3⟩
  refine ⟨Ac, cc, rfl, Lib.hid k1.out.rt, Lib.hid (fun k hk e => ?_), Lib.hid ⟨⟨A, c, l', k2.out, h2⟩, h1.low h3 k3.out, h4.of_block (k3.out.block cb h4.lt h2), h5⟩⟩
  have := (k1.out.lt k hk).1
  have := h4.lt
  omega
theorem cq_none (h : CQ W w q mb cb n S last f) (hS : first S = none) : Calls Try.prog 9 #[.pointer (some ⟨q, 0, none⟩)] w fun e w' => e = .returned (.tuple #[.agg #[.int .i64 0, .int .i64 0, .int .i64 0], .bool false]) ∧ Hid (CQ W w' q mb cb n S last f) := by
  have h' := h
  obtain ⟨⟨A, c, l, h1, h2⟩, _⟩ := h
  refine (next_none h1 hS).mono ?_
  rintro e w' ⟨rfl, hb⟩
  exact ⟨rfl, Lib.hid (h'.step hb)⟩
theorem cq_some (h : CQ W w q mb cb n S last f) (t : Tm) (ht : first S = some t) : Calls Try.prog 9 #[.pointer (some ⟨q, 0, none⟩)] w fun e w' => e = .returned (.tuple #[.agg #[.int .i64 t.due, .int .i64 t.tag, .int .i64 t.id], .bool true]) ∧ Hid (CQ W w' q mb cb n S last f) := by
  have h' := h
  obtain ⟨⟨A, c, l, h1, h2⟩, _⟩ := h
  refine (next_some h1 t ht).mono ?_
  rintro e w' ⟨rfl, hb⟩
  exact ⟨rfl, Lib.hid (h'.step hb)⟩
theorem CQ.cell (h : CQ W w q mb cb n S last f) {k : Nat} (hk : k < n) : w.cell? ⟨cb, k, none⟩ = some (.bool (f k)) := h.row.cell hk
end
/-- Behind a mark: the queue, and what came. -/
structure Qd (W w w' : World) (q mb cb n : Nat) (S : List Tm) (last : Int) (f : Nat → Bool) (B : Nat) (Ac : Option Addr) (C : List Tm) : Prop where
  cq : CQ W w' q mb cb n S last f
  rt : RT w' B Ac C
  sz : w.heap.size ≤ w'.heap.size
theorem qd_step {W w : World} {q mb cb n B k : Nat} {S C : List Tm} {last : Int} {f : Nat → Bool} {Ac : Option Addr} (h : CQ W w q mb cb n S last f) (hr : RT w B Ac C) (hB : B ≤ w.heap.size) (hne : ∀ k, blk Ac = some k → k ≠ cb) (f' : Nat → Bool) (hf : ∀ j, f' j = if j = k then true else f j) (o : Obj) (p : Nat) : Qd W w (((w.alloc o).drewN p).setCell ⟨cb, k, none⟩ (.bool true)) q mb cb n S last f' B Ac C := by
  refine ⟨(h.step (((Below.refl _ _).alloc (Nat.le_refl _) o).trans ((below_drewN _ p).mono (by simp)))).set k f' hf, hr.keep (fun b hA hb => ?_), by simp [World.setCell]⟩
  obtain ⟨off, hA⟩ := hA
  exact (Below.heap_setCell _ _ _ _ (hne b (by rw [hA]; rfl))).trans ((show ((w.alloc o).drewN p).heap[b]? = (w.alloc o).heap[b]? from rfl).trans (Below.heap_alloc _ _ _ (by omega)))
theorem info4 : (Try.prog.info? 4).map (fun i => (i.zero, i.size, i.bytes)) = some (some (.bool false), 1, 1) := by kernel_rfl
end Go.Proofs.Ytibiobcjnnoeeaa.Con
