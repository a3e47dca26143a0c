/-
  Contracts of the document's queue: Cancel.
-/
import Derived.Test.YtibiobcjnnoeeaaRnx
namespace Go.Proofs.Ytibiobcjnnoeeaa.Con
open Go.RowKit Tmr Go.Maps

theorem del_at {S : List Tm} (h : S.Pairwise (fun a b => a.id ≠ b.id)) {k : Nat} (hk : k < S.length) : del S (g S k).id = S.take k ++ S.drop (k + 1) := by
  induction S generalizing k with
  | nil => simp at hk
  | cons x r ih =>
    rw [List.pairwise_cons] at h
    cases k with
    | zero =>
      have : hasId r x.id = false := by
        rw [Bool.eq_false_iff]
        intro e
        obtain ⟨u, hu, e⟩ := hasId_iff.1 e
        exact h.1 u hu e.symm
      have e := del_none this
      have eg : g (x :: r) 0 = x := rfl
      rw [eg]
      unfold del at e ⊢
      rw [List.filter_cons_of_neg (by simp), e]
      rfl
    | succ k =>
      have hk' : k < r.length := by simpa using hk
      have eg : g (x :: r) (k + 1) = g r k := rfl
      have hne : x.id ≠ (g r k).id := h.1 _ (g_mem hk')
      have := ih h.2 hk'
      rw [eg]
      unfold del at this ⊢
      rw [List.filter_cons_of_pos (by simpa using hne), this]
      rfl
theorem tvs_drop (l : List Tm) (n : Nat) : (tvs l).drop (n * 3) = tvs (l.drop n) := by
  induction l generalizing n with
  | nil => simp [tvs]
  | cons x r ih =>
    cases n with
    | zero => simp [tvs]
    | succ n =>
      have e : (n + 1) * 3 = n * 3 + 1 + 1 + 1 := by omega
      rw [e]
      simp only [tvs, List.drop_succ_cons, ih]
theorem drop_cells {w : World} {b : Nat} {S : List Tm} (n : Nat) (h : ∀ k t, S[k]? = some t → w.cell? ⟨b, k * 3, none⟩ = some (.int .i64 t.due) ∧ w.cell? ⟨b, k * 3 + 1, none⟩ = some (.int .i64 t.tag) ∧ w.cell? ⟨b, k * 3 + 2, none⟩ = some (.int .i64 t.id)) : ∀ j u, (tvs (S.drop n))[j]? = some u → w.cell? ((⟨b, n * 3, none⟩ : Addr).add j) = some u := by
  intro j u hu
  rw [add_none]
  rw [← tvs_drop, List.getElem?_drop] at hu
  exact tvs_cells h _ u hu
theorem step_nothing {ops : Array Oper} {o : Oper} {a : Act} {K : Act → World → Prop} {Q : Exit → Act → World → Prop} {E : Prop} (w : World) (hgd : o.guard = none) (s x : Operand)
    (ho : o.op = .call { callee := .builtin .append, args := #[s, x], argTypes := #[27, 27] }) (A : Option Addr) (n c : Nat) (hn : n ≤ c) (hs : a.eval s = .slice A n c) (Ax : Option Addr) (cx : Nat) (hx : a.eval x = .slice Ax 0 cx)
    (h : K (a.put o.dst (.slice A n c)) w) : if Region.wanted o (yielded ops a.tmps) = true then Oper.wp Try.prog o a w K Q else E := by
  have hw : Region.wanted o (yielded ops a.tmps) = true := by simp [Region.wanted, hgd]
  rw [if_pos hw]
  obtain ⟨i0, hi0, hz0, hz1, hz2⟩ := info_parts info33
  have hsrc : Src Try.prog i0.size 27 (.slice Ax 0 cx) 0 [] w := by
    rcases Ax with _ | ad
    · exact Src.ofNil w Try.underlying27 cx
    · exact Src.ofSlice w Try.underlying27 ad 0 cx [] (by simp) (by simp) (by simp)
  have hrun := run_append_nothing (P := Try.prog) w 27 27 o.type 33 i0 Try.underlying27 hi0 A n c hn (.slice Ax 0 cx) hsrc
  unfold Oper.wp execOp
  simp only [ho, resolve, invoke, builtin, Sem.run_bind, Sem.run_pure, Result.andThen_ok, List.map_toArray, List.map_cons, List.map_nil, hs, hx, hrun]
  exact h
section
variable {w w' : World} {base gb : Nat} {A : Option Addr} {c : Nat} {S : List Tm} {last : Int}
/-- Behind the append onto the row's beginning. -/
theorem rcut {w3 : World} {b : Nat} {k m b3 c3 : Nat} {id : Int} (h : RQ w base gb (some ⟨b, 0, none⟩) c S last) (hk : k < S.length) (hid : (g S k).id = id) (hm : S.length - (k + 1) = m)
    (hown : Own w3 base (some ⟨b3, 0, none⟩) c3 (S.take k ++ S.drop (k + 1))) (hg : w.drew.grownBy w3 (some b)) (hat : some b = some b3 ∨ w.heap.size ≤ b3) :
    w3.heap[gb]? = w.heap[gb]? ∧ Hid (RLeft w base gb (some ⟨b, 0, none⟩) (del S id) last (w3.setCell ⟨gb, 0, none⟩ (.slice (some ⟨b3, 0, none⟩) (k + m) c3))) := by
  have o1 : Off w w3 [b] := (Off.refl w _).drew.same (Off.of_grown hg (fun k e => by injection e with e; simp [e]))
  have hgb : gb ∉ [b] := fun e => h.ne b rfl (by simp at e; exact e.symm)
  have hb3 : b3 ≠ gb := by
    rcases hat with e | e
    · injection e with e; subst e; exact h.ne b rfl
    · have := h.lt; omega
  have ed : del S id = S.take k ++ S.drop (k + 1) := by rw [← hid]; exact del_at h.good.ne hk
  have hgd : Tmr.Good (S.take k ++ S.drop (k + 1)) last := by rw [← ed]; exact h.good.del id
  have hln : (S.take k ++ S.drop (k + 1)).length = k + m := by simp; omega
  have hq := h.set0 (A' := some ⟨b3, 0, none⟩) (c' := c3) (S' := S.take k ++ S.drop (k + 1)) o1 hgb (ROw.of_own hown) (fun x hx => by simp [blk] at hx; subst hx; exact hb3) hgd (by rw [hln]; have := h.len; omega) (k + m) hln
  refine ⟨o1.block gb h.lt hgb, Lib.hid ⟨some ⟨b3, 0, none⟩, c3, Lib.hid (by rw [ed]; exact hq), Lib.hid ((o1.mono (fun x hx => by simp at hx; subst hx; simp [rbl, blk])).setCell (by simp [rbl]) _), Lib.hid (fun x hx => ?_)⟩⟩
  simp only [rbl, blk, List.mem_cons, Option.mem_toList, Option.map_some] at hx ⊢
  rcases hx with hx | hx
  · exact .inl (.inl hx)
  · injection hx with hx
    subst hx
    rcases hat with e | e
    · exact .inl (.inr e)
    · exact .inr e
theorem rcut0 {b : Nat} {k : Nat} {id : Int} (h : RQ w base gb (some ⟨b, 0, none⟩) c S last) (hk : k + 1 = S.length) (hid : (g S k).id = id) :
    Hid (RLeft w base gb (some ⟨b, 0, none⟩) (del S id) last (w.drew.setCell ⟨gb, 0, none⟩ (.slice (some ⟨b, 0, none⟩) k k))) := by
  have ed : del S id = S.take k := by rw [← hid, del_at h.good.ne (by omega), List.drop_of_length_le (by omega), List.append_nil]
  have hgd : Tmr.Good (S.take k) last := by rw [← ed]; exact h.good.del id
  have o1 : Off w w.drew [] := (Off.refl w _).drew
  have hq := h.set0 (c' := k) (S' := S.take k) o1 (by simp) ((h.row.keep (w' := w.drew) (Nat.le_refl _) (fun _ _ => rfl)).cut (n := k) (by omega)) h.ne hgd (by have := h.len; simp; omega) k (by simp; omega)
  exact Lib.hid ⟨some ⟨b, 0, none⟩, k, Lib.hid (by rw [ed]; exact hq), Lib.hid ((o1.mono (fun x hx => by cases hx)).setCell (by simp [rbl]) _), Lib.hid (fun x hx => .inl hx)⟩
set_option maxHeartbeats 4000000 in
theorem rcancel (h : RQ w base gb A c S last) (id : Int) (x : Bool) (hx : hasId S id = x) (hS : (S.length : Int) < 1000) : Calls Try.prog 18 #[.pointer (some ⟨gb, 0, none⟩), .int .i64 id] w fun e w' => e = .returned (.bool x) ∧ RLeft w base gb A (del S id) last w' := by
  have hc0 := h.cell0
  have hl3 : (S.length : Int) ≤ 3000 := by omega
  have HQ := Lib.hid h; have HX := Lib.hid hx; have HSb := Lib.hid hS
  clear h hx hS
  go_enter Try.func18, Try.ntmps18
  go_wp2
  go_loopg [5] S.length (fun m s5 wr => ∃ k : Nat, k ≤ S.length ∧ m = S.length - k ∧ s5 = .int .i64 (k : Int) ∧ wr = w ∧ Hid (∀ i, i < k → (g S i).id ≠ id))
  case atStart => exact ⟨0, by omega, rfl, rfl, rfl, Lib.hid (fun i hi => by omega)⟩
  case round =>
    obtain ⟨k, hk, rfl, rfl, rfl, HN⟩ := hrel
    by_cases hkl : k < S.length
    · have hkl' : (k : Int) < S.length := by omega
      have hkp : (0 : Int) ≤ (k : Int) := by omega
      obtain ⟨b, hA, hbl, e1, e2, e3⟩ := HQ.out.row.rt.at' hkl
      by_cases hid : (g S k).id = id
      · have hide : ((g S k).id == id) = true := by simpa using hid
        have HId := Lib.hid hid
        have HXt : Hid (x = true) := Lib.hid (by rw [← HX.out]; exact hasId_iff.2 ⟨_, g_mem hkl, hid⟩)
        subst hA
        have hf0 := HQ.out.fz 0
        obtain ⟨m, hm⟩ : ∃ m, S.length - (k + 1) = m := ⟨_, rfl⟩
        have hc3 := HQ.out.row.le
        have hlt := HQ.out.lt
        have hcells : ∀ j t, S[j]? = some t → wr.cell? ⟨b, j * 3, none⟩ = some (.int .i64 t.due) ∧ wr.cell? ⟨b, j * 3 + 1, none⟩ = some (.int .i64 t.tag) ∧ wr.cell? ⟨b, j * 3 + 2, none⟩ = some (.int .i64 t.id) := by
          rcases HQ.out.row.rt with e | ⟨b', e1, _, e3⟩
          · rw [e] at hkl; simp at hkl
          · injection e1 with e1
            injection e1 with e1
            subst e1
            exact e3
        have HCe := Lib.hid hcells
        have hw1 : IntKind.i64.wrap ((k : Int) + 1) = (k : Int) + 1 := IntWalk.i64_in _ (by omega)
        have hw2 : ((k : Int) + 1).toNat = k + 1 := by omega
        have hw3 : (0 : Int) ≤ (k : Int) + 1 := by omega
        have hw4 : (k : Int) + 1 ≤ S.length := by omega
        clear hid hcells
        by_cases hm0 : m = 0
        · subst hm0
          have hkL : k + 1 = S.length := by omega
          have HR := Lib.hid (rcut0 HQ.out hkL HId.out)
          have hck3 : (k : Int) ≤ c := by omega
          have HkL := Lib.hid hkL
          clear hkL
          by_cases hck : c = k + 1
          · subst hck
            have hck5 : (k : Int) ≤ (k : Int) + 1 := by omega
            go_wp2
            go_region_law (refine step_nothing _ rfl (.tmp 32) (.tmp 39) rfl (some ⟨b, 0, none⟩) k k (Nat.le_refl _) (by simp [Act.eval, Act.put]) (some ⟨b, 0, none⟩) 0 (by simp [Act.eval, Act.put]) ?_)
            all_goals go_wp2
            all_goals go_ret
            all_goals exact ⟨by rw [HXt.out]; rfl, HR.out⟩
          · go_wp2
            go_region_law (refine step_nothing _ rfl (.tmp 32) (.tmp 39) rfl (some ⟨b, 0, none⟩) k k (Nat.le_refl _) (by simp [Act.eval, Act.put]) (some ⟨b, (k + 1) * 3, none⟩) (c - (k + 1)) (by simp [Act.eval, Act.put]) ?_)
            all_goals go_wp2
            all_goals go_ret
            all_goals exact ⟨by rw [HXt.out]; rfl, HR.out⟩
        · have HRo : Hid (ROw wr.drew base (some ⟨b, 0, none⟩) k (S.take k)) := Lib.hid ((HQ.out.row.keep (w' := wr.drew) (Nat.le_refl _) (fun _ _ => rfl)).cut (by omega))
          have HNw : Hid (∀ j u, (tvs (S.drop (k + 1)))[j]? = some u → wr.drew.cell? ((⟨b, (k + 1) * 3, none⟩ : Addr).add j) = some u) := Lib.hid (drop_cells (k + 1) HCe.out)
          have HBs : Hid (base ≤ wr.drew.heap.size) := Lib.hid (by have := HQ.out.bg; show base ≤ wr.heap.size; omega)
          have hTl : (S.drop (k + 1)).length = m := by simp; omega
          have hTk : (S.take k).length = k := by simp; omega
          have HTl := Lib.hid hTl; have HTk := Lib.hid hTk
          have HK : Hid (∀ w3 b3 c3, Own w3 base (some ⟨b3, 0, none⟩) c3 (S.take k ++ S.drop (k + 1)) → wr.drew.grownBy w3 (blk (some ⟨b, 0, none⟩)) → (blk (some ⟨b, 0, none⟩) = some b3 ∨ wr.drew.heap.size ≤ b3) → w3.cell? ⟨gb, 0, none⟩ = some (.slice (some ⟨b, 0, none⟩) S.length c) ∧ w3.frozen? ⟨gb, 0, none⟩ = false ∧ Hid (RLeft wr base gb (some ⟨b, 0, none⟩) (del S id) last (w3.setCell ⟨gb, 0, none⟩ (.slice (some ⟨b3, 0, none⟩) (k + m) c3)))) := Lib.hid (fun w3 b3 c3 k1 k2 k3 => by
            obtain ⟨r1, r2⟩ := rcut HQ.out hkl HId.out hm k1 k2 k3
            exact ⟨(World.cell?_of_block (w := wr) r1).trans hc0, (World.frozen?_of_block (w := wr) r1).trans hf0, r2⟩)
          have HM := Lib.hid hm
          have hck : ¬ c = k + 1 := by omega
          have hck2 : k + 1 ≤ c := by omega
          have hck3 : (k : Int) ≤ c := by omega
          have hck4 : (k : Int) + 1 ≤ S.length := by omega
          have hm1 : 0 < m := by omega
          have hmb : (k + m : Int) ≤ 5000 := by omega
          clear hTl hTk
          go_wp2
          go_region_law (refine step_appR _ rfl (.tmp 32) (.tmp 39) rfl base (some ⟨b, 0, none⟩) k (S.take k) (S.drop (k + 1)) k HTk.out m HTl.out (by simp [Act.eval, Act.put]) HRo.out ⟨b, (k + 1) * 3, none⟩ (c - (k + 1)) (by simp [Act.eval, Act.put]) HNw.out hm1 hmb HBs.out ?_; intro b3 c3 w3 hown3 hg3 hat3; obtain ⟨y0, y2, HL⟩ := HK.out w3 b3 c3 hown3 hg3 hat3; clear hown3 hg3 hat3)
          all_goals go_wp2
          all_goals go_ret
          all_goals exact ⟨by rw [HXt.out]; rfl, HL.out⟩
      · have hide : ((g S k).id == id) = false := by simpa using hid
        have HN2 : Hid (∀ i, i < k + 1 → (g S i).id ≠ id) := Lib.hid (fun i hi => by
          rcases (by omega : i = k ∨ i < k) with rfl | h
          · exact hid
          · exact HN.out i h)
        subst hA
        clear hid
        go_wp2
        go_roundg (S.length - (k + 1))
        · exact ⟨k + 1, by omega, rfl, by simp, rfl, HN2⟩
        · omega
    · have hkk : decide ((k : Int) < S.length) = false := by simp; omega
      have hno : hasId S id = false := by
        rw [Bool.eq_false_iff]
        intro e
        obtain ⟨i, hi, e⟩ := has_idx e
        exact HN.out i (by omega) e
      have HXf : Hid (x = false) := Lib.hid (by rw [← HX.out, hno])
      have HDn := Lib.hid (del_none hno)
      have hkk2 : ¬ (k : Int) < S.length := by omega
      clear hno hkl
      go_wp2
      go_ret
      refine ⟨by rw [HXf.out]; rfl, A, c, Lib.hid (by rw [HDn.out]; exact HQ.out), Lib.hid (Off.refl _ _), Lib.hid (fun y hy => .inl hy)⟩
end
end Go.Proofs.Ytibiobcjnnoeeaa.Con
