/-
  The document's own index: a row of units in the order of their numbers behind a block; its Drop.
-/
import Derived.Test.YtehllnbpianpfaaMem
import Derived.Test.YtehllnbpianpfaaIdx
import Derived.WalkSpells
import Derived.BigQuiet
namespace Go.Proofs.Ytehllnbpianpfaa.Con
open Go.RowKit Cll Go.Maps

/-- The document's index at block gb. -/
structure RQ (w : World) (base gb : Nat) (A : Option Addr) (c : Nat) (S : List Un) : Prop where
  st : w.heap[gb]? = some (.cells #[.slice A S.length c] 29 (0, 0))
  row : ROw w base A c S
  bg : base ≤ gb
  ne : ∀ k, blk A = some k → k ≠ gb
  good : Cll.Good S
  len : (S.length : Int) ≤ 2000
def rbl (gb : Nat) (A : Option Addr) : List Nat := gb :: (blk A).toList
section
variable {w w' : World} {base gb : Nat} {A : Option Addr} {c : Nat} {S : List Un}
theorem RQ.cell0 (h : RQ w base gb A c S) : w.cell? ⟨gb, 0, none⟩ = some (.slice A S.length c) := (cell_of_row w gb 0 _ 29 (0, 0) h.st).trans rfl
theorem RQ.fz (h : RQ w base gb A c S) (k : Nat) : w.frozen? ⟨gb, k, none⟩ = false := by simp [World.frozen?, h.st]
theorem RQ.lt (h : RQ w base gb A c S) : gb < w.heap.size := (Array.getElem?_eq_some_iff.1 h.st).1
theorem RQ.lo' (h : RQ w base gb A c S) : ∀ k ∈ rbl gb A, base ≤ k ∧ k < w.heap.size := by
  intro k hk
  simp only [rbl, List.mem_cons, Option.mem_toList] at hk
  rcases hk with rfl | hk
  · exact ⟨h.bg, h.lt⟩
  · exact h.row.lt k hk
theorem RQ.keep (h : RQ w base gb A c S) (hs : w.heap.size ≤ w'.heap.size) (hk : ∀ k ∈ rbl gb A, w'.heap[k]? = w.heap[k]?) : RQ w' base gb A c S :=
  ⟨(hk gb (by simp [rbl])).trans h.st, h.row.keep hs (fun k hk' => hk k (by simp [rbl, hk'])), h.bg, h.ne, h.good, h.len⟩
theorem RQ.off {bs : List Nat} (h : RQ w base gb A c S) (ho : Off w w' bs) (hq : ∀ k ∈ rbl gb A, k ∉ bs) : RQ w' base gb A c S :=
  h.keep ho.size (fun k hk => ho.block k (h.lo' k hk).2 (hq k hk))
theorem RQ.step (h : RQ w base gb A c S) (hb : Below w.heap.size w w') : RQ w' base gb A c S :=
  h.keep hb.size (fun k hk => hb.block k (h.lo' k hk).2)
theorem RQ.drew (h : RQ w base gb A c S) : RQ w.drew base gb A c S := h.keep (Nat.le_refl _) (fun _ _ => rfl)
/-- The struct's slice written anew. -/
theorem RQ.set0 {A' : Option Addr} {c' : Nat} {S' : List Un} {bs : List Nat} (h : RQ w base gb A c S) (ho : Off w w' bs) (hq : gb ∉ bs) (hr : ROw w' base A' c' S') (hne : ∀ k, blk A' = some k → k ≠ gb) (hg : Cll.Good S') (hl : (S'.length : Int) ≤ 2000) (n : Nat) (hn : S'.length = n) : RQ (w'.setCell ⟨gb, 0, none⟩ (.slice A' n c')) base gb A' c' S' := by
  subst hn
  have e := (ho.block gb h.lt hq).trans h.st
  refine ⟨by simp [World.setCell, Array.getElem?_modify, e], hr.keep (by simp [World.setCell]) (fun k hk => Below.heap_setCell _ _ _ _ (hne k hk)), h.bg, hne, hg, hl⟩
/-- What a call on the document's index leaves. -/
def RLeft (w : World) (base gb : Nat) (A : Option Addr) (S' : List Un) (w' : World) : Prop :=
  ∃ A' c', Hid (RQ w' base gb A' c' S') ∧ Hid (Off w w' (rbl gb A)) ∧ Hid (∀ k ∈ rbl gb A', k ∈ rbl gb A ∨ w.heap.size ≤ k)
end
theorem Off.same {a b c : World} {bs : List Nat} (h : Off a b bs) (k : Off b c bs) : Off a c bs := h.trans k (fun _ hx => .inl hx)
section
variable {w w' : World} {base gb : Nat} {A : Option Addr} {c : Nat} {S : List Un}
/-- Behind the append onto the row's beginning. -/
theorem rcut {w3 : World} {b : Nat} {k m b3 c3 : Nat} {id : Int} (h : RQ w base gb (some ⟨b, 0, none⟩) c S) (hk : k < S.length) (hid : (g S k).id = id) (hm : S.length - (k + 1) = m)
    (hown : Own w3 base (some ⟨b3, 0, none⟩) c3 (S.take k ++ S.drop (k + 1))) (hg : w.drew.grownBy w3 (some b)) (hat : some b = some b3 ∨ w.heap.size ≤ b3) :
    w3.heap[gb]? = w.heap[gb]? ∧ Hid (RLeft w base gb (some ⟨b, 0, none⟩) (del S id) (w3.setCell ⟨gb, 0, none⟩ (.slice (some ⟨b3, 0, none⟩) (k + m) c3))) := by
  have o1 : Off w w3 [b] := (Off.refl w _).drew.same (Off.of_grown hg (fun k e => by injection e with e; simp [e]))
  have hgb : gb ∉ [b] := fun e => h.ne b rfl (by simp at e; exact e.symm)
  have hb3 : b3 ≠ gb := by
    rcases hat with e | e
    · injection e with e; subst e; exact h.ne b rfl
    · have := h.lt; omega
  have ed : del S id = S.take k ++ S.drop (k + 1) := by rw [← hid]; exact del_at h.good.asc hk
  have hgd : Cll.Good (S.take k ++ S.drop (k + 1)) := by rw [← ed]; exact h.good.del id
  have hln : (S.take k ++ S.drop (k + 1)).length = k + m := by simp; omega
  have hq := h.set0 (A' := some ⟨b3, 0, none⟩) (c' := c3) (S' := S.take k ++ S.drop (k + 1)) o1 hgb (ROw.of_own hown) (fun x hx => by simp [blk] at hx; subst hx; exact hb3) hgd (by rw [hln]; have := h.len; omega) (k + m) hln
  refine ⟨o1.block gb h.lt hgb, Lib.hid ⟨some ⟨b3, 0, none⟩, c3, Lib.hid (by rw [ed]; exact hq), Lib.hid ((o1.mono (fun x hx => by simp at hx; subst hx; simp [rbl, blk])).setCell (by simp [rbl]) _), Lib.hid (fun x hx => ?_)⟩⟩
  simp only [rbl, blk, List.mem_cons, Option.mem_toList, Option.map_some] at hx ⊢
  rcases hx with hx | hx
  · exact .inl (.inl hx)
  · injection hx with hx
    subst hx
    rcases hat with e | e
    · exact .inl (.inr e)
    · exact .inr e
theorem rcut0 {b : Nat} {k : Nat} {id : Int} (h : RQ w base gb (some ⟨b, 0, none⟩) c S) (hk : k + 1 = S.length) (hid : (g S k).id = id) :
    Hid (RLeft w base gb (some ⟨b, 0, none⟩) (del S id) (w.drew.setCell ⟨gb, 0, none⟩ (.slice (some ⟨b, 0, none⟩) k k))) := by
  have ed : del S id = S.take k := by rw [← hid, del_at h.good.asc (by omega), List.drop_of_length_le (by omega), List.append_nil]
  have hgd : Cll.Good (S.take k) := by rw [← ed]; exact h.good.del id
  have o1 : Off w w.drew [] := (Off.refl w _).drew
  have hq := h.set0 (c' := k) (S' := S.take k) o1 (by simp) ((h.row.keep (w' := w.drew) (Nat.le_refl _) (fun _ _ => rfl)).cut (n := k) (by omega)) h.ne hgd (by have := h.len; simp; omega) k (by simp; omega)
  exact Lib.hid ⟨some ⟨b, 0, none⟩, k, Lib.hid (by rw [ed]; exact hq), Lib.hid ((o1.mono (fun x hx => by cases hx)).setCell (by simp [rbl]) _), Lib.hid (fun x hx => .inl hx)⟩
set_option maxHeartbeats 4000000 in
theorem rdrop (h : RQ w base gb A c S) (id : Int) (x : Bool) (hx : hasId S id = x) (hS : (S.length : Int) < 1000) : Calls Try.prog 11 #[.pointer (some ⟨gb, 0, none⟩), .int .i64 id] w fun e w' => e = .returned (.bool x) ∧ RLeft w base gb A (del S id) w' := by
  have hc0 := h.cell0
  have hl3 : (S.length : Int) ≤ 3000 := by omega
  have HQ := Lib.hid h; have HX := Lib.hid hx; have HSb := Lib.hid hS
  clear h hx hS
  go_enter Try.func11, Try.ntmps11
  go_wp2
  go_loopg [5] S.length (fun m s5 wr => ∃ k : Nat, k ≤ S.length ∧ m = S.length - k ∧ s5 = .int .i64 (k : Int) ∧ wr = w ∧ Hid (∀ i, i < k → (g S i).id ≠ id))
  case atStart => exact ⟨0, by omega, rfl, rfl, rfl, Lib.hid (fun i hi => by omega)⟩
  case round =>
    obtain ⟨k, hk, rfl, rfl, rfl, HN⟩ := hrel
    by_cases hkl : k < S.length
    · have hkl' : (k : Int) < S.length := by omega
      have hkp : (0 : Int) ≤ (k : Int) := by omega
      obtain ⟨b, hA, hbl, e1, e2, e3⟩ := HQ.out.row.rt.at' hkl
      by_cases hid : (g S k).id = id
      · have hide : ((g S k).id == id) = true := by simpa using hid
        have HId := Lib.hid hid
        have HXt : Hid (x = true) := Lib.hid (by rw [← HX.out]; exact hasId_iff.2 ⟨_, g_mem hkl, hid⟩)
        subst hA
        have hf0 := HQ.out.fz 0
        obtain ⟨m, hm⟩ : ∃ m, S.length - (k + 1) = m := ⟨_, rfl⟩
        have hc3 := HQ.out.row.le
        have hlt := HQ.out.lt
        have hcells : ∀ j t, S[j]? = some t → wr.cell? ⟨b, j * 3, none⟩ = some (.int .i64 t.id) ∧ wr.cell? ⟨b, j * 3 + 1, none⟩ = some (.int .i64 t.x) ∧ wr.cell? ⟨b, j * 3 + 2, none⟩ = some (.int .i64 t.y) := by
          rcases HQ.out.row.rt with e | ⟨b', e1, _, e3⟩
          · rw [e] at hkl; simp at hkl
          · injection e1 with e1
            injection e1 with e1
            subst e1
            exact e3
        have HCe := Lib.hid hcells
        have hw1 : IntKind.i64.wrap ((k : Int) + 1) = (k : Int) + 1 := IntWalk.i64_in _ (by omega)
        have hw2 : ((k : Int) + 1).toNat = k + 1 := by omega
        have hw3 : (0 : Int) ≤ (k : Int) + 1 := by omega
        have hw4 : (k : Int) + 1 ≤ S.length := by omega
        clear hid hcells
        by_cases hm0 : m = 0
        · subst hm0
          have hkL : k + 1 = S.length := by omega
          have HR := Lib.hid (rcut0 HQ.out hkL HId.out)
          have hck3 : (k : Int) ≤ c := by omega
          have HkL := Lib.hid hkL
          clear hkL
          by_cases hck : c = k + 1
          · subst hck
            have hck5 : (k : Int) ≤ (k : Int) + 1 := by omega
            go_wp2
            go_region_law (refine step_nothing _ rfl (.tmp 32) (.tmp 39) rfl (some ⟨b, 0, none⟩) k k (Nat.le_refl _) (by simp [Act.eval, Act.put]) (some ⟨b, 0, none⟩) 0 (by simp [Act.eval, Act.put]) ?_)
            all_goals go_wp2
            all_goals go_ret
            all_goals exact ⟨by rw [HXt.out]; rfl, HR.out⟩
          · go_wp2
            go_region_law (refine step_nothing _ rfl (.tmp 32) (.tmp 39) rfl (some ⟨b, 0, none⟩) k k (Nat.le_refl _) (by simp [Act.eval, Act.put]) (some ⟨b, (k + 1) * 3, none⟩) (c - (k + 1)) (by simp [Act.eval, Act.put]) ?_)
            all_goals go_wp2
            all_goals go_ret
            all_goals exact ⟨by rw [HXt.out]; rfl, HR.out⟩
        · have HRo : Hid (ROw wr.drew base (some ⟨b, 0, none⟩) k (S.take k)) := Lib.hid ((HQ.out.row.keep (w' := wr.drew) (Nat.le_refl _) (fun _ _ => rfl)).cut (by omega))
          have HNw : Hid (∀ j u, (tvs (S.drop (k + 1)))[j]? = some u → wr.drew.cell? ((⟨b, (k + 1) * 3, none⟩ : Addr).add j) = some u) := Lib.hid (drop_cells (k + 1) HCe.out)
          have HBs : Hid (base ≤ wr.drew.heap.size) := Lib.hid (by have := HQ.out.bg; show base ≤ wr.heap.size; omega)
          have hTl : (S.drop (k + 1)).length = m := by simp; omega
          have hTk : (S.take k).length = k := by simp; omega
          have HTl := Lib.hid hTl; have HTk := Lib.hid hTk
          have HK : Hid (∀ w3 b3 c3, Own w3 base (some ⟨b3, 0, none⟩) c3 (S.take k ++ S.drop (k + 1)) → wr.drew.grownBy w3 (blk (some ⟨b, 0, none⟩)) → (blk (some ⟨b, 0, none⟩) = some b3 ∨ wr.drew.heap.size ≤ b3) → w3.cell? ⟨gb, 0, none⟩ = some (.slice (some ⟨b, 0, none⟩) S.length c) ∧ w3.frozen? ⟨gb, 0, none⟩ = false ∧ Hid (RLeft wr base gb (some ⟨b, 0, none⟩) (del S id) (w3.setCell ⟨gb, 0, none⟩ (.slice (some ⟨b3, 0, none⟩) (k + m) c3)))) := Lib.hid (fun w3 b3 c3 k1 k2 k3 => by
            obtain ⟨r1, r2⟩ := rcut HQ.out hkl HId.out hm k1 k2 k3
            exact ⟨(World.cell?_of_block (w := wr) r1).trans hc0, (World.frozen?_of_block (w := wr) r1).trans hf0, r2⟩)
          have HM := Lib.hid hm
          have hck : ¬ c = k + 1 := by omega
          have hck2 : k + 1 ≤ c := by omega
          have hck3 : (k : Int) ≤ c := by omega
          have hck4 : (k : Int) + 1 ≤ S.length := by omega
          have hm1 : 0 < m := by omega
          have hmb : (k + m : Int) ≤ 5000 := by omega
          clear hTl hTk
          go_wp2
          go_region_law (refine step_appR _ rfl (.tmp 32) (.tmp 39) rfl base (some ⟨b, 0, none⟩) k (S.take k) (S.drop (k + 1)) k HTk.out m HTl.out (by simp [Act.eval, Act.put]) HRo.out ⟨b, (k + 1) * 3, none⟩ (c - (k + 1)) (by simp [Act.eval, Act.put]) HNw.out hm1 hmb HBs.out ?_; intro b3 c3 w3 hown3 hg3 hat3; obtain ⟨y0, y2, HL⟩ := HK.out w3 b3 c3 hown3 hg3 hat3; clear hown3 hg3 hat3)
          all_goals go_wp2
          all_goals go_ret
          all_goals exact ⟨by rw [HXt.out]; rfl, HL.out⟩
      · have hide : ((g S k).id == id) = false := by simpa using hid
        have HN2 : Hid (∀ i, i < k + 1 → (g S i).id ≠ id) := Lib.hid (fun i hi => by
          rcases (by omega : i = k ∨ i < k) with rfl | h
          · exact hid
          · exact HN.out i h)
        subst hA
        clear hid
        go_wp2
        go_roundg (S.length - (k + 1))
        · exact ⟨k + 1, by omega, rfl, by simp, rfl, HN2⟩
        · omega
    · have hkk : decide ((k : Int) < S.length) = false := by simp; omega
      have hno : hasId S id = false := by
        rw [Bool.eq_false_iff]
        intro e
        obtain ⟨i, hi, e⟩ := has_idx e
        exact HN.out i (by omega) e
      have HXf : Hid (x = false) := Lib.hid (by rw [← HX.out, hno])
      have HDn := Lib.hid (del_none hno)
      have hkk2 : ¬ (k : Int) < S.length := by omega
      clear hno hkl
      go_wp2
      go_ret
      refine ⟨by rw [HXf.out]; rfl, A, c, Lib.hid (by rw [HDn.out]; exact HQ.out), Lib.hid (Off.refl _ _), Lib.hid (fun y hy => .inl hy)⟩
end
end Go.Proofs.Ytehllnbpianpfaa.Con
