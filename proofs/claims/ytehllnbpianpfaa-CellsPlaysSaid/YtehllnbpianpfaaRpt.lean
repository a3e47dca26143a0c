/-
  The document's own Put.
-/
import Derived.Test.YtehllnbpianpfaaRdr
import Derived.Test.YtehllnbpianpfaaSmc
namespace Go.Proofs.Ytehllnbpianpfaa.Con
open Go.RowKit Cll Go.Maps

theorem rput_off (gb : Nat) (id x y : Int) (w : World) (hn : (onB x && onB y) = false) : Calls Try.prog 9 #[.pointer (some ⟨gb, 0, none⟩), .int .i64 id, pv x y] w fun e w' => e = .returned (.bool false) ∧ Below w.heap.size w w' := by
  by_cases h1 : x < 0
  · have d1 : decide (x < 0) = true := by simpa using h1
    go_enter Try.func9, Try.ntmps9
    go_wp2
    go_ret
    exact ⟨rfl, (Below.refl _ w).alloc (Nat.le_refl _) _⟩
  have d1 : decide (x < 0) = false := by simpa using h1
  by_cases h2 : x > 255
  · have d2 : decide (x > 255) = true := by simpa using h2
    go_enter Try.func9, Try.ntmps9
    go_wp2
    go_ret
    exact ⟨rfl, (Below.refl _ w).alloc (Nat.le_refl _) _⟩
  have d2 : decide (x > 255) = false := by simpa using h2
  by_cases h3 : y < 0
  · have d3 : decide (y < 0) = true := by simpa using h3
    go_enter Try.func9, Try.ntmps9
    go_wp2
    go_ret
    exact ⟨rfl, (Below.refl _ w).alloc (Nat.le_refl _) _⟩
  have d3 : decide (y < 0) = false := by simpa using h3
  have h4 : y > 255 := by
    simp [onB] at hn
    omega
  have d4 : decide (y > 255) = true := by simpa using h4
  go_enter Try.func9, Try.ntmps9
  go_wp2
  go_ret
  exact ⟨rfl, (Below.refl _ w).alloc (Nat.le_refl _) _⟩
section
variable {w : World} {base gb : Nat} {A : Option Addr} {c : Nat} {S : List Un}
/-- What is known behind the Drop. -/
structure PQ (w w1 : World) (base gb : Nat) (A A1 : Option Addr) (c1 : Nat) (S1 : List Un) (x y : Int) : Prop where
  q : RQ w1 base gb A1 c1 S1
  off : Off w w1 (rbl gb A)
  low : ∀ k ∈ rbl gb A1, k ∈ rbl gb A ∨ w.heap.size ≤ k
  box : w1.heap[w.heap.size]? = some (.cells #[.int .i64 x, .int .i64 y] 32 (0, 0))
theorem PQ.of {w1 : World} {x y : Int} {S1 : List Un} (h : RQ w base gb A c S) (hl : RLeft (w.alloc (.cells #[.int .i64 x, .int .i64 y] 32)) base gb A S1 w1) : ∃ A1 c1, PQ w w1 base gb A A1 c1 S1 x y := by
  obtain ⟨A1, c1, h1, h2, h3⟩ := hl
  refine ⟨A1, c1, h1.out, ((Off.refl w _).alloc _).same h2.out, fun k hk => ?_, ?_⟩
  · rcases h3.out k hk with e | e
    · exact .inl e
    · right; simp at e; omega
  · exact (h2.out.block _ (by simp) (fun e => by have := (h.lo' _ e).2; omega)).trans (heap_alloc_new w _)
theorem PQ.b0 {w1 : World} {A1 : Option Addr} {c1 : Nat} {S1 : List Un} {x y : Int} (h : PQ w w1 base gb A A1 c1 S1 x y) : w1.cell? ⟨w.heap.size, 0, none⟩ = some (.int .i64 x) := (cell_of_row w1 _ 0 _ 32 (0, 0) h.box).trans rfl
theorem PQ.b1 {w1 : World} {A1 : Option Addr} {c1 : Nat} {S1 : List Un} {x y : Int} (h : PQ w w1 base gb A A1 c1 S1 x y) : w1.cell? ⟨w.heap.size, 1, none⟩ = some (.int .i64 y) := (cell_of_row w1 _ 1 _ 32 (0, 0) h.box).trans rfl
/-- Only new memory has been made since. -/
theorem PQ.step {w1 w2 : World} {A1 : Option Addr} {c1 : Nat} {S1 : List Un} {x y : Int} (h : PQ w w1 base gb A A1 c1 S1 x y) (hb : Below w1.heap.size w1 w2) : PQ w w2 base gb A A1 c1 S1 x y :=
  ⟨h.q.step hb, h.off.same ⟨hb.os, hb.tape, hb.output, hb.size, fun k hk _ => hb.block k hk⟩, h.low, (hb.block _ (Array.getElem?_eq_some_iff.1 h.box).1).trans h.box⟩
/-- Behind the three appends and the store. -/
theorem PQ.done {w1 w4 : World} {A1 : Option Addr} {c1 : Nat} {S1 : List Un} {x y : Int} (h : PQ w w1 base gb A A1 c1 S1 x y) {b4 c4 n : Nat} {S4 : List Un} (hb : Below w1.heap.size w1 w4) (hown : Own w4 base (some ⟨b4, 0, none⟩) c4 S4) (hb4 : w1.heap.size ≤ b4) (hg : Cll.Good S4) (hl : (S4.length : Int) ≤ 2000) (hn : S4.length = n) : RLeft w base gb A S4 (w4.setCell ⟨gb, 0, none⟩ (.slice (some ⟨b4, 0, none⟩) n c4)) := by
  have ho : Off w1 w4 [] := ⟨hb.os, hb.tape, hb.output, hb.size, fun k hk _ => hb.block k hk⟩
  have hgb := h.q.lt
  have hsz := h.off.size
  have hq := h.q.set0 (A' := some ⟨b4, 0, none⟩) (c' := c4) ho (by simp) (ROw.of_own hown) (fun k hk => by simp [blk] at hk; omega) hg hl n hn
  refine ⟨some ⟨b4, 0, none⟩, c4, Lib.hid hq, Lib.hid ((h.off.same (ho.mono (fun x hx => by cases hx))).setCell (by simp [rbl]) _), Lib.hid (fun k hk => ?_)⟩
  simp only [rbl, blk, List.mem_cons, Option.mem_toList, Option.map_some] at hk ⊢
  rcases hk with rfl | hk
  · exact .inl (.inl rfl)
  · injection hk with hk
    right; omega
theorem below_none {a b : World} (h : a.grownBy b none) : Below a.heap.size a b := ⟨h.os, h.tape, h.output, h.size, fun k hk => h.block k hk (by simp)⟩
theorem below_new {a b c : World} {q : Option Nat} (h : Below a.heap.size a b) (k : b.grownBy c q) (hq : ∀ x, q = some x → a.heap.size ≤ x) : Below a.heap.size a c := h.grown k h.size hq
/-- A row behind an append onto nothing. -/
theorem nil_app {w : World} {base b c : Nat} {T : List Un} (h : Own w base (some ⟨b, 0, none⟩) c ([] ++ T)) : Own w base (some ⟨b, 0, none⟩) c T := h
theorem unit_new (w1 : World) (t : Un) : ∀ j u, (tvs [t])[j]? = some u → (w1.alloc (.cells #[.int .i64 t.id, .int .i64 t.x, .int .i64 t.y] 57)).cell? ((⟨w1.heap.size, 0, none⟩ : Addr).add j) = some u :=
  World.news_of_block (w := w1.alloc (.cells #[.int .i64 t.id, .int .i64 t.x, .int .i64 t.y] 57)) (heap_alloc_new w1 _)
theorem wpList_nothingN {ops : Array Oper} {rest : List Oper} {o : Oper} {a : Act} {Q : Exit → Act → World → Prop} (w : World) (hgd : o.guard = none) (s x : Operand)
    (ho : o.op = .call { callee := .builtin .append, args := #[s, x], argTypes := #[27, 27] }) (A : Option Addr) (n c : Nat) (hn : n ≤ c) (hs : a.eval s = .slice A n c) (Ax : Option Addr) (m cx : Nat) (hm : m = 0) (hx : a.eval x = .slice Ax m cx)
    (h : wpList Try.prog ops Q rest (a.put o.dst (.slice A n c)) w) : wpList Try.prog ops Q (o :: rest) a w := by
  subst hm
  exact wpList_nothing w hgd s x ho A n c hn hs Ax cx hx h
theorem own_cells {w : World} {B b : Nat} {S : List Un} (h : RT w B (some ⟨b, 0, none⟩) S) : ∀ k t, S[k]? = some t → w.cell? ⟨b, k * 3, none⟩ = some (.int .i64 t.id) ∧ w.cell? ⟨b, k * 3 + 1, none⟩ = some (.int .i64 t.x) ∧ w.cell? ⟨b, k * 3 + 2, none⟩ = some (.int .i64 t.y) := by
  rcases h with e | ⟨b', e1, _, e3⟩
  · intro k t ht; rw [e] at ht; simp at ht
  · injection e1 with e1
    injection e1 with e1
    subst e1
    exact e3
set_option maxHeartbeats 8000000 in
theorem rput_on (h : RQ w base gb A c S) (hS : (S.length : Int) < 1000) (id x y : Int) (hf : Fits id) (hxo : onB x = true) (hyo : onB y = true) : Calls Try.prog 9 #[.pointer (some ⟨gb, 0, none⟩), .int .i64 id, pv x y] w fun e w' => e = .returned (.bool true) ∧ RLeft w base gb A (ins (del S id) ⟨id, x, y⟩) w' := by
  have hx : 0 ≤ x ∧ x ≤ 255 := by simpa [onB] using hxo
  have hy : 0 ≤ y ∧ y ≤ 255 := by simpa [onB] using hyo
  have d1 : decide (x < 0) = false := by simp; omega
  have d2 : decide (x > 255) = false := by simp; omega
  have d3 : decide (y < 0) = false := by simp; omega
  have d4 : decide (y > 255) = false := by simp; omega
  have hok : Okay ⟨id, x, y⟩ := ⟨hf, hx, hy⟩
  have hgd : Cll.Good (del S id) := h.good.del id
  have hno : hasId (del S id) id = false := by
    rw [Bool.eq_false_iff]
    intro e
    obtain ⟨s, hs, e⟩ := hasId_iff.1 e
    exact (mem_del.1 hs).2 e
  have hlen : (((del S id).length : Nat) : Int) < 1000 := by have := del_len S id; omega
  have HG4 : Hid (Cll.Good (ins (del S id) ⟨id, x, y⟩)) := Lib.hid (hgd.ins hok hno)
  have HPQ := Lib.hid (fun w1 => PQ.of (w1 := w1) (x := x) (y := y) (S1 := del S id) h)
  have hb1 : Below w.heap.size w (w.alloc (.cells #[.int .i64 x, .int .i64 y] 32)) := (Below.refl _ w).alloc (Nat.le_refl _) _
  have HD := Lib.hid (fun z hz => rdrop (h.step hb1) id z hz hS)
  have HGd := Lib.hid hgd; have HNo := Lib.hid hno
  have HIn : Hid (∀ k, k ≤ (del S id).length → (∀ i, i < k → (g (del S id) i).id < id) → (k < (del S id).length → ¬ (g (del S id) k).id < id) → ins (del S id) ⟨id, x, y⟩ = (del S id).take k ++ ⟨id, x, y⟩ :: (del S id).drop k) := Lib.hid (fun k hk h1 h2 => ins_at hgd.asc hk h1 h2 hno)
  generalize ins (del S id) ⟨id, x, y⟩ = SF at HG4 HIn ⊢
  generalize del S id = S1 at *
  clear h hS hxo hyo hx hy hok hgd hno hb1
  go_enter Try.func9, Try.ntmps9
  go_wp2_with ((with_reducible refine (HD.out _ rfl).mono ?_); rintro e w1 ⟨rfl, hL⟩; obtain ⟨A1, c1, hP1⟩ := HPQ.out w1 hL; have HP1 := Lib.hid hP1; have hc0 := hP1.q.cell0; clear hL hP1)
  go_loopg [7] S1.length (fun m s7 wr => ∃ k : Nat, k ≤ S1.length ∧ m = S1.length - k ∧ s7 = .int .i64 (k : Int) ∧ wr = w1 ∧ Hid (∀ i, i < k → (g S1 i).id < id))
  case atStart => exact ⟨0, by omega, rfl, rfl, rfl, Lib.hid (fun i hi => by omega)⟩
  case round =>
    obtain ⟨k, hk, rfl, rfl, rfl, HN⟩ := hrel
    have hkp : (0 : Int) ≤ (k : Int) := by omega
    rcases HP1.out.q.row.sh with hA | ⟨b, hA⟩
    · -- no unit at all
      subst hA
      obtain ⟨hS1, hc1⟩ := HP1.out.q.row.nil rfl
      subst hS1; subst hc1
      obtain rfl : k = 0 := by simpa using hk
      have hc0' : wr.cell? ⟨gb, 0, none⟩ = some (.slice none 0 0) := hc0
      clear hc0
      have HSF : Hid ([(⟨id, x, y⟩ : Un)] = SF) := Lib.hid (by rw [HIn.out 0 (Nat.le_refl _) (fun i hi => by omega) (fun h => by simp at h)]; rfl)
      have hbs : base ≤ wr.heap.size := by have := HP1.out.q.bg; have := HP1.out.q.lt; omega
      have hbx0 := HP1.out.b0
      have hbx1 := HP1.out.b1
      have hz : decide ((0 : Int) < 0) = false := by decide
      have HFin : Hid (∀ w4 b4 c4, Below wr.heap.size wr w4 → Own w4 base (some ⟨b4, 0, none⟩) c4 SF → wr.heap.size ≤ b4 → ∀ n, SF.length = n → RLeft w base gb A SF (w4.setCell ⟨gb, 0, none⟩ (.slice (some ⟨b4, 0, none⟩) n c4))) := Lib.hid (fun w4 b4 c4 k1 k2 k3 n hn => HP1.out.done k1 k2 k3 HG4.out (by rw [← HSF.out]; simp) hn)
      have HK3 : Hid (∀ b3 c3 w3, Own w3 base (some ⟨b3, 0, none⟩) c3 ([] ++ [(⟨id, x, y⟩ : Un)]) → (wr.alloc (.cells #[.int .i64 id, .int .i64 x, .int .i64 y] 57)).grownBy w3 (blk none) → (blk none = some b3 ∨ (wr.alloc (.cells #[.int .i64 id, .int .i64 x, .int .i64 y] 57)).heap.size ≤ b3) → w3.cell? ⟨gb, 0, none⟩ = some (.slice none 0 0) ∧ w3.frozen? ⟨gb, 0, none⟩ = false ∧ Hid (Own w3 base (some ⟨b3, 0, none⟩) c3 SF) ∧ Hid (Below wr.heap.size wr w3) ∧ Hid (wr.heap.size ≤ b3)) := Lib.hid (fun b3 c3 w3 k1 k2 k3 => by
        have hB0 : Below wr.heap.size wr (wr.alloc (.cells #[.int .i64 id, .int .i64 x, .int .i64 y] 57)) := (Below.refl _ _).alloc (Nat.le_refl _) _
        have hB := below_new hB0 k2 (fun z hz => by cases hz)
        have hb3 : wr.heap.size ≤ b3 := by
          rcases k3 with e | e
          · cases e
          · have := hB0.size; omega
        have hP := HP1.out.step hB
        exact ⟨hP.q.cell0, hP.q.fz 0, Lib.hid (by rw [← HSF.out]; exact k1), Lib.hid hB, Lib.hid hb3⟩)
      go_wp2_with (first
        | (at_builtin; refine wpList_nothingN _ rfl (.tmp 51) (.tmp 57) rfl none 0 0 (Nat.le_refl _) rfl none _ 0 rfl rfl ?_)
        | (at_builtin; refine wpList_appR _ rfl (.tmp 59) (.tmp 63) rfl base none 0 [] [(⟨id, x, y⟩ : Un)] 0 rfl 1 rfl rfl (ROw.of_own (Own.nil _ _)) ⟨wr.heap.size, 0, none⟩ 1 rfl (unit_new wr (⟨id, x, y⟩ : Un)) (by omega) (by omega) (by simp; omega) ?_; intro b3 c3 w3 hown3 hg3 hat3; obtain ⟨y0, y1, HO3, HB3, Hb3⟩ := HK3.out b3 c3 w3 hown3 hg3 hat3; clear hown3 hg3 hat3)
        | (at_builtin; refine wpList_nothingN _ rfl (.tmp 66) (.tmp 72) rfl (some ⟨b3, 0, none⟩) _ c3 (by have := (ROw.of_own HO3.out).le; rw [← HSF.out] at this; simpa using this) rfl _ _ _ rfl rfl ?_))
      go_ret
      exact ⟨rfl, HFin.out w3 b3 c3 HB3.out HO3.out Hb3.out _ (by rw [← HSF.out]; rfl)⟩
    · subst hA
      have hcap := HP1.out.q.row.le
      by_cases hgo : k < S1.length ∧ (g S1 k).id < id
      · have hkl' : (k : Int) < S1.length := by omega
        obtain ⟨b', hA, hbl, e1, e2, e3⟩ := HP1.out.q.row.rt.at' hgo.1
        injection hA with hA
        injection hA with hA
        subst hA
        have hlt : decide ((g S1 k).id < id) = true := by simpa using hgo.2
        have HN2 : Hid (∀ i, i < k + 1 → (g S1 i).id < id) := Lib.hid (fun i hi => by
          rcases (by omega : i = k ∨ i < k) with rfl | h
          · exact hgo.2
          · exact HN.out i h)
        have hk1 : k + 1 ≤ S1.length := hgo.1
        clear hgo
        go_wp2
        go_roundg (S1.length - (k + 1))
        · exact ⟨k + 1, hk1, rfl, by go_num, rfl, HN2⟩
        · omega
      · have HSF := Lib.hid (HIn.out k hk HN.out (fun h1 => by by_cases h2 : (g S1 k).id < id; exact absurd ⟨h1, h2⟩ hgo; omega))
        have hgo' := hgo
        clear hgo'
        have HLF : Hid ((SF.length : Int) ≤ 1500) := Lib.hid (by rw [HSF.out]; simp; omega)
        by_cases hk0 : k = 0
        · have HK0 := Lib.hid hk0
          have HT0 : Hid (S1.take k = []) := Lib.hid (by rw [hk0]; rfl)
          clear hk0
          by_cases hkl : k < S1.length
          · skip
            have hbx0 := HP1.out.b0
            have hbx1 := HP1.out.b1
            have hkl2 : (k : Int) < S1.length := by omega
            obtain ⟨b', hA, hbl, e1, e2, e3⟩ := HP1.out.q.row.rt.at' hkl
            injection hA with hA
            injection hA with hA
            subst hA
            have hlt : decide ((g S1 k).id < id) = false := by simp; by_cases h2 : (g S1 k).id < id; exact absurd ⟨hkl, h2⟩ hgo; omega
            have hck : ¬ c1 = k := by omega
            have hm0 : 0 < S1.length - k := by omega
            obtain ⟨m, hm⟩ : ∃ m, S1.length - k = m := ⟨_, rfl⟩
            have HTd : Hid ((S1.drop k).length = m) := Lib.hid (by rw [List.length_drop]; exact hm)
            rw [hm] at hm0
            have hmb : (k + 1 + m : Int) ≤ 5000 := by omega
            have hck2 : k ≤ c1 := by omega
            have hck3 : (k : Int) ≤ c1 := by omega
            have HFin : Hid (∀ w4 b4 c4, Below wr.heap.size wr w4 → Own w4 base (some ⟨b4, 0, none⟩) c4 SF → wr.heap.size ≤ b4 → ∀ n, SF.length = n → RLeft w base gb A SF (w4.setCell ⟨gb, 0, none⟩ (.slice (some ⟨b4, 0, none⟩) n c4))) := Lib.hid (fun w4 b4 c4 k1 k2 k3 n hn => HP1.out.done k1 k2 k3 HG4.out (by have := HLF.out; omega) hn)
            have hbs : base ≤ wr.heap.size := by have := HP1.out.q.bg; have := HP1.out.q.lt; omega
            have HK3 : Hid (∀ b3 c3 w3, Own w3 base (some ⟨b3, 0, none⟩) c3 ([] ++ [(⟨id, x, y⟩ : Un)]) → (wr.alloc (.cells #[.int .i64 id, .int .i64 x, .int .i64 y] 57)).grownBy w3 (blk none) → (blk none = some b3 ∨ (wr.alloc (.cells #[.int .i64 id, .int .i64 x, .int .i64 y] 57)).heap.size ≤ b3) → w3.cell? ⟨gb, 0, none⟩ = some (.slice (some ⟨b, 0, none⟩) S1.length c1) ∧ w3.frozen? ⟨gb, 0, none⟩ = false ∧ Hid (Own w3 base (some ⟨b3, 0, none⟩) c3 (S1.take k ++ [(⟨id, x, y⟩ : Un)])) ∧ Hid (Below wr.heap.size wr w3) ∧ Hid (wr.heap.size ≤ b3) ∧ Hid (∀ j u, (tvs (S1.drop k))[j]? = some u → w3.cell? ((⟨b, k * 3, none⟩ : Addr).add j) = some u)) := Lib.hid (fun  b3 c3 w3 k1 k2 k3 => by
              have hB0 : Below wr.heap.size wr (wr.alloc (.cells #[.int .i64 id, .int .i64 x, .int .i64 y] 57)) := (Below.refl _ _).alloc (Nat.le_refl _) _
              have hB := below_new hB0 k2 (fun z hz => by cases hz)
              have hb3 : wr.heap.size ≤ b3 := by
                rcases k3 with e | e
                · cases e
                · have := hB0.size; omega
              have hP := HP1.out.step hB
              exact ⟨hP.q.cell0, hP.q.fz 0, Lib.hid (by rw [HT0.out]; exact k1), Lib.hid hB, Lib.hid hb3, Lib.hid (drop_cells k (own_cells hP.q.row.rt))⟩)
            have HSFe : Hid ((S1.take k ++ [(⟨id, x, y⟩ : Un)]) ++ S1.drop k = SF) := Lib.hid (by rw [HSF.out]; simp)
            have HS3 : Hid ((S1.take k ++ [(⟨id, x, y⟩ : Un)]).length = k + 1) := Lib.hid (by simp; omega)
            have HK4 : Hid (∀ w3 b3, Below wr.heap.size wr w3 → wr.heap.size ≤ b3 → ∀ b4 c4 w4, Own w4 base (some ⟨b4, 0, none⟩) c4 ((S1.take k ++ [(⟨id, x, y⟩ : Un)]) ++ S1.drop k) → w3.grownBy w4 (blk (some ⟨b3, 0, none⟩)) → (blk (some ⟨b3, 0, none⟩) = some b4 ∨ w3.heap.size ≤ b4) → w4.cell? ⟨gb, 0, none⟩ = some (.slice (some ⟨b, 0, none⟩) S1.length c1) ∧ w4.frozen? ⟨gb, 0, none⟩ = false ∧ Hid (∀ n, SF.length = n → RLeft w base gb A SF (w4.setCell ⟨gb, 0, none⟩ (.slice (some ⟨b4, 0, none⟩) n c4)))) := Lib.hid (fun w3 b3 q1 q2 b4 c4 w4 k1 k2 k3 => by
              have hB := below_new q1 k2 (fun z hz => by injection hz with hz; have hz2 : b3 = z := hz; omega)
              have hb4 : wr.heap.size ≤ b4 := by
                rcases k3 with e | e
                · injection e with e; have e2 : b3 = b4 := e; omega
                · have := q1.size; omega
              have hP := HP1.out.step hB
              rw [HSFe.out] at k1
              exact ⟨hP.q.cell0, hP.q.fz 0, Lib.hid (fun n hn => HFin.out w4 b4 c4 hB k1 hb4 n hn)⟩)
            go_wp2_with (first
              | (at_builtin; refine wpList_nothingN _ rfl (.tmp 51) (.tmp 57) rfl none 0 0 (Nat.le_refl _) rfl (some ⟨b, 0, none⟩) _ c1 HK0.out rfl ?_)
              | (at_builtin; refine wpList_appR _ rfl (.tmp 59) (.tmp 63) rfl base none 0 [] [(⟨id, x, y⟩ : Un)] 0 rfl 1 rfl rfl (ROw.of_own (Own.nil _ _)) ⟨wr.heap.size, 0, none⟩ 1 rfl (unit_new wr (⟨id, x, y⟩ : Un)) (by omega) (by omega) (by simp; omega) ?_; intro b3 c3 w3 hown3 hg3 hat3; obtain ⟨y0, y1, HO3, HB3, Hb3, HN3⟩ := HK3.out b3 c3 w3 hown3 hg3 hat3; have hbs3 : base ≤ w3.heap.size := (by have := HB3.out.size; omega); clear hown3 hg3 hat3)
              | (at_builtin; refine wpList_appR _ rfl (.tmp 66) (.tmp 72) rfl base (some ⟨b3, 0, none⟩) c3 (S1.take k ++ [(⟨id, x, y⟩ : Un)]) (S1.drop k) _ (by have := HS3.out; have := HK0.out; omega) m HTd.out rfl (ROw.of_own HO3.out) ⟨b, k * 3, none⟩ (c1 - k) rfl HN3.out hm0 (by omega) hbs3 ?_; intro b4 c4 w4 hown4 hg4 hat4; obtain ⟨z0, z1, HL⟩ := HK4.out w3 b3 HB3.out Hb3.out b4 c4 w4 hown4 hg4 hat4; clear hown4 hg4 hat4))
            go_ret
            exact ⟨rfl, HL.out _ (by have h9 := congrArg List.length HSFe.out; rw [List.length_append, HS3.out, HTd.out] at h9; have := HK0.out; omega)⟩

          · by_cases hck : c1 = k
            · skip
              have hbx0 := HP1.out.b0
              have hbx1 := HP1.out.b1
              have hkl2 : ¬ (k : Int) < S1.length := by omega
              have hkl3 : decide ((k : Int) < S1.length) = false := by simp; omega
              have HDr : Hid (S1.drop k = []) := Lib.hid (List.drop_of_length_le (by omega))
              subst hck
              have hck2 : c1 ≤ c1 := by omega
              have hck3 : (c1 : Int) ≤ c1 := by omega
              have HFin : Hid (∀ w4 b4 c4, Below wr.heap.size wr w4 → Own w4 base (some ⟨b4, 0, none⟩) c4 SF → wr.heap.size ≤ b4 → ∀ n, SF.length = n → RLeft w base gb A SF (w4.setCell ⟨gb, 0, none⟩ (.slice (some ⟨b4, 0, none⟩) n c4))) := Lib.hid (fun w4 b4 c4 k1 k2 k3 n hn => HP1.out.done k1 k2 k3 HG4.out (by have := HLF.out; omega) hn)
              have hbs : base ≤ wr.heap.size := by have := HP1.out.q.bg; have := HP1.out.q.lt; omega
              have HK3 : Hid (∀ b3 c3 w3, Own w3 base (some ⟨b3, 0, none⟩) c3 ([] ++ [(⟨id, x, y⟩ : Un)]) → (wr.alloc (.cells #[.int .i64 id, .int .i64 x, .int .i64 y] 57)).grownBy w3 (blk none) → (blk none = some b3 ∨ (wr.alloc (.cells #[.int .i64 id, .int .i64 x, .int .i64 y] 57)).heap.size ≤ b3) → w3.cell? ⟨gb, 0, none⟩ = some (.slice (some ⟨b, 0, none⟩) S1.length c1) ∧ w3.frozen? ⟨gb, 0, none⟩ = false ∧ Hid (Own w3 base (some ⟨b3, 0, none⟩) c3 (S1.take c1 ++ [(⟨id, x, y⟩ : Un)])) ∧ Hid (Below wr.heap.size wr w3) ∧ Hid (wr.heap.size ≤ b3) ∧ Hid (∀ j u, (tvs (S1.drop c1))[j]? = some u → w3.cell? ((⟨b, c1 * 3, none⟩ : Addr).add j) = some u)) := Lib.hid (fun  b3 c3 w3 k1 k2 k3 => by
                have hB0 : Below wr.heap.size wr (wr.alloc (.cells #[.int .i64 id, .int .i64 x, .int .i64 y] 57)) := (Below.refl _ _).alloc (Nat.le_refl _) _
                have hB := below_new hB0 k2 (fun z hz => by cases hz)
                have hb3 : wr.heap.size ≤ b3 := by
                  rcases k3 with e | e
                  · cases e
                  · have := hB0.size; omega
                have hP := HP1.out.step hB
                exact ⟨hP.q.cell0, hP.q.fz 0, Lib.hid (by rw [HT0.out]; exact k1), Lib.hid hB, Lib.hid hb3, Lib.hid (drop_cells c1 (own_cells hP.q.row.rt))⟩)
              have HSFe : Hid (S1.take c1 ++ [(⟨id, x, y⟩ : Un)] = SF) := Lib.hid (by rw [HSF.out, HDr.out])
              have HS3 : Hid ((S1.take c1 ++ [(⟨id, x, y⟩ : Un)]).length = c1 + 1) := Lib.hid (by simp; omega)
              go_wp2_with (first
                | (at_builtin; refine wpList_nothingN _ rfl (.tmp 51) (.tmp 57) rfl none 0 0 (Nat.le_refl _) rfl (some ⟨b, 0, none⟩) _ c1 HK0.out rfl ?_)
                | (at_builtin; refine wpList_appR _ rfl (.tmp 59) (.tmp 63) rfl base none 0 [] [(⟨id, x, y⟩ : Un)] 0 rfl 1 rfl rfl (ROw.of_own (Own.nil _ _)) ⟨wr.heap.size, 0, none⟩ 1 rfl (unit_new wr (⟨id, x, y⟩ : Un)) (by omega) (by omega) (by simp; omega) ?_; intro b3 c3 w3 hown3 hg3 hat3; obtain ⟨y0, y1, HO3, HB3, Hb3, HN3⟩ := HK3.out b3 c3 w3 hown3 hg3 hat3; have hbs3 : base ≤ w3.heap.size := (by have := HB3.out.size; omega); clear hown3 hg3 hat3)
                | (at_builtin; refine wpList_nothingN _ rfl (.tmp 66) (.tmp 72) rfl (some ⟨b3, 0, none⟩) _ c3 (by have := HO3.out; have := (ROw.of_own this).le; have := HS3.out; have := HK0.out; omega) rfl _ _ _ (by omega) rfl ?_))
              go_ret
              exact ⟨rfl, HFin.out w3 b3 c3 HB3.out (by rw [← HSFe.out]; exact HO3.out) Hb3.out _ (by have h9 := congrArg List.length HSFe.out; rw [HS3.out] at h9; have := HK0.out; omega)⟩

            · skip
              have hbx0 := HP1.out.b0
              have hbx1 := HP1.out.b1
              have hkl2 : ¬ (k : Int) < S1.length := by omega
              have hkl3 : decide ((k : Int) < S1.length) = false := by simp; omega
              have HDr : Hid (S1.drop k = []) := Lib.hid (List.drop_of_length_le (by omega))
              have hck2 : k ≤ c1 := by omega
              have hck3 : (k : Int) ≤ c1 := by omega
              have HFin : Hid (∀ w4 b4 c4, Below wr.heap.size wr w4 → Own w4 base (some ⟨b4, 0, none⟩) c4 SF → wr.heap.size ≤ b4 → ∀ n, SF.length = n → RLeft w base gb A SF (w4.setCell ⟨gb, 0, none⟩ (.slice (some ⟨b4, 0, none⟩) n c4))) := Lib.hid (fun w4 b4 c4 k1 k2 k3 n hn => HP1.out.done k1 k2 k3 HG4.out (by have := HLF.out; omega) hn)
              have hbs : base ≤ wr.heap.size := by have := HP1.out.q.bg; have := HP1.out.q.lt; omega
              have HK3 : Hid (∀ b3 c3 w3, Own w3 base (some ⟨b3, 0, none⟩) c3 ([] ++ [(⟨id, x, y⟩ : Un)]) → (wr.alloc (.cells #[.int .i64 id, .int .i64 x, .int .i64 y] 57)).grownBy w3 (blk none) → (blk none = some b3 ∨ (wr.alloc (.cells #[.int .i64 id, .int .i64 x, .int .i64 y] 57)).heap.size ≤ b3) → w3.cell? ⟨gb, 0, none⟩ = some (.slice (some ⟨b, 0, none⟩) S1.length c1) ∧ w3.frozen? ⟨gb, 0, none⟩ = false ∧ Hid (Own w3 base (some ⟨b3, 0, none⟩) c3 (S1.take k ++ [(⟨id, x, y⟩ : Un)])) ∧ Hid (Below wr.heap.size wr w3) ∧ Hid (wr.heap.size ≤ b3) ∧ Hid (∀ j u, (tvs (S1.drop k))[j]? = some u → w3.cell? ((⟨b, k * 3, none⟩ : Addr).add j) = some u)) := Lib.hid (fun  b3 c3 w3 k1 k2 k3 => by
                have hB0 : Below wr.heap.size wr (wr.alloc (.cells #[.int .i64 id, .int .i64 x, .int .i64 y] 57)) := (Below.refl _ _).alloc (Nat.le_refl _) _
                have hB := below_new hB0 k2 (fun z hz => by cases hz)
                have hb3 : wr.heap.size ≤ b3 := by
                  rcases k3 with e | e
                  · cases e
                  · have := hB0.size; omega
                have hP := HP1.out.step hB
                exact ⟨hP.q.cell0, hP.q.fz 0, Lib.hid (by rw [HT0.out]; exact k1), Lib.hid hB, Lib.hid hb3, Lib.hid (drop_cells k (own_cells hP.q.row.rt))⟩)
              have HSFe : Hid (S1.take k ++ [(⟨id, x, y⟩ : Un)] = SF) := Lib.hid (by rw [HSF.out, HDr.out])
              have HS3 : Hid ((S1.take k ++ [(⟨id, x, y⟩ : Un)]).length = k + 1) := Lib.hid (by simp; omega)
              go_wp2_with (first
                | (at_builtin; refine wpList_nothingN _ rfl (.tmp 51) (.tmp 57) rfl none 0 0 (Nat.le_refl _) rfl (some ⟨b, 0, none⟩) _ c1 HK0.out rfl ?_)
                | (at_builtin; refine wpList_appR _ rfl (.tmp 59) (.tmp 63) rfl base none 0 [] [(⟨id, x, y⟩ : Un)] 0 rfl 1 rfl rfl (ROw.of_own (Own.nil _ _)) ⟨wr.heap.size, 0, none⟩ 1 rfl (unit_new wr (⟨id, x, y⟩ : Un)) (by omega) (by omega) (by simp; omega) ?_; intro b3 c3 w3 hown3 hg3 hat3; obtain ⟨y0, y1, HO3, HB3, Hb3, HN3⟩ := HK3.out b3 c3 w3 hown3 hg3 hat3; have hbs3 : base ≤ w3.heap.size := (by have := HB3.out.size; omega); clear hown3 hg3 hat3)
                | (at_builtin; refine wpList_nothingN _ rfl (.tmp 66) (.tmp 72) rfl (some ⟨b3, 0, none⟩) _ c3 (by have := HO3.out; have := (ROw.of_own this).le; have := HS3.out; have := HK0.out; omega) rfl _ _ _ (by omega) rfl ?_))
              go_ret
              exact ⟨rfl, HFin.out w3 b3 c3 HB3.out (by rw [← HSFe.out]; exact HO3.out) Hb3.out _ (by have h9 := congrArg List.length HSFe.out; rw [HS3.out] at h9; have := HK0.out; omega)⟩

        · have HK0 : Hid True := Lib.hid trivial
          have hk00 : 0 < k := by omega
          by_cases hkl : k < S1.length
          · skip
            have hkl2 : (k : Int) < S1.length := by omega
            obtain ⟨b', hA, hbl, e1, e2, e3⟩ := HP1.out.q.row.rt.at' hkl
            injection hA with hA
            injection hA with hA
            subst hA
            have hlt : decide ((g S1 k).id < id) = false := by simp; by_cases h2 : (g S1 k).id < id; exact absurd ⟨hkl, h2⟩ hgo; omega
            have hck : ¬ c1 = k := by omega
            have hm0 : 0 < S1.length - k := by omega
            obtain ⟨m, hm⟩ : ∃ m, S1.length - k = m := ⟨_, rfl⟩
            have HTd : Hid ((S1.drop k).length = m) := Lib.hid (by rw [List.length_drop]; exact hm)
            rw [hm] at hm0
            have hmb : (k + 1 + m : Int) ≤ 5000 := by omega
            have hck2 : k ≤ c1 := by omega
            have hck3 : (k : Int) ≤ c1 := by omega
            have HFin : Hid (∀ w4 b4 c4, Below wr.heap.size wr w4 → Own w4 base (some ⟨b4, 0, none⟩) c4 SF → wr.heap.size ≤ b4 → ∀ n, SF.length = n → RLeft w base gb A SF (w4.setCell ⟨gb, 0, none⟩ (.slice (some ⟨b4, 0, none⟩) n c4))) := Lib.hid (fun w4 b4 c4 k1 k2 k3 n hn => HP1.out.done k1 k2 k3 HG4.out (by have := HLF.out; omega) hn)
            have hbs : base ≤ wr.heap.size := by have := HP1.out.q.bg; have := HP1.out.q.lt; omega
            have hkpos : 0 < k := by omega
            have HTk : Hid ((S1.take k).length = k) := Lib.hid (by simp; omega)
            have HNt : Hid (∀ j u, (tvs (S1.take k))[j]? = some u → wr.cell? ((⟨b, 0, none⟩ : Addr).add j) = some u) := Lib.hid (fun j u hu => by
              rw [add_none, Nat.zero_add]
              rcases HP1.out.q.row.rt.take k with e | ⟨b', e1, _, e3⟩
              · rw [e] at hu; simp [tvs] at hu
              · injection e1 with e1
                injection e1 with e1
                subst e1
                exact tvs_cells e3 j u hu)
            have HK2 : Hid (∀ b2 c2 w2, Own w2 base (some ⟨b2, 0, none⟩) c2 ([] ++ S1.take k) → wr.grownBy w2 (blk none) → (blk none = some b2 ∨ wr.heap.size ≤ b2) → w2.cell? ⟨gb, 0, none⟩ = some (.slice (some ⟨b, 0, none⟩) S1.length c1) ∧ w2.cell? ⟨w.heap.size, 0, none⟩ = some (.int .i64 x) ∧ w2.cell? ⟨w.heap.size, 1, none⟩ = some (.int .i64 y) ∧ Hid (Own w2 base (some ⟨b2, 0, none⟩) c2 (S1.take k)) ∧ Hid (Below wr.heap.size wr w2) ∧ Hid (wr.heap.size ≤ b2)) := Lib.hid (fun b2 c2 w2 k1 k2 k3 => by
              have hB := below_none k2
              have hb2 : wr.heap.size ≤ b2 := by rcases k3 with e | e; cases e; exact e
              have hP := HP1.out.step hB
              exact ⟨hP.q.cell0, hP.b0, hP.b1, Lib.hid (nil_app k1), Lib.hid hB, Lib.hid hb2⟩)
            have HK3 : Hid (∀ w2 b2, Below wr.heap.size wr w2 → wr.heap.size ≤ b2 → ∀ b3 c3 w3, Own w3 base (some ⟨b3, 0, none⟩) c3 (S1.take k ++ [(⟨id, x, y⟩ : Un)]) → (w2.alloc (.cells #[.int .i64 id, .int .i64 x, .int .i64 y] 57)).grownBy w3 (blk (some ⟨b2, 0, none⟩)) → (blk (some ⟨b2, 0, none⟩) = some b3 ∨ (w2.alloc (.cells #[.int .i64 id, .int .i64 x, .int .i64 y] 57)).heap.size ≤ b3) → w3.cell? ⟨gb, 0, none⟩ = some (.slice (some ⟨b, 0, none⟩) S1.length c1) ∧ w3.frozen? ⟨gb, 0, none⟩ = false ∧ Hid (Own w3 base (some ⟨b3, 0, none⟩) c3 (S1.take k ++ [(⟨id, x, y⟩ : Un)])) ∧ Hid (Below wr.heap.size wr w3) ∧ Hid (wr.heap.size ≤ b3) ∧ Hid (∀ j u, (tvs (S1.drop k))[j]? = some u → w3.cell? ((⟨b, k * 3, none⟩ : Addr).add j) = some u)) := Lib.hid (fun w2 b2 q1 q2 b3 c3 w3 k1 k2 k3 => by
              have hB0 : Below wr.heap.size wr (w2.alloc (.cells #[.int .i64 id, .int .i64 x, .int .i64 y] 57)) := q1.alloc q1.size _
              have hB := below_new hB0 k2 (fun z hz => by injection hz with hz; have hz2 : b2 = z := hz; omega)
              have hb3 : wr.heap.size ≤ b3 := by
                rcases k3 with e | e
                · injection e with e; have e2 : b2 = b3 := e; omega
                · have := hB0.size; omega
              have hP := HP1.out.step hB
              exact ⟨hP.q.cell0, hP.q.fz 0, Lib.hid (k1), Lib.hid hB, Lib.hid hb3, Lib.hid (drop_cells k (own_cells hP.q.row.rt))⟩)
            have HSFe : Hid ((S1.take k ++ [(⟨id, x, y⟩ : Un)]) ++ S1.drop k = SF) := Lib.hid (by rw [HSF.out]; simp)
            have HS3 : Hid ((S1.take k ++ [(⟨id, x, y⟩ : Un)]).length = k + 1) := Lib.hid (by simp; omega)
            have HK4 : Hid (∀ w3 b3, Below wr.heap.size wr w3 → wr.heap.size ≤ b3 → ∀ b4 c4 w4, Own w4 base (some ⟨b4, 0, none⟩) c4 ((S1.take k ++ [(⟨id, x, y⟩ : Un)]) ++ S1.drop k) → w3.grownBy w4 (blk (some ⟨b3, 0, none⟩)) → (blk (some ⟨b3, 0, none⟩) = some b4 ∨ w3.heap.size ≤ b4) → w4.cell? ⟨gb, 0, none⟩ = some (.slice (some ⟨b, 0, none⟩) S1.length c1) ∧ w4.frozen? ⟨gb, 0, none⟩ = false ∧ Hid (∀ n, SF.length = n → RLeft w base gb A SF (w4.setCell ⟨gb, 0, none⟩ (.slice (some ⟨b4, 0, none⟩) n c4)))) := Lib.hid (fun w3 b3 q1 q2 b4 c4 w4 k1 k2 k3 => by
              have hB := below_new q1 k2 (fun z hz => by injection hz with hz; have hz2 : b3 = z := hz; omega)
              have hb4 : wr.heap.size ≤ b4 := by
                rcases k3 with e | e
                · injection e with e; have e2 : b3 = b4 := e; omega
                · have := q1.size; omega
              have hP := HP1.out.step hB
              rw [HSFe.out] at k1
              exact ⟨hP.q.cell0, hP.q.fz 0, Lib.hid (fun n hn => HFin.out w4 b4 c4 hB k1 hb4 n hn)⟩)
            go_wp2_with (first
              | (at_builtin; refine wpList_appR _ rfl (.tmp 51) (.tmp 57) rfl base none 0 [] (S1.take k) 0 rfl k HTk.out rfl (ROw.of_own (Own.nil _ _)) ⟨b, 0, none⟩ c1 rfl HNt.out hkpos (by omega) hbs ?_; intro b2 c2 w2 hown2 hg2 hat2; obtain ⟨x0, x1, x2, HO2, HB2, Hb2⟩ := HK2.out b2 c2 w2 hown2 hg2 hat2; have hbs2 : base ≤ w2.heap.size := (by have := HB2.out.size; omega); clear hown2 hg2 hat2)
              | (at_builtin; refine wpList_appR _ rfl (.tmp 59) (.tmp 63) rfl base (some ⟨b2, 0, none⟩) c2 (S1.take k) [(⟨id, x, y⟩ : Un)] _ (by have := HTk.out; omega) 1 rfl rfl (ROw.of_own (HO2.out.keep (fun k hk => Below.heap_alloc _ _ k (HO2.out.lt k hk).2))) ⟨w2.heap.size, 0, none⟩ 1 rfl (unit_new w2 (⟨id, x, y⟩ : Un)) (by omega) (by omega) (by simp; omega) ?_; intro b3 c3 w3 hown3 hg3 hat3; obtain ⟨y0, y1, HO3, HB3, Hb3, HN3⟩ := HK3.out w2 b2 HB2.out Hb2.out b3 c3 w3 hown3 hg3 hat3; have hbs3 : base ≤ w3.heap.size := (by have := HB3.out.size; omega); clear hown3 hg3 hat3)
              | (at_builtin; refine wpList_appR _ rfl (.tmp 66) (.tmp 72) rfl base (some ⟨b3, 0, none⟩) c3 (S1.take k ++ [(⟨id, x, y⟩ : Un)]) (S1.drop k) _ (by have := HS3.out; have := HK0.out; omega) m HTd.out rfl (ROw.of_own HO3.out) ⟨b, k * 3, none⟩ (c1 - k) rfl HN3.out hm0 (by omega) hbs3 ?_; intro b4 c4 w4 hown4 hg4 hat4; obtain ⟨z0, z1, HL⟩ := HK4.out w3 b3 HB3.out Hb3.out b4 c4 w4 hown4 hg4 hat4; clear hown4 hg4 hat4))
            go_ret
            exact ⟨rfl, HL.out _ (by have h9 := congrArg List.length HSFe.out; rw [List.length_append, HS3.out, HTd.out] at h9; have := HK0.out; omega)⟩

          · by_cases hck : c1 = k
            · skip
              have hkl2 : ¬ (k : Int) < S1.length := by omega
              have hkl3 : decide ((k : Int) < S1.length) = false := by simp; omega
              have HDr : Hid (S1.drop k = []) := Lib.hid (List.drop_of_length_le (by omega))
              subst hck
              have hck2 : c1 ≤ c1 := by omega
              have hck3 : (c1 : Int) ≤ c1 := by omega
              have HFin : Hid (∀ w4 b4 c4, Below wr.heap.size wr w4 → Own w4 base (some ⟨b4, 0, none⟩) c4 SF → wr.heap.size ≤ b4 → ∀ n, SF.length = n → RLeft w base gb A SF (w4.setCell ⟨gb, 0, none⟩ (.slice (some ⟨b4, 0, none⟩) n c4))) := Lib.hid (fun w4 b4 c4 k1 k2 k3 n hn => HP1.out.done k1 k2 k3 HG4.out (by have := HLF.out; omega) hn)
              have hbs : base ≤ wr.heap.size := by have := HP1.out.q.bg; have := HP1.out.q.lt; omega
              have hkpos : 0 < c1 := by omega
              have HTk : Hid ((S1.take c1).length = c1) := Lib.hid (by simp; omega)
              have HNt : Hid (∀ j u, (tvs (S1.take c1))[j]? = some u → wr.cell? ((⟨b, 0, none⟩ : Addr).add j) = some u) := Lib.hid (fun j u hu => by
                rw [add_none, Nat.zero_add]
                rcases HP1.out.q.row.rt.take c1 with e | ⟨b', e1, _, e3⟩
                · rw [e] at hu; simp [tvs] at hu
                · injection e1 with e1
                  injection e1 with e1
                  subst e1
                  exact tvs_cells e3 j u hu)
              have HK2 : Hid (∀ b2 c2 w2, Own w2 base (some ⟨b2, 0, none⟩) c2 ([] ++ S1.take c1) → wr.grownBy w2 (blk none) → (blk none = some b2 ∨ wr.heap.size ≤ b2) → w2.cell? ⟨gb, 0, none⟩ = some (.slice (some ⟨b, 0, none⟩) S1.length c1) ∧ w2.cell? ⟨w.heap.size, 0, none⟩ = some (.int .i64 x) ∧ w2.cell? ⟨w.heap.size, 1, none⟩ = some (.int .i64 y) ∧ Hid (Own w2 base (some ⟨b2, 0, none⟩) c2 (S1.take c1)) ∧ Hid (Below wr.heap.size wr w2) ∧ Hid (wr.heap.size ≤ b2)) := Lib.hid (fun b2 c2 w2 k1 k2 k3 => by
                have hB := below_none k2
                have hb2 : wr.heap.size ≤ b2 := by rcases k3 with e | e; cases e; exact e
                have hP := HP1.out.step hB
                exact ⟨hP.q.cell0, hP.b0, hP.b1, Lib.hid (nil_app k1), Lib.hid hB, Lib.hid hb2⟩)
              have HK3 : Hid (∀ w2 b2, Below wr.heap.size wr w2 → wr.heap.size ≤ b2 → ∀ b3 c3 w3, Own w3 base (some ⟨b3, 0, none⟩) c3 (S1.take c1 ++ [(⟨id, x, y⟩ : Un)]) → (w2.alloc (.cells #[.int .i64 id, .int .i64 x, .int .i64 y] 57)).grownBy w3 (blk (some ⟨b2, 0, none⟩)) → (blk (some ⟨b2, 0, none⟩) = some b3 ∨ (w2.alloc (.cells #[.int .i64 id, .int .i64 x, .int .i64 y] 57)).heap.size ≤ b3) → w3.cell? ⟨gb, 0, none⟩ = some (.slice (some ⟨b, 0, none⟩) S1.length c1) ∧ w3.frozen? ⟨gb, 0, none⟩ = false ∧ Hid (Own w3 base (some ⟨b3, 0, none⟩) c3 (S1.take c1 ++ [(⟨id, x, y⟩ : Un)])) ∧ Hid (Below wr.heap.size wr w3) ∧ Hid (wr.heap.size ≤ b3) ∧ Hid (∀ j u, (tvs (S1.drop c1))[j]? = some u → w3.cell? ((⟨b, c1 * 3, none⟩ : Addr).add j) = some u)) := Lib.hid (fun w2 b2 q1 q2 b3 c3 w3 k1 k2 k3 => by
                have hB0 : Below wr.heap.size wr (w2.alloc (.cells #[.int .i64 id, .int .i64 x, .int .i64 y] 57)) := q1.alloc q1.size _
                have hB := below_new hB0 k2 (fun z hz => by injection hz with hz; have hz2 : b2 = z := hz; omega)
                have hb3 : wr.heap.size ≤ b3 := by
                  rcases k3 with e | e
                  · injection e with e; have e2 : b2 = b3 := e; omega
                  · have := hB0.size; omega
                have hP := HP1.out.step hB
                exact ⟨hP.q.cell0, hP.q.fz 0, Lib.hid (k1), Lib.hid hB, Lib.hid hb3, Lib.hid (drop_cells c1 (own_cells hP.q.row.rt))⟩)
              have HSFe : Hid (S1.take c1 ++ [(⟨id, x, y⟩ : Un)] = SF) := Lib.hid (by rw [HSF.out, HDr.out])
              have HS3 : Hid ((S1.take c1 ++ [(⟨id, x, y⟩ : Un)]).length = c1 + 1) := Lib.hid (by simp; omega)
              go_wp2_with (first
                | (at_builtin; refine wpList_appR _ rfl (.tmp 51) (.tmp 57) rfl base none 0 [] (S1.take c1) 0 rfl c1 HTk.out rfl (ROw.of_own (Own.nil _ _)) ⟨b, 0, none⟩ c1 rfl HNt.out hkpos (by omega) hbs ?_; intro b2 c2 w2 hown2 hg2 hat2; obtain ⟨x0, x1, x2, HO2, HB2, Hb2⟩ := HK2.out b2 c2 w2 hown2 hg2 hat2; have hbs2 : base ≤ w2.heap.size := (by have := HB2.out.size; omega); clear hown2 hg2 hat2)
                | (at_builtin; refine wpList_appR _ rfl (.tmp 59) (.tmp 63) rfl base (some ⟨b2, 0, none⟩) c2 (S1.take c1) [(⟨id, x, y⟩ : Un)] _ (by have := HTk.out; omega) 1 rfl rfl (ROw.of_own (HO2.out.keep (fun k hk => Below.heap_alloc _ _ k (HO2.out.lt k hk).2))) ⟨w2.heap.size, 0, none⟩ 1 rfl (unit_new w2 (⟨id, x, y⟩ : Un)) (by omega) (by omega) (by simp; omega) ?_; intro b3 c3 w3 hown3 hg3 hat3; obtain ⟨y0, y1, HO3, HB3, Hb3, HN3⟩ := HK3.out w2 b2 HB2.out Hb2.out b3 c3 w3 hown3 hg3 hat3; have hbs3 : base ≤ w3.heap.size := (by have := HB3.out.size; omega); clear hown3 hg3 hat3)
                | (at_builtin; refine wpList_nothingN _ rfl (.tmp 66) (.tmp 72) rfl (some ⟨b3, 0, none⟩) _ c3 (by have := HO3.out; have := (ROw.of_own this).le; have := HS3.out; have := HK0.out; omega) rfl _ _ _ (by omega) rfl ?_))
              go_ret
              exact ⟨rfl, HFin.out w3 b3 c3 HB3.out (by rw [← HSFe.out]; exact HO3.out) Hb3.out _ (by have h9 := congrArg List.length HSFe.out; rw [HS3.out] at h9; have := HK0.out; omega)⟩

            · skip
              have hkl2 : ¬ (k : Int) < S1.length := by omega
              have hkl3 : decide ((k : Int) < S1.length) = false := by simp; omega
              have HDr : Hid (S1.drop k = []) := Lib.hid (List.drop_of_length_le (by omega))
              have hck2 : k ≤ c1 := by omega
              have hck3 : (k : Int) ≤ c1 := by omega
              have HFin : Hid (∀ w4 b4 c4, Below wr.heap.size wr w4 → Own w4 base (some ⟨b4, 0, none⟩) c4 SF → wr.heap.size ≤ b4 → ∀ n, SF.length = n → RLeft w base gb A SF (w4.setCell ⟨gb, 0, none⟩ (.slice (some ⟨b4, 0, none⟩) n c4))) := Lib.hid (fun w4 b4 c4 k1 k2 k3 n hn => HP1.out.done k1 k2 k3 HG4.out (by have := HLF.out; omega) hn)
              have hbs : base ≤ wr.heap.size := by have := HP1.out.q.bg; have := HP1.out.q.lt; omega
              have hkpos : 0 < k := by omega
              have HTk : Hid ((S1.take k).length = k) := Lib.hid (by simp; omega)
              have HNt : Hid (∀ j u, (tvs (S1.take k))[j]? = some u → wr.cell? ((⟨b, 0, none⟩ : Addr).add j) = some u) := Lib.hid (fun j u hu => by
                rw [add_none, Nat.zero_add]
                rcases HP1.out.q.row.rt.take k with e | ⟨b', e1, _, e3⟩
                · rw [e] at hu; simp [tvs] at hu
                · injection e1 with e1
                  injection e1 with e1
                  subst e1
                  exact tvs_cells e3 j u hu)
              have HK2 : Hid (∀ b2 c2 w2, Own w2 base (some ⟨b2, 0, none⟩) c2 ([] ++ S1.take k) → wr.grownBy w2 (blk none) → (blk none = some b2 ∨ wr.heap.size ≤ b2) → w2.cell? ⟨gb, 0, none⟩ = some (.slice (some ⟨b, 0, none⟩) S1.length c1) ∧ w2.cell? ⟨w.heap.size, 0, none⟩ = some (.int .i64 x) ∧ w2.cell? ⟨w.heap.size, 1, none⟩ = some (.int .i64 y) ∧ Hid (Own w2 base (some ⟨b2, 0, none⟩) c2 (S1.take k)) ∧ Hid (Below wr.heap.size wr w2) ∧ Hid (wr.heap.size ≤ b2)) := Lib.hid (fun b2 c2 w2 k1 k2 k3 => by
                have hB := below_none k2
                have hb2 : wr.heap.size ≤ b2 := by rcases k3 with e | e; cases e; exact e
                have hP := HP1.out.step hB
                exact ⟨hP.q.cell0, hP.b0, hP.b1, Lib.hid (nil_app k1), Lib.hid hB, Lib.hid hb2⟩)
              have HK3 : Hid (∀ w2 b2, Below wr.heap.size wr w2 → wr.heap.size ≤ b2 → ∀ b3 c3 w3, Own w3 base (some ⟨b3, 0, none⟩) c3 (S1.take k ++ [(⟨id, x, y⟩ : Un)]) → (w2.alloc (.cells #[.int .i64 id, .int .i64 x, .int .i64 y] 57)).grownBy w3 (blk (some ⟨b2, 0, none⟩)) → (blk (some ⟨b2, 0, none⟩) = some b3 ∨ (w2.alloc (.cells #[.int .i64 id, .int .i64 x, .int .i64 y] 57)).heap.size ≤ b3) → w3.cell? ⟨gb, 0, none⟩ = some (.slice (some ⟨b, 0, none⟩) S1.length c1) ∧ w3.frozen? ⟨gb, 0, none⟩ = false ∧ Hid (Own w3 base (some ⟨b3, 0, none⟩) c3 (S1.take k ++ [(⟨id, x, y⟩ : Un)])) ∧ Hid (Below wr.heap.size wr w3) ∧ Hid (wr.heap.size ≤ b3) ∧ Hid (∀ j u, (tvs (S1.drop k))[j]? = some u → w3.cell? ((⟨b, k * 3, none⟩ : Addr).add j) = some u)) := Lib.hid (fun w2 b2 q1 q2 b3 c3 w3 k1 k2 k3 => by
                have hB0 : Below wr.heap.size wr (w2.alloc (.cells #[.int .i64 id, .int .i64 x, .int .i64 y] 57)) := q1.alloc q1.size _
                have hB := below_new hB0 k2 (fun z hz => by injection hz with hz; have hz2 : b2 = z := hz; omega)
                have hb3 : wr.heap.size ≤ b3 := by
                  rcases k3 with e | e
                  · injection e with e; have e2 : b2 = b3 := e; omega
                  · have := hB0.size; omega
                have hP := HP1.out.step hB
                exact ⟨hP.q.cell0, hP.q.fz 0, Lib.hid (k1), Lib.hid hB, Lib.hid hb3, Lib.hid (drop_cells k (own_cells hP.q.row.rt))⟩)
              have HSFe : Hid (S1.take k ++ [(⟨id, x, y⟩ : Un)] = SF) := Lib.hid (by rw [HSF.out, HDr.out])
              have HS3 : Hid ((S1.take k ++ [(⟨id, x, y⟩ : Un)]).length = k + 1) := Lib.hid (by simp; omega)
              go_wp2_with (first
                | (at_builtin; refine wpList_appR _ rfl (.tmp 51) (.tmp 57) rfl base none 0 [] (S1.take k) 0 rfl k HTk.out rfl (ROw.of_own (Own.nil _ _)) ⟨b, 0, none⟩ c1 rfl HNt.out hkpos (by omega) hbs ?_; intro b2 c2 w2 hown2 hg2 hat2; obtain ⟨x0, x1, x2, HO2, HB2, Hb2⟩ := HK2.out b2 c2 w2 hown2 hg2 hat2; have hbs2 : base ≤ w2.heap.size := (by have := HB2.out.size; omega); clear hown2 hg2 hat2)
                | (at_builtin; refine wpList_appR _ rfl (.tmp 59) (.tmp 63) rfl base (some ⟨b2, 0, none⟩) c2 (S1.take k) [(⟨id, x, y⟩ : Un)] _ (by have := HTk.out; omega) 1 rfl rfl (ROw.of_own (HO2.out.keep (fun k hk => Below.heap_alloc _ _ k (HO2.out.lt k hk).2))) ⟨w2.heap.size, 0, none⟩ 1 rfl (unit_new w2 (⟨id, x, y⟩ : Un)) (by omega) (by omega) (by simp; omega) ?_; intro b3 c3 w3 hown3 hg3 hat3; obtain ⟨y0, y1, HO3, HB3, Hb3, HN3⟩ := HK3.out w2 b2 HB2.out Hb2.out b3 c3 w3 hown3 hg3 hat3; have hbs3 : base ≤ w3.heap.size := (by have := HB3.out.size; omega); clear hown3 hg3 hat3)
                | (at_builtin; refine wpList_nothingN _ rfl (.tmp 66) (.tmp 72) rfl (some ⟨b3, 0, none⟩) _ c3 (by have := HO3.out; have := (ROw.of_own this).le; have := HS3.out; have := HK0.out; omega) rfl _ _ _ (by omega) rfl ?_))
              go_ret
              exact ⟨rfl, HFin.out w3 b3 c3 HB3.out (by rw [← HSFe.out]; exact HO3.out) Hb3.out _ (by have h9 := congrArg List.length HSFe.out; rw [HS3.out] at h9; have := HK0.out; omega)⟩
end
end Go.Proofs.Ytehllnbpianpfaa.Con
