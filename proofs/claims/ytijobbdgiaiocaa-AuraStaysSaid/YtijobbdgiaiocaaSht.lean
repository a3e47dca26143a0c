/-
  Contracts of Take, the program's and the document's: for every row of shields and every number.
-/
import Derived.Test.YtijobbdgiaiocaaShp
import Derived.Deep.LoopGhost
import Derived.BigQuiet
import Derived.Handy
import Derived.Deep.RegionHeld3
namespace Go.Proofs.Ytijobbdgiaiocaa.Con
open Go.RowKit Go.Maps

/-- What Take leaves: two rows of its own. -/
def TkA (w : World) (l : List Sh) (n : Int) (e : Ending) (w' : World) : Prop :=
  ∃ (A1 : Option Addr) (c1 : Nat) (L : List Sh) (m : Int) (A2 : Option Addr) (c2 : Nat) (G : List Int), e = .returned (.tuple #[.slice A1 L.length c1, .int .i64 m, .slice A2 G.length c2]) ∧ Hid (takeI l n = (L, m, G)) ∧ Hid (Two sh nu w w' w.heap.size (.slice A1 L.length c1) (.slice A2 G.length c2) L G)

theorem two_one {w V : World} {base : Nat} {v : Value} {l : List Sh} (h : OW sh V base v l) (hb : Below base w V) (ht : base ≤ V.heap.size) : Two sh nu w V base v (.slice none 0 0) l [] :=
  ⟨h, OW.nil nu V base, fun _ _ hk => (by cases hk), hb, ht⟩

set_option maxHeartbeats 2000000 in
theorem take_low_any (A : Option Addr) (c : Nat) (l : List Sh) (k B : Nat) (n : Int) (w : World) (hk : l.length = k) (hr : RW sh w B A l) (hl : (k : Int) ≤ 100000) (hn : n < 1) :
    Calls Try.prog 43 #[.slice A k c, .int .i64 n] w (TkA w l n) := by
  have HR := Lib.hid hr; have HK := Lib.hid hk
  have HO := Lib.hid (OW.nil sh w w.heap.size)
  have HL : Hid (([] : List Sh).length + l.length ≤ 1000000) := Lib.hid (by rw [hk]; simp; omega)
  have HT := Lib.hid (take_low (l := l) hn)
  clear hr hk
  go_enter Try.func43, Try.ntmps43
  go_wp2
  go_step3
  go_wp2_with (at_builtin; refine wpList_app sh rfl 73 rfl (.const (.slice none 0 0)) (.tmp 13) rfl w.heap.size B (.slice none 0 0) [] l A c k HK.out rfl rfl HO.out HR.out HL.out (Nat.le_refl _) ?_; intro A2 c2 w2 lm HLM HO2 HS2 HB2)
  go_ret3
  have hl2 : lm = l := by have := HLM.out; simpa using this
  subst hl2
  have hb : Below w.heap.size w w2 := below_app (Below.refl _ _) HS2.out (fun j hj => by cases hj)
  exact ⟨A2, c2, lm, 0, none, 0, [], rfl, HT, Lib.hid (two_one HO2.out hb hb.size)⟩
set_option maxHeartbeats 2000000 in
theorem rtake_low_any (A : Option Addr) (c : Nat) (l : List Sh) (k B : Nat) (n : Int) (w : World) (hk : l.length = k) (hr : RW sh w B A l) (hB : B ≤ w.heap.size) (hl : (k : Int) ≤ 100000) (hn : n < 1) :
    Calls Try.prog 46 #[.slice A k c, .int .i64 n] w (TkA w l n) := by
  have hb : Below w.heap.size w (w.alloc (.cells #[] 76)) := below_box _ _
  have HR := Lib.hid (hr.below hb hB); have HK := Lib.hid hk
  have HO := Lib.hid (OW.room sh w)
  have HL : Hid (([] : List Sh).length + l.length ≤ 1000000) := Lib.hid (by rw [hk]; simp; omega)
  have HT := Lib.hid (take_low (l := l) hn)
  clear hr hk
  go_enter Try.func46, Try.ntmps46
  go_wp2_with (at_builtin; refine wpList_app sh rfl 73 rfl (.tmp 13) (.tmp 14) rfl w.heap.size B (.slice (some ⟨w.heap.size, 0, none⟩) 0 0) [] l A c k HK.out rfl rfl HO.out HR.out HL.out (by simp) ?_; intro A2 c2 w2 lm HLM HO2 HS2 HB2)
  go_ret3
  have hl2 : lm = l := by have := HLM.out; simpa using this
  subst hl2
  have hb2 : Below w.heap.size w w2 := below_app hb HS2.out (fun j hj => by simp [Value.ownBlock] at hj; omega)
  exact ⟨A2, c2, lm, 0, none, 0, [], rfl, HT, Lib.hid (two_one HO2.out hb2 hb2.size)⟩

theorem ret_take {A1 A2 : Option Addr} {n1 n2 c1 c2 : Nat} {a b : Int} (h : a = b) : Ending.returned (.tuple #[.slice A1 n1 c1, .int .i64 a, .slice A2 n2 c2]) = .returned (.tuple #[.slice A1 n1 c1, .int .i64 b, .slice A2 n2 c2]) := by rw [h]
theorem room_of {α : Type} {L : List α} {m k : Nat} (h : L.length ≤ k) (hk : (k : Int) ≤ 100000) (hm : m ≤ 1) : L.length + m ≤ 1000000 := by omega

set_option maxRecDepth 20000 in
set_option maxHeartbeats 4000000 in
theorem take_high_any (A : Option Addr) (c : Nat) (l : List Sh) (kk B : Nat) (n : Int) (w : World) (hk : l.length = kk) (hr : RW sh w B A l) (hf : ∀ x ∈ l, FSh x) (hB : B ≤ w.heap.size) (hl : (kk : Int) ≤ 100000) (hn : ¬ n < 1) (hn2 : Fits n) :
    Calls Try.prog 43 #[.slice A kk c, .int .i64 n] w (TkA w l n) := by
  have HR := Lib.hid hr; have HK := Lib.hid hk; have HF := Lib.hid hf; have HB := Lib.hid hB; have HN2 := Lib.hid hn2; have HN := Lib.hid hn
  have HT := Lib.hid (take_high (l := l) hn)
  have hn' : decide (n < 1) = false := by simpa using hn
  have HN0 : Hid (0 ≤ n) := Lib.hid (by omega)
  clear hr hk hf hB hn2
  go_enter Try.func43, Try.ntmps43
  go_wp2
  go_step3
  go_wp2
  go_step3
  go_wp2
  clear hn' hn
  go_loopg [1, 7, 8, 17] kk (fun gh s1 s7 s8 s17 wr => ∃ (k : Nat) (m : Int) (A1 : Option Addr) (c1 : Nat) (L : List Sh) (A2 : Option Addr) (c2 : Nat) (G : List Int), k ≤ kk ∧ gh = kk - k ∧ s17 = .int .i64 k ∧ s1 = .int .i64 m ∧ s7 = .slice A1 L.length c1 ∧ s8 = .slice A2 G.length c2 ∧ Hid (run (l.take k) n = (L, m, G)) ∧ Hid (Two sh nu w wr w.heap.size (.slice A1 L.length c1) (.slice A2 G.length c2) L G))
  case atStart => exact ⟨0, n, none, 0, [], none, 0, [], by omega, rfl, rfl, rfl, rfl, rfl, Lib.hid rfl, Lib.hid (Two.start sh nu (Below.refl _ _) (Nat.le_refl _))⟩
  case round =>
    obtain ⟨k, m, A1, c1, L, A2, c2, G, hk, rfl, rfl, rfl, rfl, rfl, HM, HTW⟩ := hrel
    by_cases hlt : k < kk
    · obtain ⟨x, hx⟩ : ∃ x, l[k]? = some x := ⟨_, List.getElem?_eq_getElem (by rw [HK.out]; exact hlt)⟩
      obtain ⟨b, off, rfl, _, hc⟩ := (HR.out.below HTW.out.below HB.out).at' hx
      obtain ⟨c0, c1'⟩ := cellsSh (o := off + k * 2) hc
      have HX := Lib.hid hx; have HFX := Lib.hid (HF.out x (List.mem_of_getElem? hx))
      clear hx hc
      have hlt' : (k : Int) < kk := by omega
      have hwa := way_at HN0.out HM.out (by rw [HK.out]; exact hk)
      have hm0 : 0 ≤ m := hwa.1
      have hm1 : m ≤ 9223372036854775807 := by have := HN2.out; unfold Fits at this; omega
      have hx0 : -9223372036854775808 ≤ x.left := HFX.out.2.1.1
      have hx1 : x.left ≤ 9223372036854775807 := HFX.out.2.1.2
      have HLG := Lib.hid hwa.2.2
      clear hwa
      have HL1 : Hid (L.length + ([⟨x.aura, x.left - m⟩] : List Sh).length ≤ 1000000) := Lib.hid (room_of (k := kk) (by have := HLG.out; omega) hl (Nat.le_refl _))
      have HL2 : Hid (G.length + [x.aura].length ≤ 1000000) := Lib.hid (room_of (k := kk) (by have := HLG.out; omega) hl (Nat.le_refl _))
      by_cases hmx : m < x.left
      · have HA : Hid (Below wr.heap.size wr ((wr.alloc (.cells #[.int .i64 x.aura, .int .i64 (x.left - m)] 76)).alloc (.cells #[.int .i64 x.aura, .int .i64 (x.left - m)] 76))) := Lib.hid (by go_grown)
        have HT2 := Lib.hid (HTW.out.of HA.out)
        have HRW : Hid (RW sh ((wr.alloc (.cells #[.int .i64 x.aura, .int .i64 (x.left - m)] 76)).alloc (.cells #[.int .i64 x.aura, .int .i64 (x.left - m)] 76)) (wr.heap.size + 1 + 1) (some ⟨wr.heap.size + 1, 0, none⟩) [⟨x.aura, x.left - m⟩]) := Lib.hid (rw_at sh _ _ _ _ _ rfl rfl (by simp))
        go_wp2_with (at_builtin; refine wpList_app sh rfl 73 rfl (.tmp 31) (.tmp 33) rfl w.heap.size (wr.heap.size + 1 + 1) (.slice A1 L.length c1) L [⟨x.aura, x.left - m⟩] (some ⟨wr.heap.size + 1, 0, none⟩) 1 1 rfl rfl rfl HT2.out.a HRW.out HL1.out HT2.out.top ?_; intro A3 c3 w3 lm HLM HO3 HS3 HB3)
        go_roundg (kk - (k + 1))
        case measure => omega
        case rel => exact ⟨k + 1, 0, A3, c3, lm, A2, c2, G, by omega, rfl, by go_num, rfl, rfl, rfl, Lib.hid (by rw [HLM.out]; exact run_more HX.out n HM.out hmx), Lib.hid (HT2.out.put1 HS3.out HO3.out HB3.out)⟩
      · have hmx' : decide (m < x.left) = false := by simpa using hmx
        have HA : Hid (Below wr.heap.size wr ((wr.alloc (oSh x)).alloc (.cells #[.int .i64 x.aura] 3))) := Lib.hid (by go_grown)
        have HT2 := Lib.hid (HTW.out.of HA.out)
        have HRW : Hid (RW nu ((wr.alloc (oSh x)).alloc (.cells #[.int .i64 x.aura] 3)) (wr.heap.size + 1 + 1) (some ⟨wr.heap.size + 1, 0, none⟩) [x.aura]) := Lib.hid (rw_at nu _ _ _ _ _ rfl rfl (by simp))
        have HMX := Lib.hid hmx
        by_cases hp : 0 < x.left
        · have HP := Lib.hid hp
          go_wp2_with (at_builtin; refine wpList_app nu rfl 77 rfl (.tmp 43) (.tmp 46) rfl w.heap.size (wr.heap.size + 1 + 1) (.slice A2 G.length c2) G [x.aura] (some ⟨wr.heap.size + 1, 0, none⟩) 1 1 rfl rfl rfl HT2.out.b HRW.out HL2.out HT2.out.top ?_; intro A3 c3 w3 lm HLM HO3 HS3 HB3)
          go_roundg (kk - (k + 1))
          case measure => omega
          case rel => exact ⟨k + 1, m - x.left, A1, c1, L, A3, c3, lm, by omega, rfl, by go_num, rfl, rfl, rfl, Lib.hid (by rw [HLM.out]; exact run_less HX.out n HM.out (by have := HMX.out; omega) (by have := HP.out; omega)), Lib.hid (HT2.out.put2 HS3.out HO3.out HB3.out)⟩
        · have HP := Lib.hid hp
          have hp' : decide (0 < x.left) = false := by simpa using hp
          go_wp2_with (at_builtin; refine wpList_app nu rfl 77 rfl (.tmp 43) (.tmp 46) rfl w.heap.size (wr.heap.size + 1 + 1) (.slice A2 G.length c2) G [x.aura] (some ⟨wr.heap.size + 1, 0, none⟩) 1 1 rfl rfl rfl HT2.out.b HRW.out HL2.out HT2.out.top ?_; intro A3 c3 w3 lm HLM HO3 HS3 HB3)
          go_roundg (kk - (k + 1))
          case measure => omega
          case rel => exact ⟨k + 1, m, A1, c1, L, A3, c3, lm, by omega, rfl, by go_num, rfl, rfl, rfl, Lib.hid (by rw [HLM.out]; exact run_none HX.out n HM.out (by have := HMX.out; omega) (by have := HP.out; omega)), Lib.hid (HT2.out.put2 HS3.out HO3.out HB3.out)⟩
    · have hlt' : decide ((k : Int) < kk) = false := by simp; omega
      go_wp2
      rw [Exit.noGoto_ret]
      go_ret3
      exact ⟨A1, c1, L, m, A2, c2, G, rfl, Lib.hid (by rw [HT.out, ← HM.out, List.take_of_length_le (by rw [HK.out]; omega)]), HTW⟩

theorem y_more {m a y : Int} (hy : mn (mx a 0) m = y) (h0 : 0 ≤ m) (h : m < a) : y = m := by unfold mn mx at hy; (repeat' split at hy) <;> omega
theorem y_less {m a y : Int} (hy : mn (mx a 0) m = y) (h0 : 0 ≤ m) (h : ¬ m < a) : y = if 0 < a then a else 0 := by unfold mn mx at hy; (repeat' split at hy) <;> split <;> omega
theorem run_yes {l : List Sh} {k : Nat} {x : Sh} (h : l[k]? = some x) (n : Int) {L : List Sh} {m y : Int} {G : List Int} (hs : run (l.take k) n = (L, m, G)) (hm : m < x.left) (hy : y = m) : run (l.take (k + 1)) n = (L ++ [⟨x.aura, x.left - y⟩], m - y, G) := by
  subst hy; rw [run_more h n hs hm, Int.sub_self]
theorem run_no {l : List Sh} {k : Nat} {x : Sh} (h : l[k]? = some x) (n : Int) {L : List Sh} {m y : Int} {G : List Int} (hs : run (l.take k) n = (L, m, G)) (hm : ¬ m < x.left) (hy : y = if 0 < x.left then x.left else 0) : run (l.take (k + 1)) n = (L, m - y, G ++ [x.aura]) := by
  by_cases hp : 0 < x.left
  · rw [run_less h n hs hm hp, hy, if_pos hp]
  · rw [run_none h n hs hm hp, hy, if_neg hp, Int.sub_zero]
/-- What a region that reads, makes a row and appends keeps: the block that it reads. -/
abbrev Kep (wr : World) (b : Nat) (w' : World) : Prop := w'.heap[b]? = wr.heap[b]?

set_option maxRecDepth 20000 in
set_option maxHeartbeats 4000000 in
theorem rtake_high_any (A : Option Addr) (c : Nat) (l : List Sh) (kk B : Nat) (n : Int) (w : World) (hk : l.length = kk) (hr : RW sh w B A l) (hf : ∀ x ∈ l, FSh x) (hB : B ≤ w.heap.size) (hl : (kk : Int) ≤ 100000) (hn : ¬ n < 1) (hn2 : Fits n) :
    Calls Try.prog 46 #[.slice A kk c, .int .i64 n] w (TkA w l n) := by
  have HR := Lib.hid hr; have HK := Lib.hid hk; have HF := Lib.hid hf; have HB := Lib.hid hB; have HN2 := Lib.hid hn2
  have HT := Lib.hid (take_high (l := l) hn)
  have hn' : decide (n < 1) = false := by simpa using hn
  have HN0 : Hid (0 ≤ n) := Lib.hid (by omega)
  clear hr hk hf hB hn2
  go_enter Try.func46, Try.ntmps46
  go_wp2
  clear hn' hn
  go_loopg [1, 7, 8, 9] kk (fun gh s1 s7 s8 s9 wr => ∃ (k : Nat) (m : Int) (A1 : Option Addr) (c1 : Nat) (L : List Sh) (A2 : Option Addr) (c2 : Nat) (G : List Int), k ≤ kk ∧ gh = kk - k ∧ s9 = .int .i64 k ∧ s1 = .int .i64 m ∧ s7 = .slice A1 L.length c1 ∧ s8 = .slice A2 G.length c2 ∧ Hid (run (l.take k) n = (L, m, G)) ∧ Hid (Two sh nu w wr w.heap.size (.slice A1 L.length c1) (.slice A2 G.length c2) L G))
  case atStart => exact ⟨0, n, none, 0, [], none, 0, [], by omega, rfl, rfl, rfl, rfl, rfl, Lib.hid rfl, Lib.hid (Two.start sh nu (Below.refl _ _) (Nat.le_refl _))⟩
  case round =>
    obtain ⟨k, m, A1, c1, L, A2, c2, G, hk, rfl, rfl, rfl, rfl, rfl, HM, HTW⟩ := hrel
    by_cases hlt : k < kk
    · obtain ⟨x, hx⟩ : ∃ x, l[k]? = some x := ⟨_, List.getElem?_eq_getElem (by rw [HK.out]; exact hlt)⟩
      have hro := HR.out.below HTW.out.below HB.out
      obtain ⟨b, off, rfl, hbB, hc⟩ := hro.at' hx
      obtain ⟨c0, c1'⟩ := cellsSh (o := off + k * 2) hc
      have HBW : Hid (b < w.heap.size) := Lib.hid (Nat.lt_of_lt_of_le hbB HB.out)
      have HBL : Hid (b < wr.heap.size) := Lib.hid (Nat.lt_of_lt_of_le HBW.out HTW.out.top)
      have HZ : Hid (∀ wz, Kep wr b wz → wz.cell? ⟨b, off + k * 2, none⟩ = some (.int .i64 x.aura) ∧ wz.cell? ⟨b, off + k * 2 + 1, none⟩ = some (.int .i64 x.left)) := Lib.hid (fun wz hz => by
        have e : wz.heap[b]? = wr.heap[b]? := hz
        exact ⟨(World.cell?_of_block (w := wr) e).trans c0, (World.cell?_of_block (w := wr) e).trans c1'⟩)
      have HX := Lib.hid hx; have HFX := Lib.hid (HF.out x (List.mem_of_getElem? hx))
      clear hx hc hro hbB
      have hlt' : (k : Int) < kk := by omega
      have hwa := way_at HN0.out HM.out (by rw [HK.out]; exact hk)
      have hm0 : 0 ≤ m := hwa.1
      have hm1 : m ≤ 9223372036854775807 := by have := HN2.out; unfold Fits at this; omega
      have hx0 : -9223372036854775808 ≤ x.left := HFX.out.2.1.1
      have hx1 : x.left ≤ 9223372036854775807 := HFX.out.2.1.2
      have HLG := Lib.hid hwa.2.2
      clear hwa
      obtain ⟨z, hz⟩ : ∃ z, mx x.left 0 = z := ⟨_, rfl⟩
      obtain ⟨y, hy⟩ : ∃ y, mn z m = y := ⟨_, rfl⟩
      have HZZ := Lib.hid hz; have HY := Lib.hid hy
      have hyz : mn (mx x.left 0) m = y := by rw [hz]; exact hy
      clear hz hy
      have HL1 : Hid (L.length + ([⟨x.aura, x.left - y⟩] : List Sh).length ≤ 1000000) := Lib.hid (room_of (k := kk) (by have := HLG.out; omega) hl (Nat.le_refl _))
      have HL2 : Hid (G.length + [x.aura].length ≤ 1000000) := Lib.hid (room_of (k := kk) (by have := HLG.out; omega) hl (Nat.le_refl _))
      by_cases hmx : m < x.left
      · have hym := y_more hyz hm0 hmx
        have HE := Lib.hid (run_yes HX.out n HM.out hmx hym)
        have hy0 : 0 ≤ y := by omega
        have hy1 : y ≤ 9223372036854775807 := by omega
        have hym0 : 0 ≤ m - y := by omega
        have hgt : 0 < x.left - y := by omega
        have hgt1 : x.left - y ≤ 9223372036854775807 := by omega
        have HWR : Hid (IntKind.i64.wrap (x.left - y) = x.left - y) := Lib.hid (IntWalk.i64_in (x.left - y) (by omega))
        clear hyz hym hmx
        go_wp2_with (first
          | (with_reducible refine wpList_max rfl (.tmp 26) (.const (.int .i64 0)) x.left 0 z rfl (by simp [Act.eval]) (by simp [Act.eval]) HZZ.out ?_)
          | (with_reducible refine wpList_min rfl (.tmp 27) (.tmp 28) z m y rfl (by simp [Act.eval]) (by simp [Act.eval]) HY.out ?_))
        have hD0 : Below wr.heap.size wr wr.drew := (Below.refl _ _).drew
        have hS0 : Kep wr b wr.drew := hD0.block b HBL.out
        refine wp_region_noPanic ?_
        refine wp_region_held_drew (S := fun w' => Kep wr b w') (by kernel_rfl) hS0 (fun _ => ?_)
        generalize wr.drew = v0 at hD0 hS0 ⊢
        clear c0 c1'
        refine wpAnyH_take (i := 0) (oi := ⟨some 41, Op.move (Operand.tmp 7), 73, _, _, none⟩) (v := ?va0) rfl (by kernel_rfl) (by kernel_rfl) (by kernel_rfl) (fun _ _ _ h => h) (Or.inl ⟨by rfl, ?ha0⟩) hS0 ?ra0
        case ha0 => (intro wz hSw; go_simp <;> with_reducible rfl)
        (try simp only [Act.put, List.setIfInBounds_toArray, List.set_cons_zero, List.set_cons_succ])
        refine wpAnyH_take (i := 1) (oi := ⟨some 42, Op.move (Operand.tmp 0), 73, _, _, none⟩) (v := ?va1) rfl (by kernel_rfl) (by kernel_rfl) (by kernel_rfl) (fun _ _ _ h => h) (Or.inl ⟨by rfl, ?ha1⟩) hS0 ?ra1
        case ha1 => (intro wz hSw; go_simp <;> with_reducible rfl)
        (try simp only [Act.put, List.setIfInBounds_toArray, List.set_cons_zero, List.set_cons_succ])
        refine wpAnyH_take (i := 2) (oi := ⟨some 43, Op.move (Operand.tmp 9), 3, _, _, none⟩) (v := ?va2) rfl (by kernel_rfl) (by kernel_rfl) (by kernel_rfl) (fun _ _ _ h => h) (Or.inl ⟨by rfl, ?ha2⟩) hS0 ?ra2
        case ha2 => (intro wz hSw; go_simp <;> with_reducible rfl)
        (try simp only [Act.put, List.setIfInBounds_toArray, List.set_cons_zero, List.set_cons_succ])
        refine wpAnyH_take (i := 3) (oi := ⟨some 44, Op.indexAddr 73 (Operand.tmp 42) (Operand.tmp 43), 0, _, _, none⟩) (v := ?va3) rfl (by kernel_rfl) (by kernel_rfl) (by kernel_rfl) (fun _ _ _ h => h) (Or.inl ⟨by rfl, ?ha3⟩) hS0 ?ra3
        case ha3 => (intro wz hSw; go_simp <;> with_reducible rfl)
        (try simp only [Act.put, List.setIfInBounds_toArray, List.set_cons_zero, List.set_cons_succ])
        refine wpAnyH_take (i := 4) (oi := ⟨some 45, Op.fieldAddr 76 (Operand.tmp 44) 0, 0, _, _, none⟩) (v := ?va4) rfl (by kernel_rfl) (by kernel_rfl) (by kernel_rfl) (fun _ _ _ h => h) (Or.inl ⟨by rfl, ?ha4⟩) hS0 ?ra4
        case ha4 => (intro wz hSw; go_simp <;> with_reducible rfl)
        (try simp only [Act.put, List.setIfInBounds_toArray, List.set_cons_zero, List.set_cons_succ])
        refine wpAnyH_take (i := 5) (oi := ⟨some 46, Op.load 3 (Operand.tmp 45), 3, _, _, none⟩) (v := ?va5) rfl (by kernel_rfl) (by kernel_rfl) (by kernel_rfl) (fun _ _ _ h => h) (Or.inl ⟨by rfl, ?ha5⟩) hS0 ?ra5
        case ha5 => (intro wz hSw; obtain ⟨z0, z1⟩ := HZ.out wz hSw; go_simp <;> with_reducible rfl)
        (try simp only [Act.put, List.setIfInBounds_toArray, List.set_cons_zero, List.set_cons_succ])
        refine wpAnyH_take (i := 6) (oi := ⟨some 47, Op.move (Operand.tmp 0), 73, _, _, none⟩) (v := ?va6) rfl (by kernel_rfl) (by kernel_rfl) (by kernel_rfl) (fun _ _ _ h => h) (Or.inl ⟨by rfl, ?ha6⟩) hS0 ?ra6
        case ha6 => (intro wz hSw; go_simp <;> with_reducible rfl)
        (try simp only [Act.put, List.setIfInBounds_toArray, List.set_cons_zero, List.set_cons_succ])
        refine wpAnyH_take (i := 7) (oi := ⟨some 48, Op.move (Operand.tmp 9), 3, _, _, none⟩) (v := ?va7) rfl (by kernel_rfl) (by kernel_rfl) (by kernel_rfl) (fun _ _ _ h => h) (Or.inl ⟨by rfl, ?ha7⟩) hS0 ?ra7
        case ha7 => (intro wz hSw; go_simp <;> with_reducible rfl)
        (try simp only [Act.put, List.setIfInBounds_toArray, List.set_cons_zero, List.set_cons_succ])
        refine wpAnyH_take (i := 8) (oi := ⟨some 49, Op.indexAddr 73 (Operand.tmp 47) (Operand.tmp 48), 0, _, _, none⟩) (v := ?va8) rfl (by kernel_rfl) (by kernel_rfl) (by kernel_rfl) (fun _ _ _ h => h) (Or.inl ⟨by rfl, ?ha8⟩) hS0 ?ra8
        case ha8 => (intro wz hSw; go_simp <;> with_reducible rfl)
        (try simp only [Act.put, List.setIfInBounds_toArray, List.set_cons_zero, List.set_cons_succ])
        refine wpAnyH_take (i := 9) (oi := ⟨some 50, Op.fieldAddr 76 (Operand.tmp 49) 1, 0, _, _, none⟩) (v := ?va9) rfl (by kernel_rfl) (by kernel_rfl) (by kernel_rfl) (fun _ _ _ h => h) (Or.inl ⟨by rfl, ?ha9⟩) hS0 ?ra9
        case ha9 => (intro wz hSw; go_simp <;> with_reducible rfl)
        (try simp only [Act.put, List.setIfInBounds_toArray, List.set_cons_zero, List.set_cons_succ])
        refine wpAnyH_take (i := 10) (oi := ⟨some 51, Op.load 3 (Operand.tmp 50), 3, _, _, none⟩) (v := ?va10) rfl (by kernel_rfl) (by kernel_rfl) (by kernel_rfl) (fun _ _ _ h => h) (Or.inl ⟨by rfl, ?ha10⟩) hS0 ?ra10
        case ha10 => (intro wz hSw; obtain ⟨z0, z1⟩ := HZ.out wz hSw; go_simp <;> with_reducible rfl)
        (try simp only [Act.put, List.setIfInBounds_toArray, List.set_cons_zero, List.set_cons_succ])
        refine wpAnyH_take (i := 11) (oi := ⟨some 52, Op.move (Operand.tmp 10), 3, _, _, none⟩) (v := ?va11) rfl (by kernel_rfl) (by kernel_rfl) (by kernel_rfl) (fun _ _ _ h => h) (Or.inl ⟨by rfl, ?ha11⟩) hS0 ?ra11
        case ha11 => (intro wz hSw; go_simp <;> with_reducible rfl)
        (try simp only [Act.put, List.setIfInBounds_toArray, List.set_cons_zero, List.set_cons_succ])
        refine wpAnyH_take (i := 12) (oi := ⟨some 53, Op.binOp BinOp.sub 3 (Operand.tmp 51) (Operand.tmp 52) 3, 3, _, _, none⟩) (v := ?va12) rfl (by kernel_rfl) (by kernel_rfl) (by kernel_rfl) (fun _ _ _ h => h) (Or.inl ⟨by rfl, ?ha12⟩) hS0 ?ra12
        case ha12 => (intro wz hSw; go_simp <;> with_reducible rfl)
        (try simp only [Act.put, List.setIfInBounds_toArray, List.set_cons_zero, List.set_cons_succ])
        refine wpAnyH_take (i := 13) (oi := ⟨some 54, Op.build 76 #[(0, Operand.tmp 46), (1, Operand.tmp 53)], 76, _, _, none⟩) (v := ?va13) rfl (by kernel_rfl) (by kernel_rfl) (by kernel_rfl) (fun _ _ _ h => h) (Or.inl ⟨by rfl, ?ha13⟩) hS0 ?ra13
        case ha13 => (intro wz hSw; go_simp <;> with_reducible rfl)
        (try simp only [Act.put, List.setIfInBounds_toArray, List.set_cons_zero, List.set_cons_succ])
        refine wpAnyH_ready (rs := [14]) (by kernel_rfl) (by simp) ?_
        refine AllReadyH.cons (o := ⟨some 55, Op.buildSlice 73 1 #[(0, Operand.tmp 54)], 73, _, _, none⟩) rfl (fun K hK => ?_) AllReadyH.nil
        simp only [HWR.out]
        go_simp
        have hA := hD0.alloc hD0.size (.cells #[.int .i64 x.aura, .int .i64 (x.left - y)] 76); have hK2 : Kep wr b (v0.alloc (.cells #[.int .i64 x.aura, .int .i64 (x.left - y)] 76)) := hA.block b HBL.out; have hT2 := (HTW.out.of hA); have hRW : RW sh (v0.alloc (.cells #[.int .i64 x.aura, .int .i64 (x.left - y)] 76)) (v0.heap.size + 1) (some ⟨v0.heap.size, 0, none⟩) [⟨x.aura, x.left - y⟩] := rw_at sh _ _ _ _ _ rfl rfl rfl
        refine hK.out _ _ hK2 (fun _ => ?_)
        clear hK K
        (try simp only [Act.put, List.setIfInBounds_toArray, List.set_cons_zero, List.set_cons_succ])
        refine wpAnyH_ready (rs := [15]) (by kernel_rfl) (by simp) ?_
        refine AllReadyH.cons (o := ⟨some 56, Op.call { callee := Callee.builtin Builtin.append, args := #[Operand.tmp 41, Operand.tmp 55], argTypes := #[73, 73] }, 73, _, _, none⟩) rfl (fun K hK => ?_) AllReadyH.nil
        refine step_app sh rfl 73 rfl (.tmp 41) (.tmp 55) rfl w.heap.size (v0.heap.size + 1) (.slice A1 L.length c1) L [⟨x.aura, x.left - y⟩] (some ⟨v0.heap.size, 0, none⟩) 1 1 rfl (by simp [Act.eval]) (by simp [Act.eval]) hT2.a hRW HL1.out hT2.top ?_
        intro A3 c3 v2 lm nl hlm hnl hO hG hW; have HLm := Lib.hid hlm; clear hlm; subst hnl; have hT3 := hT2.put1 hG hO hW; have hS3 : Kep wr b v2 := (hG.block b (Nat.lt_of_lt_of_le HBL.out hA.size) (fun e => by have := (hT2.a.lt e.symm).1; have := HBW.out; omega)).trans hK2
        refine hK.out _ _ hS3 (fun _ => ?_)
        clear hK K
        (try simp only [Act.put, List.setIfInBounds_toArray, List.set_cons_zero, List.set_cons_succ])
        refine wpAnyH_take (i := 16) (oi := ⟨some 7, Op.assign (Operand.tmp 56), 73, _, _, none⟩) (v := ?va16) rfl (by kernel_rfl) (by kernel_rfl) (by kernel_rfl) (fun _ _ _ h => h) (Or.inl ⟨by rfl, ?ha16⟩) hS3 ?ra16
        case ha16 => (intro wz hSw; go_simp <;> with_reducible rfl)
        (try simp only [Act.put, List.setIfInBounds_toArray, List.set_cons_zero, List.set_cons_succ])
        refine wpAnyH_done (by kernel_rfl) ?_ _
        refine NoPanic.normal ?_
        have HT3 := Lib.hid hT3
        clear hT3 hS3 hO hG hW hT2 hA hK2 hRW hS0 hD0
        go_wp2
        go_roundg (kk - (k + 1))
        case measure => omega
        case rel => exact ⟨k + 1, m - y, A3, c3, lm, A2, c2, G, by omega, rfl, by go_num, rfl, rfl, rfl, Lib.hid (by rw [HLm.out]; exact HE.out), HT3⟩
      · have hye := y_less hyz hm0 hmx
        have HE := Lib.hid (run_no HX.out n HM.out hmx hye)
        have hy0 : 0 ≤ y := by rw [hye]; split <;> omega
        have hy1 : y ≤ m := by rw [hye]; split <;> omega
        have hgt : x.left - y ≤ 0 := by rw [hye]; split <;> omega
        have hgt0 : -9223372036854775808 ≤ x.left - y := by rw [hye]; split <;> omega
        have hgt' : decide (0 < x.left - y) = false := by simp; omega
        clear hyz hye hmx
        have HA : Hid (Below wr.heap.size wr (wr.alloc (.cells #[.int .i64 x.aura] 3))) := Lib.hid (by go_grown)
        have HT2 := Lib.hid (HTW.out.of HA.out)
        have HRW : Hid (RW nu (wr.alloc (.cells #[.int .i64 x.aura] 3)) (wr.heap.size + 1) (some ⟨wr.heap.size, 0, none⟩) [x.aura]) := Lib.hid (rw_at nu _ _ _ _ _ rfl rfl rfl)
        go_wp2_with (first
          | (with_reducible refine wpList_max rfl (.tmp 26) (.const (.int .i64 0)) x.left 0 z rfl (by simp [Act.eval]) (by simp [Act.eval]) HZZ.out ?_)
          | (with_reducible refine wpList_min rfl (.tmp 27) (.tmp 28) z m y rfl (by simp [Act.eval]) (by simp [Act.eval]) HY.out ?_)
          | (at_builtin; refine wpList_app nu rfl 77 rfl (.tmp 57) (.tmp 63) rfl w.heap.size (wr.heap.size + 1) (.slice A2 G.length c2) G [x.aura] (some ⟨wr.heap.size, 0, none⟩) 1 1 rfl rfl rfl HT2.out.b HRW.out HL2.out HT2.out.top ?_; intro A3 c3 w3 lm HLM HO3 HS3 HB3))
        go_roundg (kk - (k + 1))
        case measure => omega
        case rel => exact ⟨k + 1, m - y, A1, c1, L, A3, c3, lm, by omega, rfl, by go_num, rfl, rfl, rfl, Lib.hid (by rw [HLM.out]; exact HE.out), Lib.hid (HT2.out.put2 HS3.out HO3.out HB3.out)⟩
    · have hlt' : decide ((k : Int) < kk) = false := by simp; omega
      go_wp2
      go_ret3
      exact ⟨A1, c1, L, m, A2, c2, G, rfl, Lib.hid (by rw [HT.out, ← HM.out, List.take_of_length_le (by rw [HK.out]; omega)]), HTW⟩
theorem take_any (A : Option Addr) (c : Nat) (l : List Sh) (kk B : Nat) (n : Int) (w : World) (hk : l.length = kk) (hr : RW sh w B A l) (hf : ∀ x ∈ l, FSh x) (hB : B ≤ w.heap.size) (hl : (kk : Int) ≤ 100000) (hn : Fits n) :
    Calls Try.prog 43 #[.slice A kk c, .int .i64 n] w (TkA w l n) := by
  by_cases h : n < 1
  · exact take_low_any A c l kk B n w hk hr hl h
  · exact take_high_any A c l kk B n w hk hr hf hB hl h hn
theorem rtake_any (A : Option Addr) (c : Nat) (l : List Sh) (kk B : Nat) (n : Int) (w : World) (hk : l.length = kk) (hr : RW sh w B A l) (hf : ∀ x ∈ l, FSh x) (hB : B ≤ w.heap.size) (hl : (kk : Int) ≤ 100000) (hn : Fits n) :
    Calls Try.prog 46 #[.slice A kk c, .int .i64 n] w (TkA w l n) := by
  by_cases h : n < 1
  · exact rtake_low_any A c l kk B n w hk hr hB hl h
  · exact rtake_high_any A c l kk B n w hk hr hf hB hl h hn
theorem below_drewN' {w w' : World} (h : ∃ q, w' = w.drewN q) : Below w.heap.size w w' := by
  obtain ⟨q, rfl⟩ := h
  exact below_drewN (Below.refl _ _) q
end Go.Proofs.Ytijobbdgiaiocaa.Con
