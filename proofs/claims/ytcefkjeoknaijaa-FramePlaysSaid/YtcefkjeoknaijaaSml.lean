/-
  The small case that each law begins with comes out right, and makes only new memory; parts that are handed in, and whether they are few.
-/
import Derived.Test.YtcefkjeoknaijaaPsh
import Derived.Lib.SlBytesConst
namespace Go.Proofs.Ytcefkjeoknaijaa.Con
open Go.RowKit Mth Mem

/-- A slice at A has slices of bytes that read as P, below block number B. -/
def Parts (w : World) (B : Nat) (A : Option Addr) (P : List (List Int)) : Prop :=
  P = [] ∨ ∃ b off, A = some ⟨b, off, none⟩ ∧ b < B ∧ ∀ (k : Nat) (x : List Int), P[k]? = some x → ∃ a c, w.cell? ⟨b, off + k, none⟩ = some (.slice a x.length c) ∧ Rd .u8 w B a x ∧ Byt x
theorem Parts.at' {w : World} {B : Nat} {A : Option Addr} {P : List (List Int)} (h : Parts w B A P) {k : Nat} (hk : k < P.length) :
    ∃ b off x a c, A = some ⟨b, off, none⟩ ∧ b < B ∧ P[k]? = some x ∧ w.cell? ⟨b, off + k, none⟩ = some (.slice a x.length c) ∧ Rd .u8 w B a x ∧ Byt x := by
  rcases h with rfl | ⟨b, off, hA, hb, hc⟩
  · simp at hk
  · obtain ⟨a, c, h1, h2, h3⟩ := hc k P[k] (List.getElem?_eq_getElem hk)
    exact ⟨b, off, P[k], a, c, hA, hb, List.getElem?_eq_getElem hk, h1, h2, h3⟩
theorem Parts.below {w w' : World} {B B' : Nat} {A : Option Addr} {P : List (List Int)} (h : Parts w B A P) (hb : Below B' w w') (hB : B ≤ B') : Parts w' B A P := by
  rcases h with rfl | ⟨b, off, hA, hlt, hc⟩
  · exact .inl rfl
  · refine .inr ⟨b, off, hA, hlt, fun k x hx => ?_⟩
    obtain ⟨a, c, h1, h2, h3⟩ := hc k x hx
    exact ⟨a, c, (World.cell?_of_block (w := w) (hb.block b (by omega))).trans h1, h2.below hb hB, h3⟩

/-- How many bytes they have together. -/
def tot (P : List (List Int)) : Nat := (P.map List.length).sum
theorem tot_nil : tot [] = 0 := rfl
theorem tot_next {P : List (List Int)} {k : Nat} {x : List Int} (h : P[k]? = some x) : tot (P.take (k + 1)) = tot (P.take k) + x.length := by
  obtain ⟨hk, rfl⟩ := List.getElem?_eq_some_iff.1 h
  rw [List.take_succ_eq_append_getElem hk]
  simp only [tot, List.map_append, List.sum_append, List.map_cons, List.map_nil, List.sum_cons, List.sum_nil]
  omega
theorem tot_room {P : List (List Int)} (h : ∀ x ∈ P, (x.length : Int) ≤ 140737488351232) : ∀ k, (tot (P.take k) : Int) ≤ k * 140737488351232
  | 0 => by simp [tot]
  | k + 1 => by
    have := tot_room h k
    rcases hx : P[k]? with _ | x
    · have hk : P.length ≤ k := List.getElem?_eq_none_iff.1 hx
      rw [List.take_of_length_le (by omega)]
      rw [List.take_of_length_le hk] at this
      omega
    · rw [tot_next hx]
      have := h x (List.mem_of_getElem? hx)
      omega
theorem tot_all {P : List (List Int)} {k : Nat} (h : P.length ≤ k) : tot (P.take k) = tot P := by rw [List.take_of_length_le h]
theorem tot_le (P : List (List Int)) (k : Nat) : tot (P.take k) ≤ tot P := by
  have e : tot P = tot (P.take k) + tot (P.drop k) := by
    conv => lhs; rw [← List.take_append_drop k P]
    simp only [tot, List.map_append, List.sum_append]
  omega
theorem tot_at {P : List (List Int)} {k : Nat} {x : List Int} (h : P[k]? = some x) : tot (P.take k) + x.length ≤ tot P := by
  rw [← tot_next h]
  exact tot_le P _

/-- Short enough to be played. -/
def fewB (P : List (List Int)) : Bool := decide ((P.length : Int) ≤ 60) && decide ((tot P : Int) ≤ 16384)

set_option maxHeartbeats 1000000 in
theorem few_any (A : Option Addr) (c : Nat) (P : List (List Int)) (w : World) (B : Nat) (hr : Parts w B A P) (hl : (P.length : Int) ≤ 140737488351232) (hx : ∀ x ∈ P, (x.length : Int) ≤ 140737488351232) :
    Calls Try.prog 8 #[.slice A P.length c] w fun e w' => e = .returned (.bool (fewB P)) ∧ w = w' := by
  have HR := Lib.hid hr; have HX := Lib.hid hx; clear hr hx
  go_enter Try.func8, Try.ntmps8
  go_wp2
  go_loopg [3, 4] P.length (fun m s3 s4 wr => ∃ (k : Nat) (n : Nat), k ≤ P.length ∧ k ≤ 100 ∧ m = P.length - k ∧ s3 = .int .i64 (n : Int) ∧ s4 = .int .i64 (k : Int) ∧ w = wr ∧ Hid (n = tot (P.take k)))
  case atStart => exact ⟨0, 0, by omega, by omega, rfl, rfl, rfl, rfl, Lib.hid (by simp [tot])⟩
  case round =>
    obtain ⟨k, n, hk, hk1, rfl, rfl, rfl, rfl, HN⟩ := hrel
    have hn : (n : Int) ≤ k * 140737488351232 := by rw [HN.out]; exact tot_room HX.out k
    by_cases hlt : k < P.length
    · have hlt' : (k : Int) < P.length := by omega
      by_cases h100 : k < 100
      · have h100' : (k : Int) < 100 := by omega
        obtain ⟨b, off, x, a, c', rfl, _, hx, hc, _, _⟩ := HR.out.at' hlt
        have hxl := HX.out x (List.mem_of_getElem? hx)
        have HXk := Lib.hid hx; clear hx
        go_wp2
        go_roundg (P.length - (k + 1))
        case measure => omega
        case rel => exact ⟨k + 1, n + x.length, by omega, by omega, rfl, by go_num, by go_num, rfl, Lib.hid (by rw [tot_next HXk.out, HN.out])⟩
      · have h100' : decide ((k : Int) < 100) = false := by simp; omega
        have h60 : decide ((P.length : Int) ≤ 60) = false := by simp; omega
        go_wp2
        go_ret
        exact ⟨by unfold fewB; rw [h60]; rfl, rfl⟩
    · have hlt' : decide ((k : Int) < P.length) = false := by simp; omega
      have HT := Lib.hid (tot_all (P := P) (k := k) (by omega))
      by_cases h60 : (P.length : Int) ≤ 60
      · by_cases hn2 : (n : Int) ≤ 16384
        · go_wp2
          go_ret
          exact ⟨by unfold fewB; rw [← HT.out, ← HN.out, decide_eq_true h60, decide_eq_true hn2]; rfl, rfl⟩
        · have hn2' : decide ((n : Int) ≤ 16384) = false := by simpa using hn2
          go_wp2
          go_ret
          exact ⟨by unfold fewB; rw [← HT.out, ← HN.out, decide_eq_true h60, hn2']; rfl, rfl⟩
      · have h60' : decide ((P.length : Int) ≤ 60) = false := by simpa using h60
        go_wp2
        go_ret
        exact ⟨by unfold fewB; rw [h60']; rfl, rfl⟩
theorem few_yes (A : Option Addr) (c : Nat) (P : List (List Int)) (w : World) (B : Nat) (hr : Parts w B A P) (hl : (P.length : Int) ≤ 140737488351232) (hx : ∀ x ∈ P, (x.length : Int) ≤ 140737488351232) (h : fewB P = true) :
    Calls Try.prog 8 #[.slice A P.length c] w fun e w' => e = .returned (.bool true) ∧ w = w' := by
  have := few_any A c P w B hr hl hx; rw [h] at this; exact this
theorem few_no (A : Option Addr) (c : Nat) (P : List (List Int)) (w : World) (B : Nat) (hr : Parts w B A P) (hl : (P.length : Int) ≤ 140737488351232) (hx : ∀ x ∈ P, (x.length : Int) ≤ 140737488351232) (h : fewB P = false) :
    Calls Try.prog 8 #[.slice A P.length c] w fun e w' => e = .returned (.bool false) ∧ w = w' := by
  have := few_any A c P w B hr hl hx; rw [h] at this; exact this
theorem few_of {P : List (List Int)} (h : fewB P = true) : (P.length : Int) ≤ 60 ∧ (tot P : Int) ≤ 16384 := by
  unfold fewB at h
  simpa using h

/-! ### The small case -/
theorem byt_of {l : List Int} (h : l.all (fun x => decide (0 ≤ x) && decide (x < 256)) = true) : Byt l := by
  intro x hx
  have := List.all_eq_true.1 h x hx
  simpa using this
theorem p1 : parse ([] ++ [2, 97]) = ([], [2, 97], 0) := parse_wait rfl
theorem p2 : parse ([2, 97] ++ [98, 0, 1]) = ([[97, 98], []], [1], 0) := by
  have e1 : parse ([2, 97, 98, 0, 1] : List Int) = _ := parse_load (s := 1) (n := 2) (byt_of (by decide)) rfl
  have e2 : parse ([0, 1] : List Int) = _ := parse_load (s := 1) (n := 0) (byt_of (by decide)) rfl
  have e3 : parse ([1] : List Int) = ([], [1], 0) := parse_wait rfl
  show parse [2, 97, 98, 0, 1] = _
  rw [e1]
  simp only [List.drop_succ_cons, List.drop_zero, List.take_succ_cons, List.take_zero]
  rw [e2]
  simp only [List.drop_succ_cons, List.drop_zero, List.take_zero]
  rw [e3]
theorem p3 : parse ([] ++ [128, 0]) = ([], [], 2) := parse_bad rfl
theorem p4 : parse ([] ++ [129, 32]) = ([], [], 3) := parse_bad rfl

/-- What a push on a feed that is new leaves. -/
def Fresh (w : World) (n : Nat) (L : List (List Int)) (z : List Int) (x : Int) (d : Bool) (e : Ending) (w' : World) : Prop :=
  ∃ A c r', e = .returned (.tuple #[.slice A n c, .int .i64 x]) ∧ Hid (Feed w' w.heap.size w.heap.size r' z d) ∧ Hid (Rows w' w.heap.size r' A c L) ∧ Hid (Below w.heap.size w w')
theorem push_fresh (w : World) (b : List Int) (cs : Array Value) (hcs : cs.toList = vs .u8 b) (hm : (b.length : Int) ≤ 20000) (hby : Byt b) (L : List (List Int)) (z : List Int) (x : Int) (hp : parse ([] ++ b) = (L, z, x)) (n : Nat) (hn : L.length = n) (d : Bool) (hd : (x != 0) = d) :
    Calls Try.prog 10 #[.pointer (some ⟨w.heap.size, 0, none⟩), .slice (some ⟨w.heap.size + 1, 0, none⟩) b.length b.length] ((w.alloc (.cells #[.slice none 0 0, .bool false] 41)).alloc (.cells cs 5)) (Fresh w n L z x d) := by
  subst hn
  subst hd
  have hr := rd_new (w.alloc (.cells #[.slice none 0 0, .bool false] 41)) b cs 5 hcs
  have e : (w.alloc (.cells #[.slice none 0 0, .bool false] 41)).heap.size = w.heap.size + 1 := by simp
  rw [e] at hr
  refine (push_any _ w.heap.size w.heap.size none [] b _ _ b.length ((feed_new w).alloc _) hr (by simp) hm hby (by simp; omega) L z x hp).mono ?_
  rintro e w' ⟨A, c, r', rfl, HF, HR, HT, _⟩
  refine ⟨A, c, r', rfl, HF, HR.out.more (by simp; omega), ?_⟩
  exact ((((Below.refl w.heap.size w).alloc (Nat.le_refl _) _).alloc (by simp) _).trans (HT.out.below (by simp; omega) (Nat.le_refl _) (fun k hk => by cases hk)))

theorem s_push1 (w : World) (g : Nat) (hg : g = w.heap.size + 1) : Calls Try.prog 10 #[.pointer (some ⟨w.heap.size, 0, none⟩), .slice (some ⟨g, 0, none⟩) 2 2] ((w.alloc (.cells #[.slice none 0 0, .bool false] 41)).alloc (.cells #[.int .u8 2, .int .u8 97] 5)) (Fresh w 0 [] [2, 97] 0 false) := by
  subst hg
  exact push_fresh w [2, 97] #[.int .u8 2, .int .u8 97] rfl (by simp) (byt_of (by decide)) [] [2, 97] 0 p1 0 rfl false rfl
theorem s_push3 (w : World) (g : Nat) (hg : g = w.heap.size + 1) : Calls Try.prog 10 #[.pointer (some ⟨w.heap.size, 0, none⟩), .slice (some ⟨g, 0, none⟩) 2 2] ((w.alloc (.cells #[.slice none 0 0, .bool false] 41)).alloc (.cells #[.int .u8 128, .int .u8 0] 5)) (Fresh w 0 [] [] 2 true) := by
  subst hg
  exact push_fresh w [128, 0] #[.int .u8 128, .int .u8 0] rfl (by simp) (byt_of (by decide)) [] [] 2 p3 0 rfl true rfl
theorem s_push4 (w : World) (g : Nat) (hg : g = w.heap.size + 1) : Calls Try.prog 10 #[.pointer (some ⟨w.heap.size, 0, none⟩), .slice (some ⟨g, 0, none⟩) 2 2] ((w.alloc (.cells #[.slice none 0 0, .bool false] 41)).alloc (.cells #[.int .u8 129, .int .u8 32] 5)) (Fresh w 0 [] [] 3 true) := by
  subst hg
  exact push_fresh w [129, 32] #[.int .u8 129, .int .u8 32] rfl (by simp) (byt_of (by decide)) [] [] 3 p4 0 rfl true rfl
/-- The second push on the first feed. -/
def Second (w0 w : World) (e : Ending) (w' : World) : Prop :=
  ∃ A c r', e = .returned (.tuple #[.slice A 2 c, .int .i64 0]) ∧ Hid (Feed w' w0.heap.size w0.heap.size r' [1] false) ∧ Hid (Rows w' w.heap.size r' A c [[97, 98], []]) ∧ Hid (Below w0.heap.size w0 w')
theorem s_push2 (w0 w : World) (r : Option Nat) (h : Feed w w0.heap.size w0.heap.size r [2, 97] false) (hb : Below w0.heap.size w0 w) : Calls Try.prog 10 #[.pointer (some ⟨w0.heap.size, 0, none⟩), .slice (some ⟨w.heap.size, 0, none⟩) 3 3] (w.alloc (.cells #[.int .u8 98, .int .u8 0, .int .u8 1] 5)) (Second w0 w) := by
  have hr := rd_new w [98, 0, 1] #[.int .u8 98, .int .u8 0, .int .u8 1] 5 rfl
  have hs := hb.size
  have hlt := h.lt
  refine (push_any _ w0.heap.size w0.heap.size r [2, 97] [98, 0, 1] _ _ 3 (h.alloc _) hr (by simp) (by simp) (byt_of (by decide)) (by simp; omega) _ _ _ p2).mono ?_
  rintro e w' ⟨A, c, r', rfl, HF, HR, HT, _⟩
  refine ⟨A, c, r', rfl, HF, HR.out.more (by simp), ?_⟩
  exact (hb.alloc hs _).trans (HT.out.below (by simp; omega) (Nat.le_refl _) (fun k hk => (hlt.2.2 k hk).1))

theorem s_wrap (w : World) : Calls Try.prog 15 #[.slice (some ⟨w.heap.size, 0, none⟩) 2 2] (w.alloc (.cells #[.int .u8 97, .int .u8 98] 5 (2, 3))) fun e w' => ∃ A c, e = .returned (.tuple #[.slice A 3 c, .int .i64 0]) ∧ Hid (Own w' w.heap.size .u8 5 A c [2, 97, 98]) ∧ Hid (Below w.heap.size w w') := by
  have hr : Rd .u8 (w.alloc (.cells #[.int .u8 97, .int .u8 98] 5 (2, 3))) (w.heap.size + 1) (some ⟨w.heap.size, 0, none⟩) [97, 98] := by
    refine .inr ⟨w.heap.size, 0, rfl, by omega, fun k x hx => ?_⟩
    have hc := cell_of_row (w.alloc (.cells #[.int .u8 97, .int .u8 98] 5 (2, 3))) w.heap.size (0 + k) #[.int .u8 97, .int .u8 98] 5 (2, 3) (heap_alloc_new w _)
    rw [hc, Nat.zero_add, ← Array.getElem?_toList]
    exact vs_at hx
  refine (wrap_ok _ 2 2 [97, 98] rfl _ _ hr (by simp) (by simp)).mono ?_
  rintro e w' ⟨lm, A, c, HL, rfl, HO, HB⟩
  have hl : lm = [2, 97, 98] := by
    rw [HL.out]
    show dg 2 ++ [97, 98] = _
    rw [dg_lt (by omega)]; rfl
  subst hl
  exact ⟨A, c, rfl, own_base HO.out (by simp), ((Below.refl w.heap.size w).alloc (Nat.le_refl _) _).trans (HB.out.mono (by simp))⟩

theorem txt_ab : ((strOfNums [97, 98]).toList == [97, 98]) = true := by kernel_rfl
theorem txt_2ab : ((strOfNums [2, 97, 98]).toList == [2, 97, 98]) = true := by kernel_rfl
theorem conv_ab (w : World) : (convert 23 23 (.slice (some ⟨w.heap.size, 0, none⟩) 2 2)).run Try.prog (w.alloc (.cells #[.int .u8 97, .int .u8 98] 5)) = .ok (.slice (some ⟨w.heap.size, 0, none⟩) 2 2) (w.alloc (.cells #[.int .u8 97, .int .u8 98] 5 (2, 3))) :=
  Lib.run_convert_bytes_const w 23 5 #[.int .u8 97, .int .u8 98] 2 2 Try.underlying23 Try.underlying5
/-- The two loads, as they lie. -/
theorem two_loads {w : World} {lo : Nat} {f : Option Nat} {A : Option Addr} {c : Nat} {x y : List Int} (h : Rows w lo f A c [x, y]) : ∃ g A1 c1 A2 c2, A = some ⟨g, 0, none⟩ ∧ 2 ≤ c ∧ w.cell? ⟨g, 0, none⟩ = some (.slice A1 x.length c1) ∧ w.cell? ⟨g, 1, none⟩ = some (.slice A2 y.length c2) ∧ Own w lo .u8 5 A1 c1 x ∧ Own w lo .u8 5 A2 c2 y := by
  obtain ⟨xs, h1, h2, _⟩ := h
  obtain ⟨A1, c1, k1, k2, _⟩ := h2.2 0 x rfl
  obtain ⟨A2, c2, m1, m2, _⟩ := h2.2 1 y rfl
  rcases h1.2 with ⟨_, h0⟩ | ⟨g, cap, cur, hv, hb, hg, hn, _⟩
  · simp at h0
  · injection hv with hA _ hc
    subst hA
    have f0 := h1.cells (g := g) rfl 0 _ k1
    have f1 := h1.cells (g := g) rfl 1 _ m1
    rw [add_none] at f0 f1
    simp only [List.length_cons, List.length_nil] at hn
    exact ⟨g, A1, c1, A2, c2, rfl, by omega, f0, f1, k2, m2⟩

set_option maxHeartbeats 2000000 in
set_option maxRecDepth 100000 in
theorem small_any (w : World) : Calls Try.prog 7 #[] w fun e w' => e = .returned (.bool true) ∧ Below w.heap.size w w' := by
  go_enter Try.func7, Try.ntmps7
  go_wp2_with (first
    | ((with_reducible refine (new_any _).mono ?_); rintro e w' ⟨rfl, rfl⟩)
    | ((with_reducible refine (s_push1 _ _ (by simp)).mono ?_); rintro e w1 ⟨A1, c1, r1, rfl, HF1, HR1, HB1⟩)
    | ((with_reducible refine (s_push2 w w1 r1 HF1.out HB1.out).mono ?_); rintro e w2 ⟨A2, c2, r2, rfl, HF2, HR2, HB2⟩)
    | ((with_reducible refine (waits_any HF2.out).mono ?_); rintro e w' ⟨rfl, rfl⟩)
    | ((with_reducible refine (s_push3 _ _ (by simp)).mono ?_); rintro e w3 ⟨A3, c3, r3, rfl, HF3, HR3, HB3⟩)
    | ((with_reducible refine (s_push4 _ _ (by simp)).mono ?_); rintro e w4 ⟨A4, c4, r4, rfl, HF4, HR4, HB4⟩; have hcv := conv_ab w4)
    | ((with_reducible refine (s_wrap w4).mono ?_); rintro e w5 ⟨A5, c5, rfl, HO5, HB5⟩; have HBz := Lib.hid (HB3.out.trans ((HB4.out.trans (HB5.out.mono HB4.out.size)).mono HB3.out.size)); obtain ⟨g2, Ax, cx, Ay, cy, rfl, hg2, hcx, hcy, hox, hoy⟩ := two_loads (HR2.out.below HBz.out (Nat.le_refl _)); have hvx : (convert 23 9 (.slice Ax 2 cx)).run Try.prog w5 = .ok (.string (strOfNums [97, 98])) w5 := conv cx (Rd.of_own hox); have hv5 : (convert 23 9 (.slice A5 3 c5)).run Try.prog w5 = .ok (.string (strOfNums [2, 97, 98])) w5 := conv c5 (Rd.of_own HO5.out); have hcx' : w5.cell? ⟨g2, 0, none⟩ = some (.slice Ax 2 cx) := hcx; have hcy' : w5.cell? ⟨g2, 1, none⟩ = some (.slice Ay 0 cy) := hcy; have t1 := txt_ab; have t2 := txt_2ab; clear hcx hcy; have HF5 := Lib.hid (HF3.out.below (HB4.out.trans (HB5.out.mono HB4.out.size)) (Nat.le_refl _)); clear hox hoy)
    | ((with_reducible refine (dead_any HF5.out).mono ?_); rintro e w' ⟨rfl, rfl⟩))
  go_ret
  exact ⟨rfl, HB2.out.trans (HBz.out.mono HB2.out.size)⟩
end Go.Proofs.Ytcefkjeoknaijaa.Con
