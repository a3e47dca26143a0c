/-
  Contracts of the document's own stream: Feed, Below, Pick; and of Same.
-/
import Derived.Test.YtieohegflcfnaaaTwo
namespace Go.Proofs.Ytieohegflcfnaaa.Con
open Go.RowKit Mth Mem

/-- Is one of the first k no word? What the document's loop over the words has found. -/
theorem bad_at {m : List Int} {k : Nat} {x : Int} (h : m[k]? = some x) (hx : noWord x = true) : bad m = true := by
  unfold bad
  rw [List.any_eq_true]
  exact ⟨x, List.mem_of_getElem? h, hx⟩
theorem bad_none {m : List Int} (h : ∀ (k : Nat) (x : Int), m[k]? = some x → noWord x = false) : bad m = false := by
  unfold bad
  rw [List.any_eq_false]
  intro x hx
  obtain ⟨k, hk, rfl⟩ := List.getElem_of_mem hx
  simp [h k _ (List.getElem?_eq_getElem hk)]

set_option maxHeartbeats 1000000 in
theorem rfeed_any (w : World) (base g : Nat) (r : Option Nat) (l m : List Int) (B : Nat) (A : Option Addr) (c : Nat) (h : Str w base 32 g r l) (hr : Rd w B A m) (hl : l.length ≤ 4096) (hm : m.length ≤ 9223372036854770000) (hbase : base ≤ w.heap.size) :
    Calls Try.prog 13 #[.pointer (some ⟨g, 0, none⟩), .slice A m.length c] w fun e w' => e = .returned (.int .i64 (feedE l m)) ∧ Went w w' base 32 g r (feedL l m) := by
  have HS := Lib.hid h
  obtain ⟨A1, c1, hb, hbg, ho, hrr⟩ := h
  have hne : r ≠ some g := Str.ne ⟨A1, c1, hb, hbg, ho, hrr⟩ hb (by decide)
  have hc := hb.cell
  have hfz := hb.frozen
  have HBl := Lib.hid hb; have HO := Lib.hid ho; have HRR := Lib.hid hrr; have HR := Lib.hid hr; have HN := Lib.hid hne
  clear hb ho hrr hr hne
  go_enter Try.func13, Try.ntmps13
  go_wp2
  go_loopg [5] m.length (fun gh s5 wr => ∃ k : Nat, k ≤ m.length ∧ gh = m.length - k ∧ s5 = .int .i64 k ∧ w = wr ∧ Hid (∀ (j : Nat) (x : Int), j < k → m[j]? = some x → noWord x = false))
  case atStart => exact ⟨0, by omega, rfl, rfl, rfl, fun j x hj => by omega⟩
  case round =>
    obtain ⟨k, hk, rfl, rfl, rfl, hs⟩ := hrel
    by_cases hlt : k < m.length
    · obtain ⟨b, off, x, rfl, _, hx, hcx⟩ := HR.out.at' hlt
      have HX := Lib.hid hx; clear hx
      by_cases hx0 : x < 0
      · have HF := Lib.hid (feed_bad (l := l) (bad_at HX.out (noWord_true (.inl hx0))))
        go_wp2
        go_ret
        exact ⟨ret_int HF.out.1.symm, by rw [HF.out.2]; exact Went.same HS.out⟩
      · have hx0' : decide (x < 0) = false := by simpa using hx0
        by_cases hx1 : 4294967296 ≤ x
        · have HF := Lib.hid (feed_bad (l := l) (bad_at HX.out (noWord_true (.inr hx1))))
          go_wp2
          go_ret
          exact ⟨ret_int HF.out.1.symm, by rw [HF.out.2]; exact Went.same HS.out⟩
        · have hx1' : decide (4294967296 ≤ x) = false := by simpa using hx1
          go_wp2
          go_roundg (m.length - (k + 1))
          case measure => omega
          case rel =>
            refine ⟨k + 1, by omega, rfl, by go_num, rfl, fun j y hj hy => ?_⟩
            by_cases hjk : j < k
            · exact hs.out j y hjk hy
            · obtain rfl : j = k := by omega
              rw [HX.out] at hy
              injection hy with hy
              subst hy
              exact noWord_false (by omega) (by omega)
    · have hbad : bad m = false := bad_none fun j x hx => hs.out j x (by have := (List.getElem?_eq_some_iff.1 hx).1; omega) hx
      by_cases hfull : 4096 < l.length + m.length
      · have HF := Lib.hid (feed_full (l := l) hbad hfull)
        have hfull' : (4096 : Int) - l.length < m.length := by omega
        clear hbad
        go_wp2
        go_ret
        exact ⟨ret_int HF.out.1.symm, by rw [HF.out.2]; exact Went.same HS.out⟩
      · have HF := Lib.hid (feed_ok (l := l) hbad (by omega))
        have hfull' : (m.length : Int) ≤ (4096 : Int) - l.length := by omega
        clear hbad
        go_wp2_with (at_builtin; refine wpList_app rfl (.tmp 37) (.tmp 38) rfl base B _ l m A c rfl rfl HO.out HR.out (by omega) hbase ?_; intro A2 c2 w1 lm hlm ho1 hg1 hob; have hb1 : Blk w1 g 32 (.slice A1 l.length c1) := (hg1.block g HBl.out.lt (fun e => HN.out (HRR.out.symm.trans e.symm))).trans HBl.out; have hc1 := hb1.cell; have hf1 := hb1.frozen; have HW := Lib.hid (went_app HBl.out hbg HRR.out HN.out ho1 hg1 hob); clear ho1 hg1 hb1 hob)
        go_ret
        exact ⟨ret_int HF.out.1.symm, by rw [HF.out.2, ← hlm.out]; exact HW.out⟩

/-- What the document's Below leaves: only the struct itself has turned. -/
def Moved (w w' : World) (base : Nat) (t : TypeId) (g : Nat) (r : Option Nat) (l' : List Int) : Prop :=
  ∃ r', Str w' base t g r' l' ∧ Turn w w' g none ∧ (r' = r ∨ ∃ k, r' = some k ∧ w.heap.size ≤ k)
theorem Moved.went {w w' : World} {base : Nat} {t : TypeId} {g : Nat} {r : Option Nat} {l' : List Int} (h : Moved w w' base t g r l') : Went w w' base t g r l' := by
  obtain ⟨r', h1, h2, h3⟩ := h
  exact ⟨r', h1, ⟨h2.os, h2.tape, h2.output, h2.size, fun k hk hg _ => h2.block k hk hg (by simp)⟩, h3⟩

/-- Behind 'x.L = append([]int{}, ..)': w1 is the world behind the append, in which the new row lies. -/
theorem moved_app {w w1 : World} {base : Nat} {g : Nat} {r : Option Nat} {l lm : List Int} {A A' : Option Addr} {c c' : Nat} (hb : Blk w g 32 (.slice A l.length c)) (hbg : base ≤ g)
    (ho1 : w1.ownsRow base 3 1 (.slice A' lm.length c') lm.length (vs lm)) (hg1 : (w.alloc (.cells #[] 3)).grownBy w1 (some w.heap.size))
    (hob : (Value.slice A' lm.length c').ownBlock = some w.heap.size ∨ (Value.slice A' lm.length c').ownBlock = some (w.heap.size + 1)) :
    Moved w (w1.setCell ⟨g, 0, none⟩ (.slice A' lm.length c')) base 32 g r lm := by
  have hlt := hb.lt
  have hk : ∀ k, k < w.heap.size → w1.heap[k]? = w.heap[k]? := fun k hk => (hg1.block k (by simp; omega) (by simp; omega)).trans (Below.heap_alloc w _ k hk)
  have hb1 : Blk w1 g 32 (.slice A l.length c) := (hk g hlt).trans hb
  have hsz := hg1.size
  simp at hsz
  refine ⟨(Value.slice A' lm.length c').ownBlock, ⟨A', c', hb1.set _, hbg, own_far ho1 (fun k hk => Below.heap_setCell _ _ _ _ ?_), rfl⟩, Turn.setCell (show Turn w w1 g none from ⟨hg1.os, hg1.tape, hg1.output, by omega, fun k h _ _ => hk k h⟩) _, .inr ?_⟩
  · show k ≠ g
    rcases hob with e | e <;> rw [e] at hk <;> injection hk with hk <;> omega
  · rcases hob with e | e
    · exact ⟨_, e, Nat.le_refl _⟩
    · exact ⟨_, e, by omega⟩

theorem Moved.drawn {w w' : World} {q base : Nat} {t : TypeId} {g : Nat} {r : Option Nat} {l' : List Int} (h : Moved (w.drewN q) w' base t g r l') : Moved w w' base t g r l' := by
  obtain ⟨r', h1, h2, h3⟩ := h
  exact ⟨r', h1, ⟨h2.os, h2.tape, h2.output, h2.size, h2.block⟩, h3⟩
theorem moved_all {w w1 : World} {base : Nat} {g : Nat} {r : Option Nat} {l lm : List Int} {A A' : Option Addr} {c c' : Nat} (hb : Blk w g 32 (.slice A l.length c)) (hbg : base ≤ g)
    (ho1 : w1.ownsRow base 3 1 (.slice A' lm.length c') lm.length (vs lm)) (hg1 : (w.alloc (.cells #[] 3)).grownBy w1 (some w.heap.size))
    (hob : (Value.slice A' lm.length c').ownBlock = some w.heap.size ∨ (Value.slice A' lm.length c').ownBlock = some (w.alloc (.cells #[] 3)).heap.size) :
    w1.cell? ⟨g, 0, none⟩ = some (.slice A l.length c) ∧ w1.frozen? ⟨g, 0, none⟩ = false ∧ Moved w (w1.setCell ⟨g, 0, none⟩ (.slice A' lm.length c')) base 32 g r lm := by
  have hlt := hb.lt
  have hb1 : Blk w1 g 32 (.slice A l.length c) := (hg1.block g (by simp; omega) (by simp; omega)).trans ((Below.heap_alloc w _ g hlt).trans hb)
  exact ⟨hb1.cell, hb1.frozen, moved_app hb hbg ho1 hg1 (by simpa using hob)⟩

theorem rfair_some (B : Nat) (A : Option Addr) (c : Nat) (l : List Int) (n d : Int) (u : Nat) (w : World) (hr : Rd w B A l) (hl : l.length ≤ 9223372036854775807) (hf : fair l n = some (d, u)) :
    Calls Try.prog 10 #[.slice A l.length c, .int .i64 n] w fun e w' => e = .returned (.tuple #[.int .i64 d, .int .i64 u, .bool true]) ∧ ∃ q, w' = w.drewN q := by
  have := rfair_any B A c l n w hr hl; rw [hf] at this; exact this
theorem rfair_none (B : Nat) (A : Option Addr) (c : Nat) (l : List Int) (n : Int) (w : World) (hr : Rd w B A l) (hl : l.length ≤ 9223372036854775807) (hf : fair l n = none) :
    Calls Try.prog 10 #[.slice A l.length c, .int .i64 n] w fun e w' => e = .returned (.tuple #[.int .i64 0, .int .i64 0, .bool false]) ∧ ∃ q, w' = w.drewN q := by
  have := rfair_any B A c l n w hr hl; rw [hf] at this; exact this

theorem Moved.drewN {w : World} {base : Nat} {t : TypeId} {g : Nat} {r : Option Nat} {l : List Int} (h : Str w base t g r l) (q : Nat) : Moved w (w.drewN q) base t g r l := ⟨r, h, (Turn.refl _ _ _).drewN q, .inl rfl⟩
theorem own_empty (w : World) (base : Nat) (hb : base ≤ w.heap.size) : (w.alloc (.cells #[] 3)).ownsRow base 3 1 (.slice (some ⟨w.heap.size, 0, none⟩) 0 0) 0 (vs []) := by
  have := World.ownsRow_made (base := base) (e := 3) (size := 1) w #[] 0 hb (by unfold maxLen; omega) (by simp)
  exact this

set_option maxHeartbeats 1000000 in
theorem rbelow_none (w : World) (base g : Nat) (r : Option Nat) (l : List Int) (n : Int) (h : Str w base 32 g r l) (hl : l.length ≤ 4096) (hf : fair l n = none) :
    Calls Try.prog 15 #[.pointer (some ⟨g, 0, none⟩), .int .i64 n] w fun e w' => e = .returned (.tuple #[.int .i64 0, .bool false]) ∧ Moved w w' base 32 g r l := by
  have HS := Lib.hid h
  obtain ⟨A, c, hb, hbg, ho, hrr⟩ := h
  have hc := hb.cell
  have HR := Lib.hid (Rd.of_own ho); have HF := Lib.hid hf
  clear hb ho hrr hf
  go_enter Try.func15, Try.ntmps15
  go_wp2_with ((with_reducible refine (rfair_none _ A c l n _ HR.out (by omega) HF.out).mono ?_); rintro e w' ⟨rfl, q, rfl⟩)
  go_ret2
  exact ⟨rfl, Moved.drewN HS.out q⟩

theorem after_draw {w wq : World} {q base g : Nat} {A : Option Addr} {l : List Int} {c : Nat} (hq : wq = w.drewN q) (hb : Blk w g 32 (.slice A l.length c)) (hr : Rd w w.heap.size A l) (hba : base ≤ w.heap.size) :
    (wq.alloc (.cells #[] 3)).cell? ⟨g, 0, none⟩ = some (.slice A l.length c) ∧ base ≤ wq.heap.size ∧ Blk wq g 32 (.slice A l.length c) ∧ Rd wq wq.heap.size A l := by
  subst hq
  exact ⟨(World.cell?_of_block (w := w.drewN q) (Below.heap_alloc (w.drewN q) _ g hb.lt)).trans hb.cell, hba, hb, hr⟩
theorem rd_past {w : World} {A : Option Addr} {l : List Int} (h : Rd w w.heap.size A l) (o : Obj) : Rd (w.alloc o) w.heap.size A l := h.keep fun b hb => Below.heap_alloc w o b hb

set_option maxHeartbeats 1000000 in
theorem rbelow_some (w : World) (base g : Nat) (r : Option Nat) (l : List Int) (n d : Int) (u : Nat) (h : Str w base 32 g r l) (hl : l.length ≤ 4096) (hf : fair l n = some (d, u)) :
    Calls Try.prog 15 #[.pointer (some ⟨g, 0, none⟩), .int .i64 n] w fun e w' => e = .returned (.tuple #[.int .i64 d, .bool true]) ∧ Moved w w' base 32 g r (l.drop u) := by
  have HS := Lib.hid h
  have hlt := h.lt
  obtain ⟨A, c, hb, hbg, ho, hrr⟩ := h
  have hfs := fair_some hf
  have hc := hb.cell
  have hfz := hb.frozen
  have hlc : l.length ≤ c := by
    rcases ho.2 with ⟨hv, hz⟩ | ⟨_, cap, _, hv, _, _, hcc, _⟩
    · omega
    · injection hv with _ _ hv
      omega
  have hu : u ≤ l.length := hfs.2.2.2.2.2
  have HR := Lib.hid (Rd.of_own ho); have HF := Lib.hid hf; have HBl := Lib.hid hb
  have HDL := Lib.hid (List.length_drop (i := u) (l := l))
  have hba : base ≤ w.heap.size := by omega
  clear hb ho hrr hf hfs hlt
  by_cases hcu : c = u
  · subst hcu
    have hlu : l.length ≤ c := by omega
    have HNIL := Lib.hid (List.drop_eq_nil_of_le hlu)
    go_enter Try.func15, Try.ntmps15
    go_wp2_with (first
      | ((with_reducible refine (rfair_some _ A c l n d c _ HR.out (by omega) HF.out).mono ?_); rintro e wq ⟨rfl, q, hq⟩; obtain ⟨hcq, hbq, hBq, hRq⟩ := after_draw hq HBl.out HR.out hba; have HQ := Lib.hid hq; have HBq := Lib.hid hBq; have HRq := Lib.hid hRq; clear hq hBq hRq)
      | (at_builtin; refine wpList_app rfl (.tmp 21) (.tmp 27) rfl base wq.heap.size _ [] [] A 0 rfl rfl (own_empty wq base hbq) Rd.nil (by simp) (by simp; omega) ?_; intro A2 c2 w1 lm hlm ho1 hg1 hob; obtain ⟨hc1, hf1, hM⟩ := moved_all (r := r) HBq.out hbg ho1 hg1 hob; have HM := Lib.hid hM; clear ho1 hg1 hob hM))
    go_ret2
    exact ⟨rfl, by rw [HNIL.out]; have e := hlm.out; simp only [List.append_nil] at e; have h := HM.out; rw [HQ.out] at h; subst e; exact Moved.drawn h⟩
  · go_enter Try.func15, Try.ntmps15
    go_wp2_with (first
      | ((with_reducible refine (rfair_some _ A c l n d u _ HR.out (by omega) HF.out).mono ?_); rintro e wq ⟨rfl, q, hq⟩; obtain ⟨hcq, hbq, hBq, hRq⟩ := after_draw hq HBl.out HR.out hba; have HQ := Lib.hid hq; have HBq := Lib.hid hBq; have HRq := Lib.hid hRq; clear hq hBq hRq)
      | (at_builtin; refine wpList_app rfl (.tmp 21) (.tmp 27) rfl base wq.heap.size _ [] (l.drop u) (Option.map (fun x => x.add u) A) (c - u) rfl (by rw [HDL.out]; rfl) (own_empty wq base hbq) (rd_past (rd_map HRq.out u) _) (by have := HDL.out; simp; omega) (by simp; omega) ?_; intro A2 c2 w1 lm hlm ho1 hg1 hob; obtain ⟨hc1, hf1, hM⟩ := moved_all (r := r) HBq.out hbg ho1 hg1 hob; have HM := Lib.hid hM; clear ho1 hg1 hob hM))
    go_ret2
    exact ⟨rfl, by have e := hlm.out; simp only [List.nil_append] at e; have h := HM.out; rw [HQ.out] at h; rw [← e]; exact Moved.drawn h⟩
end Go.Proofs.Ytieohegflcfnaaa.Con
