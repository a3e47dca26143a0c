/-
  The contract of the document's own Deal.
-/
import Derived.Test.YtieohegflcfnaaaRpk
import Derived.Test.YtieohegflcfnaaaDeal
namespace Go.Proofs.Ytieohegflcfnaaa.Con
open Go.RowKit Mth Mem

theorem own_ne {w : World} {base : Nat} {v : Value} {n : Nat} {xs : List Value} (h : w.ownsRow base 3 1 v n xs) {g : Nat} {t : TypeId} {u : Value} (hb : Blk w g t u) (ht : 3 ≠ t) : v.ownBlock ≠ some g := by
  intro he
  rcases h.2 with ⟨rfl, _⟩ | ⟨g2, cap, cur, rfl, _, hh, _⟩
  · simp [Value.ownBlock] at he
  · simp only [Value.ownBlock, Option.some.injEq] at he
    subst he
    unfold Blk at hb
    rw [hh] at hb
    injection hb with hb
    injection hb with _ hb
    exact ht hb

/-- What is known while the document's Deal goes on: x as it was, y beside it, what is dealt in a new row. -/
structure RD (w wr : World) (base g : Nat) (r : Option Nat) (l : List Int) (gy : Nat) (ly : List Int) (v : Value) (p : List Int) : Prop where
  str : Str wr base 32 g r l
  old : g < w.heap.size ∧ ∀ k, r = some k → k < w.heap.size
  y : ∃ ry, Str wr base 32 gy ry ly ∧ (ry = r ∨ ∃ k, ry = some k ∧ w.heap.size ≤ k) ∧ ∀ k, v.ownBlock = some k → ry ≠ some k
  new : w.heap.size ≤ gy
  own : wr.ownsRow w.heap.size 3 1 v p.length (vs p)
  below : Below w.heap.size w wr

theorem RD.turn {w wr w1 : World} {base g : Nat} {r : Option Nat} {l : List Int} {gy : Nat} {ly : List Int} {v v' : Value} {p p' : List Int} (h : RD w wr base g r l gy ly v p) (hg : wr.grownBy w1 v.ownBlock) (ho : w1.ownsRow w.heap.size 3 1 v' p'.length (vs p')) (hob : v'.ownBlock = v.ownBlock ∨ ∃ k, v'.ownBlock = some k ∧ wr.heap.size ≤ k) : RD w w1 base g r l gy ly v' p' := by
  have hv : ∀ k, v.ownBlock = some k → w.heap.size ≤ k := fun k hk => (h.own.lt k hk).1
  have hsz := h.below.size
  have keep : ∀ k, k < wr.heap.size → v.ownBlock ≠ some k → w1.heap[k]? = wr.heap[k]? := fun k hk hne => hg.block k hk (fun e => hne e.symm)
  obtain ⟨ry, sy, hry, hdis⟩ := h.y
  obtain ⟨Ay, cy, hby⟩ := sy.blk
  refine ⟨h.str.keep (keep g h.str.lt.2.1 (fun e => ?_)) (fun k hk => keep k (h.str.lt.2.2 k hk).2 (fun e => ?_)), h.old, ⟨ry, sy.keep (keep gy hby.lt (own_ne h.own hby (by decide))) (fun k hk => keep k (sy.lt.2.2 k hk).2 (fun e => hdis k e hk)), hry, fun k hk e => ?_⟩, h.new, ho, h.below.grown hg hsz hv⟩
  · have := hv g e; have := h.old.1; omega
  · have := hv k e; have := h.old.2 k hk; omega
  · rcases hob with hob | ⟨k', hk', hlt⟩
    · exact hdis k (hob.symm.trans hk) e
    · have : k = k' := by rw [hk] at hk'; exact Option.some.inj hk'
      subst this
      have := (sy.lt.2.2 k e).2
      omega
theorem RD.drew {w wr : World} {base g : Nat} {r : Option Nat} {l : List Int} {gy : Nat} {ly : List Int} {v : Value} {p : List Int} (h : RD w wr base g r l gy ly v p) : RD w wr.drew base g r l gy ly v p := ⟨h.str, h.old, h.y, h.new, h.own, h.below.drew⟩
theorem RD.moved {w wr w1 : World} {base g : Nat} {r : Option Nat} {l : List Int} {gy : Nat} {ly ly' : List Int} {v : Value} {p : List Int} {ry : Option Nat} (h : RD w wr base g r l gy ly v p) (sy : Str wr base 32 gy ry ly) (hry : ry = r ∨ ∃ k, ry = some k ∧ w.heap.size ≤ k) (hdis : ∀ k, v.ownBlock = some k → ry ≠ some k) (hm : Moved wr w1 base 32 gy ry ly') : RD w w1 base g r l gy ly' v p := by
  obtain ⟨r', s1, hT, hr'⟩ := hm
  obtain ⟨Ay, cy, hby⟩ := sy.blk
  have hsz := h.below.size
  have hnew := h.new
  have keep : ∀ k, k < wr.heap.size → k ≠ gy → w1.heap[k]? = wr.heap[k]? := fun k hk hne => hT.block k hk hne (by simp)
  refine ⟨h.str.keep (keep g h.str.lt.2.1 (by have := h.old.1; omega)) (fun k hk => keep k (h.str.lt.2.2 k hk).2 (by have := h.old.2 k hk; omega)), h.old, ⟨r', s1, ?_, fun k hk e => ?_⟩, h.new, own_far h.own (fun k hk => keep k (h.own.lt k hk).2 (fun e => own_ne h.own hby (by decide) (e ▸ hk))), h.below.trans ⟨hT.os, hT.tape, hT.output, hT.size, fun k hk => keep k (by omega) (by omega)⟩⟩
  · rcases hr' with rfl | ⟨k, rfl, hk⟩
    · exact hry
    · exact .inr ⟨k, rfl, by omega⟩
  · rcases hr' with rfl | ⟨k', rfl, hk'⟩
    · exact hdis k hk e
    · injection e with e
      subst e
      have := (h.own.lt _ hk).2
      omega

theorem rd_below_some {w wr : World} {base g : Nat} {r : Option Nat} {l : List Int} {gy : Nat} {ly : List Int} {v : Value} {p : List Int} (h : RD w wr base g r l gy ly v p) (n d : Int) (u : Nat) (hl : ly.length ≤ 4096) (hf : fair ly n = some (d, u)) (l' : List Int) (hl' : ly.drop u = l') :
    Calls Try.prog 15 #[.pointer (some ⟨gy, 0, none⟩), .int .i64 n] wr fun e w' => e = .returned (.tuple #[.int .i64 d, .bool true]) ∧ RD w w' base g r l gy l' v p := by
  subst hl'
  obtain ⟨ry, sy, hry, hdis⟩ := h.y
  exact (rbelow_some wr base gy ry ly n d u sy hl hf).mono fun e w' ⟨he, hm⟩ => ⟨he, h.moved sy hry hdis hm⟩
theorem rd_below_none {w wr : World} {base g : Nat} {r : Option Nat} {l : List Int} {gy : Nat} {ly : List Int} {v : Value} {p : List Int} (h : RD w wr base g r l gy ly v p) (n : Int) (hl : ly.length ≤ 4096) (hf : fair ly n = none) :
    Calls Try.prog 15 #[.pointer (some ⟨gy, 0, none⟩), .int .i64 n] wr fun e w' => e = .returned (.tuple #[.int .i64 0, .bool false]) ∧ RD w w' base g r l gy ly v p := by
  obtain ⟨ry, sy, hry, hdis⟩ := h.y
  exact (rbelow_none wr base gy ry ly n sy hl hf).mono fun e w' ⟨he, hm⟩ => ⟨he, h.moved sy hry hdis hm⟩

/-- What the document's Deal leaves. -/
def RDealt (w w' : World) (base g : Nat) (r : Option Nat) (l : List Int) (e : Ending) : Option (List Int × Nat) → Prop
  | none => e = .returned (.tuple #[.slice none 0 0, .bool false]) ∧ Went w w' base 32 g r l
  | some (p, t) => ∃ A c, e = .returned (.tuple #[.slice A p.length c, .bool true]) ∧ Went w w' base 32 g r (l.drop t) ∧ Rd w' w'.heap.size A p
theorem RD.went {w wr : World} {base g : Nat} {r : Option Nat} {l : List Int} {gy : Nat} {ly : List Int} {v : Value} {p : List Int} (h : RD w wr base g r l gy ly v p) : Went w wr base 32 g r l := ⟨r, h.str, Turn.of_below h.below, .inl rfl⟩

/-- The end: x takes y's slice. -/
theorem rdealt_end {w wr : World} {base g : Nat} {r : Option Nat} {l : List Int} {gy t n : Nat} {A Ay : Option Addr} {c cy : Nat} {p ly : List Int} (h : RD w wr base g r l gy ly (.slice A n c) p) (hp : p.length = n) (hly : ly = l.drop t) (hy : Blk wr gy 32 (.slice Ay ly.length cy)) (hbase : base ≤ g) :
    RDealt w (wr.setCell ⟨g, 0, none⟩ (.slice Ay ly.length cy)) base g r l (.returned (.tuple #[.slice A n c, .bool true])) (some (p, t)) := by
  subst hp
  subst hly
  obtain ⟨ry, ⟨Ay', cy', hb', hbg, hoy, hyr⟩, hry, hdis⟩ := h.y
  have he : Value.slice Ay (l.drop t).length cy = .slice Ay' (l.drop t).length cy' := by
    have := hy.cell.symm.trans hb'.cell
    exact Option.some.inj this
  injection he with e1 _ e2
  subst e1; subst e2
  obtain ⟨A0, c0, hb0, _, _, _⟩ := h.str
  have hold := h.old
  have hne : g ≠ gy := by have := h.new; omega
  have kb : ∀ k, k ≠ g → (wr.setCell ⟨g, 0, none⟩ (.slice Ay (l.drop t).length cy)).heap[k]? = wr.heap[k]? := fun k hk => Below.heap_setCell _ _ _ _ hk
  refine ⟨A, c, rfl, ⟨ry, ⟨Ay, cy, hb0.set _, hbase, own_far hoy (fun k hk => kb k ?_), hyr⟩, (show Turn w wr g r from ⟨h.below.os, h.below.tape, h.below.output, h.below.size, fun k hk _ _ => h.below.block k hk⟩).setCell _, hry⟩, ?_⟩
  · rintro rfl
    exact own_ne hoy hb0 (by decide) hk
  · have := Rd.of_own (own_far (w' := wr.setCell ⟨g, 0, none⟩ (.slice Ay (l.drop t).length cy)) h.own (fun k hk => kb k (by have := (h.own.lt k hk).1; omega)))
    exact this

theorem rdeal_out (w : World) (base g : Nat) (r : Option Nat) (l : List Int) (n : Int) (h : Str w base 32 g r l) (hn : n < 0 ∨ 256 < n) :
    Calls Try.prog 19 #[.pointer (some ⟨g, 0, none⟩), .int .i64 n] w fun e w' => e = .returned (.tuple #[.slice none 0 0, .bool false]) ∧ Went w w' base 32 g r l := by
  have HS := Lib.hid h; clear h
  by_cases h0 : n < 0
  · go_enter Try.func19, Try.ntmps19
    go_wp2
    go_ret2
    exact ⟨rfl, Went.same HS.out⟩
  · have h0' : decide (n < 0) = false := by simpa using h0
    have h1 : 256 < n := by omega
    clear hn
    go_enter Try.func19, Try.ntmps19
    go_wp2
    go_ret2
    exact ⟨rfl, Went.same HS.out⟩

theorem rd_start {w : World} {base g : Nat} {r : Option Nat} {l : List Int} {A : Option Addr} {c : Nat} (h : Str w base 32 g r l) (hb : Blk w g 32 (.slice A l.length c)) : RD w (w.alloc (.cells #[.slice A l.length c] 32)) base g r l w.heap.size l (.slice none 0 0) [] := by
  have hlt := h.lt
  refine ⟨Str.alloc h _, ⟨hlt.2.1, fun k hk => (hlt.2.2 k hk).2⟩, ⟨r, ?_, .inl rfl, fun k hk => by simp [Value.ownBlock] at hk⟩, Nat.le_refl _, World.ownsRow_nil _ _ _ _, (Below.refl _ _).alloc (Nat.le_refl _) _⟩
  obtain ⟨A', c', hb', hbg, ho, hr⟩ := h
  have he : Value.slice A l.length c = .slice A' l.length c' := Option.some.inj (hb.cell.symm.trans hb'.cell)
  injection he with e1 _ e2
  subst e1; subst e2
  exact ⟨A, c, heap_alloc_new w _, by omega, ho.alloc _, hr⟩

theorem iota_next (k : Nat) : iota k ++ [(k : Int)] = iota (k + 1) := by simp [iota, List.range_succ]

/-- One number more is dealt into the row. -/
theorem rd_app {w wr w1 : World} {base g : Nat} {r : Option Nat} {l : List Int} {gy : Nat} {ly : List Int} {A A' : Option Addr} {c c' k : Nat} {p lm : List Int} (h : RD w wr base g r l gy ly (.slice A p.length c) p) (hp : p = iota k) (hlm : lm = p ++ [(k : Int)])
    (ho : w1.ownsRow w.heap.size 3 1 (.slice A' lm.length c') lm.length (vs lm)) (hg : (wr.alloc (.cells #[.int .i64 k] 3)).grownBy w1 (Value.slice A p.length c).ownBlock)
    (hob : (Value.slice A' lm.length c').ownBlock = (Value.slice A p.length c).ownBlock ∨ (Value.slice A' lm.length c').ownBlock = some (wr.alloc (.cells #[.int .i64 k] 3)).heap.size) :
    lm = iota (k + 1) ∧ RD w w1 base g r l gy ly (.slice A' lm.length c') lm := by
  refine ⟨by rw [hlm, hp, iota_next], h.turn ⟨hg.os, hg.tape, hg.output, Nat.le_trans (by simp) hg.size, fun i hi hne => (hg.block i (by simp; omega) hne).trans (Below.heap_alloc wr _ i hi)⟩ ho ?_⟩
  rcases hob with e | e
  · exact .inl e
  · exact .inr ⟨_, e, by simp⟩

/-- The two cells that change places. -/
theorem rd_cells {w wr : World} {base g : Nat} {r : Option Nat} {l : List Int} {gy : Nat} {ly : List Int} {go n c : Nat} {p : List Int} (h : RD w wr base g r l gy ly (.slice (some ⟨go, 0, none⟩) n c) p) (hp : p.length = n) {i j : Nat} {x y : Int} (hx : p[i]? = some x) (hy : p[j]? = some y) :
    wr.cell? ⟨go, i, none⟩ = some (.int .i64 x) ∧ wr.cell? ⟨go, j, none⟩ = some (.int .i64 y) ∧ wr.frozen? ⟨go, i, none⟩ = false ∧ wr.frozen? ⟨go, j, none⟩ = false ∧ ∃ v', (wr.setCell ⟨go, i, none⟩ (.int .i64 y)).cell? ⟨go, j, none⟩ = some v' := by
  subst hp
  have hi := (List.getElem?_eq_some_iff.1 hx).1
  have hj := (List.getElem?_eq_some_iff.1 hy).1
  have h1 := (h.own.cellAt i (by omega)).trans (vs_at hx)
  have h2 := (h.own.cellAt j (by omega)).trans (vs_at hy)
  exact ⟨h1, h2, h.own.frozenAt i, h.own.frozenAt j, cell_set_some h2⟩
theorem rd_set {w wr : World} {base g : Nat} {r : Option Nat} {l : List Int} {gy : Nat} {ly : List Int} {go n c : Nat} {p : List Int} (h : RD w wr base g r l gy ly (.slice (some ⟨go, 0, none⟩) n c) p) (hp : p.length = n) (i : Nat) (x : Int) :
    RD w (wr.setCell ⟨go, i, none⟩ (.int .i64 x)) base g r l gy ly (.slice (some ⟨go, 0, none⟩) n c) (p.set i x) := by
  subst hp
  have := h.own.stored i (.int .i64 x)
  refine h.turn this.2 ?_ (.inl rfl)
  have e : (vs p).set i (.int .i64 x) = vs (p.set i x) := by simp [vs, List.map_set]
  rw [← e, List.length_set]
  exact this.1

set_option maxHeartbeats 4000000 in
set_option maxRecDepth 100000 in
theorem rdeal_in (w : World) (base g : Nat) (r : Option Nat) (l : List Int) (n : Nat) (h : Str w base 32 g r l) (hl : l.length ≤ 4096) (hn : n ≤ 256) :
    Calls Try.prog 19 #[.pointer (some ⟨g, 0, none⟩), .int .i64 n] w fun e w' => RDealt w w' base g r l e (deal l n) := by
  have hn' : (n : Int) ≤ 256 := by omega
  have h0' : (0 : Int) ≤ n := by omega
  have hbase : base ≤ g := h.lt.1
  obtain ⟨A0, c0, hb0⟩ := h.blk
  have hc0 := hb0.cell
  have HD0 := Lib.hid (rd_start h hb0)
  clear h hb0
  go_enter Try.func19, Try.ntmps19
  go_wp2
  go_loopg [7, 8] n (fun gh s7 s8 wr => ∃ (k : Nat) (A : Option Addr) (c : Nat) (p : List Int), k ≤ n ∧ gh = n - k ∧ s8 = .int .i64 k ∧ s7 = .slice A p.length c ∧ Hid (p = iota k ∧ RD w wr base g r l w.heap.size l (.slice A p.length c) p))
  case atStart => exact ⟨0, none, 0, [], by omega, rfl, rfl, rfl, rfl, HD0.out⟩
  case round =>
    obtain ⟨k, A, c, p, hk, rfl, rfl, rfl, HD⟩ := hrel
    clear HD0
    have hpk : p.length ≤ 256 := by rw [HD.out.1, iota_length]; omega
    by_cases hlt : k < n
    · have hs1 := HD.out.2.below.size
      go_wp2_with (at_builtin; refine wpList_app rfl (.tmp 29) (.tmp 31) rfl w.heap.size (wr.heap.size + 1) _ p [(k : Int)] (some ⟨wr.heap.size, 0, none⟩) 1 rfl rfl (HD.out.2.own.alloc _) (rd_new wr [(k : Int)] #[.int .i64 k] rfl) (by simp; omega) (by simp; omega) ?_; intro A2 c2 w1 lm hlm ho1 hg1 hob; have HA := Lib.hid (rd_app HD.out.2 HD.out.1 hlm.out ho1 hg1 hob); clear hlm ho1 hg1 hob)
      go_roundg (n - (k + 1))
      case measure => omega
      case rel => exact ⟨k + 1, A2, c2, lm, by omega, rfl, by go_num, rfl, HA.out⟩
    · obtain rfl : n = k := by omega
      have hpn : p.length = n := by rw [HD.out.1, iota_length]
      have HD2 : Hid (iota n = p ∧ RD w wr base g r l w.heap.size l (.slice A n c) p) := by
        have h := HD.out.2
        rw [hpn] at h
        exact ⟨HD.out.1.symm, h⟩
      have HPN := Lib.hid hpn
      rw [hpn]
      clear HD hpk hpn
      go_wp2
      go_loopg [9] n (fun gh s9 wq => ∃ (i : Int) (p : List Int) (t : Nat) (ly : List Int), -1 ≤ i ∧ i < n ∧ gh = (i + 1).toNat ∧ s9 = .int .i64 i ∧ t ≤ l.length ∧ Hid (p.length = n ∧ dealGo l i.toNat p t = deal l n ∧ ly = l.drop t ∧ RD w wq base g r l w.heap.size ly (.slice A n c) p))
      case atStart => exact ⟨(n : Int) - 1, p, 0, l, by omega, by omega, by omega, by go_num, by omega, HPN.out, by unfold deal; rw [HD2.out.1, show ((n : Int) - 1).toNat = n - 1 by omega], rfl, HD2.out.2⟩
      case round =>
        obtain ⟨i, p, t, ly, hi0, hi1, rfl, rfl, ht, HH⟩ := hrel
        clear HD2 HPN
        have hlyl : ly.length ≤ 4096 := by rw [HH.out.2.2.1, List.length_drop]; omega
        by_cases hi : 0 < i
        · obtain ⟨j, rfl⟩ : ∃ j : Nat, i = (j : Int) + 1 := ⟨(i - 1).toNat, by omega⟩
          rcases hf : fair ly ((j : Int) + 1 + 1) with _ | ⟨d, u⟩
          · have HF := Lib.hid hf; clear hf
            go_wp2_with ((with_reducible refine (rd_below_none HH.out.2.2.2 _ hlyl HF.out).mono ?_); rintro e w1 ⟨rfl, hw⟩; have HW := Lib.hid hw; clear hw)
            go_ret2
            have hd := HH.out.2.1
            rw [show ((j : Int) + 1).toNat = j + 1 by omega, dealGo_none (by rw [show (j : Int) + 2 = (j : Int) + 1 + 1 by omega, ← HH.out.2.2.1]; exact HF.out)] at hd
            rw [← hd]
            exact ⟨rfl, HW.out.went⟩
          · have hfs := fair_some hf
            have hu := hfs.2.2.2.2.2
            have hul : u ≤ l.length - t := by rw [HH.out.2.2.1, List.length_drop] at hu; exact hu
            obtain ⟨e, rfl⟩ : ∃ e : Nat, d = (e : Int) := ⟨d.toNat, by omega⟩
            have HF := Lib.hid hf; clear hf
            have hpl := HH.out.1
            have hj1 : j + 1 < n := by omega
            have he1 : e < n := by omega
            obtain ⟨x1, hgx⟩ : ∃ x, p[j + 1]? = some x := ⟨_, List.getElem?_eq_getElem (by omega)⟩
            obtain ⟨x2, hgy⟩ : ∃ x, p[e]? = some x := ⟨_, List.getElem?_eq_getElem (by omega)⟩
            obtain ⟨go, rfl⟩ : ∃ go, A = some ⟨go, 0, none⟩ := by
              rcases HH.out.2.2.2.own.2 with ⟨_, hz⟩ | ⟨go, _, _, hv, _⟩
              · omega
              · injection hv with hv _ _
                exact ⟨go, hv⟩
            have HGX := Lib.hid hgx; have HGY := Lib.hid hgy; have HPL := Lib.hid hpl
            clear hgx hgy hpl hfs hu
            have hj2 : (j : Int) + 1 < n := by omega
            have he2 : (e : Int) < n := by omega
            have ew : ((j : Int) + 1).toNat = j + 1 := by omega
            go_wp2_with ((with_reducible refine (rd_below_some HH.out.2.2.2 _ _ u hlyl HF.out _ rfl).mono ?_); rintro e' w1 ⟨rfl, hw⟩; have HW := Lib.hid hw; obtain ⟨hx1, hx2, hf1, hf2, v', hy'⟩ := rd_cells hw HPL.out HGX.out HGY.out; clear hw)
            go_region
            all_goals go_wp2
            clear ew
            go_roundg (((j : Int) + 1).toNat)
            case measure => omega
            case rel =>
              refine ⟨(j : Int), swp p (j + 1) e, t + u, ly.drop u, by omega, by omega, rfl, rfl, by omega, by rw [swp_length]; exact HPL.out, ?_, ?_, ?_⟩
              · have hd := HH.out.2.1
                rw [show ((j : Int) + 1).toNat = j + 1 by omega, dealGo_some (by rw [show (j : Int) + 2 = (j : Int) + 1 + 1 by omega, ← HH.out.2.2.1]; exact HF.out)] at hd
                simpa using hd
              · rw [HH.out.2.2.1, List.drop_drop]
              · have h2 := (rd_set (rd_set HW.out HPL.out (j + 1) x2) (by rw [List.length_set]; exact HPL.out) e x1).drew
                have e1 : p.getD e 0 = x2 := by simp [List.getD, HGY.out]
                have e2 : p.getD (j + 1) 0 = x1 := by simp [List.getD, HGX.out]
                unfold swp
                rw [e1, e2]
                exact h2
        · have hi' : decide (0 < i) = false := by simpa using hi
          obtain ⟨Ay, cy, hby⟩ : ∃ Ay cy, Blk wr w.heap.size 32 (.slice Ay ly.length cy) := by
            obtain ⟨ry, sy, _⟩ := HH.out.2.2.2.y
            exact sy.blk
          obtain ⟨Ax, cx, hbx⟩ := HH.out.2.2.2.str.blk
          have hcy := hby.cell
          have hcx := hbx.cell
          have hfx := hbx.frozen
          have HBY := Lib.hid hby
          clear hby hbx
          go_wp2
          go_ret2
          have hd := HH.out.2.1
          rw [show i.toNat = 0 by omega] at hd
          rw [← hd]
          exact rdealt_end HH.out.2.2.2 HH.out.1 HH.out.2.2.1 HBY.out hbase
end Go.Proofs.Ytieohegflcfnaaa.Con
