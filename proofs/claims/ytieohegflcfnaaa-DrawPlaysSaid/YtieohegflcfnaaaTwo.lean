/-
  Two streams side by side: what a method of one of them leaves of both.
-/
import Derived.Test.YtieohegflcfnaaaSmall
import Derived.Test.YtieohegflcfnaaaOpen
namespace Go.Proofs.Ytieohegflcfnaaa.Con
open Go.RowKit Mth Mem

/-- Two streams that share no memory; below 'base' nothing has turned since w0. -/
def Pair (base : Nat) (w0 w : World) (tx : TypeId) (gx : Nat) (lx : List Int) (ty : TypeId) (gy : Nat) (ly : List Int) : Prop :=
  ∃ rx ry, Str w base tx gx rx lx ∧ Str w base ty gy ry ly ∧ gx ≠ gy ∧ (∀ k, rx = some k → ry ≠ some k) ∧ Below base w0 w

theorem Pair.symm {base : Nat} {w0 w : World} {tx ty : TypeId} {gx gy : Nat} {lx ly : List Int} (h : Pair base w0 w tx gx lx ty gy ly) : Pair base w0 w ty gy ly tx gx lx := by
  obtain ⟨rx, ry, h1, h2, h3, h4, h5⟩ := h
  exact ⟨ry, rx, h2, h1, fun e => h3 e.symm, fun k hk e => h4 k e hk, h5⟩
theorem Pair.below {base : Nat} {w0 w : World} {tx ty : TypeId} {gx gy : Nat} {lx ly : List Int} (h : Pair base w0 w tx gx lx ty gy ly) : Below base w0 w := by
  obtain ⟨_, _, _, _, _, _, h⟩ := h
  exact h
theorem Pair.size {base : Nat} {w0 w : World} {tx ty : TypeId} {gx gy : Nat} {lx ly : List Int} (h : Pair base w0 w tx gx lx ty gy ly) : base ≤ w.heap.size := by
  obtain ⟨_, _, h, _⟩ := h
  have := h.lt
  omega
theorem Pair.drewN {base : Nat} {w0 w : World} {tx ty : TypeId} {gx gy : Nat} {lx ly : List Int} (h : Pair base w0 w tx gx lx ty gy ly) (q : Nat) : Pair base w0 (w.drewN q) tx gx lx ty gy ly := by
  obtain ⟨rx, ry, h1, h2, h3, h4, h5⟩ := h
  exact ⟨rx, ry, h1, h2, h3, h4, Open.below_drewN h5 q⟩
theorem Pair.alloc {base : Nat} {w0 w : World} {tx ty : TypeId} {gx gy : Nat} {lx ly : List Int} (h : Pair base w0 w tx gx lx ty gy ly) (o : Obj) : Pair base w0 (w.alloc o) tx gx lx ty gy ly := by
  obtain ⟨rx, ry, h1, h2, h3, h4, h5⟩ := h
  have := h1.lt
  exact ⟨rx, ry, Str.alloc h1 o, Str.alloc h2 o, h3, h4, h5.alloc (by omega) o⟩
/-- What turns only a block that is none of theirs leaves them. -/
theorem Pair.far {base : Nat} {w0 w w' : World} {tx ty : TypeId} {gx gy : Nat} {lx ly : List Int} {row : Option Nat} (h : Pair base w0 w tx gx lx ty gy ly) (hg : w.grownBy w' row) (hb : ∀ k, row = some k → w.heap.size ≤ k) : Pair base w0 w' tx gx lx ty gy ly := by
  obtain ⟨rx, ry, h1, h2, h3, h4, h5⟩ := h
  have l1 := h1.lt
  have l2 := h2.lt
  have k : ∀ i, i < w.heap.size → w'.heap[i]? = w.heap[i]? := fun i hi => hg.block i hi (fun e => by have := hb i e.symm; omega)
  exact ⟨rx, ry, h1.keep (k _ l1.2.1) (fun i hi => k i (l1.2.2 i hi).2), h2.keep (k _ l2.2.1) (fun i hi => k i (l2.2.2 i hi).2), h3, h4, h5.grown hg (by omega) (fun i hi => by have := hb i hi; omega)⟩

theorem pair_went {base : Nat} {w0 w w' : World} {tx ty : TypeId} {gx gy : Nat} {lx lx' ly : List Int} {rx ry : Option Nat} (htx : 3 ≠ tx) (hty : 3 ≠ ty) (h1 : Str w base tx gx rx lx) (h2 : Str w base ty gy ry ly) (h3 : gx ≠ gy) (h4 : ∀ k, rx = some k → ry ≠ some k) (h5 : Below base w0 w) (hw : Went w w' base tx gx rx lx') : Pair base w0 w' tx gx lx' ty gy ly := by
  have hb := Went.below hw h1
  obtain ⟨r', s1, hT, hr⟩ := hw
  have l2 := h2.lt
  refine ⟨r', ry, s1, h2.beside h1 hty htx (fun e => h3 e.symm) (fun k hk e => h4 k e hk) hT, h3, fun k hk e => ?_, h5.trans hb⟩
  rcases hr with rfl | ⟨k', rfl, hk'⟩
  · exact h4 k hk e
  · injection hk with hk
    subst hk
    have := (l2.2.2 _ e).2
    omega

/-- A method of the first stream, by its contract. -/
theorem pair_step {base : Nat} {w0 w : World} {tx ty : TypeId} {gx gy : Nat} {lx lx' ly : List Int} {f : FuncId} {args : Array Value} {E : Ending} (htx : 3 ≠ tx) (hty : 3 ≠ ty) (hP : Pair base w0 w tx gx lx ty gy ly)
    (h : ∀ rx, Str w base tx gx rx lx → Calls Try.prog f args w fun e w' => e = E ∧ Went w w' base tx gx rx lx') : Calls Try.prog f args w fun e w' => e = E ∧ Pair base w0 w' tx gx lx' ty gy ly := by
  obtain ⟨rx, ry, h1, h2, h3, h4, h5⟩ := hP
  exact (h rx h1).mono fun e w' ⟨he, hw⟩ => ⟨he, pair_went htx hty h1 h2 h3 h4 h5 hw⟩

theorem x_feed {base : Nat} {w0 w : World} {ty : TypeId} {gx gy : Nat} {lx ly : List Int} (hty : 3 ≠ ty) (hP : Pair base w0 w 50 gx lx ty gy ly) (m : List Int) (B : Nat) (A : Option Addr) (n c : Nat) (hn : m.length = n) (hr : Rd w B A m) (hl : lx.length ≤ 4096) (hm : m.length ≤ 9223372036854770000) :
    Calls Try.prog 12 #[.pointer (some ⟨gx, 0, none⟩), .slice A n c] w fun e w' => e = .returned (.int .i64 (feedE lx m)) ∧ Pair base w0 w' 50 gx (feedL lx m) ty gy ly := by
  subst hn
  have hs := hP.size
  exact pair_step (by decide) hty hP fun rx h => feed_any w base gx rx lx m B A c h hr hl hm hs
theorem x_feed_bad {base : Nat} {w0 w : World} {ty : TypeId} {gx gy : Nat} {lx ly : List Int} (hty : 3 ≠ ty) (hP : Pair base w0 w 50 gx lx ty gy ly) (m : List Int) (B : Nat) (A : Option Addr) (n c : Nat) (hn : m.length = n) (hr : Rd w B A m) (hl : lx.length ≤ 4096) (hm : m.length ≤ 9223372036854770000) (hb : bad m = true) :
    Calls Try.prog 12 #[.pointer (some ⟨gx, 0, none⟩), .slice A n c] w fun e w' => e = .returned (.int .i64 1) ∧ Pair base w0 w' 50 gx lx ty gy ly := by
  have := x_feed hty hP m B A n c hn hr hl hm
  rw [(feed_bad hb).1, (feed_bad hb).2] at this
  exact this
theorem x_feed_ok {base : Nat} {w0 w : World} {ty : TypeId} {gx gy : Nat} {lx ly : List Int} (hty : 3 ≠ ty) (hP : Pair base w0 w 50 gx lx ty gy ly) (m : List Int) (B : Nat) (A : Option Addr) (n c : Nat) (hn : m.length = n) (hr : Rd w B A m) (hl : lx.length + m.length ≤ 4096) (hb : bad m = false) (l' : List Int) (hl' : lx ++ m = l') :
    Calls Try.prog 12 #[.pointer (some ⟨gx, 0, none⟩), .slice A n c] w fun e w' => e = .returned (.int .i64 0) ∧ Pair base w0 w' 50 gx l' ty gy ly := by
  have := x_feed hty hP m B A n c hn hr (by omega) (by omega)
  rw [(feed_ok hb hl).1, (feed_ok hb hl).2, hl'] at this
  exact this
theorem x_left {base : Nat} {w0 w : World} {ty : TypeId} {gx gy : Nat} {lx ly : List Int} (hP : Pair base w0 w 50 gx lx ty gy ly) : Calls Try.prog 21 #[.pointer (some ⟨gx, 0, none⟩)] w fun e w' => e = .returned (.int .i64 lx.length) ∧ w = w' := by
  obtain ⟨rx, ry, h1, _⟩ := hP
  exact left_any w base gx rx lx h1
theorem x_below {base : Nat} {w0 w : World} {ty : TypeId} {gx gy : Nat} {lx ly : List Int} (hty : 3 ≠ ty) (hP : Pair base w0 w 50 gx lx ty gy ly) (n : Int) (hl : lx.length ≤ 4096) :
    Calls Try.prog 14 #[.pointer (some ⟨gx, 0, none⟩), .int .i64 n] w fun e w' => e = .returned (.tuple #[.int .i64 (dr (fair lx n)), .bool (ok (fair lx n))]) ∧ Pair base w0 w' 50 gx (lx.drop (us (fair lx n))) ty gy ly :=
  pair_step (by decide) hty hP fun rx h => below_any w base gx rx lx n h hl
theorem x_some {base : Nat} {w0 w : World} {ty : TypeId} {gx gy : Nat} {lx ly : List Int} (hty : 3 ≠ ty) (hP : Pair base w0 w 50 gx lx ty gy ly) (n d : Int) (u : Nat) (hl : lx.length ≤ 4096) (hf : fair lx n = some (d, u)) (l' : List Int) (hl' : lx.drop u = l') :
    Calls Try.prog 14 #[.pointer (some ⟨gx, 0, none⟩), .int .i64 n] w fun e w' => e = .returned (.tuple #[.int .i64 d, .bool true]) ∧ Pair base w0 w' 50 gx l' ty gy ly := by
  subst hl'
  exact pair_step (by decide) hty hP fun rx h => below_some w base gx rx lx n d u h hl hf
theorem x_none {base : Nat} {w0 w : World} {ty : TypeId} {gx gy : Nat} {lx ly : List Int} (hty : 3 ≠ ty) (hP : Pair base w0 w 50 gx lx ty gy ly) (n : Int) (hl : lx.length ≤ 4096) (hf : fair lx n = none) :
    Calls Try.prog 14 #[.pointer (some ⟨gx, 0, none⟩), .int .i64 n] w fun e w' => e = .returned (.tuple #[.int .i64 0, .bool false]) ∧ Pair base w0 w' 50 gx lx ty gy ly :=
  pair_step (by decide) hty hP fun rx h => below_none w base gx rx lx n h hl hf

theorem rd_map {w : World} {B : Nat} {A : Option Addr} {l : List Int} (h : Rd w B A l) (k : Nat) : Rd w B (Option.map (fun x => x.add k) A) (l.drop k) := by
  rcases A with _ | ⟨b, off, sp⟩
  · rcases h with rfl | ⟨_, _, h, _⟩
    · exact .inl (by simp)
    · cases h
  · rcases h with rfl | ⟨b', off', h, hb, hc⟩
    · exact .inl (by simp)
    · injection h with h
      injection h with h1 h2 h3
      subst h1; subst h2; subst h3
      have e : (⟨b, off, none⟩ : Addr).add k = ⟨b, off + k, none⟩ := by unfold Addr.add; split <;> simp_all
      show Rd w B (some ((⟨b, off, none⟩ : Addr).add k)) (l.drop k)
      rw [e]
      exact Rd.cut (.inr ⟨b, off, rfl, hb, hc⟩) k

/-- Two new streams. -/
theorem pair_new {w0 w : World} (base : Nat) (tx ty : TypeId) (hb : Below base w0 w) (hs : base ≤ w.heap.size) : Pair base w0 ((w.alloc (.cells #[.slice none 0 0] tx)).alloc (.cells #[.slice none 0 0] ty)) tx w.heap.size [] ty (w.heap.size + 1) [] := by
  have h2 := str_new (w.alloc (.cells #[.slice none 0 0] tx)) base ty (by simp; omega)
  have e : (w.alloc (.cells #[.slice none 0 0] tx)).heap.size = w.heap.size + 1 := by simp
  rw [e] at h2
  exact ⟨none, none, Str.alloc (str_new w base tx hs) _, h2, by omega, fun k hk => (by cases hk), (hb.alloc hs _).alloc (by simp; omega) _⟩
end Go.Proofs.Ytieohegflcfnaaa.Con
