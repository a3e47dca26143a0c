/-
  The law's own small case: it comes out right, and only new memory is made.
-/
import Derived.Test.YtiggpmennomplaaFir
import Derived.Test.YtiggpmennomplaaLna
import Derived.Test.YtiggpmennomplaaSam
import Derived.Laws.MakeOwn
namespace Go.Proofs.Ytiggpmennomplaa.Con
open Go.RowKit Go.Shelf Lin Arn

/-- The small map's walls: one of them, or none. -/
def wl (b : Bool) : List Bool := [false, b, false, false, false, false, false, false, false, false, false, false]
def wcs (b : Bool) : Array Value := #[.bool false, .bool b, .bool false, .bool false, .bool false, .bool false, .bool false, .bool false, .bool false, .bool false, .bool false, .bool false]
abbrev gs (s : Nat) : Value := gv 4 3 (some ⟨s, 0, none⟩) 12 12
/-- What lies there. -/
structure SA (b : Bool) (w V : World) : Prop where
  r : V.heap[w.heap.size]? = some (.cells (wcs b) 4 (0, 0))
  g : V.heap[w.heap.size + 1]? = some (.cells #[.int .i64 4, .int .i64 3, .slice (some ⟨w.heap.size, 0, none⟩) 12 12] 24 (0, 0))
  below : Below w.heap.size w V
theorem SA.of {b : Bool} {w V V' : World} (h : SA b w V) (hb : Below V.heap.size V V') : SA b w V' :=
  ⟨(hb.block _ (Array.getElem?_eq_some_iff.1 h.r).1).trans h.r, (hb.block _ (Array.getElem?_eq_some_iff.1 h.g).1).trans h.g, h.below.trans (hb.mono h.below.size)⟩
theorem SA.rb {b : Bool} {w V : World} (h : SA b w V) : RB V V.heap.size (some ⟨w.heap.size, 0, none⟩) (wl b) := by
  refine .inr ⟨_, 0, rfl, (Array.getElem?_eq_some_iff.1 h.r).1, fun k x hx => ?_⟩
  have e : wcs b = ((wl b).map Value.bool).toArray := rfl
  simp [World.cell?, h.r, e, hx]
theorem SA.top {b : Bool} {w V : World} (h : SA b w V) : w.heap.size + 1 < V.heap.size := (Array.getElem?_eq_some_iff.1 h.g).1
theorem SA.wcell {b : Bool} {w V : World} (h : SA b w V) : V.cell? ⟨w.heap.size, 1, none⟩ = some (.bool b) ∧ V.frozen? ⟨w.heap.size, 1, none⟩ = false := by
  constructor <;> simp [World.cell?, World.frozen?, h.r, wcs]
theorem SA.cells {b : Bool} {w V : World} (h : SA b w V) :
    V.cell? ⟨w.heap.size + 1, 0, none⟩ = some (.int .i64 4) ∧ V.cell? ⟨w.heap.size + 1, 1, none⟩ = some (.int .i64 3) ∧ V.cell? ⟨w.heap.size + 1, 2, none⟩ = some (.slice (some ⟨w.heap.size, 0, none⟩) 12 12) := by
  refine ⟨?_, ?_, ?_⟩ <;> simp [World.cell?, h.g]
theorem SA.start (w : World) : SA false w ((w.alloc (.cells (wcs false) 4)).alloc (.cells #[.int .i64 4, .int .i64 3, .slice (some ⟨w.heap.size, 0, none⟩) 12 12] 24)) :=
  ⟨old_at (new_at _ _ rfl), new_at _ _ (by simp), ((Below.refl _ w).alloc (Nat.le_refl _) _).alloc (by simp) _⟩
theorem SA.wall {w V : World} (h : SA false w V) : SA true w (V.setCell ⟨w.heap.size, 1, none⟩ (.bool true)) :=
  ⟨(set_same h.r 1 (.bool true)).trans rfl, (Below.heap_setCell _ ⟨w.heap.size, 1, none⟩ _ _ (by show w.heap.size + 1 ≠ w.heap.size; omega)).trans h.g, h.below.setCell (p := ⟨w.heap.size, 1, none⟩) (Nat.le_refl _) _⟩

/-- The small lines. -/
def E1 : List Tile := [tileAt 0 0, tileAt 1 0, tileAt 0 1, tileAt 1 1, tileAt 2 1, tileAt 1 2, tileAt 2 2]
def E2 : List Tile := [tileAt 0 0, tileAt 1 0, tileAt 2 0, tileAt 1 1, tileAt 2 1, tileAt 3 1]
theorem line1 : lineG 4 3 12 0 0 2 2 = E1 := by decide +kernel
theorem line2 : lineG 4 3 12 0 0 3 1 = E2 := by decide +kernel
theorem sees1 : seesB 4 3 (wl false) 0 0 3 1 = true := by decide +kernel
theorem sees2 : seesB 4 3 (wl true) 0 0 3 1 = false := by decide +kernel
theorem first1 : firstB 4 3 (wl true) 0 0 3 1 = some (tileAt 1 0) := by decide +kernel

/-- A row lies in a block from base on. -/
def Off (base : Nat) (A : Option Addr) : Prop := ∀ a, A = some a → base ≤ a.block
theorem RT.set {w : World} {B base : Nat} {A : Option Addr} {l : List Tile} (h : RT w B A l) (ho : Off base A) (p : Addr) (v : Value) (hp : p.block < base) : RT (w.setCell p v) B A l := by
  rcases h with rfl | ⟨b, rfl, hlt, hc⟩
  · exact .inl rfl
  · refine .inr ⟨b, rfl, hlt, fun k t ht => ?_⟩
    have hb : base ≤ b := ho ⟨b, 0, none⟩ rfl
    have e := Below.heap_setCell w p v b (by omega)
    obtain ⟨h1, h2⟩ := hc k t ht
    exact ⟨(World.cell?_of_block (w := w) e).trans h1, (World.cell?_of_block (w := w) e).trans h2⟩
theorem row_of {w' : World} {base n : Nat} {E l : List Tile} (hl : l = E) (hn : E.length = n) {v : Value} (h : w'.ownsRow base 26 2 v l.length (flat l)) : ∃ A c, v = .slice A n c ∧ RT w' w'.heap.size A E ∧ Off base A := by
  subst hl; subst hn
  obtain ⟨A, c, e, hr, h2⟩ := OwnT.shape (w := w') (v := v) (l := l) h
  refine ⟨A, c, e, hr, fun a ha => ?_⟩
  rcases h2 with ⟨rfl, _, _⟩ | ⟨b, cur, rfl, hb, _⟩
  · cases ha
  · injection ha with ha; subst ha; exact hb
def lit1 : Array Value := #[.int .i64 0, .int .i64 0, .int .i64 1, .int .i64 0, .int .i64 0, .int .i64 1, .int .i64 1, .int .i64 1, .int .i64 2, .int .i64 1, .int .i64 1, .int .i64 2, .int .i64 2, .int .i64 2]
def lit2 : Array Value := #[.int .i64 0, .int .i64 0, .int .i64 1, .int .i64 0, .int .i64 2, .int .i64 0, .int .i64 1, .int .i64 1, .int .i64 2, .int .i64 1, .int .i64 3, .int .i64 1]
theorem flat1 : (flat E1).toArray = lit1 := by kernel_rfl
theorem flat2 : (flat E2).toArray = lit2 := by kernel_rfl
theorem RT.new (V : World) (l : List Tile) : RT (V.alloc (.cells (flat l).toArray 26)) (V.heap.size + 1) (some ⟨V.heap.size, 0, none⟩) l := by
  refine .inr ⟨_, rfl, Nat.lt_succ_self _, fun k t ht => ?_⟩
  have hn := new_at V (.cells (flat l).toArray 26) rfl
  obtain ⟨h1, h2⟩ := flat_get ht
  generalize V.alloc (.cells (flat l).toArray 26) = V' at hn ⊢
  exact ⟨by simp [World.cell?, hn, h1], by simp [World.cell?, hn, h2]⟩
theorem new1 (V : World) : RT (V.alloc (.cells lit1 26)) (V.heap.size + 1) (some ⟨V.heap.size, 0, none⟩) E1 := by rw [← flat1]; exact RT.new V E1
theorem new2 (V : World) : RT (V.alloc (.cells lit2 26)) (V.heap.size + 1) (some ⟨V.heap.size, 0, none⟩) E2 := by rw [← flat2]; exact RT.new V E2

theorem sline1 (s : Nat) (V : World) : Calls Try.prog 12 #[gs s, pv 0 0, pv 2 2] V fun e w' => (∃ A c, e = .returned (.slice A 7 c) ∧ RT w' w'.heap.size A E1 ∧ Off V.heap.size A) ∧ Below V.heap.size V w' :=
  (Line_any 4 3 (some ⟨s, 0, none⟩) 12 12 0 0 2 2 V).mono fun e w' h => by
    obtain ⟨⟨v, he, hr, _⟩, hb⟩ := h
    obtain ⟨A, c, hv, hrt⟩ := row_of line1 (n := 7) rfl hr
    exact ⟨⟨A, c, by rw [he, hv], hrt⟩, hb⟩
theorem sline2 (s : Nat) (V : World) : Calls Try.prog 12 #[gs s, pv 0 0, pv 3 1] V fun e w' => (∃ A c, e = .returned (.slice A 6 c) ∧ RT w' w'.heap.size A E2 ∧ Off V.heap.size A) ∧ Below V.heap.size V w' :=
  (Line_any 4 3 (some ⟨s, 0, none⟩) 12 12 0 0 3 1 V).mono fun e w' h => by
    obtain ⟨⟨v, he, hr, _⟩, hb⟩ := h
    obtain ⟨A, c, hv, hrt⟩ := row_of line2 (n := 6) rfl hr
    exact ⟨⟨A, c, by rw [he, hv], hrt⟩, hb⟩
theorem ssees1 {w : World} (V : World) (h : SA false w V) : Calls Try.prog 14 #[gs w.heap.size, pv 0 0, pv 3 1] V fun e w' => e = .returned (.bool true) ∧ Below V.heap.size V w' := by
  have := Sees_any 4 3 (some ⟨w.heap.size, 0, none⟩) (wl false) 12 0 0 3 1 V h.rb
  rwa [sees1] at this
theorem ssees2 {w : World} (V : World) (h : SA true w V) : Calls Try.prog 14 #[gs w.heap.size, pv 0 0, pv 3 1] V fun e w' => e = .returned (.bool false) ∧ Below V.heap.size V w' := by
  have := Sees_any 4 3 (some ⟨w.heap.size, 0, none⟩) (wl true) 12 0 0 3 1 V h.rb
  rwa [sees2] at this
theorem sfirst {w : World} (V : World) (h : SA true w V) : Calls Try.prog 9 #[gs w.heap.size, pv 0 0, pv 3 1] V fun e w' => e = .returned (.tuple #[pv 1 0, .bool true]) ∧ Below V.heap.size V w' := by
  have := First_any 4 3 (some ⟨w.heap.size, 0, none⟩) (wl true) 12 0 0 3 1 V h.rb
  rwa [first1] at this
theorem ssame1 {V : World} {B B' : Nat} {A A' : Option Addr} {c c' : Nat} (h1 : RT V B A E1) (h2 : RT V B' A' E1) : Calls Try.prog 11 #[.slice A 7 c, .slice A' 7 c'] V fun e w' => e = .returned (.bool true) ∧ ∃ k, w' = V.drewN k :=
  same_any (a := E1) (b := E1) h1 h2 (by decide) true (by simp)
theorem ssame2 {V : World} {B B' : Nat} {A A' : Option Addr} {c c' : Nat} (h1 : RT V B A E2) (h2 : RT V B' A' E2) : Calls Try.prog 11 #[.slice A 6 c, .slice A' 6 c'] V fun e w' => e = .returned (.bool true) ∧ ∃ k, w' = V.drewN k :=
  same_any (a := E2) (b := E2) h1 h2 (by decide) true (by simp)

theorem info4 : (Try.prog.info? 4).map (fun i => (i.zero, i.size, i.bytes)) = some (some (.bool false), 1, 1) := by kernel_rfl
theorem made12 : madeCells #[Value.bool false] 12 = wcs false := by kernel_rfl
theorem make12 (w : World) : (Instr.makeSlice 22 (.int .i64 12) (.int .i64 12)).run Try.prog w = .ok (.slice (some ⟨w.heap.size, 0, none⟩) 12 12) (w.alloc (.cells (wcs false) 4)) := by
  obtain ⟨i0, hi0, hz0, hz1, hz2⟩ := info_parts info4
  have hr := run_make (P := Try.prog) w 22 4 i0 _ Try.underlying22 hi0 hz0 .i64 .i64 12 12 (by omega) (by omega) (by rw [hz2]; omega) (by omega)
  have e : (Value.bool false).cells = #[Value.bool false] := rfl
  rw [hz1, e] at hr
  rw [← made12]
  simpa using hr

set_option maxRecDepth 100000 in
set_option maxHeartbeats 4000000 in
theorem small_any (w : World) : Calls Try.prog 7 #[] w fun e w' => e = .returned (.bool true) ∧ Below w.heap.size w w' := by
  have hmk := make12 w
  have hA1 := SA.start w
  go_enter Try.func7, Try.ntmps7
  go_wp2
  clear hmk
  generalize (w.alloc (.cells (wcs false) 4)).alloc (.cells #[.int .i64 4, .int .i64 3, .slice (some ⟨w.heap.size, 0, none⟩) 12 12] 24) = V1 at hA1 ⊢
  have hS0 : Below V1.heap.size V1 V1.drew := (Below.refl _ _).drew
  refine wp_region_noPanic ?_
  refine wp_region_held_drew (S := fun w' => Below V1.heap.size V1 w') (by kernel_rfl) hS0 (fun _ => ?_)
  refine wpAnyH_take (i := 0) (oi := ⟨some 9, Op.load 24 (Operand.tmp 1), 24, _, _, none⟩) (v := ?vp0) rfl (by kernel_rfl) (by kernel_rfl) (by kernel_rfl) (fun _ _ _ h => h) (Or.inl ⟨by rfl, ?hp0⟩) hS0 ?rp0
  case hp0 => (intro wz hSw; obtain ⟨k0, k1, k2⟩ := (hA1.of hSw).cells; go_simp <;> with_reducible rfl)
  (try simp only [Act.put, List.setIfInBounds_toArray, List.set_cons_zero, List.set_cons_succ])
  refine wpAnyH_ready (rs := [1]) (by kernel_rfl) (by simp) ?_
  refine AllReadyH.cons (o := ⟨some 10, Op.call { callee := Callee.value (Operand.func 22), args := #[Operand.const (Value.int IntKind.i64 0), Operand.const (Value.int IntKind.i64 0)], argTypes := #[3, 3] }, 26, _, _, none⟩) rfl (fun K hK => ?_) AllReadyH.nil
  go_simp
  (with_reducible refine (tile_any 0 0 _).mono ?_); rintro e v1 ⟨rfl, hB1⟩; have hS1 := hS0.trans (hB1.mono hS0.size)
  refine hK.out _ _ hS1 (fun _ => ?_)
  clear hK K
  (try simp only [Act.put, List.setIfInBounds_toArray, List.set_cons_zero, List.set_cons_succ])
  refine wpAnyH_ready (rs := [2]) (by kernel_rfl) (by simp) ?_
  refine AllReadyH.cons (o := ⟨some 11, Op.call { callee := Callee.value (Operand.func 22), args := #[Operand.const (Value.int IntKind.i64 2), Operand.const (Value.int IntKind.i64 2)], argTypes := #[3, 3] }, 26, _, _, none⟩) rfl (fun K hK => ?_) AllReadyH.nil
  go_simp
  (with_reducible refine (tile_any 2 2 _).mono ?_); rintro e v2 ⟨rfl, hB2⟩; have hS2 := hS1.trans (hB2.mono hS1.size)
  refine hK.out _ _ hS2 (fun _ => ?_)
  clear hK K
  (try simp only [Act.put, List.setIfInBounds_toArray, List.set_cons_zero, List.set_cons_succ])
  refine wpAnyH_ready (rs := [3]) (by kernel_rfl) (by simp) ?_
  refine AllReadyH.cons (o := ⟨some 12, Op.call { callee := Callee.value (Operand.func 12), args := #[Operand.tmp 9, Operand.tmp 10, Operand.tmp 11], argTypes := #[24, 26, 26] }, 32, _, _, none⟩) rfl (fun K hK => ?_) AllReadyH.nil
  go_simp
  (with_reducible refine (sline1 _ _).mono ?_); rintro e v3 ⟨⟨A1, c1, rfl, hR1, hF1⟩, hB3⟩; have hS3 := hS2.trans (hB3.mono hS2.size)
  refine hK.out _ _ hS3 (fun _ => ?_)
  clear hK K
  (try simp only [Act.put, List.setIfInBounds_toArray, List.set_cons_zero, List.set_cons_succ])
  refine wpAnyH_take (i := 4) (oi := ⟨some 2, Op.assign (Operand.tmp 12), 32, _, _, none⟩) (v := ?vp4) rfl (by kernel_rfl) (by kernel_rfl) (by kernel_rfl) (fun _ _ _ h => h) (Or.inl ⟨by rfl, ?hp4⟩) hS3 ?rp4
  case hp4 => (intro wz hSw; go_simp <;> with_reducible rfl)
  (try simp only [Act.put, List.setIfInBounds_toArray, List.set_cons_zero, List.set_cons_succ])
  refine wpAnyH_done (by kernel_rfl) ?_ _
  refine NoPanic.normal ?_
  have hA2 := hA1.of hS3
  go_wp2
  have hS0 : Below v3.heap.size v3 v3.drew := (Below.refl _ _).drew
  refine wp_region_noPanic ?_
  refine wp_region_held_drew (S := fun w' => Below v3.heap.size v3 w') (by kernel_rfl) hS0 (fun _ => ?_)
  refine wpAnyH_take (i := 0) (oi := ⟨some 13, Op.load 24 (Operand.tmp 1), 24, _, _, none⟩) (v := ?vq0) rfl (by kernel_rfl) (by kernel_rfl) (by kernel_rfl) (fun _ _ _ h => h) (Or.inl ⟨by rfl, ?hq0⟩) hS0 ?rq0
  case hq0 => (intro wz hSw; obtain ⟨k0, k1, k2⟩ := (hA2.of hSw).cells; go_simp <;> with_reducible rfl)
  (try simp only [Act.put, List.setIfInBounds_toArray, List.set_cons_zero, List.set_cons_succ])
  refine wpAnyH_ready (rs := [1]) (by kernel_rfl) (by simp) ?_
  refine AllReadyH.cons (o := ⟨some 14, Op.call { callee := Callee.value (Operand.func 22), args := #[Operand.const (Value.int IntKind.i64 0), Operand.const (Value.int IntKind.i64 0)], argTypes := #[3, 3] }, 26, _, _, none⟩) rfl (fun K hK => ?_) AllReadyH.nil
  go_simp
  (with_reducible refine (tile_any 0 0 _).mono ?_); rintro e v4 ⟨rfl, hB4⟩; have hS4 := hS0.trans (hB4.mono hS0.size)
  refine hK.out _ _ hS4 (fun _ => ?_)
  clear hK K
  (try simp only [Act.put, List.setIfInBounds_toArray, List.set_cons_zero, List.set_cons_succ])
  refine wpAnyH_ready (rs := [2]) (by kernel_rfl) (by simp) ?_
  refine AllReadyH.cons (o := ⟨some 15, Op.call { callee := Callee.value (Operand.func 22), args := #[Operand.const (Value.int IntKind.i64 3), Operand.const (Value.int IntKind.i64 1)], argTypes := #[3, 3] }, 26, _, _, none⟩) rfl (fun K hK => ?_) AllReadyH.nil
  go_simp
  (with_reducible refine (tile_any 3 1 _).mono ?_); rintro e v5 ⟨rfl, hB5⟩; have hS5 := hS4.trans (hB5.mono hS4.size)
  refine hK.out _ _ hS5 (fun _ => ?_)
  clear hK K
  (try simp only [Act.put, List.setIfInBounds_toArray, List.set_cons_zero, List.set_cons_succ])
  refine wpAnyH_ready (rs := [3]) (by kernel_rfl) (by simp) ?_
  refine AllReadyH.cons (o := ⟨some 16, Op.call { callee := Callee.value (Operand.func 12), args := #[Operand.tmp 13, Operand.tmp 14, Operand.tmp 15], argTypes := #[24, 26, 26] }, 32, _, _, none⟩) rfl (fun K hK => ?_) AllReadyH.nil
  go_simp
  (with_reducible refine (sline2 _ _).mono ?_); rintro e v6 ⟨⟨A2, c2, rfl, hR2, hF2⟩, hB6⟩; have hS6 := hS5.trans (hB6.mono hS5.size)
  refine hK.out _ _ hS6 (fun _ => ?_)
  clear hK K
  (try simp only [Act.put, List.setIfInBounds_toArray, List.set_cons_zero, List.set_cons_succ])
  refine wpAnyH_take (i := 4) (oi := ⟨some 3, Op.assign (Operand.tmp 16), 32, _, _, none⟩) (v := ?vq4) rfl (by kernel_rfl) (by kernel_rfl) (by kernel_rfl) (fun _ _ _ h => h) (Or.inl ⟨by rfl, ?hq4⟩) hS6 ?rq4
  case hq4 => (intro wz hSw; go_simp <;> with_reducible rfl)
  (try simp only [Act.put, List.setIfInBounds_toArray, List.set_cons_zero, List.set_cons_succ])
  refine wpAnyH_done (by kernel_rfl) ?_ _
  refine NoPanic.normal ?_
  have hA3 := hA2.of hS6
  have hR1b := hR1.below hS6 (Nat.le_refl _)
  go_wp2
  have hS0 : Below v6.heap.size v6 v6.drew := (Below.refl _ _).drew
  refine wp_region_noPanic ?_
  refine wp_region_held_drew (S := fun w' => Below v6.heap.size v6 w') (by kernel_rfl) hS0 (fun _ => ?_)
  refine wpAnyH_take (i := 0) (oi := ⟨some 17, Op.load 24 (Operand.tmp 1), 24, _, _, none⟩) (v := ?vs0) rfl (by kernel_rfl) (by kernel_rfl) (by kernel_rfl) (fun _ _ _ h => h) (Or.inl ⟨by rfl, ?hs0⟩) hS0 ?rs0
  case hs0 => (intro wz hSw; obtain ⟨k0, k1, k2⟩ := (hA3.of hSw).cells; go_simp <;> with_reducible rfl)
  (try simp only [Act.put, List.setIfInBounds_toArray, List.set_cons_zero, List.set_cons_succ])
  refine wpAnyH_ready (rs := [1]) (by kernel_rfl) (by simp) ?_
  refine AllReadyH.cons (o := ⟨some 18, Op.call { callee := Callee.value (Operand.func 22), args := #[Operand.const (Value.int IntKind.i64 0), Operand.const (Value.int IntKind.i64 0)], argTypes := #[3, 3] }, 26, _, _, none⟩) rfl (fun K hK => ?_) AllReadyH.nil
  go_simp
  (with_reducible refine (tile_any 0 0 _).mono ?_); rintro e v7 ⟨rfl, hB7⟩; have hS7 := hS0.trans (hB7.mono hS0.size)
  refine hK.out _ _ hS7 (fun _ => ?_)
  clear hK K
  (try simp only [Act.put, List.setIfInBounds_toArray, List.set_cons_zero, List.set_cons_succ])
  refine wpAnyH_ready (rs := [2]) (by kernel_rfl) (by simp) ?_
  refine AllReadyH.cons (o := ⟨some 19, Op.call { callee := Callee.value (Operand.func 22), args := #[Operand.const (Value.int IntKind.i64 3), Operand.const (Value.int IntKind.i64 1)], argTypes := #[3, 3] }, 26, _, _, none⟩) rfl (fun K hK => ?_) AllReadyH.nil
  go_simp
  (with_reducible refine (tile_any 3 1 _).mono ?_); rintro e v8 ⟨rfl, hB8⟩; have hS8 := hS7.trans (hB8.mono hS7.size)
  refine hK.out _ _ hS8 (fun _ => ?_)
  clear hK K
  (try simp only [Act.put, List.setIfInBounds_toArray, List.set_cons_zero, List.set_cons_succ])
  refine wpAnyH_ready (rs := [3]) (by kernel_rfl) (by simp) ?_
  refine AllReadyH.cons (o := ⟨some 20, Op.call { callee := Callee.value (Operand.func 14), args := #[Operand.tmp 17, Operand.tmp 18, Operand.tmp 19], argTypes := #[24, 26, 26] }, 4, _, _, none⟩) rfl (fun K hK => ?_) AllReadyH.nil
  go_simp
  (with_reducible refine (ssees1 _ (hA3.of hS8)).mono ?_); rintro e v9 ⟨rfl, hB9⟩; have hS9 := hS8.trans (hB9.mono hS8.size)
  refine hK.out _ _ hS9 (fun _ => ?_)
  clear hK K
  (try simp only [Act.put, List.setIfInBounds_toArray, List.set_cons_zero, List.set_cons_succ])
  refine wpAnyH_take (i := 4) (oi := ⟨some 4, Op.assign (Operand.tmp 20), 4, _, _, none⟩) (v := ?vs4) rfl (by kernel_rfl) (by kernel_rfl) (by kernel_rfl) (fun _ _ _ h => h) (Or.inl ⟨by rfl, ?hs4⟩) hS9 ?rs4
  case hs4 => (intro wz hSw; go_simp <;> with_reducible rfl)
  (try simp only [Act.put, List.setIfInBounds_toArray, List.set_cons_zero, List.set_cons_succ])
  refine wpAnyH_done (by kernel_rfl) ?_ _
  refine NoPanic.normal ?_
  have hA4 := hA3.of hS9
  have hR1c := hR1b.below hS9 (by have := hS6.size; omega)
  have hR2c := hR2.below hS9 (Nat.le_refl _)
  clear hA3
  have hT1 := hA1.top
  have hT2 := hA2.top
  obtain ⟨wc, wf⟩ := hA4.wcell
  obtain ⟨k0, k1, k2⟩ := hA4.cells
  go_wp2
  clear wc wf k0 k1 k2
  have hR1d := hR1c.set hF1 ⟨w.heap.size, 1, none⟩ (.bool true) (by have := hS2.size; show w.heap.size < _; omega)
  have hR2d := hR2c.set hF2 ⟨w.heap.size, 1, none⟩ (.bool true) (by have := hS5.size; show w.heap.size < _; omega)
  have hA5 := hA4.wall
  have hsz5 : (v9.setCell ⟨w.heap.size, 1, none⟩ (.bool true)).heap.size = v9.heap.size := by simp
  clear hA4 hR1 hR2 hR1b hR1c hR2c
  generalize v9.setCell ⟨w.heap.size, 1, none⟩ (.bool true) = V5 at hR1d hR2d hA5 hsz5 ⊢
  refine Code.wp_mono (Q := fun e a' w' => ∃ P, e = .normal ∧ BoxP w' P 1 0 ∧ Below V5.heap.size V5 w' ∧ a' = ({ tmps := #[.bool false, .pointer (some ⟨w.heap.size + 1, 0, none⟩), .slice A1 7 c1, .slice A2 6 c2, .bool true, pt P, .bool true, .slice (some ⟨w.heap.size, 0, none⟩) 12 12, gs w.heap.size, gs w.heap.size, pv 0 0, pv 2 2, .slice A1 7 c1, gs w.heap.size, pv 0 0, pv 3 1, .slice A2 6 c2, gs w.heap.size, pv 0 0, pv 3 1, .bool true, .pointer (some ⟨w.heap.size + 1, 2, none⟩), .slice (some ⟨w.heap.size, 0, none⟩) 12 12, .pointer (some ⟨w.heap.size, 1, none⟩), .tuple #[pv 1 0, .bool true], gs w.heap.size, pv 0 0, pv 3 1, .tuple #[pv 1 0, .bool true], pv 1 0, .bool true, undef, undef, undef, undef, undef, undef, undef, undef, undef, undef, undef, undef, undef, undef, undef, undef, undef, undef, undef, undef, undef, undef, undef, undef, undef, undef, undef, undef, undef, undef, undef, undef, undef, undef, undef, undef, undef, undef, undef], defers := [] } : Act)) ?post6 ?reg6
  case reg6 =>
    have hS0 : Below V5.heap.size V5 V5.drew := (Below.refl _ _).drew
    refine wp_region_noPanic ?_
    refine wp_region_held_drew (S := fun w' => Below V5.heap.size V5 w') (by kernel_rfl) hS0 (fun _ => ?_)
    generalize V5.drew = v0 at hS0 ⊢
    refine wpAnyH_take (i := 0) (oi := ⟨some 25, Op.load 24 (Operand.tmp 1), 24, _, _, none⟩) (v := ?vf0) rfl (by kernel_rfl) (by kernel_rfl) (by kernel_rfl) (fun _ _ _ h => h) (Or.inl ⟨by rfl, ?hf0⟩) hS0 ?rf0
    case hf0 => (intro wz hSw; obtain ⟨k0, k1, k2⟩ := (hA5.of hSw).cells; go_simp <;> with_reducible rfl)
    (try simp only [Act.put, List.setIfInBounds_toArray, List.set_cons_zero, List.set_cons_succ])
    refine wpAnyH_ready (rs := [1, 7]) (by kernel_rfl) (by simp) ?_
    refine AllReadyH.cons (o := ⟨some 26, Op.call { callee := Callee.value (Operand.func 22), args := #[Operand.const (Value.int IntKind.i64 0), Operand.const (Value.int IntKind.i64 0)], argTypes := #[3, 3] }, 26, _, _, none⟩) rfl (fun K hK => ?_) (AllReadyH.cons (o := ⟨some 5, Op.alloc 26, 0, _, _, none⟩) rfl (fun K hK => ?_) AllReadyH.nil)
    · go_simp
      (with_reducible refine (tile_any 0 0 _).mono ?_); rintro e v10 ⟨rfl, hB10⟩; have hS10 := hS0.trans (hB10.mono hS0.size)
      refine hK.out _ _ hS10 (fun _ => ?_)
      clear hK K
      (try simp only [Act.put, List.setIfInBounds_toArray, List.set_cons_zero, List.set_cons_succ])
      refine wpAnyH_ready (rs := [2, 7]) (by kernel_rfl) (by simp) ?_
      refine AllReadyH.cons (o := ⟨some 27, Op.call { callee := Callee.value (Operand.func 22), args := #[Operand.const (Value.int IntKind.i64 3), Operand.const (Value.int IntKind.i64 1)], argTypes := #[3, 3] }, 26, _, _, none⟩) rfl (fun K hK => ?_) (AllReadyH.cons (o := ⟨some 5, Op.alloc 26, 0, _, _, none⟩) rfl (fun K hK => ?_) AllReadyH.nil)
      · go_simp
        (with_reducible refine (tile_any 3 1 _).mono ?_); rintro e v11 ⟨rfl, hB11⟩; have hS11 := hS10.trans (hB11.mono hS10.size)
        refine hK.out _ _ hS11 (fun _ => ?_)
        clear hK K
        (try simp only [Act.put, List.setIfInBounds_toArray, List.set_cons_zero, List.set_cons_succ])
        refine wpAnyH_ready (rs := [3, 7]) (by kernel_rfl) (by simp) ?_
        refine AllReadyH.cons (o := ⟨some 28, Op.call { callee := Callee.value (Operand.func 9), args := #[Operand.tmp 25, Operand.tmp 26, Operand.tmp 27], argTypes := #[24, 26, 26] }, 29, _, _, none⟩) rfl (fun K hK => ?_) (AllReadyH.cons (o := ⟨some 5, Op.alloc 26, 0, _, _, none⟩) rfl (fun K hK => ?_) AllReadyH.nil)
        · go_simp
          (with_reducible refine (sfirst _ (hA5.of hS11)).mono ?_); rintro e v12 ⟨rfl, hB12⟩; have hS12 := hS11.trans (hB12.mono hS11.size)
          refine hK.out _ _ hS12 (fun _ => ?_)
          clear hK K
          (try simp only [Act.put, List.setIfInBounds_toArray, List.set_cons_zero, List.set_cons_succ])
          refine wpAnyH_take (i := 4) (oi := ⟨some 24, Op.move (Operand.tmp 28), 29, _, _, none⟩) (v := ?vfb1b2b34) rfl (by kernel_rfl) (by kernel_rfl) (by kernel_rfl) (fun _ _ _ h => h) (Or.inl ⟨by rfl, ?hfb1b2b34⟩) hS12 ?rfb1b2b34
          case hfb1b2b34 => (intro wz hSw; go_simp <;> with_reducible rfl)
          (try simp only [Act.put, List.setIfInBounds_toArray, List.set_cons_zero, List.set_cons_succ])
          refine wpAnyH_take (i := 5) (oi := ⟨some 29, Op.extract (Operand.tmp 24) 0, 26, _, _, none⟩) (v := ?vfb1b2b35) rfl (by kernel_rfl) (by kernel_rfl) (by kernel_rfl) (fun _ _ _ h => h) (Or.inl ⟨by rfl, ?hfb1b2b35⟩) hS12 ?rfb1b2b35
          case hfb1b2b35 => (intro wz hSw; go_simp <;> with_reducible rfl)
          (try simp only [Act.put, List.setIfInBounds_toArray, List.set_cons_zero, List.set_cons_succ])
          refine wpAnyH_take (i := 6) (oi := ⟨some 30, Op.extract (Operand.tmp 24) 1, 4, _, _, none⟩) (v := ?vfb1b2b36) rfl (by kernel_rfl) (by kernel_rfl) (by kernel_rfl) (fun _ _ _ h => h) (Or.inl ⟨by rfl, ?hfb1b2b36⟩) hS12 ?rfb1b2b36
          case hfb1b2b36 => (intro wz hSw; go_simp <;> with_reducible rfl)
          (try simp only [Act.put, List.setIfInBounds_toArray, List.set_cons_zero, List.set_cons_succ])
          refine wpAnyH_ready (rs := [7]) (by kernel_rfl) (by simp) ?_
          refine AllReadyH.cons (o := ⟨some 5, Op.alloc 26, 0, _, _, none⟩) rfl (fun K hK => ?_) AllReadyH.nil
          go_simp
          have hX13 : BoxP (v12.alloc (.cells #[.int .i64 0, .int .i64 0] 26)) v12.heap.size 0 0 := new_at _ _ rfl; have hS13 := hS12.alloc hS12.size (.cells #[.int .i64 0, .int .i64 0] 26); generalize hP13 : v12.heap.size = P13 at hX13 ⊢; generalize v12.alloc (.cells #[.int .i64 0, .int .i64 0] 26) = v13 at hX13 hS13 ⊢
          refine hK.out _ _ hS13 (fun _ => ?_)
          clear hK K
          (try simp only [Act.put, List.setIfInBounds_toArray, List.set_cons_zero, List.set_cons_succ])
          refine wpAnyH_ready (rs := [8]) (by kernel_rfl) (by simp) ?_
          refine AllReadyH.cons (o := ⟨none, Op.store 26 (Operand.tmp 5) (Operand.tmp 29), 0, _, _, none⟩) rfl (fun K hK => ?_) AllReadyH.nil
          have x0 := hX13.cell0; have x1 := hX13.cell1; have f0 := hX13.frozen 0; have f1 := hX13.frozen 1; have hge : V5.heap.size ≤ P13 := by (rw [← hP13]; exact hS12.size)
          go_simp
          have hS14 := (hS13.setCell (p := ⟨P13, 0, none⟩) hge (.int .i64 1)).setCell (p := ⟨P13, 1, none⟩) hge (.int .i64 0); have hY := hX13.put 1 0
          refine hK.out _ _ hS14 (fun _ => ?_)
          clear hK K
          (try simp only [Act.put, List.setIfInBounds_toArray, List.set_cons_zero, List.set_cons_succ])
          refine wpAnyH_take (i := 9) (oi := ⟨some 6, Op.assign (Operand.tmp 30), 4, _, _, none⟩) (v := ?vfb1b2b39) rfl (by kernel_rfl) (by kernel_rfl) (by kernel_rfl) (fun _ _ _ h => h) (Or.inl ⟨by rfl, ?hfb1b2b39⟩) hS14 ?rfb1b2b39
          case hfb1b2b39 => (intro wz hSw; go_simp <;> with_reducible rfl)
          (try simp only [Act.put, List.setIfInBounds_toArray, List.set_cons_zero, List.set_cons_succ])
          refine wpAnyH_done (by kernel_rfl) ?_ _
          refine NoPanic.normal ?_
          exact ⟨P13, rfl, hY, hS14, rfl⟩
        · go_simp
          have hX15 : BoxP (v11.alloc (.cells #[.int .i64 0, .int .i64 0] 26)) v11.heap.size 0 0 := new_at _ _ rfl; have hS15 := hS11.alloc hS11.size (.cells #[.int .i64 0, .int .i64 0] 26); generalize hP15 : v11.heap.size = P15 at hX15 ⊢; generalize v11.alloc (.cells #[.int .i64 0, .int .i64 0] 26) = v15 at hX15 hS15 ⊢
          refine hK.out _ _ hS15 (fun _ => ?_)
          clear hK K
          (try simp only [Act.put, List.setIfInBounds_toArray, List.set_cons_zero, List.set_cons_succ])
          refine wpAnyH_ready (rs := [3]) (by kernel_rfl) (by simp) ?_
          refine AllReadyH.cons (o := ⟨some 28, Op.call { callee := Callee.value (Operand.func 9), args := #[Operand.tmp 25, Operand.tmp 26, Operand.tmp 27], argTypes := #[24, 26, 26] }, 29, _, _, none⟩) rfl (fun K hK => ?_) AllReadyH.nil
          go_simp
          (with_reducible refine (sfirst _ (hA5.of hS15)).mono ?_); rintro e v16 ⟨rfl, hB16⟩; have hS16 := hS15.trans (hB16.mono hS15.size); have hX16 := hX15.kept (hB16.block _ hX15.lt)
          refine hK.out _ _ hS16 (fun _ => ?_)
          clear hK K
          (try simp only [Act.put, List.setIfInBounds_toArray, List.set_cons_zero, List.set_cons_succ])
          refine wpAnyH_take (i := 4) (oi := ⟨some 24, Op.move (Operand.tmp 28), 29, _, _, none⟩) (v := ?vfb1b2b74) rfl (by kernel_rfl) (by kernel_rfl) (by kernel_rfl) (fun _ _ _ h => h) (Or.inl ⟨by rfl, ?hfb1b2b74⟩) hS16 ?rfb1b2b74
          case hfb1b2b74 => (intro wz hSw; go_simp <;> with_reducible rfl)
          (try simp only [Act.put, List.setIfInBounds_toArray, List.set_cons_zero, List.set_cons_succ])
          refine wpAnyH_take (i := 5) (oi := ⟨some 29, Op.extract (Operand.tmp 24) 0, 26, _, _, none⟩) (v := ?vfb1b2b75) rfl (by kernel_rfl) (by kernel_rfl) (by kernel_rfl) (fun _ _ _ h => h) (Or.inl ⟨by rfl, ?hfb1b2b75⟩) hS16 ?rfb1b2b75
          case hfb1b2b75 => (intro wz hSw; go_simp <;> with_reducible rfl)
          (try simp only [Act.put, List.setIfInBounds_toArray, List.set_cons_zero, List.set_cons_succ])
          refine wpAnyH_take (i := 6) (oi := ⟨some 30, Op.extract (Operand.tmp 24) 1, 4, _, _, none⟩) (v := ?vfb1b2b76) rfl (by kernel_rfl) (by kernel_rfl) (by kernel_rfl) (fun _ _ _ h => h) (Or.inl ⟨by rfl, ?hfb1b2b76⟩) hS16 ?rfb1b2b76
          case hfb1b2b76 => (intro wz hSw; go_simp <;> with_reducible rfl)
          (try simp only [Act.put, List.setIfInBounds_toArray, List.set_cons_zero, List.set_cons_succ])
          refine wpAnyH_ready (rs := [8]) (by kernel_rfl) (by simp) ?_
          refine AllReadyH.cons (o := ⟨none, Op.store 26 (Operand.tmp 5) (Operand.tmp 29), 0, _, _, none⟩) rfl (fun K hK => ?_) AllReadyH.nil
          have x0 := hX16.cell0; have x1 := hX16.cell1; have f0 := hX16.frozen 0; have f1 := hX16.frozen 1; have hge : V5.heap.size ≤ P15 := by (rw [← hP15]; exact hS11.size)
          go_simp
          have hS17 := (hS16.setCell (p := ⟨P15, 0, none⟩) hge (.int .i64 1)).setCell (p := ⟨P15, 1, none⟩) hge (.int .i64 0); have hY := hX16.put 1 0
          refine hK.out _ _ hS17 (fun _ => ?_)
          clear hK K
          (try simp only [Act.put, List.setIfInBounds_toArray, List.set_cons_zero, List.set_cons_succ])
          refine wpAnyH_take (i := 9) (oi := ⟨some 6, Op.assign (Operand.tmp 30), 4, _, _, none⟩) (v := ?vfb1b2b79) rfl (by kernel_rfl) (by kernel_rfl) (by kernel_rfl) (fun _ _ _ h => h) (Or.inl ⟨by rfl, ?hfb1b2b79⟩) hS17 ?rfb1b2b79
          case hfb1b2b79 => (intro wz hSw; go_simp <;> with_reducible rfl)
          (try simp only [Act.put, List.setIfInBounds_toArray, List.set_cons_zero, List.set_cons_succ])
          refine wpAnyH_done (by kernel_rfl) ?_ _
          refine NoPanic.normal ?_
          exact ⟨P15, rfl, hY, hS17, rfl⟩
      · go_simp
        have hX18 : BoxP (v10.alloc (.cells #[.int .i64 0, .int .i64 0] 26)) v10.heap.size 0 0 := new_at _ _ rfl; have hS18 := hS10.alloc hS10.size (.cells #[.int .i64 0, .int .i64 0] 26); generalize hP18 : v10.heap.size = P18 at hX18 ⊢; generalize v10.alloc (.cells #[.int .i64 0, .int .i64 0] 26) = v18 at hX18 hS18 ⊢
        refine hK.out _ _ hS18 (fun _ => ?_)
        clear hK K
        (try simp only [Act.put, List.setIfInBounds_toArray, List.set_cons_zero, List.set_cons_succ])
        refine wpAnyH_ready (rs := [2]) (by kernel_rfl) (by simp) ?_
        refine AllReadyH.cons (o := ⟨some 27, Op.call { callee := Callee.value (Operand.func 22), args := #[Operand.const (Value.int IntKind.i64 3), Operand.const (Value.int IntKind.i64 1)], argTypes := #[3, 3] }, 26, _, _, none⟩) rfl (fun K hK => ?_) AllReadyH.nil
        go_simp
        (with_reducible refine (tile_any 3 1 _).mono ?_); rintro e v19 ⟨rfl, hB19⟩; have hS19 := hS18.trans (hB19.mono hS18.size); have hX19 := hX18.kept (hB19.block _ hX18.lt)
        refine hK.out _ _ hS19 (fun _ => ?_)
        clear hK K
        (try simp only [Act.put, List.setIfInBounds_toArray, List.set_cons_zero, List.set_cons_succ])
        refine wpAnyH_ready (rs := [3]) (by kernel_rfl) (by simp) ?_
        refine AllReadyH.cons (o := ⟨some 28, Op.call { callee := Callee.value (Operand.func 9), args := #[Operand.tmp 25, Operand.tmp 26, Operand.tmp 27], argTypes := #[24, 26, 26] }, 29, _, _, none⟩) rfl (fun K hK => ?_) AllReadyH.nil
        go_simp
        (with_reducible refine (sfirst _ (hA5.of hS19)).mono ?_); rintro e v20 ⟨rfl, hB20⟩; have hS20 := hS19.trans (hB20.mono hS19.size); have hX20 := hX19.kept (hB20.block _ hX19.lt)
        refine hK.out _ _ hS20 (fun _ => ?_)
        clear hK K
        (try simp only [Act.put, List.setIfInBounds_toArray, List.set_cons_zero, List.set_cons_succ])
        refine wpAnyH_take (i := 4) (oi := ⟨some 24, Op.move (Operand.tmp 28), 29, _, _, none⟩) (v := ?vfb1b74) rfl (by kernel_rfl) (by kernel_rfl) (by kernel_rfl) (fun _ _ _ h => h) (Or.inl ⟨by rfl, ?hfb1b74⟩) hS20 ?rfb1b74
        case hfb1b74 => (intro wz hSw; go_simp <;> with_reducible rfl)
        (try simp only [Act.put, List.setIfInBounds_toArray, List.set_cons_zero, List.set_cons_succ])
        refine wpAnyH_take (i := 5) (oi := ⟨some 29, Op.extract (Operand.tmp 24) 0, 26, _, _, none⟩) (v := ?vfb1b75) rfl (by kernel_rfl) (by kernel_rfl) (by kernel_rfl) (fun _ _ _ h => h) (Or.inl ⟨by rfl, ?hfb1b75⟩) hS20 ?rfb1b75
        case hfb1b75 => (intro wz hSw; go_simp <;> with_reducible rfl)
        (try simp only [Act.put, List.setIfInBounds_toArray, List.set_cons_zero, List.set_cons_succ])
        refine wpAnyH_take (i := 6) (oi := ⟨some 30, Op.extract (Operand.tmp 24) 1, 4, _, _, none⟩) (v := ?vfb1b76) rfl (by kernel_rfl) (by kernel_rfl) (by kernel_rfl) (fun _ _ _ h => h) (Or.inl ⟨by rfl, ?hfb1b76⟩) hS20 ?rfb1b76
        case hfb1b76 => (intro wz hSw; go_simp <;> with_reducible rfl)
        (try simp only [Act.put, List.setIfInBounds_toArray, List.set_cons_zero, List.set_cons_succ])
        refine wpAnyH_ready (rs := [8]) (by kernel_rfl) (by simp) ?_
        refine AllReadyH.cons (o := ⟨none, Op.store 26 (Operand.tmp 5) (Operand.tmp 29), 0, _, _, none⟩) rfl (fun K hK => ?_) AllReadyH.nil
        have x0 := hX20.cell0; have x1 := hX20.cell1; have f0 := hX20.frozen 0; have f1 := hX20.frozen 1; have hge : V5.heap.size ≤ P18 := by (rw [← hP18]; exact hS10.size)
        go_simp
        have hS21 := (hS20.setCell (p := ⟨P18, 0, none⟩) hge (.int .i64 1)).setCell (p := ⟨P18, 1, none⟩) hge (.int .i64 0); have hY := hX20.put 1 0
        refine hK.out _ _ hS21 (fun _ => ?_)
        clear hK K
        (try simp only [Act.put, List.setIfInBounds_toArray, List.set_cons_zero, List.set_cons_succ])
        refine wpAnyH_take (i := 9) (oi := ⟨some 6, Op.assign (Operand.tmp 30), 4, _, _, none⟩) (v := ?vfb1b79) rfl (by kernel_rfl) (by kernel_rfl) (by kernel_rfl) (fun _ _ _ h => h) (Or.inl ⟨by rfl, ?hfb1b79⟩) hS21 ?rfb1b79
        case hfb1b79 => (intro wz hSw; go_simp <;> with_reducible rfl)
        (try simp only [Act.put, List.setIfInBounds_toArray, List.set_cons_zero, List.set_cons_succ])
        refine wpAnyH_done (by kernel_rfl) ?_ _
        refine NoPanic.normal ?_
        exact ⟨P18, rfl, hY, hS21, rfl⟩
    · go_simp
      have hX22 : BoxP (v0.alloc (.cells #[.int .i64 0, .int .i64 0] 26)) v0.heap.size 0 0 := new_at _ _ rfl; have hS22 := hS0.alloc hS0.size (.cells #[.int .i64 0, .int .i64 0] 26); generalize hP22 : v0.heap.size = P22 at hX22 ⊢; generalize v0.alloc (.cells #[.int .i64 0, .int .i64 0] 26) = v22 at hX22 hS22 ⊢
      refine hK.out _ _ hS22 (fun _ => ?_)
      clear hK K
      (try simp only [Act.put, List.setIfInBounds_toArray, List.set_cons_zero, List.set_cons_succ])
      refine wpAnyH_ready (rs := [1]) (by kernel_rfl) (by simp) ?_
      refine AllReadyH.cons (o := ⟨some 26, Op.call { callee := Callee.value (Operand.func 22), args := #[Operand.const (Value.int IntKind.i64 0), Operand.const (Value.int IntKind.i64 0)], argTypes := #[3, 3] }, 26, _, _, none⟩) rfl (fun K hK => ?_) AllReadyH.nil
      go_simp
      (with_reducible refine (tile_any 0 0 _).mono ?_); rintro e v23 ⟨rfl, hB23⟩; have hS23 := hS22.trans (hB23.mono hS22.size); have hX23 := hX22.kept (hB23.block _ hX22.lt)
      refine hK.out _ _ hS23 (fun _ => ?_)
      clear hK K
      (try simp only [Act.put, List.setIfInBounds_toArray, List.set_cons_zero, List.set_cons_succ])
      refine wpAnyH_ready (rs := [2]) (by kernel_rfl) (by simp) ?_
      refine AllReadyH.cons (o := ⟨some 27, Op.call { callee := Callee.value (Operand.func 22), args := #[Operand.const (Value.int IntKind.i64 3), Operand.const (Value.int IntKind.i64 1)], argTypes := #[3, 3] }, 26, _, _, none⟩) rfl (fun K hK => ?_) AllReadyH.nil
      go_simp
      (with_reducible refine (tile_any 3 1 _).mono ?_); rintro e v24 ⟨rfl, hB24⟩; have hS24 := hS23.trans (hB24.mono hS23.size); have hX24 := hX23.kept (hB24.block _ hX23.lt)
      refine hK.out _ _ hS24 (fun _ => ?_)
      clear hK K
      (try simp only [Act.put, List.setIfInBounds_toArray, List.set_cons_zero, List.set_cons_succ])
      refine wpAnyH_ready (rs := [3]) (by kernel_rfl) (by simp) ?_
      refine AllReadyH.cons (o := ⟨some 28, Op.call { callee := Callee.value (Operand.func 9), args := #[Operand.tmp 25, Operand.tmp 26, Operand.tmp 27], argTypes := #[24, 26, 26] }, 29, _, _, none⟩) rfl (fun K hK => ?_) AllReadyH.nil
      go_simp
      (with_reducible refine (sfirst _ (hA5.of hS24)).mono ?_); rintro e v25 ⟨rfl, hB25⟩; have hS25 := hS24.trans (hB25.mono hS24.size); have hX25 := hX24.kept (hB25.block _ hX24.lt)
      refine hK.out _ _ hS25 (fun _ => ?_)
      clear hK K
      (try simp only [Act.put, List.setIfInBounds_toArray, List.set_cons_zero, List.set_cons_succ])
      refine wpAnyH_take (i := 4) (oi := ⟨some 24, Op.move (Operand.tmp 28), 29, _, _, none⟩) (v := ?vfb74) rfl (by kernel_rfl) (by kernel_rfl) (by kernel_rfl) (fun _ _ _ h => h) (Or.inl ⟨by rfl, ?hfb74⟩) hS25 ?rfb74
      case hfb74 => (intro wz hSw; go_simp <;> with_reducible rfl)
      (try simp only [Act.put, List.setIfInBounds_toArray, List.set_cons_zero, List.set_cons_succ])
      refine wpAnyH_take (i := 5) (oi := ⟨some 29, Op.extract (Operand.tmp 24) 0, 26, _, _, none⟩) (v := ?vfb75) rfl (by kernel_rfl) (by kernel_rfl) (by kernel_rfl) (fun _ _ _ h => h) (Or.inl ⟨by rfl, ?hfb75⟩) hS25 ?rfb75
      case hfb75 => (intro wz hSw; go_simp <;> with_reducible rfl)
      (try simp only [Act.put, List.setIfInBounds_toArray, List.set_cons_zero, List.set_cons_succ])
      refine wpAnyH_take (i := 6) (oi := ⟨some 30, Op.extract (Operand.tmp 24) 1, 4, _, _, none⟩) (v := ?vfb76) rfl (by kernel_rfl) (by kernel_rfl) (by kernel_rfl) (fun _ _ _ h => h) (Or.inl ⟨by rfl, ?hfb76⟩) hS25 ?rfb76
      case hfb76 => (intro wz hSw; go_simp <;> with_reducible rfl)
      (try simp only [Act.put, List.setIfInBounds_toArray, List.set_cons_zero, List.set_cons_succ])
      refine wpAnyH_ready (rs := [8]) (by kernel_rfl) (by simp) ?_
      refine AllReadyH.cons (o := ⟨none, Op.store 26 (Operand.tmp 5) (Operand.tmp 29), 0, _, _, none⟩) rfl (fun K hK => ?_) AllReadyH.nil
      have x0 := hX25.cell0; have x1 := hX25.cell1; have f0 := hX25.frozen 0; have f1 := hX25.frozen 1; have hge : V5.heap.size ≤ P22 := by (rw [← hP22]; exact hS0.size)
      go_simp
      have hS26 := (hS25.setCell (p := ⟨P22, 0, none⟩) hge (.int .i64 1)).setCell (p := ⟨P22, 1, none⟩) hge (.int .i64 0); have hY := hX25.put 1 0
      refine hK.out _ _ hS26 (fun _ => ?_)
      clear hK K
      (try simp only [Act.put, List.setIfInBounds_toArray, List.set_cons_zero, List.set_cons_succ])
      refine wpAnyH_take (i := 9) (oi := ⟨some 6, Op.assign (Operand.tmp 30), 4, _, _, none⟩) (v := ?vfb79) rfl (by kernel_rfl) (by kernel_rfl) (by kernel_rfl) (fun _ _ _ h => h) (Or.inl ⟨by rfl, ?hfb79⟩) hS26 ?rfb79
      case hfb79 => (intro wz hSw; go_simp <;> with_reducible rfl)
      (try simp only [Act.put, List.setIfInBounds_toArray, List.set_cons_zero, List.set_cons_succ])
      refine wpAnyH_done (by kernel_rfl) ?_ _
      refine NoPanic.normal ?_
      exact ⟨P22, rfl, hY, hS26, rfl⟩
  case post6 =>
    rintro e a' V6 ⟨P, rfl, hX, hB6, rfl⟩
    dsimp only
    have hA6 := hA5.of hB6
    have hR1e := hR1d.below hB6 (by have h1 := hS6.size; have h2 := hS9.size; omega)
    have hR2e := hR2d.below hB6 (by have h2 := hS9.size; omega)
    have hR1f := hR1e.more (show _ ≤ V6.heap.size by have h1 := hS6.size; have h2 := hS9.size; have h3 := hB6.size; omega)
    have hR2f := hR2e.more (show _ ≤ V6.heap.size by have h2 := hS9.size; have h3 := hB6.size; omega)
    go_wp2
    have hS0 : Below V6.heap.size V6 V6.drew := (Below.refl _ _).drew
    refine wp_region_noPanic ?_
    refine wp_region_held_drew (S := fun w' => Below V6.heap.size V6 w') (by kernel_rfl) hS0 (fun _ => ?_)
    generalize V6.drew = v0 at hS0 ⊢
    refine wpAnyH_take (i := 0) (oi := ⟨some 31, Op.move (Operand.tmp 2), 32, _, _, none⟩) (v := ?vg0) rfl (by kernel_rfl) (by kernel_rfl) (by kernel_rfl) (fun _ _ _ h => h) (Or.inl ⟨by rfl, ?hg0⟩) hS0 ?rg0
    case hg0 => (intro wz hSw; go_simp <;> with_reducible rfl)
    (try simp only [Act.put, List.setIfInBounds_toArray, List.set_cons_zero, List.set_cons_succ])
    refine wpAnyH_ready (rs := [1]) (by kernel_rfl) (by simp) ?_
    refine AllReadyH.cons (o := ⟨some 32, Op.call { callee := Callee.value (Operand.func 22), args := #[Operand.const (Value.int IntKind.i64 0), Operand.const (Value.int IntKind.i64 0)], argTypes := #[3, 3] }, 26, _, _, none⟩) rfl (fun K hK => ?_) AllReadyH.nil
    go_simp
    (with_reducible refine (tile_any 0 0 _).mono ?_); rintro e v27 ⟨rfl, hB27⟩; have hS27 := hS0.trans (hB27.mono hS0.size)
    refine hK.out _ _ hS27 (fun _ => ?_)
    clear hK K
    (try simp only [Act.put, List.setIfInBounds_toArray, List.set_cons_zero, List.set_cons_succ])
    refine wpAnyH_ready (rs := [2]) (by kernel_rfl) (by simp) ?_
    refine AllReadyH.cons (o := ⟨some 33, Op.call { callee := Callee.value (Operand.func 22), args := #[Operand.const (Value.int IntKind.i64 1), Operand.const (Value.int IntKind.i64 0)], argTypes := #[3, 3] }, 26, _, _, none⟩) rfl (fun K hK => ?_) AllReadyH.nil
    go_simp
    (with_reducible refine (tile_any 1 0 _).mono ?_); rintro e v28 ⟨rfl, hB28⟩; have hS28 := hS27.trans (hB28.mono hS27.size)
    refine hK.out _ _ hS28 (fun _ => ?_)
    clear hK K
    (try simp only [Act.put, List.setIfInBounds_toArray, List.set_cons_zero, List.set_cons_succ])
    refine wpAnyH_ready (rs := [3]) (by kernel_rfl) (by simp) ?_
    refine AllReadyH.cons (o := ⟨some 34, Op.call { callee := Callee.value (Operand.func 22), args := #[Operand.const (Value.int IntKind.i64 0), Operand.const (Value.int IntKind.i64 1)], argTypes := #[3, 3] }, 26, _, _, none⟩) rfl (fun K hK => ?_) AllReadyH.nil
    go_simp
    (with_reducible refine (tile_any 0 1 _).mono ?_); rintro e v29 ⟨rfl, hB29⟩; have hS29 := hS28.trans (hB29.mono hS28.size)
    refine hK.out _ _ hS29 (fun _ => ?_)
    clear hK K
    (try simp only [Act.put, List.setIfInBounds_toArray, List.set_cons_zero, List.set_cons_succ])
    refine wpAnyH_ready (rs := [4]) (by kernel_rfl) (by simp) ?_
    refine AllReadyH.cons (o := ⟨some 35, Op.call { callee := Callee.value (Operand.func 22), args := #[Operand.const (Value.int IntKind.i64 1), Operand.const (Value.int IntKind.i64 1)], argTypes := #[3, 3] }, 26, _, _, none⟩) rfl (fun K hK => ?_) AllReadyH.nil
    go_simp
    (with_reducible refine (tile_any 1 1 _).mono ?_); rintro e v30 ⟨rfl, hB30⟩; have hS30 := hS29.trans (hB30.mono hS29.size)
    refine hK.out _ _ hS30 (fun _ => ?_)
    clear hK K
    (try simp only [Act.put, List.setIfInBounds_toArray, List.set_cons_zero, List.set_cons_succ])
    refine wpAnyH_ready (rs := [5]) (by kernel_rfl) (by simp) ?_
    refine AllReadyH.cons (o := ⟨some 36, Op.call { callee := Callee.value (Operand.func 22), args := #[Operand.const (Value.int IntKind.i64 2), Operand.const (Value.int IntKind.i64 1)], argTypes := #[3, 3] }, 26, _, _, none⟩) rfl (fun K hK => ?_) AllReadyH.nil
    go_simp
    (with_reducible refine (tile_any 2 1 _).mono ?_); rintro e v31 ⟨rfl, hB31⟩; have hS31 := hS30.trans (hB31.mono hS30.size)
    refine hK.out _ _ hS31 (fun _ => ?_)
    clear hK K
    (try simp only [Act.put, List.setIfInBounds_toArray, List.set_cons_zero, List.set_cons_succ])
    refine wpAnyH_ready (rs := [6]) (by kernel_rfl) (by simp) ?_
    refine AllReadyH.cons (o := ⟨some 37, Op.call { callee := Callee.value (Operand.func 22), args := #[Operand.const (Value.int IntKind.i64 1), Operand.const (Value.int IntKind.i64 2)], argTypes := #[3, 3] }, 26, _, _, none⟩) rfl (fun K hK => ?_) AllReadyH.nil
    go_simp
    (with_reducible refine (tile_any 1 2 _).mono ?_); rintro e v32 ⟨rfl, hB32⟩; have hS32 := hS31.trans (hB32.mono hS31.size)
    refine hK.out _ _ hS32 (fun _ => ?_)
    clear hK K
    (try simp only [Act.put, List.setIfInBounds_toArray, List.set_cons_zero, List.set_cons_succ])
    refine wpAnyH_ready (rs := [7]) (by kernel_rfl) (by simp) ?_
    refine AllReadyH.cons (o := ⟨some 38, Op.call { callee := Callee.value (Operand.func 22), args := #[Operand.const (Value.int IntKind.i64 2), Operand.const (Value.int IntKind.i64 2)], argTypes := #[3, 3] }, 26, _, _, none⟩) rfl (fun K hK => ?_) AllReadyH.nil
    go_simp
    (with_reducible refine (tile_any 2 2 _).mono ?_); rintro e v33 ⟨rfl, hB33⟩; have hS33 := hS32.trans (hB33.mono hS32.size)
    refine hK.out _ _ hS33 (fun _ => ?_)
    clear hK K
    (try simp only [Act.put, List.setIfInBounds_toArray, List.set_cons_zero, List.set_cons_succ])
    refine wpAnyH_ready (rs := [8]) (by kernel_rfl) (by simp) ?_
    refine AllReadyH.cons (o := ⟨some 39, Op.buildSlice 32 7 #[(0, Operand.tmp 32), (1, Operand.tmp 33), (2, Operand.tmp 34), (3, Operand.tmp 35), (4, Operand.tmp 36), (5, Operand.tmp 37), (6, Operand.tmp 38)], 32, _, _, none⟩) rfl (fun K hK => ?_) AllReadyH.nil
    go_simp
    have hL1 := new1 v33; have hS34 := hS33.alloc hS33.size (.cells lit1 26); unfold lit1 at hL1 hS34; generalize hP34 : v33.heap.size = P34 at hL1 ⊢; generalize hV34 : v33.alloc _ = v34 at hL1 hS34 ⊢; clear hP34 hV34
    refine hK.out _ _ hS34 (fun _ => ?_)
    clear hK K
    (try simp only [Act.put, List.setIfInBounds_toArray, List.set_cons_zero, List.set_cons_succ])
    refine wpAnyH_ready (rs := [9]) (by kernel_rfl) (by simp) ?_
    refine AllReadyH.cons (o := ⟨some 40, Op.call { callee := Callee.value (Operand.func 11), args := #[Operand.tmp 31, Operand.tmp 39], argTypes := #[32, 32] }, 4, _, _, none⟩) rfl (fun K hK => ?_) AllReadyH.nil
    go_simp
    (with_reducible refine (ssame1 (hR1f.below hS34 (Nat.le_refl _)) hL1).mono ?_); rintro e v35 ⟨rfl, q35, rfl⟩; have hS35 := below_drewN hS34 q35; generalize hV35 : World.drewN _ q35 = v35 at hS35 ⊢; clear hV35
    refine hK.out _ _ hS35 (fun _ => ?_)
    clear hK K
    (try simp only [Act.put, List.setIfInBounds_toArray, List.set_cons_zero, List.set_cons_succ])
    refine wpAnyH_take (i := 10) (oi := ⟨some 41, Op.move (Operand.tmp 40), 4, _, _, none⟩) (v := ?vg10) rfl (by kernel_rfl) (by kernel_rfl) (by kernel_rfl) (fun _ _ _ h => h) (Or.inl ⟨by rfl, ?hg10⟩) hS35 ?rg10
    case hg10 => (intro wz hSw; go_simp <;> with_reducible rfl)
    (try simp only [Act.put, List.setIfInBounds_toArray, List.set_cons_zero, List.set_cons_succ])
    refine wpAnyH_take (i := 11) (oi := ⟨some 42, Op.move (Operand.tmp 3), 32, _, _, some (10, true)⟩) (v := ?vg11) rfl (by kernel_rfl) (by kernel_rfl) (by kernel_rfl) (fun _ _ _ h => h) (Or.inl ⟨by rfl, ?hg11⟩) hS35 ?rg11
    case hg11 => (intro wz hSw; go_simp <;> with_reducible rfl)
    (try simp only [Act.put, List.setIfInBounds_toArray, List.set_cons_zero, List.set_cons_succ])
    refine wpAnyH_ready (rs := [12]) (by kernel_rfl) (by simp) ?_
    refine AllReadyH.cons (o := ⟨some 43, Op.call { callee := Callee.value (Operand.func 22), args := #[Operand.const (Value.int IntKind.i64 0), Operand.const (Value.int IntKind.i64 0)], argTypes := #[3, 3] }, 26, _, _, some (10, true)⟩) rfl (fun K hK => ?_) AllReadyH.nil
    go_simp
    (with_reducible refine (tile_any 0 0 _).mono ?_); rintro e v36 ⟨rfl, hB36⟩; have hS36 := hS35.trans (hB36.mono hS35.size)
    refine hK.out _ _ hS36 (fun _ => ?_)
    clear hK K
    (try simp only [Act.put, List.setIfInBounds_toArray, List.set_cons_zero, List.set_cons_succ])
    refine wpAnyH_ready (rs := [13]) (by kernel_rfl) (by simp) ?_
    refine AllReadyH.cons (o := ⟨some 44, Op.call { callee := Callee.value (Operand.func 22), args := #[Operand.const (Value.int IntKind.i64 1), Operand.const (Value.int IntKind.i64 0)], argTypes := #[3, 3] }, 26, _, _, some (10, true)⟩) rfl (fun K hK => ?_) AllReadyH.nil
    go_simp
    (with_reducible refine (tile_any 1 0 _).mono ?_); rintro e v37 ⟨rfl, hB37⟩; have hS37 := hS36.trans (hB37.mono hS36.size)
    refine hK.out _ _ hS37 (fun _ => ?_)
    clear hK K
    (try simp only [Act.put, List.setIfInBounds_toArray, List.set_cons_zero, List.set_cons_succ])
    refine wpAnyH_ready (rs := [14]) (by kernel_rfl) (by simp) ?_
    refine AllReadyH.cons (o := ⟨some 45, Op.call { callee := Callee.value (Operand.func 22), args := #[Operand.const (Value.int IntKind.i64 2), Operand.const (Value.int IntKind.i64 0)], argTypes := #[3, 3] }, 26, _, _, some (10, true)⟩) rfl (fun K hK => ?_) AllReadyH.nil
    go_simp
    (with_reducible refine (tile_any 2 0 _).mono ?_); rintro e v38 ⟨rfl, hB38⟩; have hS38 := hS37.trans (hB38.mono hS37.size)
    refine hK.out _ _ hS38 (fun _ => ?_)
    clear hK K
    (try simp only [Act.put, List.setIfInBounds_toArray, List.set_cons_zero, List.set_cons_succ])
    refine wpAnyH_ready (rs := [15]) (by kernel_rfl) (by simp) ?_
    refine AllReadyH.cons (o := ⟨some 46, Op.call { callee := Callee.value (Operand.func 22), args := #[Operand.const (Value.int IntKind.i64 1), Operand.const (Value.int IntKind.i64 1)], argTypes := #[3, 3] }, 26, _, _, some (10, true)⟩) rfl (fun K hK => ?_) AllReadyH.nil
    go_simp
    (with_reducible refine (tile_any 1 1 _).mono ?_); rintro e v39 ⟨rfl, hB39⟩; have hS39 := hS38.trans (hB39.mono hS38.size)
    refine hK.out _ _ hS39 (fun _ => ?_)
    clear hK K
    (try simp only [Act.put, List.setIfInBounds_toArray, List.set_cons_zero, List.set_cons_succ])
    refine wpAnyH_ready (rs := [16]) (by kernel_rfl) (by simp) ?_
    refine AllReadyH.cons (o := ⟨some 47, Op.call { callee := Callee.value (Operand.func 22), args := #[Operand.const (Value.int IntKind.i64 2), Operand.const (Value.int IntKind.i64 1)], argTypes := #[3, 3] }, 26, _, _, some (10, true)⟩) rfl (fun K hK => ?_) AllReadyH.nil
    go_simp
    (with_reducible refine (tile_any 2 1 _).mono ?_); rintro e v40 ⟨rfl, hB40⟩; have hS40 := hS39.trans (hB40.mono hS39.size)
    refine hK.out _ _ hS40 (fun _ => ?_)
    clear hK K
    (try simp only [Act.put, List.setIfInBounds_toArray, List.set_cons_zero, List.set_cons_succ])
    refine wpAnyH_ready (rs := [17]) (by kernel_rfl) (by simp) ?_
    refine AllReadyH.cons (o := ⟨some 48, Op.call { callee := Callee.value (Operand.func 22), args := #[Operand.const (Value.int IntKind.i64 3), Operand.const (Value.int IntKind.i64 1)], argTypes := #[3, 3] }, 26, _, _, some (10, true)⟩) rfl (fun K hK => ?_) AllReadyH.nil
    go_simp
    (with_reducible refine (tile_any 3 1 _).mono ?_); rintro e v41 ⟨rfl, hB41⟩; have hS41 := hS40.trans (hB41.mono hS40.size)
    refine hK.out _ _ hS41 (fun _ => ?_)
    clear hK K
    (try simp only [Act.put, List.setIfInBounds_toArray, List.set_cons_zero, List.set_cons_succ])
    refine wpAnyH_ready (rs := [18]) (by kernel_rfl) (by simp) ?_
    refine AllReadyH.cons (o := ⟨some 49, Op.buildSlice 32 6 #[(0, Operand.tmp 43), (1, Operand.tmp 44), (2, Operand.tmp 45), (3, Operand.tmp 46), (4, Operand.tmp 47), (5, Operand.tmp 48)], 32, _, _, some (10, true)⟩) rfl (fun K hK => ?_) AllReadyH.nil
    go_simp
    have hL2 := new2 v41; have hS42 := hS41.alloc hS41.size (.cells lit2 26); unfold lit2 at hL2 hS42; generalize hP42 : v41.heap.size = P42 at hL2 ⊢; generalize hV42 : v41.alloc _ = v42 at hL2 hS42 ⊢; clear hP42 hV42
    refine hK.out _ _ hS42 (fun _ => ?_)
    clear hK K
    (try simp only [Act.put, List.setIfInBounds_toArray, List.set_cons_zero, List.set_cons_succ])
    refine wpAnyH_ready (rs := [19]) (by kernel_rfl) (by simp) ?_
    refine AllReadyH.cons (o := ⟨some 50, Op.call { callee := Callee.value (Operand.func 11), args := #[Operand.tmp 42, Operand.tmp 49], argTypes := #[32, 32] }, 4, _, _, some (10, true)⟩) rfl (fun K hK => ?_) AllReadyH.nil
    go_simp
    (with_reducible refine (ssame2 (hR2f.below hS42 (Nat.le_refl _)) hL2).mono ?_); rintro e v43 ⟨rfl, q43, rfl⟩; have hS43 := below_drewN hS42 q43; generalize hV43 : World.drewN _ q43 = v43 at hS43 ⊢; clear hV43
    refine hK.out _ _ hS43 (fun _ => ?_)
    clear hK K
    (try simp only [Act.put, List.setIfInBounds_toArray, List.set_cons_zero, List.set_cons_succ])
    refine wpAnyH_take (i := 20) (oi := ⟨some 51, Op.pick (Operand.tmp 41) (Operand.tmp 50) (Operand.const (Value.bool false)), 4, _, _, none⟩) (v := ?vg20) rfl (by kernel_rfl) (by kernel_rfl) (by kernel_rfl) (fun _ _ _ h => h) (Or.inl ⟨by rfl, ?hg20⟩) hS43 ?rg20
    case hg20 => (intro wz hSw; go_simp <;> with_reducible rfl)
    (try simp only [Act.put, List.setIfInBounds_toArray, List.set_cons_zero, List.set_cons_succ])
    refine wpAnyH_take (i := 21) (oi := ⟨some 52, Op.move (Operand.tmp 51), 4, _, _, none⟩) (v := ?vg21) rfl (by kernel_rfl) (by kernel_rfl) (by kernel_rfl) (fun _ _ _ h => h) (Or.inl ⟨by rfl, ?hg21⟩) hS43 ?rg21
    case hg21 => (intro wz hSw; go_simp <;> with_reducible rfl)
    (try simp only [Act.put, List.setIfInBounds_toArray, List.set_cons_zero, List.set_cons_succ])
    refine wpAnyH_take (i := 22) (oi := ⟨some 53, Op.move (Operand.tmp 4), 4, _, _, some (21, true)⟩) (v := ?vg22) rfl (by kernel_rfl) (by kernel_rfl) (by kernel_rfl) (fun _ _ _ h => h) (Or.inl ⟨by rfl, ?hg22⟩) hS43 ?rg22
    case hg22 => (intro wz hSw; go_simp <;> with_reducible rfl)
    (try simp only [Act.put, List.setIfInBounds_toArray, List.set_cons_zero, List.set_cons_succ])
    refine wpAnyH_take (i := 23) (oi := ⟨some 54, Op.pick (Operand.tmp 52) (Operand.tmp 53) (Operand.const (Value.bool false)), 4, _, _, none⟩) (v := ?vg23) rfl (by kernel_rfl) (by kernel_rfl) (by kernel_rfl) (fun _ _ _ h => h) (Or.inl ⟨by rfl, ?hg23⟩) hS43 ?rg23
    case hg23 => (intro wz hSw; go_simp <;> with_reducible rfl)
    (try simp only [Act.put, List.setIfInBounds_toArray, List.set_cons_zero, List.set_cons_succ])
    refine wpAnyH_take (i := 24) (oi := ⟨some 55, Op.move (Operand.tmp 54), 4, _, _, none⟩) (v := ?vg24) rfl (by kernel_rfl) (by kernel_rfl) (by kernel_rfl) (fun _ _ _ h => h) (Or.inl ⟨by rfl, ?hg24⟩) hS43 ?rg24
    case hg24 => (intro wz hSw; go_simp <;> with_reducible rfl)
    (try simp only [Act.put, List.setIfInBounds_toArray, List.set_cons_zero, List.set_cons_succ])
    refine wpAnyH_take (i := 25) (oi := ⟨some 56, Op.load 24 (Operand.tmp 1), 24, _, _, some (24, true)⟩) (v := ?vg25) rfl (by kernel_rfl) (by kernel_rfl) (by kernel_rfl) (fun _ _ _ h => h) (Or.inl ⟨by rfl, ?hg25⟩) hS43 ?rg25
    case hg25 => (intro wz hSw; obtain ⟨k0, k1, k2⟩ := (hA6.of hSw).cells; go_simp <;> with_reducible rfl)
    (try simp only [Act.put, List.setIfInBounds_toArray, List.set_cons_zero, List.set_cons_succ])
    refine wpAnyH_ready (rs := [26]) (by kernel_rfl) (by simp) ?_
    refine AllReadyH.cons (o := ⟨some 57, Op.call { callee := Callee.value (Operand.func 22), args := #[Operand.const (Value.int IntKind.i64 0), Operand.const (Value.int IntKind.i64 0)], argTypes := #[3, 3] }, 26, _, _, some (24, true)⟩) rfl (fun K hK => ?_) AllReadyH.nil
    go_simp
    (with_reducible refine (tile_any 0 0 _).mono ?_); rintro e v44 ⟨rfl, hB44⟩; have hS44 := hS43.trans (hB44.mono hS43.size)
    refine hK.out _ _ hS44 (fun _ => ?_)
    clear hK K
    (try simp only [Act.put, List.setIfInBounds_toArray, List.set_cons_zero, List.set_cons_succ])
    refine wpAnyH_ready (rs := [27]) (by kernel_rfl) (by simp) ?_
    refine AllReadyH.cons (o := ⟨some 58, Op.call { callee := Callee.value (Operand.func 22), args := #[Operand.const (Value.int IntKind.i64 3), Operand.const (Value.int IntKind.i64 1)], argTypes := #[3, 3] }, 26, _, _, some (24, true)⟩) rfl (fun K hK => ?_) AllReadyH.nil
    go_simp
    (with_reducible refine (tile_any 3 1 _).mono ?_); rintro e v45 ⟨rfl, hB45⟩; have hS45 := hS44.trans (hB45.mono hS44.size)
    refine hK.out _ _ hS45 (fun _ => ?_)
    clear hK K
    (try simp only [Act.put, List.setIfInBounds_toArray, List.set_cons_zero, List.set_cons_succ])
    refine wpAnyH_ready (rs := [28]) (by kernel_rfl) (by simp) ?_
    refine AllReadyH.cons (o := ⟨some 59, Op.call { callee := Callee.value (Operand.func 14), args := #[Operand.tmp 56, Operand.tmp 57, Operand.tmp 58], argTypes := #[24, 26, 26] }, 4, _, _, some (24, true)⟩) rfl (fun K hK => ?_) AllReadyH.nil
    go_simp
    (with_reducible refine (ssees2 _ (hA6.of hS45)).mono ?_); rintro e v46 ⟨rfl, hB46⟩; have hS46 := hS45.trans (hB46.mono hS45.size)
    refine hK.out _ _ hS46 (fun _ => ?_)
    clear hK K
    (try simp only [Act.put, List.setIfInBounds_toArray, List.set_cons_zero, List.set_cons_succ])
    refine wpAnyH_take (i := 29) (oi := ⟨some 60, Op.unOp UnOp.not 4 (Operand.tmp 59), 4, _, _, some (24, true)⟩) (v := ?vg29) rfl (by kernel_rfl) (by kernel_rfl) (by kernel_rfl) (fun _ _ _ h => h) (Or.inl ⟨by rfl, ?hg29⟩) hS46 ?rg29
    case hg29 => (intro wz hSw; go_simp <;> with_reducible rfl)
    (try simp only [Act.put, List.setIfInBounds_toArray, List.set_cons_zero, List.set_cons_succ])
    refine wpAnyH_take (i := 30) (oi := ⟨some 61, Op.pick (Operand.tmp 55) (Operand.tmp 60) (Operand.const (Value.bool false)), 4, _, _, none⟩) (v := ?vg30) rfl (by kernel_rfl) (by kernel_rfl) (by kernel_rfl) (fun _ _ _ h => h) (Or.inl ⟨by rfl, ?hg30⟩) hS46 ?rg30
    case hg30 => (intro wz hSw; go_simp <;> with_reducible rfl)
    (try simp only [Act.put, List.setIfInBounds_toArray, List.set_cons_zero, List.set_cons_succ])
    refine wpAnyH_take (i := 31) (oi := ⟨some 62, Op.move (Operand.tmp 61), 4, _, _, none⟩) (v := ?vg31) rfl (by kernel_rfl) (by kernel_rfl) (by kernel_rfl) (fun _ _ _ h => h) (Or.inl ⟨by rfl, ?hg31⟩) hS46 ?rg31
    case hg31 => (intro wz hSw; go_simp <;> with_reducible rfl)
    (try simp only [Act.put, List.setIfInBounds_toArray, List.set_cons_zero, List.set_cons_succ])
    refine wpAnyH_take (i := 32) (oi := ⟨some 63, Op.move (Operand.tmp 6), 4, _, _, some (31, true)⟩) (v := ?vg32) rfl (by kernel_rfl) (by kernel_rfl) (by kernel_rfl) (fun _ _ _ h => h) (Or.inl ⟨by rfl, ?hg32⟩) hS46 ?rg32
    case hg32 => (intro wz hSw; go_simp <;> with_reducible rfl)
    (try simp only [Act.put, List.setIfInBounds_toArray, List.set_cons_zero, List.set_cons_succ])
    refine wpAnyH_take (i := 33) (oi := ⟨some 64, Op.pick (Operand.tmp 62) (Operand.tmp 63) (Operand.const (Value.bool false)), 4, _, _, none⟩) (v := ?vg33) rfl (by kernel_rfl) (by kernel_rfl) (by kernel_rfl) (fun _ _ _ h => h) (Or.inl ⟨by rfl, ?hg33⟩) hS46 ?rg33
    case hg33 => (intro wz hSw; go_simp <;> with_reducible rfl)
    (try simp only [Act.put, List.setIfInBounds_toArray, List.set_cons_zero, List.set_cons_succ])
    refine wpAnyH_take (i := 34) (oi := ⟨some 65, Op.move (Operand.tmp 64), 4, _, _, none⟩) (v := ?vg34) rfl (by kernel_rfl) (by kernel_rfl) (by kernel_rfl) (fun _ _ _ h => h) (Or.inl ⟨by rfl, ?hg34⟩) hS46 ?rg34
    case hg34 => (intro wz hSw; go_simp <;> with_reducible rfl)
    (try simp only [Act.put, List.setIfInBounds_toArray, List.set_cons_zero, List.set_cons_succ])
    refine wpAnyH_take (i := 35) (oi := ⟨some 66, Op.load 26 (Operand.tmp 5), 26, _, _, some (34, true)⟩) (v := ?vg35) rfl (by kernel_rfl) (by kernel_rfl) (by kernel_rfl) (fun _ _ _ h => h) (Or.inl ⟨by rfl, ?hg35⟩) hS46 ?rg35
    case hg35 => (intro wz hSw; have hXw := hX.kept (hSw.block _ hX.lt); have k0 := hXw.cell0; have k1 := hXw.cell1; go_simp <;> with_reducible rfl)
    (try simp only [Act.put, List.setIfInBounds_toArray, List.set_cons_zero, List.set_cons_succ])
    refine wpAnyH_ready (rs := [36]) (by kernel_rfl) (by simp) ?_
    refine AllReadyH.cons (o := ⟨some 67, Op.call { callee := Callee.value (Operand.func 22), args := #[Operand.const (Value.int IntKind.i64 1), Operand.const (Value.int IntKind.i64 0)], argTypes := #[3, 3] }, 26, _, _, some (34, true)⟩) rfl (fun K hK => ?_) AllReadyH.nil
    go_simp
    (with_reducible refine (tile_any 1 0 _).mono ?_); rintro e v47 ⟨rfl, hB47⟩; have hS47 := hS46.trans (hB47.mono hS46.size)
    refine hK.out _ _ hS47 (fun _ => ?_)
    clear hK K
    (try simp only [Act.put, List.setIfInBounds_toArray, List.set_cons_zero, List.set_cons_succ])
    refine wpAnyH_take (i := 37) (oi := ⟨some 68, Op.binOp BinOp.eql 26 (Operand.tmp 66) (Operand.tmp 67) 26, 4, _, _, some (34, true)⟩) (v := ?vg37) rfl (by kernel_rfl) (by kernel_rfl) (by kernel_rfl) (fun _ _ _ h => h) (Or.inl ⟨by rfl, ?hg37⟩) hS47 ?rg37
    case hg37 => (intro wz hSw; go_simp <;> with_reducible rfl)
    (try simp only [Act.put, List.setIfInBounds_toArray, List.set_cons_zero, List.set_cons_succ])
    refine wpAnyH_take (i := 38) (oi := ⟨some 69, Op.pick (Operand.tmp 65) (Operand.tmp 68) (Operand.const (Value.bool false)), 4, _, _, none⟩) (v := ?vg38) rfl (by kernel_rfl) (by kernel_rfl) (by kernel_rfl) (fun _ _ _ h => h) (Or.inl ⟨by rfl, ?hg38⟩) hS47 ?rg38
    case hg38 => (intro wz hSw; go_simp <;> with_reducible rfl)
    (try simp only [Act.put, List.setIfInBounds_toArray, List.set_cons_zero, List.set_cons_succ])
    refine wpAnyH_take (i := 39) (oi := ⟨some 0, Op.assign (Operand.tmp 69), 4, _, _, none⟩) (v := ?vg39) rfl (by kernel_rfl) (by kernel_rfl) (by kernel_rfl) (fun _ _ _ h => h) (Or.inl ⟨by rfl, ?hg39⟩) hS47 ?rg39
    case hg39 => (intro wz hSw; go_simp <;> with_reducible rfl)
    (try simp only [Act.put, List.setIfInBounds_toArray, List.set_cons_zero])
    refine wpAnyH_done (by kernel_rfl) ?_ _
    refine NoPanic.normal ?_
    have hfin := hA6.below.trans (hS47.mono hA6.below.size)
    go_wp2
    go_ret
    exact ⟨rfl, hfin⟩
end Go.Proofs.Ytiggpmennomplaa.Con
