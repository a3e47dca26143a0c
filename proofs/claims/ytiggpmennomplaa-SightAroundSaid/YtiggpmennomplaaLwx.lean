/-
  A law for a range over a function whose iterator itself ranges over a function: the rounds keep whatever was laid since the iterator was called, so its own loop's record stays as it lay.
-/
import Derived.RangeFuncNested
import Derived.RangeFuncBound
import Derived.RangeFuncCalls
import Derived.RangeFuncLeaves
import Derived.Shelf.Abstract
namespace Go.Proofs.Ytiggpmennomplaa.Con
open Go.RowKit
variable {P : Program} {n : Nat} {w : World}

/-- Each block from B on lies as it lay. -/
def KeepsAt (B : Nat) (W W' : World) : Prop := W.heap.size ≤ W'.heap.size ∧ ∀ k, B ≤ k → k < W.heap.size → W'.heap[k]? = W.heap[k]?
theorem KeepsAt.refl (B : Nat) (W : World) : KeepsAt B W W := ⟨Nat.le_refl _, fun _ _ _ => rfl⟩
theorem KeepsAt.trans {B : Nat} {X Y Z : World} (h : KeepsAt B X Y) (k : KeepsAt B Y Z) : KeepsAt B X Z := ⟨Nat.le_trans h.1 k.1, fun i hB hi => (k.2 i hB (Nat.lt_of_lt_of_le hi h.1)).trans (h.2 i hB hi)⟩
theorem KeepsAt.later {B B' : Nat} {X Y : World} (h : KeepsAt B X Y) (hB : B ≤ B') : KeepsAt B' X Y := ⟨h.1, fun k hk hi => h.2 k (Nat.le_trans hB hk) hi⟩
theorem KeepsAt.put {B l : Nat} (hl : l < B) (W : World) (o : Obj) : KeepsAt B W (W.putObj l o) := ⟨by simp, fun k hk _ => World.putObj_heap_other (by omega)⟩
theorem KeepsAt.same {B k : Nat} {W W' : World} {o : Obj} (h : KeepsAt B W W') (hk : B ≤ k) (ho : W.heap[k]? = some o) : W'.heap[k]? = some o := (h.2 k hk (Array.getElem?_eq_some_iff.1 ho).1).trans ho
theorem KeepsAt.of_below {B : Nat} {W W' : World} (h : Below W.heap.size W W') : KeepsAt B W W' := ⟨h.size, fun k _ hk => h.block k hk⟩
theorem KeepsAt.from {B : Nat} {W W' : World} (h : KeepsAt B W W') : KeepsFrom B W W' := ⟨h.1, fun _ _ hB ho _ => h.same hB ho⟩
theorem OwnFrom.later {β : Type} {B B' : Nat} {I : β → World → Prop} (h : OwnFrom B I) (hB : B ≤ B') : OwnFrom B' I := fun s W W' row hs hg hr => h s W W' row hs hg (fun r e => ⟨Nat.le_trans hB (hr r e).1, (hr r e).2⟩)

/-- What an iterator owes that may itself range over a function. -/
def SeqX {α : Type} (n : Nat) (P : Program) (g : Nat) (lb : Array Value) (encs : α → Array Value) (Kp : World → World → Prop) (S Sp : List α → Prop) (w : World) : Prop :=
  ∀ (l : Nat) (J Jx : List α → World → Prop) (W : World), Below w.heap.size w W → l < W.heap.size → OwnFrom W.heap.size J → OwnFrom W.heap.size Jx →
    (∀ pre x W1, J pre W1 → YieldAt Fence.wide (n - 1) P l (encs x) W1 fun e W' =>
      (e = .returned (.bool true) ∧ J (pre ++ [x]) W' ∧ Kp W1 W' ∧ KeepsAt W.heap.size W1 W') ∨ (e = .returned (.bool false) ∧ Jx (pre ++ [x]) W' ∧ KeepsAt W.heap.size W1 W')) →
    J [] W →
    CallsIn Fence.wide n P g (#[.func (.yield l) #[] #[]] ++ lb) W fun e W' => (∃ v, e = .returned v) ∧ ((∃ xs, S xs ∧ J xs W') ∨ (∃ pre, Sp pre ∧ Jx pre W'))

/-- How a round may be left: each block from B on lies as it lay. -/
def postX {α : Type} (B : Nat) (Kp : World → World → Prop) (I : List α → World → Prop) (Ix : Code → List α → World → Prop) (xs : List α) (W : World) : Exit → Act → World → Prop
  | .normal, _, W' => KeepsAt B W W' ∧ Kp W W' ∧ I xs W'
  | .ret, _, W' => KeepsAt B W W' ∧ Ix .ret xs W'
  | .exit id, _, W' => KeepsAt B W W' ∧ Ix (.exit id) xs W'
  | .goto t, _, W' => KeepsAt B W W' ∧ Ix (.goto t) xs W'
  | .panic _, _, _ => False
  | .outgrown, _, _ => False

theorem rangeX {α : Type} {g : Operand} {ps : Array Tmp} {assign body : Code} {Q : Exit → Act → World → Prop} {a : Act}
    (h1 : 1 ≤ n) {gf : Nat} {lb : Array Value} (hg : a.eval g = .func (.func gf) #[] lb) (eg : ∀ args w, (callFunc gf args).run P w = .ok (.enter gf args) w)
    {encs : α → Array Value} {Kp : World → World → Prop} {S Sp : List α → Prop} (hseq : SeqX (n - 1) P gf lb encs Kp S Sp w)
    (hKt : ∀ {A B C : World}, Kp A B → Kp B C → Kp A C) (hKb : ∀ (W : World) (l : Nat) (o' : Obj), w.heap.size ≤ l → Kp W (W.putObj l o')) (hps : ∀ x, (encs x).size = ps.size)
    (I : List α → World → Prop) (Ix : Code → List α → World → Prop) (hI : OwnFrom w.heap.size I) (hIx : ∀ c, OwnFrom w.heap.size (Ix c)) (h0 : I [] w) (Ax : α → Act → World → Prop) (hAx : ∀ x a', OwnFrom w.heap.size (fun (_ : Unit) W => Ax x a' W))
    (hassign : ∀ (l : Nat) (pre : List α) (x : α) (W : World) (K : Act → World → Prop), I pre W → (∀ a' W', KeepsAt w.heap.size W W' → Kp W W' → I pre W' → Ax x a' W' → K a' W') →
      assign.wpIn (Fence.wide.inRound l) (n - 1 - 1) P (Exit.then K (fun _ _ _ => False)) { tmps := (ps.zip (encs x)).foldl (fun t (p, v) => t.setIfInBounds p v) a.tmps, defers := [] } W)
    (hbody : ∀ (l : Nat) (pre : List α) (x : α) (a' : Act) (W : World), I pre W → Ax x a' W → body.wpIn (Fence.wide.inRound l) (n - 1 - 1) P (postX w.heap.size Kp I Ix (pre ++ [x]) W) a' W)
    (hdone : ∀ (D : Nat) (xs : List α) (W : World), w.heap.size ≤ D → S xs → I xs W → W.heap[D]? = some (.deferred (some [])) → Q .normal { a with defers := { target := .collected D, args := #[] } :: a.defers } W)
    (hstop : ∀ (D : Nat) (c : Code) (pre : List α) (W : World), w.heap.size ≤ D → Sp pre → Ix c pre W → W.heap[D]? = some (.deferred (some [])) → c.wpIn Fence.wide n P Q { a with defers := { target := .collected D, args := #[] } :: a.defers } W) :
    (Code.rangeFunc g ps assign body).wpIn Fence.wide n P Q a w := by
  refine wpIn_rangeFunc fun fn hfn => ?_
  obtain ⟨D, hD⟩ : ∃ D, D = w.heap.size := ⟨_, rfl⟩
  obtain ⟨rec, hrec⟩ : ∃ rec : LoopState → Option Code → Loop, rec = fun st pe => { state := st, pending := pe, fn, tmps := a.tmps, params := ps, assign, body, defers := w.heap.size } := ⟨_, rfl⟩
  obtain ⟨V, hV⟩ : ∃ V, V = (w.alloc (.deferred (some []))).alloc (.loop (rec .ready none)) := ⟨_, rfl⟩
  have hVs : V.heap.size = D + 2 := by rw [hV, hD]; simp
  -- the two blocks that are laid
  have hVl : V.heap[D + 1]? = some (.loop (rec .ready none)) := by
    have := World.alloc_heap_new (w.alloc (.deferred (some []))) (.loop (rec .ready none))
    rw [World.size_alloc] at this; rw [hV, hD]; exact this
  have hVd : V.heap[D]? = some (.deferred (some [])) := by
    rw [hV, hD]; exact (Below.heap_alloc _ _ _ (by simp)).trans (World.alloc_heap_new w _)
  have hVI : I [] V := by rw [hV]; exact hI.alloc _ (hI.alloc _ h0)
  have hVb : Below w.heap.size w V := by rw [hV]; exact ((Below.refl _ w).alloc (Nat.le_refl _) _).alloc (by simp) _
  -- a block laid ahead of the iterator's call is none of its own
  have stay : ∀ {A B : World} {row : Option Nat} {k : Nat} {o : Obj}, A.grownBy B row → (∀ r, row = some r → V.heap.size ≤ r ∧ ∃ o : Obj, A.heap[r]? = some o ∧ o.isCells = false) → k < D + 2 → A.heap[k]? = some o → B.heap[k]? = some o :=
    fun hg' hr hk ho => (hg'.block _ (Array.getElem?_eq_some_iff.1 ho).1 (fun e => by have := (hr _ e.symm).1; omega)).trans ho
  have hdeep : OwnFrom V.heap.size I := OwnFrom.later hI (by omega)
  refine ⟨D + 1, [{ target := .collected D, args := #[] }], V, { target := .fn (.func gf) lb, args := #[.func (.yield (D + 1)) #[] #[]] }, V, gf, #[.func (.yield (D + 1)) #[] #[]] ++ lb, V, ?_, ?_, fun _ _ => trivial, ?_, fun _ => h1, ?_⟩
  · rw [hV, hD, hrec]; exact run_enterLoop_outer _ _ _ _ _
  · simp only [resolve, hg]; simp [go_sem]
  · simp [invoke, go_sem, eg]
  refine (hseq (D + 1)
    (fun pre W => I pre W ∧ W.heap[D + 1]? = some (.loop (rec .ready none)) ∧ W.heap[D]? = some (.deferred (some [])))
    (fun pre W => ∃ c, Ix c pre W ∧ W.heap[D + 1]? = some (.loop (rec .done (some c))) ∧ W.heap[D]? = some (.deferred (some [])))
    V hVb (by omega)
    (fun s A B row hs hg' hr => ⟨hdeep s A B row hs.1 hg' hr, stay hg' hr (by omega) hs.2.1, stay hg' hr (by omega) hs.2.2⟩)
    (fun s A B row hs hg' hr => by
      obtain ⟨c, hc, hl, hk⟩ := hs
      exact ⟨c, OwnFrom.later (hIx c) (by omega) s A B row hc hg' hr, stay hg' hr (by omega) hl, stay hg' hr (by omega) hk⟩)
    ?round ⟨hVI, hVl, hVd⟩).mono ?behind
  case round =>
    rintro pre x W ⟨hi, hl, hk⟩
    have hy := run_yield (P := P) (args := encs x) hl (by rw [hrec]; exact hps x)
    rw [hrec] at hy
    refine ⟨fn, _, assign, body, hy, roundIn_of_wpIn hfn (hassign _ pre x W _ hi ?_)⟩
    clear hy
    intro a' Wa ka kpa ia xa
    have hla := ka.same (by omega) hl
    have hka := ka.same (by omega) hk
    have hlt := (Array.getElem?_eq_some_iff.1 hla).1
    refine ⟨_, run_beginRound hla (by rw [hrec]), ?_⟩
    obtain ⟨Wb, hWb⟩ : ∃ Wb, Wb = Wa.putObj (D + 1) (.loop { rec .ready none with state := .busy }) := ⟨_, rfl⟩
    have lb' : Wb.heap[D + 1]? = some (.loop { rec .ready none with state := .busy }) := by rw [hWb]; exact World.putObj_heap_same hlt
    have kb' : Wb.heap[D]? = some (.deferred (some [])) := by rw [hWb]; exact (World.putObj_heap_other (by omega)).trans hka
    have pb : Kp Wa Wb := by rw [hWb]; exact hKb _ _ _ (by omega)
    have ib : I pre Wb := by rw [hWb]; exact hI.putObj _ ia (by omega) hla rfl
    have xb : Ax x a' Wb := by rw [hWb]; exact (hAx x a').putObj (s := ()) _ xa (by omega) hla rfl
    have ab : KeepsAt V.heap.size Wa Wb := by rw [hWb]; exact KeepsAt.put (by omega) _ _
    rw [← hWb]
    refine wpIn_mono (hbody _ pre x a' Wb ib xb) ?_
    -- how the round's end leaves the two blocks
    have fin : ∀ (jump : Option Code) (Wc : World), KeepsAt w.heap.size Wb Wc →
        (Instr.endRound (D + 1) jump).run P Wc = .ok (.bool jump.isNone) (Wc.putObj (D + 1) (.loop (rec (if jump.isNone then .ready else .done) jump))) ∧
        Wc.heap[D + 1]? = some (.loop { rec .ready none with state := .busy }) ∧
        (Wc.putObj (D + 1) (.loop (rec (if jump.isNone then .ready else .done) jump))).heap[D + 1]? = some (.loop (rec (if jump.isNone then .ready else .done) jump)) ∧
        (Wc.putObj (D + 1) (.loop (rec (if jump.isNone then .ready else .done) jump))).heap[D]? = some (.deferred (some [])) := fun jump Wc kc => by
      have lc := kc.same (by omega) lb'
      have := run_endRound (P := P) jump lc
      rw [hrec] at this lc ⊢
      exact ⟨this, lc, World.putObj_heap_same (Array.getElem?_eq_some_iff.1 lc).1, (World.putObj_heap_other (by omega)).trans (kc.same (by omega) kb')⟩
    have leave : ∀ (c : Code) (Wc : World), KeepsAt w.heap.size Wb Wc → Ix c (pre ++ [x]) Wc → ∃ v W', (Instr.endRound (D + 1) (some c)).run P Wc = .ok v W' ∧
        ((Ending.returned v = .returned (.bool true) ∧ (I (pre ++ [x]) W' ∧ W'.heap[D + 1]? = some (.loop (rec .ready none)) ∧ W'.heap[D]? = some (.deferred (some []))) ∧ Kp W W' ∧ KeepsAt V.heap.size W W') ∨
         (Ending.returned v = .returned (.bool false) ∧ (∃ c, Ix c (pre ++ [x]) W' ∧ W'.heap[D + 1]? = some (.loop (rec .done (some c))) ∧ W'.heap[D]? = some (.deferred (some []))) ∧ KeepsAt V.heap.size W W')) := fun c Wc kc ic => by
      obtain ⟨hr, lc, ld, kd⟩ := fin (some c) Wc kc
      exact ⟨_, _, hr, .inr ⟨rfl, ⟨c, (hIx c).putObj _ ic (by omega) lc rfl, ld, kd⟩, ((ka.later (by omega)).trans (ab.trans (kc.later (by omega)))).trans (KeepsAt.put (by omega) _ _)⟩⟩
    rintro e a3 Wc hp
    cases e with
    | normal =>
      obtain ⟨kc, pc, ic⟩ := hp
      obtain ⟨hr, lc, ld, kd⟩ := fin none Wc kc
      exact ⟨_, _, hr, .inl ⟨rfl, ⟨hI.putObj _ ic (by omega) lc rfl, ld, kd⟩, hKt kpa (hKt (hKt pb pc) (hKb _ _ _ (by omega))), ((ka.later (by omega)).trans (ab.trans (kc.later (by omega)))).trans (KeepsAt.put (by omega) _ _)⟩⟩
    | ret => exact leave _ _ hp.1 hp.2
    | exit id => exact leave _ _ hp.1 hp.2
    | goto t => exact leave _ _ hp.1 hp.2
    | panic ch => exact hp.elim
    | outgrown => exact hp.elim
  case behind =>
    rintro e W2 ⟨⟨v, rfl⟩, (⟨xs, hS, hi, hl, hk⟩ | ⟨pre, hSp, c, hi, hl, hk⟩)⟩
    · exact ⟨none, _, by have := run_endLoop (P := P) hl (by rw [hrec]; simp); rw [hrec] at this; exact this, by
        rw [hD] at hl hk ⊢; exact hdone _ xs _ (Nat.le_refl _) hS (hI.putObj _ hi (by omega) hl rfl) ((World.putObj_heap_other (by omega)).trans hk)⟩
    · exact ⟨some c, _, by have := run_endLoop (P := P) hl (by rw [hrec]; simp); rw [hrec] at this; exact this, by
        rw [hD] at hl hk ⊢; exact hstop _ c pre _ (Nat.le_refl _) hSp ((hIx c).putObj _ hi (by omega) hl rfl) ((World.putObj_heap_other (by omega)).trans hk)⟩
end Go.Proofs.Ytiggpmennomplaa.Con
