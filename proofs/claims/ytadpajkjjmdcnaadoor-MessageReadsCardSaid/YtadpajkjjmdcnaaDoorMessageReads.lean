/-
  The law MessageReads: which message any bytes are is what the document says, twice, though the numbers of the first answer are written over, and the bytes that were handed in stand as they did, for all bytes of at most 2048; no condition beyond the types', and that the table of sizes stands as the program's text lays it.
-/
import Derived.Test.YtadpajkjjmdcnaaDoorSma
import Derived.Test.YtadpajkjjmdcnaaDoorMop
import Derived.Test.YtadpajkjjmdcnaaDoorCards
import Derived.Test.YtadpajkjjmdcnaaDoorTie
import Derived.WalkKit
import Derived.ProofKit
import Derived.OpenShut
import Derived.Deep.DeepHandedRow
namespace Go.Proofs.YtadpajkjjmdcnaaDoor.messageReads
open Go.ChangeShapes Go.WideShapes Go.ChangeAt Go.RowKit Con Pm Mth
set_option linter.unusedVariables false

theorem own : ownKnob Tryd.prog.godebug = none := by kernel_rfl

theorem own_at {w : World} {base : Nat} {A : Option Addr} {c : Nat} {l : List Int} (h : Own w base .i64 3 A c l) (hl : l ≠ []) : ∃ g cur, A = some ⟨g, 0, none⟩ ∧ base ≤ g ∧ w.heap[g]? = some (.cells cur 3) ∧ l.length ≤ cur.size := by
  rcases h.2 with ⟨_, h0⟩ | ⟨g, cap, cur, hv, hb, hg, hn, hm, hs, _⟩
  · exact absurd (List.length_eq_zero_iff.1 h0) hl
  · injection hv with hA
    exact ⟨g, cur, hA, hb, hg, by omega⟩
/-- The row that is written over. -/
def GA (w : World) (base M : Nat) (A : Option Addr) (l : List Int) : Prop := l = [] ∨ ∃ g cur, A = some ⟨g, 0, none⟩ ∧ base ≤ g ∧ g < M ∧ w.heap[g]? = some (.cells cur 3) ∧ l.length ≤ cur.size
theorem ga_of {w w' : World} {base : Nat} {A : Option Addr} {c : Nat} {l : List Int} (h : Own w base .i64 3 A c l) (hb : Below w.heap.size w w') : GA w' base w.heap.size A l := by
  by_cases hl : l = []
  · exact .inl hl
  · obtain ⟨g, cur, h1, h2, h3, h4⟩ := own_at h hl
    exact .inr ⟨g, cur, h1, h2, lt_of_block h3, (hb.block g (lt_of_block h3)).trans h3, h4⟩
theorem ga_cell {w : World} {base M : Nat} {A : Option Addr} {l : List Int} (h : GA w base M A l) {k : Nat} (hk : k < l.length) :
    ∃ g v, A = some ⟨g, 0, none⟩ ∧ base ≤ g ∧ g < M ∧ w.cell? ⟨g, k, none⟩ = some v ∧ (∀ o, w.frozen? ⟨g, o, none⟩ = false) ∧ ∀ x, GA (w.setCell ⟨g, k, none⟩ x) base M A l := by
  rcases h with rfl | ⟨g, cur, rfl, hb, hM, hc, hn⟩
  · simp at hk
  · refine ⟨g, cur[k]'(by omega), rfl, hb, hM, ?_, frozOf' hc, fun x => .inr ⟨g, _, rfl, hb, hM, heap_setCell_same w g k cur 3 x hc, by simpa using hn⟩⟩
    rw [cellOf' hc]
    exact Array.getElem?_eq_getElem (by omega)
theorem big (w : World) (hS : Sz w) (A : Option Addr) (c : Nat) (l : List Int) (hl : (l.length : Int) ≤ 9223372036854775807) (h : (2048 : Int) < l.length) :
    Calls Tryd.prog 4 #[.slice A l.length c] w fun e w' => e = .returned (.bool true) ∧ Below w.heap.size w w' := by
  have h' : decide ((2048 : Int) < l.length) = true := by simpa using h
  have HS := Lib.hid (small_any w hS)
  clear hS
  go_enter Tryd.func4, Tryd.ntmps4
  go_wp2_with ((with_reducible refine HS.out.mono ?_); rintro e w1 ⟨rfl, hb⟩; have HB := Lib.hid hb; clear hb)
  go_ret
  exact ⟨rfl, HB.out⟩
set_option maxRecDepth 100000 in
set_option maxHeartbeats 4000000 in
theorem inner (w : World) (hS : Sz w) (A : Option Addr) (c : Nat) (l : List Int) (hr : Rd .u8 w w.heap.size A l) (hc : l.length ≤ c) (hx : Byt l) (h : (l.length : Int) ≤ 2048) :
    Calls Tryd.prog 4 #[.slice A l.length c] w fun e w' => e = .returned (.bool true) ∧ Below w.heap.size w w' := by
  have h' : decide ((2048 : Int) < l.length) = false := by simpa using h
  have HSm := Lib.hid (small_any w hS)
  have HSz := Lib.hid hS
  have HR := Lib.hid hr; have HC := Lib.hid hc; have HX := Lib.hid hx
  have HF := Lib.hid (fm_de hx)
  have HLn := Lib.hid (len_de hx)
  clear hr hc hx hS
  go_enter Tryd.func4, Tryd.ntmps4
  go_wp2_with ((with_reducible refine HSm.out.mono ?_); rintro e w1 ⟨rfl, hb⟩; have HB1 := Lib.hid hb; clear hb)
  (with_reducible refine (rdecode_any A c l w1 w.heap.size (HR.out.below HB1.out (Nat.le_refl _)) HB1.out.size (by omega) HX.out HC.out).mono ?_); rintro e w2 ⟨A4, c4, m, er, HD2, rfl, HO2, HB2⟩
  have HX3 : Hid (Bx (w2.alloc (oM m A4 c4)) w2.heap.size m A4 c4) := Lib.hid (heap_alloc_new w2 _)
  have HV3 : Hid (Below w.heap.size w (w2.alloc (oM m A4 c4))) := Lib.hid ((below_more HB1.out HB2.out).alloc (below_more HB1.out HB2.out).size _)
  have HR3 : Hid (Rd .i64 (w2.alloc (oM m A4 c4)) w2.heap.size A4 m.l) := Lib.hid ((own_rd HO2.out).alloc (Nat.le_refl _) _)
  have HFm : Hid (FM m ∧ (m.l.length : Int) ≤ 10) := Lib.hid (by rw [HD2.out.1]; exact ⟨HF.out, by have := HLn.out.1; omega⟩)
  clear HO2
  go_wp2_with (fail)
  have HQ3 := Lib.hid HX3.out.lt
  generalize w2.alloc (oM m A4 c4) = w3 at *
  generalize w2.heap.size = P4 at *
  go_loopg [6] 2 (fun g s6 wr => ∃ (j : Nat), j ≤ 2 ∧ g = 2 - j ∧ s6 = .int .i64 (j : Int) ∧ Hid (Below w.heap.size w wr) ∧ Hid (Bx wr P4 m A4 c4) ∧ Hid (Rd .i64 wr P4 A4 m.l))
  case atStart => exact ⟨0, by omega, rfl, rfl, HV3, HX3, HR3⟩
  case round =>
    obtain ⟨j, hj, rfl, rfl, HVr, HXr, HRr⟩ := hrel
    by_cases hj2 : j < 2
    · have hj2' : (j : Int) < 2 := by omega
      have hszr := HVr.out.size
      go_wp2_with (at_builtin; refine wpList_app (K := .u8) (t := 27) (e := 5) Tryd.underlying27 byte_info rfl (by omega) rfl (.tmp 26) (.tmp 27) rfl wr.heap.size w.heap.size (some ⟨wr.heap.size, 0, none⟩) 0 [] l A c rfl rfl (Pk.own_empty wr) ((HR.out.below HVr.out (Nat.le_refl _)).alloc hszr _) (by simp; omega) (by simp) ?_; intro A7 c7 w4 lm HL HO4 HS4)
      obtain rfl : lm = l := by simpa using HL.out
      have HB4 : Hid (Below wr.heap.size wr w4) := Lib.hid (Pk.below_step ((Below.refl _ _).alloc (Nat.le_refl _) _) HS4.out (fun k hk => by simp [blk] at hk; omega) (by simp))
      have HV4 := Lib.hid (below_more HVr.out HB4.out)
      have HSz4 := Lib.hid (HSz.out.keep HV4.out HSz.out.pos)
      (with_reducible refine (decode_any A7 c7 lm w4 w4.heap.size (own_rd HO4.out) (Nat.le_refl _) (by omega) HX.out (own_cap HO4.out) HSz4.out).mono ?_); rintro e w5 ⟨A8, c8, m', er', HD5, rfl, HO5, HB5⟩
      obtain ⟨rfl, rfl⟩ : m' = m ∧ er' = er := ⟨HD5.out.1.trans HD2.out.1.symm, HD5.out.2.trans HD2.out.2.symm⟩
      have HX6 : Hid (Bx (w5.alloc (oM m' A8 c8)) w5.heap.size m' A8 c8) := Lib.hid (heap_alloc_new w5 _)
      have HB6 : Hid (Below w4.heap.size w4 (w5.alloc (oM m' A8 c8))) := Lib.hid (HB5.out.alloc HB5.out.size _)
      have HY6 : Hid (Bx (w5.alloc (oM m' A8 c8)) P4 m' A4 c4) := Lib.hid ((HXr.out.of HB4.out HXr.out.lt).of HB6.out (Nat.lt_of_lt_of_le HXr.out.lt HB4.out.size))
      have HR6 : Hid (Rd .i64 (w5.alloc (oM m' A8 c8)) w5.heap.size A8 m'.l) := Lib.hid ((own_rd HO5.out).alloc (Nat.le_refl _) _)
      have HQ6 : Hid (P4 ≤ w4.heap.size ∧ w4.heap.size ≤ w5.heap.size) := Lib.hid ⟨Nat.le_trans (Nat.le_of_lt HXr.out.lt) HB4.out.size, HB5.out.size⟩
      have HT6 : Hid (Rd .i64 (w5.alloc (oM m' A8 c8)) w5.heap.size A4 m'.l) := Lib.hid (((HRr.out.below HB4.out (Nat.le_of_lt HXr.out.lt)).below HB6.out HQ6.out.1).more (Nat.le_trans HQ6.out.1 HQ6.out.2))
      have HG6 : Hid (Below w5.heap.size w5 (w5.alloc (oM m' A8 c8))) := Lib.hid ((Below.refl _ _).alloc (Nat.le_refl _) _)
      have HG7 := Lib.hid (ga_of HO5.out HG6.out)
      have HSa := Lib.hid (rsame_any m' m' A8 c8 A4 c4 (w5.alloc (oM m' A8 c8)) w5.heap.size HR6.out HT6.out (by simp) HFm.out.1 HFm.out.1 (by have := HFm.out.2; omega) true (by simp))
      clear HL
      obtain ⟨z0, z1, z2⟩ := HX6.out.at
      obtain ⟨y0, y1, y2⟩ := HY6.out.at
      go_wp2_with ((with_reducible refine HSa.out.mono ?_); rintro e w7 ⟨rfl, hb7⟩; have HB7 := Lib.hid hb7; clear hb7)
      have HX7 := Lib.hid (HX6.out.of HB7.out HX6.out.lt)
      have HB47 := Lib.hid (below_more HB6.out HB7.out)
      have HG := Lib.hid (ga_of HO5.out (below_more HG6.out HB7.out))
      have HXa := Lib.hid (HXr.out.of HB4.out HXr.out.lt)
      have HRa := Lib.hid (HRr.out.below HB4.out (Nat.le_of_lt HXr.out.lt))
      have HPa : Hid (P4 < w4.heap.size) := Lib.hid (Nat.lt_of_lt_of_le HXr.out.lt HB4.out.size)
      have hnn : (m'.l.length : Int) ≤ 10 := HFm.out.2
      clear z0 z1 z2 y0 y1 y2 hszr hj2' HX6 HY6 HR6 HT6 HG6 HG7 HB6 HB7 HSa HVr HXr HRr
      generalize w5.heap.size = P8 at *
      go_loopg [11] m'.l.length (fun g s11 wk => ∃ (k : Nat), k ≤ m'.l.length ∧ g = m'.l.length - k ∧ s11 = .int .i64 (k : Int) ∧ Hid (Below w4.heap.size w4 wk) ∧ Hid (Bx wk P8 m' A8 c8) ∧ Hid (GA wk w4.heap.size P8 A8 m'.l))
      case atStart => exact ⟨0, by omega, rfl, rfl, HB47, HX7, HG⟩
      case round =>
        obtain ⟨k, hk, rfl, rfl, HBk, HXk, HGk⟩ := hrel
        have y1 := HXk.out.at.2.1
        by_cases hkn : k < m'.l.length
        · have hkn' : (k : Int) < m'.l.length := by omega
          obtain ⟨g, v, hA, hgb, hgM, hcell, hfz, hset⟩ := ga_cell HGk.out hkn
          subst hA
          have HSe := Lib.hid (hset (.int .i64 (-7)))
          have hgb' := Lib.hid hgb
          have hgM' := Lib.hid hgM
          clear hset hgb hgM
          go_wp2
          go_roundg (m'.l.length - (k + 1))
          case measure => omega
          case rel => exact ⟨k + 1, by omega, rfl, by go_num, Lib.hid (below_set HBk.out hgb'.out _), Lib.hid (HXk.out.other (by have := hgM'.out; omega) _ _), HSe⟩
        · have hkn' : decide ((k : Int) < m'.l.length) = false := by simp; omega
          have hkn2 : decide (k < m'.l.length) = false := by simpa using hkn
          have hcv1 := conv c7 (own_rd (HO4.out.below HBk.out (Nat.le_refl _)))
          have hcv2 := conv c (HR.out.below (below_more HV4.out HBk.out) (Nat.le_refl _))
          have hee : (er' != er') = false := by simp
          go_wp2
          go_roundg (2 - (j + 1))
          case measure => omega
          case rel => exact ⟨j + 1, by omega, rfl, by go_num, Lib.hid (below_more HV4.out HBk.out), Lib.hid (HXa.out.of HBk.out HPa.out), Lib.hid (HRa.out.below HBk.out (Nat.le_of_lt HPa.out))⟩
    · have hj2' : decide ((j : Int) < 2) = false := by simp; omega
      have hj3 : decide (j < 2) = false := by simpa using hj2
      go_wp2
      go_ret
      exact ⟨rfl, HVr.out⟩
theorem walk (w : World) (hS : Sz w) (A : Option Addr) (c : Nat) (l : List Int) (hr : Rd .u8 w w.heap.size A l) (hc : l.length ≤ c) (hl : (l.length : Int) ≤ 9223372036854775807) (hx : Byt l) :
    Calls Tryd.prog 4 #[.slice A l.length c] w fun e w' => e = .returned (.bool true) ∧ Below w.heap.size w w' := by
  by_cases h : (2048 : Int) < l.length
  · exact big w hS A c l hl h
  · exact inner w hS A c l hr hc hx (by omega)


set_option maxRecDepth 100000 in
theorem contract (H : Type) (enc : TypeId × Value → H) (W : World) (base : Nat) (args : Array Value) (ds gs : List (DataW H)) (before : List MemPlace)
    (hval0 : ∀ (j : Nat) t v, Tryd.f4.params[j]? = some t → args[j]? = some v → Value.okWide Tryd.prog W .any base t v)
    (hW : DataW.Whole enc Tryd.prog Tryd.f4.params.toList Rows.messageReadsSpec.vars false W args.toList ds gs before) (hL : laidMetH Tryd.prog Rows.messageReadsRow.laid W) :
    Calls Tryd.prog 4 args W fun e W' => ∃ v, e = .returned v ∧ Rows.messageReadsSpec.post enc Tryd.prog Tryd.f4 false true false false W args v W' := by
  have hval : ∀ (j : Nat) t v, Tryd.f4.params[j]? = some t → args[j]? = some v → Value.okWide Tryd.prog W .any base t v := hval0
  have hW' := hW
  obtain ⟨p, q, hA0, hV, rfl, hfz, hnd⟩ := hW
  have hA : DataW.TrodAll enc Tryd.prog W 0 (fun _ => true) true Tryd.f4.params.toList args.toList ds p := hA0
  rw [Tryd.params4] at hA hval
  obtain ⟨v0, vs0, d0, ds0, p0, q0, hargs, rfl, rfl, h0, r0⟩ := trodAll_cons hA
  obtain ⟨rfl, rfl, rfl⟩ := trodAll_nil r0
  obtain rfl : args = #[v0] := by cases args; simp_all
  obtain ⟨rfl, rfl⟩ := trodVars_none hV
  clear hA0 hval0
  have hlt0 : ∀ x ∈ p0, x.block < W.heap.size := fun x hx => hW'.lt x (by simp [hx])
  have hk0 := h0
  obtain ⟨A0, c0, l0, rfl, hr0, hc0, hl0, hx0⟩ := Pop.viewB (hval 0 27 v0 rfl rfl) h0 hlt0
  simp only [List.append_nil] at hW'
  refine (walk W (Mop.table hL) A0 c0 l0 hr0 hc0 (by omega) hx0).mono fun e W' ⟨he, hg⟩ => ?_
  subst he
  exact ⟨_, rfl, _, _, _, [], _, [], hW', (trodAll_cons_mk (shut_bool Tryd.underlying4 _) trodAll_mk0), (trodAll_cons_mk (Below.trod Pop.laidOut (by kernel_rfl) (of_decide_eq_true (by kernel_rfl)) hk0 hg hlt0) trodAll_mk0), rfl, hg.frame _, fun h => by cases h⟩

theorem laid_met (os : Os) : laidMet Tryd.prog Rows.messageReadsRow.laid ((Mop.laidWorld os).forCall (fun _ _ => 0) ⟨#[], #[Value.slice none 0 0], []⟩).memory :=
  laidMet_of_run' 8 (by kernel_rfl) (by kernel_rfl)
theorem reads (os : Os) {H : Type} (enc : TypeId × Value → H) : ∃ places, DataW.whole enc Tryd.prog ((Mop.laidWorld os).forCall (fun _ _ => 0) ⟨#[], #[Value.slice none 0 0], []⟩).memory Tryd.f4.params.toList Rows.messageReadsSpec.vars false #[Value.slice none 0 0].toList 8 = some ([.nil], [], places) :=
  ⟨[], by kernel_rfl⟩

set_option maxRecDepth 100000 in
theorem lifted (os : Os) (started : os.Started) (H : Type) (enc : TypeId × Value → H) (F : Stop.Interp) :
    ReturnsInHanded {} Tryd.checked os 4 .any ((OpenSpec.ofChange Rows.messageReadsSpec).preRow enc Tryd.prog Tryd.f4 Rows.messageReadsRow.domain false Rows.messageReadsRow.laid) (((OpenSpec.ofChange Rows.messageReadsSpec).at F).post enc Tryd.prog Tryd.f4 false true false false) := by
  obtain ⟨places, hx⟩ := reads os enc
  refine returnsInHanded_of_row (C := Tryd.checked) (s := OpenSpec.ofChange Rows.messageReadsSpec) own started (by kernel_rfl) Tryd.func4
    (witness_row_at (enc := enc) (C := Tryd.checked) false (Mop.laidWorld os) #[Value.slice none 0 0] rfl (by kernel_rfl) (by kernel_rfl) (by kernel_rfl)
      (OpenSpec.preRow_of_cond 8 hx (by kernel_rfl) (fun k hk => by cases hk) (by kernel_rfl) (laid_met os))) ?_
  intro W base args ds gs before hval hW _ _ _ hL _ _
  exact contract H enc W base args ds gs before hval hW hL

theorem said : Rows.MessageReadsSaid :=
  OpenClaim.holds_of_cond 4 Tryd.f4 rfl rfl rfl rfl rfl rfl rfl ⟨rfl, rfl, rfl, rfl, rfl⟩ rfl rfl rfl rfl rfl (by kernel_rfl) Tryd.func4 (by kernel_rfl)
    (of_decide_eq_true (by kernel_rfl)) (by unfold Func.isWrapper; first | (rw [if_pos (by decide +kernel)]; kernel_rfl) | (rw [if_neg (by decide +kernel)]; exact ⟨rfl, rfl⟩))
    (fun os started H enc _ F => by rw [OpenClaim.pre_eq_preRow]; exact lifted os started H enc F)
/-- No parameter wants a stand-in; the program's own looks are off: what the card asks. -/
theorem plain (f : FuncId) (fn : Func) (hf : Tryd.pinned.checked.prog.funcNamed "barrow/barrowlaw12.MessageReads" = some f) (hfn : Tryd.pinned.checked.prog.funcs[f]? = some fn) :
    false = Tryd.pinned.checked.prog.looks [] ∧ ∀ (j : Nat) t, fn.params[j]? = some t → Tryd.pinned.checked.prog.wantsStandIn t = false := by
  obtain rfl : f = 4 := Option.some.inj ((show Tryd.prog.funcNamed "barrow/barrowlaw12.MessageReads" = some 4 by kernel_rfl).symm.trans hf) |>.symm
  obtain rfl : fn = Tryd.f4 := (Option.some.inj (Tryd.func4.symm.trans hfn)).symm
  refine ⟨by kernel_rfl, fun j t ht => ?_⟩
  rw [Tryd.params4] at ht
  have hm : t ∈ [27] := by simpa using Array.mem_of_getElem? ht
  have hall : ([27].all fun u => !Tryd.prog.wantsStandIn u) = true := by kernel_rfl
  exact (show Tryd.prog.wantsStandIn t = false by simpa using List.all_eq_true.1 hall t hm)
/-- The given statement. -/
theorem proved : Rows.MessageReadsCardSaid :=
  Claim7.holds_tied_plain_at .later [] _ _ _ _ said (fun _ h => by cases h) (by kernel_rfl) (fun _ h => by cases h) messageReads_row_tie rfl ⟨rfl, rfl⟩ (by kernel_rfl) rfl plain (by kernel_rfl)
#print axioms proved
end Go.Proofs.YtadpajkjjmdcnaaDoor.messageReads
