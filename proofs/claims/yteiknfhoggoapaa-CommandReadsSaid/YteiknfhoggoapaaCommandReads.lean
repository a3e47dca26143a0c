/-
  The law CommandReads: which command any bytes are is what the document says, and the bytes that were handed in stand as they did, for all bytes of at most 2048; no condition beyond the types'.
-/
import Derived.Test.YteiknfhoggoapaaSma
import Derived.Test.YteiknfhoggoapaaCop
import Derived.WalkKit
import Derived.ProofKit
import Derived.OpenShut
namespace Go.Proofs.Yteiknfhoggoapaa.commandReads
open Go.ChangeShapes Go.WideShapes Go.ChangeAt Go.RowKit Con Pm Mth
set_option linter.unusedVariables false

theorem own : ownKnob Try.prog.godebug = none := by kernel_rfl

theorem own_cap {w : World} {base : Nat} {K : IntKind} {e : TypeId} {A : Option Addr} {c : Nat} {l : List Int} (h : Own w base K e A c l) : l.length ≤ c := by
  rcases h.2 with ⟨hv, h0⟩ | ⟨g, cap, cur, hv, _, _, hn, _⟩
  · injection hv with _ h1 h2; omega
  · injection hv with _ h1 h2; omega
theorem big (w : World) (A : Option Addr) (c : Nat) (l : List Int) (hl : (l.length : Int) ≤ 140737488351232) (h : (2048 : Int) < l.length) :
    Calls Try.prog 4 #[.slice A l.length c] w fun e w' => e = .returned (.bool true) ∧ Below w.heap.size w w' := by
  have h' : decide ((2048 : Int) < l.length) = true := by simpa using h
  have HS := Lib.hid (small_any w)
  go_enter Try.func4, Try.ntmps4
  go_wp2_with ((with_reducible refine HS.out.mono ?_); rintro e w1 ⟨rfl, hb⟩; have HB := Lib.hid hb; clear hb)
  go_ret
  exact ⟨rfl, HB.out⟩
set_option maxRecDepth 100000 in
set_option maxHeartbeats 2000000 in
theorem inner (w : World) (A : Option Addr) (c : Nat) (l : List Int) (hr : Rd .u8 w w.heap.size A l) (hc : l.length ≤ c) (hx : Byt l) (h : (l.length : Int) ≤ 2048) :
    Calls Try.prog 4 #[.slice A l.length c] w fun e w' => e = .returned (.bool true) ∧ Below w.heap.size w w' := by
  have h' : decide ((2048 : Int) < l.length) = false := by simpa using h
  have HS := Lib.hid (small_any w)
  have HR := Lib.hid hr; have HC := Lib.hid hc; have HX := Lib.hid hx
  have HF := Lib.hid (fc_de hx)
  clear hr hc hx
  go_enter Try.func4, Try.ntmps4
  go_wp2_with (first
    | ((with_reducible refine HS.out.mono ?_); rintro e w1 ⟨rfl, hb⟩; have HB := Lib.hid hb; have HR1 := Lib.hid (HR.out.below hb (Nat.le_refl _)); have hz1 := hb.size; clear hb)
    | (at_builtin; refine Pm.wpList_app (K := .u8) (t := 25) (e := 5) Try.underlying25 byte_info rfl (by omega) rfl (.tmp 14) (.tmp 15) rfl w1.heap.size w.heap.size (some ⟨w1.heap.size, 0, none⟩) 0 [] l A c rfl rfl (Pk.own_empty w1) (HR1.out.alloc hz1 _) (by simp; omega) (by simp) ?_; intro A2 c2 w2 lm HL HO2 HS2))
  obtain rfl : lm = l := by simpa using HL.out
  have HV2 : Hid (Below w.heap.size w w2) := Lib.hid (Pk.below_step (HB.out.alloc hz1 _) HS2.out (fun k hk => by simp [blk] at hk; omega) (by simp; omega))
  have HD2 := Lib.hid (decode_any A2 c2 lm w2 w2.heap.size (own_rd HO2.out) (Nat.le_refl _) (by omega) HX.out (own_cap HO2.out))
  generalize hs : deC lm = s at HD2 HF
  have HSc := Lib.hid hs
  generalize he : deE lm = er at HD2
  have HSe := Lib.hid he
  clear hs he
  (with_reducible refine HD2.out.mono ?_); rintro e w3 ⟨rfl, hB3⟩
  have HV3 : Hid (Below w.heap.size w w3) := Lib.hid (HV2.out.trans (hB3.mono HV2.out.size))
  have HX4 : Hid (Bx (w3.alloc (oC s)) w3.heap.size s) := Lib.hid (heap_alloc_new w3 _)
  have HV4 := Lib.hid (HV3.out.alloc HV3.out.size (oC s))
  have HO4 := Lib.hid ((HO2.out.below hB3 (Nat.le_refl _)).alloc (oC s))
  clear hB3
  go_wp2_with (fail)
  generalize w3.alloc (.cells #[.int .i64 s.d, .string (strOfNums s.t), .int .i64 s.a, .int .i64 s.b] 23) = w4 at *
  have hq4 : w3.heap.size < w4.heap.size := lt_of_block HX4.out
  have hd4 := rdecode_any A c lm w4 w.heap.size (HR.out.below HV4.out (Nat.le_refl _)) HV4.out.size (by omega) HX.out HC.out
  rw [HSc.out, HSe.out] at hd4
  (with_reducible refine hd4.mono ?_); rintro e w5 ⟨rfl, hB5⟩
  have HX5 := Lib.hid (HX4.out.of hB5 hq4)
  have HV5 : Hid (Below w.heap.size w w5) := Lib.hid (HV4.out.trans (hB5.mono HV4.out.size))
  have hq5 : w3.heap.size < w5.heap.size := lt_of_block HX5.out
  have HV6 := Lib.hid (HV5.out.alloc HV5.out.size (oC s))
  have hcv1 := conv c2 (own_rd ((HO4.out.below hB5 (Nat.le_refl _)).alloc (oC s)))
  have hcv2 := conv c (HR.out.below HV6.out (Nat.le_refl _))
  clear hB5 hd4
  obtain ⟨z0, z1, z2, z3⟩ := HX5.out.at
  go_wp2
  go_ret
  exact ⟨rfl, HV6.out⟩
theorem walk (w : World) (A : Option Addr) (c : Nat) (l : List Int) (hr : Rd .u8 w w.heap.size A l) (hc : l.length ≤ c) (hl : (l.length : Int) ≤ 140737488351232) (hx : Byt l) :
    Calls Try.prog 4 #[.slice A l.length c] w fun e w' => e = .returned (.bool true) ∧ Below w.heap.size w w' := by
  by_cases h : (2048 : Int) < l.length
  · exact big w A c l hl h
  · exact inner w A c l hr hc hx (by omega)


set_option maxRecDepth 100000 in
theorem lifted (os : Os) (started : os.Started) (H : Type) (enc : TypeId × Value → H) :
    ReturnsInHanded {} Try.checked os 4 .any (Rows.commandReadsSpec.pre6 enc Try.prog Try.f4 Rows.commandReadsRow.domain false) (Rows.commandReadsSpec.post enc Try.prog Try.f4 false true false false) := by
  refine returnsInHanded_of_change_sized (C := Try.checked) own started (by kernel_rfl) Try.func4
    (ChangeSpec.witness6 (enc := enc) (C := Try.checked) false ⟨#[], #[.slice none 0 0], []⟩ 8 (by kernel_rfl) (by kernel_rfl) (by kernel_rfl) (by kernel_rfl)) ?_
  intro W base args ds gs before hval0 hW hcnd hsz0 _
  have hval : ∀ (j : Nat) t v, Try.f4.params[j]? = some t → args[j]? = some v → Value.okWide Try.prog W .any base t v := hval0
  have hW' := hW
  obtain ⟨p, q, hA0, hV, rfl, hfz, hnd⟩ := hW
  have hA : DataW.TrodAll enc Try.prog W 0 (fun _ => true) true Try.f4.params.toList args.toList ds p := hA0
  rw [Try.params4] at hA hval
  obtain ⟨v0, vs0, d0, ds0, p0, q0, hargs, rfl, rfl, h0, r0⟩ := trodAll_cons hA
  obtain ⟨rfl, rfl, rfl⟩ := trodAll_nil r0
  obtain rfl : args = #[v0] := by cases args; simp_all
  obtain ⟨rfl, rfl⟩ := trodVars_none hV
  clear hA0 hval0
  have hsz : (DataW.weightsEach Try.prog [25] [d0]).all (· ≤ reachBytes) = true := hsz0
  clear hsz0
  have z0 := fun A n c => Cop.lenB (A := A) (n := n) (c := c) (j := 0) (hval 0 25 v0 rfl rfl) h0 hsz rfl rfl
  have hlt0 : ∀ x ∈ p0, x.block < W.heap.size := fun x hx => hW'.lt x (by simp [hx])
  have hk0 := h0
  obtain ⟨A0, c0, l0, rfl, hr0, hc0, hl0, hx0⟩ := Pop.viewB (hval 0 25 v0 rfl rfl) h0 hlt0
  simp only [List.append_nil] at hW'
  refine (walk W A0 c0 l0 hr0 hc0 (z0 _ _ _ rfl) hx0).mono fun e W' ⟨he, hg⟩ => ?_
  subst he
  exact ⟨_, rfl, _, _, _, [], _, [], hW', (trodAll_cons_mk (shut_bool Try.underlying4 _) trodAll_mk0), (trodAll_cons_mk (Below.trod Pop.laidOut (by kernel_rfl) (of_decide_eq_true (by kernel_rfl)) hk0 hg hlt0) trodAll_mk0), rfl, hg.frame _, fun h => by cases h⟩

theorem over : Rows.commandReadsRow.holds Try.pinned (OpenSpec.ofChange Rows.commandReadsSpec) :=
  OpenClaim.holds_of_wide 4 Try.f4 rfl rfl rfl rfl rfl rfl rfl ⟨rfl, rfl, rfl, rfl, rfl⟩ rfl rfl rfl rfl rfl (by kernel_rfl) Try.func4 (by kernel_rfl)
    (of_decide_eq_true (by kernel_rfl)) (by unfold Func.isWrapper; first | (rw [if_pos (by decide +kernel)]; kernel_rfl) | (rw [if_neg (by decide +kernel)]; exact ⟨rfl, rfl⟩))
    (fun os started H enc _ => lifted os started H enc)

/-- The given statement. -/
theorem proved : Rows.CommandReadsSaid :=
  over
#print axioms proved
end Go.Proofs.Yteiknfhoggoapaa.commandReads
