/-
  For every row of bytes, every place and every bound the law PackReads answers true: what is read there is what the document says; no condition beyond the types'.
-/
import Derived.Test.YtgandkgcnackkaaCom
import Derived.Test.YtgandkgcnackkaaTxt
import Derived.Test.YtgandkgcnackkaaRow
import Derived.Test.YtgandkgcnackkaaOpen
import Derived.WalkKit
import Derived.ProofKit
import Derived.OpenShut
namespace Go.Proofs.Ytgandkgcnackkaa.packReads
open Go.ChangeShapes Go.WideShapes Go.ChangeAt Go.RowKit
set_option linter.unusedVariables false

theorem own : ownKnob Try.prog.godebug = none := by kernel_rfl

open Con Mth Mem

def uv : Option (Int × Int) → Int
  | some (v, _) => v
  | none => 0
def un (a : Int) : Option (Int × Int) → Int
  | some (_, k) => k
  | none => a
def ue : Option (Int × Int) → Int
  | some _ => 0
  | none => 2
theorem av_eq (a : Int) (o : Option (Int × Int)) : av a o = .tuple #[.int .i64 (uv o), .int .i64 (un a o), .int .i64 (ue o)] := by
  rcases o with _ | ⟨v, k⟩ <;> rfl
theorem own_len {w : World} {base : Nat} {K : IntKind} {e : TypeId} {A : Option Addr} {c : Nat} {l : List Int} (h : Own w base K e A c l) : (l.length : Int) ≤ 9223372036854775807 := by
  rcases h.2 with ⟨_, h0⟩ | ⟨g, cap, cur, _, _, _, hn, hm, _⟩
  · omega
  · unfold maxLen at hm; omega

section
variable (A : Option Addr) (c : Nat) (l : List Int) (a : Int) (w : World) (B : Nat) (hr : Rd .u8 w B A l) (hl : (l.length : Int) ≤ 100000) (hb : Byt l) (h1 : a ≤ 9223372036854775807)
include hr hl hb h1
theorem t18 : Calls Try.prog 18 #[.slice A l.length c, .int .i64 a] w fun e w' => e = .returned (.tuple #[.int .i64 (uv (ru l a)), .int .i64 (un a (ru l a)), .int .i64 (ue (ru l a))]) ∧ w = w' := by
  have := ru_any A c l a w B hr hl hb h1; rw [av_eq] at this; exact this
theorem t19 : Calls Try.prog 19 #[.slice A l.length c, .int .i64 a] w fun e w' => e = .returned (.tuple #[.int .i64 (uv (ru l a)), .int .i64 (un a (ru l a)), .int .i64 (ue (ru l a))]) ∧ w = w' := by
  have := rru_any A c l a w B hr hl hb h1; rw [av_eq] at this; exact this
theorem t20 : Calls Try.prog 20 #[.slice A l.length c, .int .i64 a] w fun e w' => e = .returned (.tuple #[.int .i64 (uv (ri l a)), .int .i64 (un a (ri l a)), .int .i64 (ue (ri l a))]) ∧ w = w' := by
  have := ri_any A c l a w B hr hl hb h1; rw [av_eq] at this; exact this
theorem t21 : Calls Try.prog 21 #[.slice A l.length c, .int .i64 a] w fun e w' => e = .returned (.tuple #[.int .i64 (uv (ri l a)), .int .i64 (un a (ri l a)), .int .i64 (ue (ri l a))]) ∧ w = w' := by
  have := rri_any A c l a w B hr hl hb h1; rw [av_eq] at this; exact this
end

set_option maxRecDepth 100000 in
set_option maxHeartbeats 1000000 in
theorem inner (w : World) (A : Option Addr) (c : Nat) (l : List Int) (hr : Rd .u8 w w.heap.size A l) (hlc : l.length ≤ c) (hb : Byt l) (a m : Int) (ha : a ≤ 9223372036854775807) (hs : (l.length : Int) ≤ 2048) :
    Calls Try.prog 4 #[.slice A l.length c, .int .i64 a, .int .i64 m] w fun e w' => e = .returned (.bool true) ∧ Below w.heap.size w w' := by
  have hs' : decide ((2048 : Int) < l.length) = false := by simp; omega
  have HBy := Lib.hid hb
  clear hb
  have HR := Lib.hid hr
  clear hr
  go_enter Try.func4, Try.ntmps4
  go_wp2_with (first
    | ((with_reducible refine (small_any _).mono ?_); rintro e w1 ⟨rfl, hb1⟩; have HR1 := Lib.hid (HR.out.below hb1 (Nat.le_refl _)); have hz1 := hb1.size; have HB1 := Lib.hid hb1; clear hb1)
    | ((with_reducible refine (t18 A c l a _ w.heap.size HR1.out (by omega) HBy.out ha).mono ?_); rintro e w' ⟨rfl, rfl⟩)
    | ((with_reducible refine (t19 A c l a _ w.heap.size HR1.out (by omega) HBy.out ha).mono ?_); rintro e w' ⟨rfl, rfl⟩)
    | ((with_reducible refine (t20 A c l a _ w.heap.size HR1.out (by omega) HBy.out ha).mono ?_); rintro e w' ⟨rfl, rfl⟩)
    | ((with_reducible refine (t21 A c l a _ w.heap.size HR1.out (by omega) HBy.out ha).mono ?_); rintro e w' ⟨rfl, rfl⟩)
    | ((with_reducible refine (text_read A c l a _ w.heap.size HR1.out (by omega) hlc HBy.out ha m).mono ?_); rintro e w' ⟨rfl, rfl⟩)
    | ((with_reducible refine (rtext_read A c l a _ w.heap.size HR1.out (by omega) hlc HBy.out ha m).mono ?_); rintro e w' ⟨rfl, rfl⟩)
    | ((with_reducible refine (ints_read A c l a _ w.heap.size HR1.out hz1 (by omega) HBy.out ha m).mono ?_); rintro e w2 ⟨l2, A2, c2, HL2, rfl, HO2, HB2⟩; have HR2 := Lib.hid (HR1.out.below HB2.out hz1); have hz2 := HB2.out.size)
    | ((with_reducible refine (rints_read A c l a _ w.heap.size HR2.out (by omega) (by omega) HBy.out ha m).mono ?_); rintro e w3 ⟨l3, A3, c3, HL3, rfl, HO3, HB3⟩; have HD2 := Lib.hid (Rd.of_own (HO2.out.below HB3.out (Nat.le_refl _))); have HD3 := Lib.hid (Rd.of_own HO3.out))
    | ((with_reducible refine (same_any A2 A3 c2 c3 l2 l3 _ _ _ HD2.out HD3.out (HL3.out.trans HL2.out.symm) (own_len HO2.out)).mono ?_); rintro e w4 ⟨rfl, q, hq⟩; have HQ := Lib.hid hq; clear hq))
  go_ret
  refine ⟨rfl, ?_⟩
  rw [HQ.out]
  exact below_drewN (neg_last HB1.out HB2.out HB3.out) _

set_option maxRecDepth 100000 in
theorem walk (w : World) (A : Option Addr) (c : Nat) (l : List Int) (hr : Rd .u8 w w.heap.size A l) (hlc : l.length ≤ c) (hl : l.length ≤ 9223372036854775807) (hb : Byt l) (a : Int) (ha : -9223372036854775808 ≤ a ∧ a ≤ 9223372036854775807) (m : Int) (hm : -9223372036854775808 ≤ m ∧ m ≤ 9223372036854775807) :
    Calls Try.prog 4 #[.slice A l.length c, .int .i64 a, .int .i64 m] w fun e w' => e = .returned (.bool true) ∧ Below w.heap.size w w' := by
  by_cases hbig : (2048 : Int) < l.length
  · clear hr hb hl
    go_enter Try.func4, Try.ntmps4
    go_wp2_with ((with_reducible refine (small_any _).mono ?_); rintro e w1 ⟨rfl, hb⟩; have HB := Lib.hid hb; clear hb)
    go_ret
    exact ⟨rfl, HB.out⟩
  · exact inner w A c l hr hlc hb a m ha.2 (by omega)


set_option maxRecDepth 100000 in
theorem lifted (os : Os) (started : os.Started) (H : Type) (enc : TypeId × Value → H) :
    ReturnsInHanded {} Try.checked os 4 .any (Rows.packReadsSpec.pre6 enc Try.prog Try.f4 Rows.packReadsRow.domain false) (Rows.packReadsSpec.post enc Try.prog Try.f4 false true false false) := by
  refine returnsInHanded_of_change (C := Try.checked) own started (by kernel_rfl) Try.func4
    (ChangeSpec.witness6 (enc := enc) (C := Try.checked) false ⟨#[], #[.slice none 0 0, .int .i64 0, .int .i64 0], []⟩ 8 (by kernel_rfl) (by kernel_rfl) (by kernel_rfl) (by kernel_rfl)) ?_
  intro W base args ds gs before hval0 hW hcnd _
  have hval : ∀ (j : Nat) t v, Try.f4.params[j]? = some t → args[j]? = some v → Value.okWide Try.prog W .any base t v := hval0
  have hW' := hW
  obtain ⟨p, q, hA0, hV, rfl, hfz, hnd⟩ := hW
  have hA : DataW.TrodAll enc Try.prog W 0 (fun _ => true) true Try.f4.params.toList args.toList ds p := hA0
  rw [Try.params4] at hA hval
  obtain ⟨v0, vs0, d0, ds0, p0, q0, hargs, rfl, rfl, h0, r0⟩ := trodAll_cons hA
  obtain ⟨v1, vs1, d1, ds1, p1, q1, rfl, rfl, rfl, h1, r1⟩ := trodAll_cons r0
  obtain ⟨v2, vs2, d2, ds2, p2, q2, rfl, rfl, rfl, h2, r2⟩ := trodAll_cons r1
  obtain ⟨rfl, rfl, rfl⟩ := trodAll_nil r2
  obtain rfl : args = #[v0, v1, v2] := by cases args; simp_all
  obtain ⟨rfl, rfl⟩ := trodVars_none hV
  clear hA0 hval0
  have hlt0 : ∀ x ∈ p0, x.block < W.heap.size := fun x hx => hW'.lt x (by simp [hx])
  have hk0 := h0
  obtain ⟨A0, c0, l0, rfl, hr0, hc0, hl0, hx0⟩ := Open.viewB (hval 0 22 v0 rfl rfl) h0 hlt0
  obtain ⟨a1, rfl, rfl, rfl, w1⟩ := open_int Try.underlying3 (hval 1 3 v1 rfl rfl) h1
  obtain ⟨a2, rfl, rfl, rfl, w2⟩ := open_int Try.underlying3 (hval 2 3 v2 rfl rfl) h2
  simp only [List.append_nil] at hW'
  refine (walk W A0 c0 l0 hr0 hc0 hl0 hx0 a1 (Open.fits_of w1) a2 (Open.fits_of w2)).mono fun e W' ⟨he, hg⟩ => ?_
  subst he
  exact ⟨_, rfl, _, _, _, [], _, [], hW', (trodAll_cons_mk (shut_bool Try.underlying4 _) trodAll_mk0), (trodAll_cons_mk (Below.trod Open.laidOut (by kernel_rfl) (of_decide_eq_true (by kernel_rfl)) hk0 hg hlt0) (trodAll_cons_mk (shut_int Try.underlying3 w1) (trodAll_cons_mk (shut_int Try.underlying3 w2) trodAll_mk0))), rfl, hg.frame _, fun h => by cases h⟩

theorem over : Rows.packReadsRow.holds Try.pinned (OpenSpec.ofChange Rows.packReadsSpec) :=
  OpenClaim.holds_of_wide 4 Try.f4 rfl rfl rfl rfl rfl rfl rfl ⟨rfl, rfl, rfl, rfl, rfl⟩ rfl rfl rfl rfl rfl (by kernel_rfl) Try.func4 (by kernel_rfl)
    (of_decide_eq_true (by kernel_rfl)) (by unfold Func.isWrapper; first | (rw [if_pos (by decide +kernel)]; kernel_rfl) | (rw [if_neg (by decide +kernel)]; exact ⟨rfl, rfl⟩))
    (fun os started H enc _ => lifted os started H enc)

/-- The given statement. -/
theorem proved : Rows.PackReadsSaid :=
  over
#print axioms proved
end Go.Proofs.Ytgandkgcnackkaa.packReads
