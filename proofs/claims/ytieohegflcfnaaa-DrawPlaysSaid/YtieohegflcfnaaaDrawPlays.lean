/-
  DrawPlays: for every slice of numbers and every slice of slices of numbers the law DrawPlays answers true, and what was handed in reads as before; no condition.
-/
import Derived.Test.YtieohegflcfnaaaPly
import Derived.Test.YtieohegflcfnaaaOpen
import Derived.Deep.QuietTactic
import Derived.BigQuiet
import Derived.WalkKit
import Derived.ProofKit
import Derived.OpenShut
namespace Go.Proofs.Ytieohegflcfnaaa.drawPlays
open Go.ChangeShapes Go.WideShapes Go.ChangeAt Go.RowKit
set_option linter.unusedVariables false

theorem own : ownKnob Try.prog.godebug = none := by kernel_rfl

open Con Mth Mem

theorem rd_alloc {w : World} {B : Nat} {A : Option Addr} {l : List Int} (h : Rd w B A l) (hB : B ≤ w.heap.size) (o : Obj) : Rd (w.alloc o) B A l := h.keep fun b hb => Below.heap_alloc w o b (by omega)
theorem rd_nil {w : World} {B : Nat} {A : Option Addr} {l : List Int} (h : l = []) : Rd w B A l := .inl h
theorem pin_feed {base : Nat} {w0 w : World} {gx : Nat} {lx : List Int} {gy : Nat} {ly : List Int} {bi n : Nat} (h : PIn base w0 w gx lx gy ly bi n) (m : List Int) (B : Nat) (A : Option Addr) (c : Nat) (hr : Rd w B A m) (hl : lx.length ≤ 4096) (hm : m.length ≤ 9223372036854770000) (l' : List Int) (hl' : feedL lx m = l') :
    Calls Try.prog 12 #[.pointer (some ⟨gx, 0, none⟩), .slice A m.length c] w fun e w' => e = .returned (.int .i64 (feedE lx m)) ∧ PIn base w0 w' gx l' gy ly bi n := by
  subst hl'
  exact h.feed m B A c hr hl hm
theorem y_feed' {base : Nat} {w0 w : World} {gx gy : Nat} {lx ly : List Int} (hP : Pair base w0 w 32 gy ly 50 gx lx) (m : List Int) (B : Nat) (A : Option Addr) (c : Nat) (hr : Rd w B A m) (hl : ly.length ≤ 4096) (hm : m.length ≤ 9223372036854770000) (l' : List Int) (hl' : feedL ly m = l') :
    Calls Try.prog 13 #[.pointer (some ⟨gy, 0, none⟩), .slice A m.length c] w fun e w' => e = .returned (.int .i64 (feedE ly m)) ∧ Pair base w0 w' 32 gy l' 50 gx lx := by
  subst hl'
  exact y_feed hP m B A c hr hl hm
theorem same_nil (w : World) : Calls Try.prog 20 #[.slice none 0 0, .slice none 0 0] w fun e w' => e = .returned (.bool true) ∧ ∃ q, w' = w.drewN q :=
  same_any 0 0 none none 0 0 0 [] w rfl Rd.nil Rd.nil (by omega)
theorem drawn_pair {base : Nat} {w0 w w' : World} {tx ty : TypeId} {gx gy : Nat} {lx ly : List Int} {q : Nat} (h : Pair base w0 w tx gx lx ty gy ly) (hq : w' = w.drewN q) : Pair base w0 w' tx gx lx ty gy ly := by
  subst hq
  exact h.drewN q
theorem pa_below {base : Nat} {w0 w : World} {gx : Nat} {lx : List Int} {gy : Nat} {ly : List Int} {gd : Nat} {p : List Int} (h : PA base w0 w gx lx gy ly gd p) : Below base w0 w := by
  obtain ⟨_, _, _, _, _, _, h, _⟩ := h
  exact h

/-- What holds at the head of each round: both streams hold the same words. -/
def At (w wr : World) (gx gy : Nat) : Prop := ∃ m : List Int, m.length ≤ 4096 ∧ Pair w.heap.size w wr 50 gx m 32 gy m

set_option maxHeartbeats 4000000 in
set_option maxRecDepth 100000 in
theorem inner (w : World) (A : Option Addr) (c : Nat) (l : List Int) (hr0 : Rd w w.heap.size A l) (A2 : Option Addr) (n c2 : Nat) (hr2 : RowsAt w w.heap.size A2 n) (hbig : l.length ≤ 8192) (hbig2 : n ≤ 60) :
    Calls Try.prog 4 #[.slice A l.length c, .slice A2 n c2] w fun e w' => e = .returned (.bool true) ∧ Below w.heap.size w w' := by
  have hb1 : (l.length : Int) ≤ 8192 := by omega
  have hb2 : (n : Int) ≤ 60 := by omega
  have HR := Lib.hid hr0; have HR2 := Lib.hid hr2
  clear hr0 hr2
  go_enter Try.func4, Try.ntmps4
  go_wp2_with (first
    | ((with_reducible refine (small_any _).mono ?_); rintro e w1 ⟨rfl, hb⟩; have HP0 := Lib.hid (pair_new w.heap.size 50 32 hb hb.size); clear hb)
    | ((with_reducible refine (new_any _).mono ?_); rintro e w' ⟨rfl, rfl⟩))
  go_loopg [8] n (fun gh s8 wr => ∃ i : Nat, i ≤ n ∧ gh = n - i ∧ s8 = .int .i64 i ∧ Hid (At w wr w1.heap.size (w1.heap.size + 1)))
  case atStart => exact ⟨0, by omega, rfl, rfl, [], by simp, HP0.out⟩
  case round =>
    obtain ⟨i, hi, rfl, rfl, HA⟩ := hrel
    clear HP0
    obtain ⟨m, hm, hP⟩ := HA.out
    have HP := Lib.hid hP
    by_cases hlt : i < n
    · obtain ⟨b, off, rfl, hbB, hrow⟩ : ∃ b off, A2 = some ⟨b, off, none⟩ ∧ b < w.heap.size ∧ ∀ r, r < n → ∃ a c l, w.cell? ⟨b, off + r, none⟩ = some (.slice a l.length c) ∧ Rd w w.heap.size a l ∧ l.length ≤ c ∧ ∀ x ∈ l, -9223372036854775808 ≤ x ∧ x ≤ 9223372036854775807 := by
        rcases HR2.out with h0 | h
        · omega
        · exact h
      obtain ⟨a, cs, s, hcell, hrs, hsc, hsx⟩ := hrow i hlt
      have hcw := (hP.below.cell (p := ⟨b, off + i, none⟩) hbB).trans hcell
      have HRS := Lib.hid (hrs.below hP.below); have HRS0 := Lib.hid hrs
      clear hrow hcell hrs hP HA
      by_cases hs0 : s.length = 0
      · have hs1 : ((s.length : Int) == 0) = true := by simp; exact List.eq_nil_of_length_eq_zero hs0
        clear hs0
        go_wp2
        go_roundg (n - (i + 1))
        case measure => omega
        case rel => exact ⟨i + 1, by omega, rfl, by go_num, m, hm, HP.out⟩
      · have hs1 : ((s.length : Int) == 0) = false := by simp; intro h; exact hs0 (by rw [h]; rfl)
        by_cases hs3 : 300 < s.length
        · have hs4 : (300 : Int) < s.length := by omega
          go_wp2
          go_roundg (n - (i + 1))
          case measure => omega
          case rel => exact ⟨i + 1, by omega, rfl, by go_num, m, hm, HP.out⟩
        · have hs4 : decide ((300 : Int) < s.length) = false := by simp; omega
          obtain ⟨bs, offs, x0, rfl, hbsB, hx0, hc0⟩ := HRS.out.at' (k := 0) (by omega)
          rw [Nat.add_zero] at hc0
          have hl0 : (0 : Int) < s.length := by omega
          clear hx0
          obtain ⟨bs', offs', xl, he, _, _, hcl⟩ := HRS.out.at' (k := s.length - 1) (by omega)
          injection he with he
          injection he with he1 he2
          subst he1; subst he2
          obtain ⟨_, _, xl', he, hbsW, _, hcl0⟩ := HRS0.out.at' (k := s.length - 1) (by omega)
          injection he with he
          injection he with he1 he2
          subst he1; subst he2
          obtain rfl : xl = xl' := by
            have := (HP.out.below.cell (p := ⟨bs, offs + (s.length - 1), none⟩) hbsW).trans hcl0
            rw [hcl] at this
            injection this with this
            injection this
          have HCL := Lib.hid hcl0
          clear hcl0
          cases hq0 : (bits BinOp.and IntKind.i64 x0 3 == 0) with
          | true =>
            have hws := HP.out.size
            obtain ⟨m', hm'⟩ : ∃ m', feedL m l = m' := ⟨_, rfl⟩
            have hml : m'.length ≤ 4096 := by rw [← hm']; exact feedL_len hm
            have HM := Lib.hid hm'
            clear hcl hm'
            go_wp2_with (first
              | (at_builtin; refine wpList_app rfl (.tmp 71) (.tmp 72) rfl w.heap.size w.heap.size _ [] l A c rfl rfl (own_empty wr w.heap.size hws) (rd_alloc (HR.out.below HP.out.below) hws _) (by simp; omega) (by simp; omega) ?_; intro A3 c3 w3 lm hlm ho hg hob; (have e : l = lm := by (have := hlm.out; simpa using this.symm)); subst e; obtain ⟨bi, rfl, hI, hRi⟩ := PIn.start HP.out ho hg hob; have HI := Lib.hid hI; have HRi := Lib.hid hRi; clear hlm ho hg hob hI hRi)
              | ((with_reducible refine (pin_feed HI.out l _ _ _ HRi.out hm (by omega) m' HM.out).mono ?_); rintro e w4 ⟨rfl, hI2⟩; have HI2 := Lib.hid hI2; clear hI2))
            go_loopg [13] l.length (fun gh s13 wq => ∃ k : Nat, k ≤ l.length ∧ gh = l.length - k ∧ s13 = .int .i64 k ∧ Hid (PIn w.heap.size w wq w1.heap.size m' (w1.heap.size + 1) m bi l.length))
            case atStart => exact ⟨0, by omega, rfl, rfl, HI2.out⟩
            case round =>
              obtain ⟨k, hk, rfl, rfl, HI3⟩ := hrel
              clear HI2 HI HRi
              by_cases hkl : k < l.length
              · obtain ⟨⟨vv, hcv⟩, hfv⟩ := HI3.out.cell hkl
                go_wp2
                go_roundg (l.length - (k + 1))
                case measure => omega
                case rel => exact ⟨k + 1, by omega, rfl, by go_num, HI3.out.set k _⟩
              · go_wp2_with ((with_reducible refine (y_feed' HI3.out.pair.symm l w.heap.size A c (HR.out.below HI3.out.pair.below) hm (by omega) m' HM.out).mono ?_); rintro e w5 ⟨rfl, hp⟩; have HE := Lib.hid hp.symm; obtain ⟨Ay, cy, hcy⟩ := Pair.ycell hp; clear hp)
                go_quiet ((go_at_call 21; exact Calls.quiet_of_same (x_left_q HE.out _)))
                go_wp2
                go_roundg (n - (i + 1))
                case measure => omega
                case rel => exact ⟨i + 1, by omega, rfl, by go_num, m', hml, HE.out.drewN _⟩
          | false =>
            cases hq1 : (bits BinOp.and IntKind.i64 x0 3 == 1) with
            | true =>
              obtain ⟨m', hm'⟩ : ∃ m', m.drop (us (fair m xl)) = m' := ⟨_, rfl⟩
              have hml : m'.length ≤ 4096 := by rw [← hm', List.length_drop]; omega
              have HM := Lib.hid hm'
              clear hm'
              go_wp2_with (first
                | ((with_reducible refine (x_below' HP.out xl hm m' HM.out).mono ?_); rintro e w3 ⟨rfl, hp⟩; have hcl3 := (hp.below.cell (p := ⟨bs, offs + (s.length - 1), none⟩) hbsW).trans HCL.out; have HPx := Lib.hid hp.symm; clear hp)
                | ((with_reducible refine (y_below' HPx.out xl hm m' HM.out).mono ?_); rintro e w5 ⟨rfl, hp⟩; have HE := Lib.hid hp.symm; obtain ⟨Ay, cy, hcy⟩ := Pair.ycell hp; clear hp))
              go_quiet ((go_at_call 21; exact Calls.quiet_of_same (x_left_q HE.out _)))
              go_wp2
              go_roundg (n - (i + 1))
              case measure => omega
              case rel => exact ⟨i + 1, by omega, rfl, by go_num, m', hml, HE.out.drewN _⟩
            | false =>
              cases hq2 : (bits BinOp.and IntKind.i64 x0 3 == 2) with
              | true =>
                obtain ⟨m', hm'⟩ : ∃ m', m.drop (pu (pick m (s.drop 1))) = m' := ⟨_, rfl⟩
                have hml : m'.length ≤ 4096 := by rw [← hm', List.length_drop]; omega
                have HM := Lib.hid hm'
                have HDL := Lib.hid (List.length_drop (i := 1) (l := s))
                have h1s : (1 : Int) ≤ s.length := by omega
                clear hm' hcl
                by_cases hcs : cs = 1
                · have HNIL := Lib.hid (List.drop_eq_nil_of_le (show s.length ≤ 1 by omega))
                  have hsl : s.length - 1 = 0 := by omega
                  subst hcs
                  go_wp2_with (first
                    | ((with_reducible refine (x_pick' HP.out (s.drop 1) _ _ _ (by rw [HNIL.out]; simp) (rd_nil HNIL.out) hm (by rw [HNIL.out]; simp) m' HM.out).mono ?_); rintro e w3 ⟨rfl, hp⟩; have HPx := Lib.hid hp.symm; clear hp)
                    | ((with_reducible refine (y_pick' HPx.out (s.drop 1) _ _ _ (by rw [HNIL.out]; simp) (rd_nil HNIL.out) hm (by rw [HNIL.out]; simp) m' HM.out).mono ?_); rintro e w5 ⟨rfl, hp⟩; have HE := Lib.hid hp.symm; obtain ⟨Ay, cy, hcy⟩ := Pair.ycell hp; clear hp))
                  go_quiet ((go_at_call 21; exact Calls.quiet_of_same (x_left_q HE.out _)))
                  go_wp2
                  go_roundg (n - (i + 1))
                  case measure => omega
                  case rel => exact ⟨i + 1, by omega, rfl, by go_num, m', hml, HE.out.drewN _⟩
                · go_wp2_with (first
                    | ((with_reducible refine (x_pick' HP.out (s.drop 1) _ (s.length - 1) _ HDL.out (HRS.out.cut 1) hm (by have := HDL.out; omega) m' HM.out).mono ?_); rintro e w3 ⟨rfl, hp⟩; have HPx := Lib.hid hp.symm; clear hp)
                    | ((with_reducible refine (y_pick' HPx.out (s.drop 1) _ (s.length - 1) _ HDL.out ((HRS0.out.below HPx.out.below).cut 1) hm (by have := HDL.out; omega) m' HM.out).mono ?_); rintro e w5 ⟨rfl, hp⟩; have HE := Lib.hid hp.symm; obtain ⟨Ay, cy, hcy⟩ := Pair.ycell hp; clear hp))
                  go_quiet ((go_at_call 21; exact Calls.quiet_of_same (x_left_q HE.out _)))
                  go_wp2
                  go_roundg (n - (i + 1))
                  case measure => omega
                  case rel => exact ⟨i + 1, by omega, rfl, by go_num, m', hml, HE.out.drewN _⟩
              | false =>
                cases hq3 : (bits BinOp.and IntKind.i64 x0 3 == 3) with
                | true =>
                  by_cases hno : (xl < 0 ∨ 256 < xl) ∨ (0 ≤ xl ∧ xl ≤ 256 ∧ deal m xl.toNat = none)
                  · have HNO := Lib.hid hno
                    clear hno
                    go_wp2_with (first
                      | ((with_reducible refine (x_deal_no HP.out xl hm HNO.out).mono ?_); rintro e w3 ⟨rfl, hp⟩; have hcl3 := (hp.below.cell (p := ⟨bs, offs + (s.length - 1), none⟩) hbsW).trans HCL.out; have HPx := Lib.hid hp.symm; clear hp)
                      | ((with_reducible refine (y_deal_no HPx.out xl hm HNO.out).mono ?_); rintro e w4 ⟨rfl, hp⟩; have HPy := Lib.hid hp; clear hp)
                      | ((with_reducible refine (same_nil _).mono ?_); rintro e w5 ⟨rfl, q, hq⟩; have hp := drawn_pair HPy.out hq; have HE := Lib.hid hp.symm; obtain ⟨Ay, cy, hcy⟩ := Pair.ycell hp; clear hp; clear hq))
                    go_quiet ((go_at_call 21; exact Calls.quiet_of_same (x_left_q HE.out _)))
                    go_wp2
                    go_roundg (n - (i + 1))
                    case measure => omega
                    case rel => exact ⟨i + 1, by omega, rfl, by go_num, m, hm, HE.out.drewN _⟩
                  · rcases hd : deal m xl.toNat with _ | ⟨p, t⟩
                    · refine absurd ?_ hno
                      by_cases ho : xl < 0 ∨ 256 < xl
                      · exact .inl ho
                      · exact .inr ⟨by omega, by omega, hd⟩
                    · obtain ⟨k, rfl⟩ : ∃ k : Nat, xl = (k : Int) := ⟨xl.toNat, by omega⟩
                      rw [show ((k : Int)).toNat = k by omega] at hd
                      obtain ⟨m', hm'⟩ : ∃ m', m.drop t = m' := ⟨_, rfl⟩
                      have hml : m'.length ≤ 4096 := by rw [← hm', List.length_drop]; omega
                      have hk256 : k ≤ 256 := by omega
                      have hpl : p.length = k := (deal_each hd).2.1
                      have hpl2 : p.length ≤ 256 := by omega
                      have HM := Lib.hid hm'; have HD := Lib.hid hd
                      clear hm' hd hno hpl
                      go_wp2_with (first
                        | ((with_reducible refine (x_deal_yes HP.out k hm hk256 p t HD.out m' HM.out).mono ?_); rintro e w3 ⟨gd, rfl, hpa⟩; have hcl3 := ((pa_below hpa).cell (p := ⟨bs, offs + (s.length - 1), none⟩) hbsW).trans HCL.out; have HPA := Lib.hid hpa; clear hpa)
                        | ((with_reducible refine (y_deal_yes HPA.out k hm hk256 t HD.out m' HM.out).mono ?_); rintro e w4 ⟨Ad, cd, rfl, hp, hrd, har⟩; have HPy := Lib.hid hp; have HRD := Lib.hid hrd; have HAR := Lib.hid har.rd; clear hp hrd har)
                        | ((with_reducible refine (same_any _ _ _ _ _ _ _ p _ rfl HAR.out HRD.out (by omega)).mono ?_); rintro e w5 ⟨rfl, q, hq⟩; have hp := drawn_pair HPy.out hq; have HE := Lib.hid hp.symm; obtain ⟨Ay, cy, hcy⟩ := Pair.ycell hp; clear hp; clear hq))
                      go_quiet ((go_at_call 21; exact Calls.quiet_of_same (x_left_q HE.out _)))
                      go_wp2
                      go_roundg (n - (i + 1))
                      case measure => omega
                      case rel => exact ⟨i + 1, by omega, rfl, by go_num, m', hml, HE.out.drewN _⟩
                | false =>
                  have HE := HP
                  obtain ⟨Ay, cy, hcy⟩ := Pair.ycell HP.out.symm
                  go_wp2
                  go_quiet ((go_at_call 21; exact Calls.quiet_of_same (x_left_q HE.out _)))
                  go_wp2
                  go_roundg (n - (i + 1))
                  case measure => omega
                  case rel => exact ⟨i + 1, by omega, rfl, by go_num, m, hm, HE.out.drewN _⟩
    · go_wp2
      go_ret
      exact ⟨rfl, HP.out.below⟩

set_option maxRecDepth 100000 in
theorem walk (w : World) (A : Option Addr) (c : Nat) (l : List Int) (hr0 : Rd w w.heap.size A l) (hlc : l.length ≤ c) (hl : l.length ≤ 9223372036854775807) (hx : ∀ x ∈ l, -9223372036854775808 ≤ x ∧ x ≤ 9223372036854775807) (A2 : Option Addr) (n c2 : Nat) (hl2 : n ≤ 9223372036854775807) (hr2 : RowsAt w w.heap.size A2 n) :
    Calls Try.prog 4 #[.slice A l.length c, .slice A2 n c2] w fun e w' => e = .returned (.bool true) ∧ Below w.heap.size w w' := by
  clear hx
  by_cases hbig : 8192 < l.length
  · have hb1 : (8192 : Int) < l.length := by omega
    clear hr0 hr2
    go_enter Try.func4, Try.ntmps4
    go_wp2_with (first
      | ((with_reducible refine (small_any _).mono ?_); rintro e w1 ⟨rfl, hb⟩; have HB := Lib.hid hb; clear hb)
      | ((with_reducible refine (new_any _).mono ?_); rintro e w' ⟨rfl, rfl⟩))
    go_ret
    exact ⟨rfl, HB.out.alloc HB.out.size _⟩
  · have hb1 : decide ((8192 : Int) < l.length) = false := decide_eq_false (by omega)
    by_cases hbig2 : 60 < n
    · have hb2 : (60 : Int) < n := by omega
      clear hr0 hr2
      go_enter Try.func4, Try.ntmps4
      go_wp2_with (first
        | ((with_reducible refine (small_any _).mono ?_); rintro e w1 ⟨rfl, hb⟩; have HB := Lib.hid hb; clear hb)
        | ((with_reducible refine (new_any _).mono ?_); rintro e w' ⟨rfl, rfl⟩))
      go_ret
      exact ⟨rfl, HB.out.alloc HB.out.size _⟩
    · exact inner w A c l hr0 A2 n c2 hr2 (by omega) (by omega)


set_option maxRecDepth 100000 in
theorem lifted (os : Os) (started : os.Started) (H : Type) (enc : TypeId × Value → H) :
    ReturnsInHanded {} Try.checked os 4 .any (Rows.drawPlaysSpec.pre6 enc Try.prog Try.f4 Rows.drawPlaysRow.domain false) (Rows.drawPlaysSpec.post enc Try.prog Try.f4 false true false false) := by
  refine returnsInHanded_of_change (C := Try.checked) own started (by kernel_rfl) Try.func4
    (ChangeSpec.witness6 (enc := enc) (C := Try.checked) false ⟨#[], #[.slice none 0 0, .slice none 0 0], []⟩ 8 (by kernel_rfl) (by kernel_rfl) (by kernel_rfl) (by kernel_rfl)) ?_
  intro W base args ds gs before hval0 hW hcnd _
  have hval : ∀ (j : Nat) t v, Try.f4.params[j]? = some t → args[j]? = some v → Value.okWide Try.prog W .any base t v := hval0
  have hW' := hW
  obtain ⟨p, q, hA0, hV, rfl, hfz, hnd⟩ := hW
  have hA : DataW.TrodAll enc Try.prog W 0 (fun _ => true) true Try.f4.params.toList args.toList ds p := hA0
  rw [Try.params4] at hA hval
  obtain ⟨v0, vs0, d0, ds0, p0, q0, hargs, rfl, rfl, h0, r0⟩ := trodAll_cons hA
  obtain ⟨v1, vs1, d1, ds1, p1, q1, rfl, rfl, rfl, h1, r1⟩ := trodAll_cons r0
  obtain ⟨rfl, rfl, rfl⟩ := trodAll_nil r1
  obtain rfl : args = #[v0, v1] := by cases args; simp_all
  obtain ⟨rfl, rfl⟩ := trodVars_none hV
  clear hA0 hval0
  have hlt0 : ∀ x ∈ p0, x.block < W.heap.size := fun x hx => hW'.lt x (by simp [hx])
  have hk0 := h0
  obtain ⟨A0, c0, l0, rfl, hr0, hc0, hl0, hx0⟩ := Open.view (hval 0 22 v0 rfl rfl) h0 hlt0
  have hlt1 : ∀ x ∈ p1, x.block < W.heap.size := fun x hx => hW'.lt x (by simp [hx])
  have hk1 := h1
  obtain ⟨A1, n1, c1, rfl, hl1, hr1⟩ := Con.view2 (hval 1 27 v1 rfl rfl) h1
  simp only [List.append_nil] at hW'
  refine (walk W A0 c0 l0 hr0 hc0 hl0 hx0 A1 n1 c1 hl1 hr1).mono fun e W' ⟨he, hg⟩ => ?_
  subst he
  exact ⟨_, rfl, _, _, _, [], _, [], hW', (trodAll_cons_mk (shut_bool Try.underlying4 _) trodAll_mk0), (trodAll_cons_mk (Below.trod Open.laidOut (by kernel_rfl) (of_decide_eq_true (by kernel_rfl)) hk0 hg hlt0) (trodAll_cons_mk (Below.trod Open.laidOut (by kernel_rfl) (of_decide_eq_true (by kernel_rfl)) hk1 hg hlt1) trodAll_mk0)), rfl, hg.frame _, fun h => by cases h⟩

theorem over : Rows.drawPlaysRow.holds Try.pinned (OpenSpec.ofChange Rows.drawPlaysSpec) :=
  OpenClaim.holds_of_wide 4 Try.f4 rfl rfl rfl rfl rfl rfl rfl ⟨rfl, rfl, rfl, rfl, rfl⟩ rfl rfl rfl rfl rfl (by kernel_rfl) Try.func4 (by kernel_rfl)
    (of_decide_eq_true (by kernel_rfl)) (by unfold Func.isWrapper; first | (rw [if_pos (by decide +kernel)]; kernel_rfl) | (rw [if_neg (by decide +kernel)]; exact ⟨rfl, rfl⟩))
    (fun os started H enc _ => lifted os started H enc)

/-- The given statement. -/
theorem proved : Rows.DrawPlaysSaid :=
  over
#print axioms proved
end Go.Proofs.Ytieohegflcfnaaa.drawPlays
