/-
  For every parts and every load the law FramePlays answers true: a feed does, part by part, what the document says, and so does Wrap; no condition beyond the types.
-/
import Derived.Test.YtcefkjeoknaijaaPly
import Derived.Test.YtcefkjeoknaijaaOpen
import Derived.Test.YtcefkjeoknaijaaOpw
import Derived.Test.YtcefkjeoknaijaaOpr
import Derived.WalkKit
import Derived.ProofKit
import Derived.OpenShut
namespace Go.Proofs.Ytcefkjeoknaijaa.framePlays
open Go.ChangeShapes Go.WideShapes Go.ChangeAt Go.RowKit
set_option linter.unusedVariables false

theorem own : ownKnob Try.prog.godebug = none := by kernel_rfl

open Con Mth Mem

theorem cell_keep {w w' : World} {B b off : Nat} {v : Value} (h : w.cell? ⟨b, off, none⟩ = some v) (hb : Below B w w') (hlt : b < B) : w'.cell? ⟨b, off, none⟩ = some v := (World.cell?_of_block (w := w) (hb.block b hlt)).trans h
theorem waits_q {w0 w : World} {base gx : Nat} {rx : Option Nat} {gy : Nat} {ry : Option Nat} {l : List Int} {d : Bool} (h : PP w0 w base gx rx gy ry l d) (k : Nat) : Calls Try.prog 13 #[.pointer (some ⟨gx, 0, none⟩)] (w.drewN k) fun e w' => e = .returned (.int .i64 l.length) ∧ w' = w.drewN k :=
  (waits_any (h.fx.drewN k)).mono fun _ _ ⟨he, hw⟩ => ⟨he, hw.symm⟩
theorem dead_q {w0 w : World} {base gx : Nat} {rx : Option Nat} {gy : Nat} {ry : Option Nat} {l : List Int} {d : Bool} (h : PP w0 w base gx rx gy ry l d) (k : Nat) : Calls Try.prog 14 #[.pointer (some ⟨gx, 0, none⟩)] (w.drewN k) fun e w' => e = .returned (.bool d) ∧ w' = w.drewN k :=
  (dead_any (h.fx.drewN k)).mono fun _ _ ⟨he, hw⟩ => ⟨he, hw.symm⟩
theorem both_new (w0 w1 : World) (hb : Below w0.heap.size w0 w1) : PP w0 ((w1.alloc (.cells #[.slice none 0 0, .bool false] 41)).alloc (.cells #[.slice none 0 0, .bool false] 30)) w0.heap.size w1.heap.size none (w1.heap.size + 1) none [] false := by
  have hs := hb.size
  have e : (w1.alloc (.cells #[.slice none 0 0, .bool false] 41)).heap.size = w1.heap.size + 1 := by simp
  have fy := rfeed_new (w1.alloc (.cells #[.slice none 0 0, .bool false] 41))
  rw [e] at fy
  exact ⟨((feed_new w1).alloc _).more hs, fy.more (by omega), fun k hk => (by cases hk), (hb.alloc hs _).alloc (by simp; omega) _⟩
theorem in_new {wr w2 : World} {Ai : Option Addr} (hs : Step (wr.alloc (.cells #[] 5)) w2 (some wr.heap.size) Ai) : Below wr.heap.size wr w2 :=
  below_step ((Below.refl wr.heap.size wr).alloc (Nat.le_refl _) _) hs (fun k hk => (by simp at hk; omega)) (by simp)
theorem same_dead (w : World) (c c' : Nat) : Calls Try.prog 12 #[.slice none 0 c, .slice none 0 c'] w fun e w' => e = .returned (.bool true) ∧ ∃ q, w' = w.drewN q :=
  same_yes w none none c c' [] 0 0 rfl rfl 0 0 (.inl rfl) (.inl rfl) (by simp)
/-- The document's Push beside the rest. -/
theorem y_push {w : World} {base g : Nat} {r : Option Nat} {l b : List Int} {B : Nat} {A : Option Addr} {c : Nat} (h : RFeed w base g r l false) (hr : Rd .u8 w B A b) (hB : B ≤ w.heap.size) (hl : (l.length : Int) ≤ 4104) (hm : (b.length : Int) ≤ 20000) (hby : Byt l) (hbb : Byt b) {L : List (List Int)} {z : List Int} {x : Int} (hp : parse (l ++ b) = (L, z, x)) (d : Bool) (hd : (x != 0) = d) :
    Calls Try.prog 11 #[.pointer (some ⟨g, 0, none⟩), .slice A b.length c] w fun e w' => ∃ A' c' r', e = .returned (.tuple #[.slice A' L.length c', .int .i64 x]) ∧ Hid (RFeed w' base g r' z d) ∧ Hid (Con.Rows w' w.heap.size none A' c' L) ∧ Hid (Turn w w' g none) ∧ Hid (∀ k, r' = some k → w.heap.size ≤ k) := by
  subst hd
  exact rpush_any w base g r l b B A c h hr hB hl hm (hby.app hbb) L z x hp

theorem y_keep {w0 w w' : World} {base gx : Nat} {rx : Option Nat} {gy : Nat} {ry : Option Nat} {l : List Int} {d : Bool} (h : PP w0 w base gx rx gy ry l d) (ht : Turn w w' gx rx) : RFeed w' base gy ry l d := by
  have ly := h.fy.lt
  exact h.fy.keep ht.size (ht.block gy ly.2.1 (fun e => h.xy e.symm) (fun e => h.rxy e.symm)) (fun k hk => ht.block k (ly.2.2 k hk).2 (fun e => h.ryx (by rw [hk, e])) (fun e => h.rr k e.symm hk))

theorem big1 (w : World) (A : Option Addr) (c : Nat) (P : List (List Int)) (hr : Parts w w.heap.size A P) (hl : (P.length : Int) ≤ 140737488351232) (hx : ∀ x ∈ P, (x.length : Int) ≤ 140737488351232) (A' : Option Addr) (c' : Nat) (f : List Int) (h : fewB P = false ∨ (fewB P = true ∧ (8192 : Int) < f.length)) :
    Calls Try.prog 3 #[.slice A P.length c, .slice A' f.length c'] w fun e w' => e = .returned (.bool true) ∧ Below w.heap.size w w' := by
  have HR := Lib.hid hr; have HX := Lib.hid hx; clear hr hx
  rcases h with h | ⟨h, h8⟩
  · have HFew := Lib.hid h; clear h
    go_enter Try.func3, Try.ntmps3
    go_wp2_with (first
      | ((with_reducible refine (small_any _).mono ?_); rintro e w1 ⟨rfl, hb⟩; have HB := Lib.hid hb; clear hb)
      | ((with_reducible refine (few_no A c P _ w.heap.size (HR.out.below HB.out (Nat.le_refl _)) hl HX.out HFew.out).mono ?_); rintro e w' ⟨rfl, rfl⟩)
      | ((with_reducible refine (new_any _).mono ?_); rintro e w' ⟨rfl, rfl⟩))
    go_ret
    exact ⟨rfl, HB.out.alloc HB.out.size _⟩
  · have HFew := Lib.hid h; clear h
    go_enter Try.func3, Try.ntmps3
    go_wp2_with (first
      | ((with_reducible refine (small_any _).mono ?_); rintro e w1 ⟨rfl, hb⟩; have HB := Lib.hid hb; clear hb)
      | ((with_reducible refine (few_yes A c P _ w.heap.size (HR.out.below HB.out (Nat.le_refl _)) hl HX.out HFew.out).mono ?_); rintro e w' ⟨rfl, rfl⟩)
      | ((with_reducible refine (new_any _).mono ?_); rintro e w' ⟨rfl, rfl⟩))
    go_ret
    exact ⟨rfl, HB.out.alloc HB.out.size _⟩

set_option maxRecDepth 100000 in
set_option maxHeartbeats 8000000 in
theorem inner (w : World) (A : Option Addr) (c : Nat) (P : List (List Int)) (hr : Parts w w.heap.size A P) (hl : (P.length : Int) ≤ 140737488351232) (hx : ∀ x ∈ P, (x.length : Int) ≤ 140737488351232) (A' : Option Addr) (c' : Nat) (f : List Int) (hrf : Rd .u8 w w.heap.size A' f) (hfb : Byt f) (hfew : fewB P = true) (h8 : (f.length : Int) ≤ 8192) :
    Calls Try.prog 3 #[.slice A P.length c, .slice A' f.length c'] w fun e w' => e = .returned (.bool true) ∧ Below w.heap.size w w' := by
  have HR := Lib.hid hr; have HX := Lib.hid hx; have HRf := Lib.hid hrf; have HBf := Lib.hid hfb; clear hr hx hrf hfb
  obtain ⟨hf1, hf2⟩ := few_of hfew
  have HFew := Lib.hid hfew; clear hfew
  have h8' : decide ((8192 : Int) < f.length) = false := by simp; omega
  go_enter Try.func3, Try.ntmps3
  go_wp2_with (first
    | ((with_reducible refine (small_any _).mono ?_); rintro e w1 ⟨rfl, hb⟩; have HB := Lib.hid hb; clear hb)
    | ((with_reducible refine (few_yes A c P _ w.heap.size (HR.out.below HB.out (Nat.le_refl _)) hl HX.out HFew.out).mono ?_); rintro e w' ⟨rfl, rfl⟩)
    | ((with_reducible refine (new_any _).mono ?_); rintro e w' ⟨rfl, rfl⟩))
  go_loopg [9] P.length (fun m s9 wr => ∃ (k : Nat) (rx ry : Option Nat) (l : List Int) (d : Bool), k ≤ P.length ∧ m = P.length - k ∧ s9 = .int .i64 (k : Int) ∧ (l.length : Int) ≤ 4104 ∧ Hid (PP w wr w.heap.size w1.heap.size rx (w1.heap.size + 1) ry l d) ∧ Hid (Byt l))
  case atStart => exact ⟨0, none, none, [], false, by omega, rfl, rfl, by simp, Lib.hid (both_new w w1 HB.out), Lib.hid Byt.nil⟩
  case round =>
    obtain ⟨k, rx, ry, l, d, hk, rfl, rfl, hll, HPP, HBy⟩ := hrel
    by_cases hlt : k < P.length
    · have hlt' : (k : Int) < P.length := by omega
      obtain ⟨b, off, x, a, c1, rfl, hbw, hx, hcw, hrx, hbx⟩ := HR.out.at' hlt
      have hc := cell_keep hcw (HPP.out.below.alloc HPP.out.size (.cells #[] 5)) hbw
      have hxl := tot_at hx
      have hxl' : (x.length : Int) ≤ 16384 := by omega
      have HRx := Lib.hid hrx; have HBx := Lib.hid hbx; have HCW := Lib.hid hcw; clear hrx hbx hx hxl hcw
      have hpz := HPP.out.size
      cases d with
      | true =>
        go_wp2_with (first
          | (at_builtin; refine wpList_app (K := .u8) (t := 23) (e := 5) Try.underlying23 byte_info rfl (by omega) rfl (.tmp 51) (.tmp 55) rfl wr.heap.size w.heap.size (some ⟨wr.heap.size, 0, none⟩) 0 [] x a c1 rfl rfl (own_empty wr) ((HRx.out.below HPP.out.below (Nat.le_refl _)).alloc hpz _) (by simp; omega) (by simp) ?_; intro Ai ci w2 li HLi HOi HSi; have HB2 := Lib.hid (in_new HSi.out); have HP2 := Lib.hid (HPP.out.step HB2.out); have hc2 := cell_keep HCW.out HP2.out.below hbw; have HW2 := Lib.hid (ply_dead HPP.out HB2.out HOi.out))
          | ((with_reducible refine (push_dead HP2.out.fx _ _ _).mono ?_); rintro e w' ⟨rfl, rfl⟩)
          | ((with_reducible refine (rpush_dead HP2.out.fy _ _ _).mono ?_); rintro e w' ⟨rfl, rfl⟩)
          | ((with_reducible refine (same_dead _ _ _).mono ?_); rintro e w5 ⟨rfl, q5, HQ5⟩; have HW5 : Hid (Wr w w5 w.heap.size w1.heap.size rx (w1.heap.size + 1) ry l true Ai li.length none []) := Lib.hid (HQ5 ▸ HW2.out.drewN q5); clear HQ5))
        have hli : (li.length : Int) ≤ 16384 := by rw [HLi.out]; simpa using hxl'
        go_loopg [16] li.length (fun m s16 wq => ∃ j : Nat, j ≤ li.length ∧ m = li.length - j ∧ s16 = .int .i64 (j : Int) ∧ Hid (Wr w wq w.heap.size w1.heap.size rx (w1.heap.size + 1) ry l true Ai li.length none []))
        case atStart => exact ⟨0, by omega, rfl, rfl, HW5⟩
        case round =>
          obtain ⟨j, hj, rfl, rfl, HWj⟩ := hrel
          by_cases hjl : j < li.length
          · have hjl' : (j : Int) < li.length := by omega
            obtain ⟨gi, v, rfl, hcj, hfj, hset⟩ := HWj.out.icell hjl
            have HSet := Lib.hid hset; clear hset
            go_wp2
            go_roundg (li.length - (j + 1))
            case measure => omega
            case rel => exact ⟨j + 1, by omega, rfl, by go_num, Lib.hid (HSet.out _)⟩
          · have hjl' : decide ((j : Int) < li.length) = false := by simp; omega
            go_wp2
            go_loopg [17] 0 (fun m s17 wq => m = 0 ∧ s17 = .int .i64 0 ∧ Hid (Wr w wq w.heap.size w1.heap.size rx (w1.heap.size + 1) ry l true Ai li.length none []))
            case atStart => exact ⟨rfl, rfl, HWj⟩
            case round =>
              obtain ⟨rfl, rfl, HWq⟩ := hrel
              obtain ⟨Ay, cy, hy0, hy1⟩ := HWq.out.pp.ycell
              go_wp2
              go_quiet (first | (go_at_call 13; exact Calls.quiet_of_same (waits_q HWq.out.pp _)) | (go_at_call 14; exact Calls.quiet_of_same (dead_q HWq.out.pp _)))
              go_wp2
              go_roundg (P.length - (k + 1))
              case measure => omega
              case rel => exact ⟨k + 1, rx, ry, l, true, by omega, rfl, by go_num, hll, Lib.hid (HWq.out.pp.drewN _), HBy⟩
      | false =>
        rcases hp : parse (l ++ x) with ⟨L, z, y⟩
        have hpa := parse_any (HBy.out.app HBx.out)
        rw [hp] at hpa
        obtain ⟨d, hd⟩ : ∃ d, (y != 0) = d := ⟨_, rfl⟩
        have hLl : (L.length : Int) ≤ 30000 := by have := hpa.less; simp only [List.length_append] at this; omega
        have hz : (z.length : Int) ≤ 4104 := by have := hpa.few; simp only at this; omega
        have HPA := Lib.hid hpa; have HPr := Lib.hid hp; have HDy := Lib.hid hd
        have HLb : Hid (∀ x ∈ L, Byt x) := Lib.hid (fun x hx => (HPA.out.loads x hx).2)
        clear hpa hp hd
        go_wp2_with (first
          | (at_builtin; refine wpList_app (K := .u8) (t := 23) (e := 5) Try.underlying23 byte_info rfl (by omega) rfl (.tmp 51) (.tmp 55) rfl wr.heap.size w.heap.size (some ⟨wr.heap.size, 0, none⟩) 0 [] x a c1 rfl rfl (own_empty wr) ((HRx.out.below HPP.out.below (Nat.le_refl _)).alloc hpz _) (by simp; omega) (by simp) ?_; intro Ai ci w2 li HLi HOi HSi; have HB2 := Lib.hid (in_new HSi.out); have HP2 := Lib.hid (HPP.out.step HB2.out); have HRi := Lib.hid (Rd.of_own HOi.out); have HEi : Hid (li = x) := Lib.hid (HLi.out.trans rfl); have hli : (li.length : Int) ≤ 16384 := (by rw [HEi.out]; exact hxl'); have HPi : Hid (parse (l ++ li) = (L, z, y)) := Lib.hid (by rw [HEi.out]; exact HPr.out); have HBi : Hid (Byt li) := Lib.hid (by rw [HEi.out]; exact HBx.out))
          | ((with_reducible refine (x_push HP2.out.fx HP2.out.below HRi.out hll (by omega) HBy.out HBi.out HPi.out d HDy.out).mono ?_); rintro e w3 ⟨A3, c3, r3, rfl, HF3, HR3, HB3, HT3, HX3⟩; have HFy3 := Lib.hid (y_keep HP2.out HT3.out); have hc3 := cell_keep HCW.out HB3.out hbw)
          | ((with_reducible refine (y_push HFy3.out (HRx.out.below HB3.out (Nat.le_refl _)) HB3.out.size hll (by omega) HBy.out HBx.out HPr.out d HDy.out).mono ?_); rintro e w4 ⟨A4, c4, r4, rfl, HF4, HR4, HT4, HX4⟩; have HW4 := Lib.hid (ply_alive HPP.out HB2.out HOi.out HF3.out HR3.out HT3.out HX3.out HF4.out HT4.out HX4.out); have HQa := Lib.hid ((HR3.out.keep (w' := w4) (fun k h1 h2 _ => HT4.out.block k h2 (by have := HP2.out.fy.lt; omega) (by simp))).parts HLb.out))
          | ((with_reducible refine (same_yes w4 A3 A4 c3 c4 L _ _ rfl rfl _ _ HQa.out (HR4.out.parts HLb.out) (by omega)).mono ?_); rintro e w5 ⟨rfl, q5, HQ5⟩; have HW5 : Hid (Wr w w5 w.heap.size w1.heap.size r3 (w1.heap.size + 1) r4 z d Ai li.length A3 L) := Lib.hid (HQ5 ▸ HW4.out.drewN q5); clear HQ5))
        go_loopg [16] li.length (fun m s16 wq => ∃ j : Nat, j ≤ li.length ∧ m = li.length - j ∧ s16 = .int .i64 (j : Int) ∧ Hid (Wr w wq w.heap.size w1.heap.size r3 (w1.heap.size + 1) r4 z d Ai li.length A3 L))
        case atStart => exact ⟨0, by omega, rfl, rfl, HW5⟩
        case round =>
          obtain ⟨j, hj, rfl, rfl, HWj⟩ := hrel
          by_cases hjl : j < li.length
          · have hjl' : (j : Int) < li.length := by omega
            obtain ⟨gi, v, rfl, hcj, hfj, hset⟩ := HWj.out.icell hjl
            have HSet := Lib.hid hset; clear hset
            go_wp2
            go_roundg (li.length - (j + 1))
            case measure => omega
            case rel => exact ⟨j + 1, by omega, rfl, by go_num, Lib.hid (HSet.out _)⟩
          · have hjl' : decide ((j : Int) < li.length) = false := by simp; omega
            go_wp2
            go_loopg [17] L.length (fun m s17 wq => ∃ t : Nat, t ≤ L.length ∧ m = L.length - t ∧ s17 = .int .i64 (t : Int) ∧ Hid (Wr w wq w.heap.size w1.heap.size r3 (w1.heap.size + 1) r4 z d Ai li.length A3 L))
            case atStart => exact ⟨0, by omega, rfl, rfl, HWj⟩
            case round =>
              obtain ⟨t, ht, rfl, rfl, HWq⟩ := hrel
              by_cases htl : t < L.length
              · have htl' : (t : Int) < L.length := by omega
                obtain ⟨x4, hx4⟩ : ∃ x4, L[t]? = some x4 := ⟨_, List.getElem?_eq_getElem htl⟩
                have hx5 : (x4.length : Int) ≤ 4096 := by have := (HPA.out.loads x4 (List.mem_of_getElem? hx4)).1; omega
                have HX4 := Lib.hid hx4; clear hx4
                go_wp2
                go_loopg [18] x4.length (fun m s18 wp => ∃ i : Nat, i ≤ x4.length ∧ m = x4.length - i ∧ s18 = .int .i64 (i : Int) ∧ Hid (Wr w wp w.heap.size w1.heap.size r3 (w1.heap.size + 1) r4 z d Ai li.length A3 L))
                case atStart => exact ⟨0, by omega, rfl, rfl, HWq⟩
                case round =>
                  obtain ⟨i, hi, rfl, rfl, HWi⟩ := hrel
                  obtain ⟨gr, A5, c5, rfl, hcr, hw⟩ := HWi.out.row HX4.out
                  by_cases hil : i < x4.length
                  · have hil' : (i : Int) < x4.length := by omega
                    obtain ⟨gl, v, rfl, hcl, hfl, hset⟩ := hw i hil
                    have HSet := Lib.hid hset; clear hset hw
                    go_wp2
                    go_roundg (x4.length - (i + 1))
                    case measure => omega
                    case rel => exact ⟨i + 1, by omega, rfl, by go_num, Lib.hid (HSet.out _)⟩
                  · have hil' : decide ((i : Int) < x4.length) = false := by simp; omega
                    clear hw
                    go_wp2
                    go_roundg (L.length - (t + 1))
                    case measure => omega
                    case rel => exact ⟨t + 1, by omega, rfl, by go_num, HWi⟩
              · have htl' : decide ((t : Int) < L.length) = false := by simp; omega
                obtain ⟨Ay, cy, hy0, hy1⟩ := HWq.out.pp.ycell
                have hyy : (y != y) = false := by simp
                have hdd : (d != d) = false := by simp
                go_wp2
                go_quiet (first | (go_at_call 13; exact Calls.quiet_of_same (waits_q HWq.out.pp _)) | (go_at_call 14; exact Calls.quiet_of_same (dead_q HWq.out.pp _)))
                go_wp2
                go_roundg (P.length - (k + 1))
                case measure => omega
                case rel => exact ⟨k + 1, r3, r4, z, d, by omega, rfl, by go_num, hz, Lib.hid (HWq.out.pp.drewN _), Lib.hid HPA.out.byt⟩
    · have hlt' : decide ((k : Int) < P.length) = false := by simp; omega
      have HRf' := Lib.hid (HRf.out.below HPP.out.below (Nat.le_refl _))
      have hpz := HPP.out.size
      by_cases h4 : (4096 : Int) < f.length
      · have hv0 : (convert 23 9 (.slice none 0 0)).run Try.prog wr = .ok (.string (strOfNums [])) wr := conv (l := []) 0 (Rd.nil (B := 0))
        go_wp2_with (first
          | ((with_reducible refine (wrap_long _ _ _ _ h4).mono ?_); rintro e w' ⟨rfl, rfl⟩)
          | ((with_reducible refine (rwrap_long _ _ _ _ h4).mono ?_); rintro e w' ⟨rfl, rfl⟩))
        go_ret
        exact ⟨rfl, HPP.out.below⟩
      · have h4' : (f.length : Int) ≤ 4096 := by omega
        go_wp2_with (first
          | ((with_reducible refine (wrap_ok A' _ c' f rfl _ w.heap.size HRf'.out hpz h4').mono ?_); rintro e w6 ⟨l6, A6, c6, HL6, rfl, HO6, HB6⟩; have HRf6 := Lib.hid (HRf'.out.below HB6.out hpz))
          | ((with_reducible refine (rwrap_ok A' _ c' f rfl _ w.heap.size HRf6.out (Nat.le_trans hpz HB6.out.size) h4').mono ?_); rintro e w7 ⟨l7, A7, c7, HL7, rfl, HO7, HB7⟩; have hv6 := conv c6 (Rd.of_own (HO6.out.below HB7.out (Nat.le_refl _))); have hv7 := conv c7 (Rd.of_own HO7.out); have heq : l6 = l7 := (HL6.out.trans HL7.out.symm); subst heq))
        go_ret
        exact ⟨rfl, HPP.out.below.trans ((HB6.out.trans (HB7.out.mono HB6.out.size)).mono hpz)⟩

theorem walk (w : World) (A : Option Addr) (c : Nat) (P : List (List Int)) (hr : Parts w w.heap.size A P) (hl : (P.length : Int) ≤ 140737488351232) (hx : ∀ x ∈ P, (x.length : Int) ≤ 140737488351232) (A' : Option Addr) (c' : Nat) (f : List Int) (hrf : Rd .u8 w w.heap.size A' f) (hfc : f.length ≤ c') (hfl : (f.length : Int) ≤ 140737488351232) (hfb : Byt f) :
    Calls Try.prog 3 #[.slice A P.length c, .slice A' f.length c'] w fun e w' => e = .returned (.bool true) ∧ Below w.heap.size w w' := by
  cases hfew : fewB P with
  | false => exact big1 w A c P hr hl hx A' c' f (.inl hfew)
  | true =>
    by_cases h8 : (8192 : Int) < f.length
    · exact big1 w A c P hr hl hx A' c' f (.inr ⟨hfew, h8⟩)
    · exact inner w A c P hr hl hx A' c' f hrf hfb hfew (by omega)


set_option maxRecDepth 100000 in
theorem lifted (os : Os) (started : os.Started) (H : Type) (enc : TypeId × Value → H) :
    ReturnsInHanded {} Try.checked os 3 .any (Rows.framePlaysSpec.pre6 enc Try.prog Try.f3 Rows.framePlaysRow.domain false) (Rows.framePlaysSpec.post enc Try.prog Try.f3 false true false false) := by
  refine returnsInHanded_of_change_sized (C := Try.checked) own started (by kernel_rfl) Try.func3
    (ChangeSpec.witness6 (enc := enc) (C := Try.checked) false ⟨#[], #[.slice none 0 0, .slice none 0 0], []⟩ 8 (by kernel_rfl) (by kernel_rfl) (by kernel_rfl) (by kernel_rfl)) ?_
  intro W base args ds gs before hval0 hW hcnd hsz0 _
  have hval : ∀ (j : Nat) t v, Try.f3.params[j]? = some t → args[j]? = some v → Value.okWide Try.prog W .any base t v := hval0
  have hW' := hW
  obtain ⟨p, q, hA0, hV, rfl, hfz, hnd⟩ := hW
  have hA : DataW.TrodAll enc Try.prog W 0 (fun _ => true) true Try.f3.params.toList args.toList ds p := hA0
  rw [Try.params3] at hA hval
  obtain ⟨v0, vs0, d0, ds0, p0, q0, hargs, rfl, rfl, h0, r0⟩ := trodAll_cons hA
  obtain ⟨v1, vs1, d1, ds1, p1, q1, rfl, rfl, rfl, h1, r1⟩ := trodAll_cons r0
  obtain ⟨rfl, rfl, rfl⟩ := trodAll_nil r1
  obtain rfl : args = #[v0, v1] := by cases args; simp_all
  obtain ⟨rfl, rfl⟩ := trodVars_none hV
  clear hA0 hval0
  have hsz : (DataW.weightsEach Try.prog [22, 23] [d0, d1]).all (· ≤ reachBytes) = true := hsz0
  clear hsz0
  have hlt0 : ∀ x ∈ p0, x.block < W.heap.size := fun x hx => hW'.lt x (by simp [hx])
  have hk0 := h0
  obtain ⟨A0, c0, l0, rfl, hr0, hl0, hx0⟩ := Opr.view2 (j := 0) (hval 0 22 v0 rfl rfl) h0 hsz rfl rfl
  have z1 := fun A n c => Opw.lenB (A := A) (n := n) (c := c) (j := 1) (hval 1 23 v1 rfl rfl) h1 hsz rfl rfl
  have hlt1 : ∀ x ∈ p1, x.block < W.heap.size := fun x hx => hW'.lt x (by simp [hx])
  have hk1 := h1
  obtain ⟨A1, c1, l1, rfl, hr1, hc1, hl1, hx1⟩ := Open.viewB (hval 1 23 v1 rfl rfl) h1 hlt1
  simp only [List.append_nil] at hW'
  refine (walk W A0 c0 l0 hr0 hl0 hx0 A1 c1 l1 hr1 hc1 (z1 _ _ _ rfl) hx1).mono fun e W' ⟨he, hg⟩ => ?_
  subst he
  exact ⟨_, rfl, _, _, _, [], _, [], hW', (trodAll_cons_mk (shut_bool Try.underlying4 _) trodAll_mk0), (trodAll_cons_mk (Below.trod Open.laidOut (by kernel_rfl) (of_decide_eq_true (by kernel_rfl)) hk0 hg hlt0) (trodAll_cons_mk (Below.trod Open.laidOut (by kernel_rfl) (of_decide_eq_true (by kernel_rfl)) hk1 hg hlt1) trodAll_mk0)), rfl, hg.frame _, fun h => by cases h⟩

theorem over : Rows.framePlaysRow.holds Try.pinned (OpenSpec.ofChange Rows.framePlaysSpec) :=
  OpenClaim.holds_of_wide 3 Try.f3 rfl rfl rfl rfl rfl rfl rfl ⟨rfl, rfl, rfl, rfl, rfl⟩ rfl rfl rfl rfl rfl (by kernel_rfl) Try.func3 (by kernel_rfl)
    (of_decide_eq_true (by kernel_rfl)) (by unfold Func.isWrapper; first | (rw [if_pos (by decide +kernel)]; kernel_rfl) | (rw [if_neg (by decide +kernel)]; exact ⟨rfl, rfl⟩))
    (fun os started H enc _ => lifted os started H enc)

/-- The given statement. -/
theorem proved : Rows.FramePlaysSaid :=
  over
#print axioms proved
end Go.Proofs.Ytcefkjeoknaijaa.framePlays
