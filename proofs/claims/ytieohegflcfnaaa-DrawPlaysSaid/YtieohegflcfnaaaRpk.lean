/-
  Contracts of the document's own Pick, and of Same.
-/
import Derived.Test.YtieohegflcfnaaaRef
namespace Go.Proofs.Ytieohegflcfnaaa.Con
open Go.RowKit Mth Mem

theorem Moved.rd {w w' : World} {base : Nat} {t : TypeId} {g : Nat} {r : Option Nat} {l' m : List Int} {B : Nat} {A : Option Addr} (h : Moved w w' base t g r l') (hB : B ≤ w.heap.size) (hgB : m ≠ [] → ∀ b off, A = some ⟨b, off, none⟩ → b ≠ g) (hr : Rd w B A m) : Rd w' B A m := by
  by_cases hm : m = []
  · exact .inl hm
  obtain ⟨r', _, hT, _⟩ := h
  rcases hr with rfl | ⟨b, off, hA, hb, hc⟩
  · exact .inl rfl
  · exact .inr ⟨b, off, hA, hb, fun k x hx => (World.cell?_of_block (w := w) (hT.block b (by omega) (hgB hm b off hA) (by simp))).trans (hc k x hx)⟩

/-- What the document's second loop knows at place i, the sum so far up. -/
def Upto (ws : List Int) (d up : Int) (i : Nat) : Prop := place ws d = i + place (ws.drop i) (d - up) ∧ d - up < (ws.drop i).sum ∧ 0 ≤ d - up ∧ up + (ws.drop i).sum = ws.sum
theorem Upto.start {ws : List Int} {d : Int} (h0 : 0 ≤ d) (h : d < ws.sum) : Upto ws d 0 0 := by
  unfold Upto; simp; omega
theorem Upto.lt {ws : List Int} {d up : Int} {i : Nat} (h : Upto ws d up i) : i < ws.length := by
  rcases Nat.lt_or_ge i ws.length with hl | hl
  · exact hl
  · have := h.2
    rw [List.drop_eq_nil_of_le hl] at this
    simp at this
    omega
theorem sum_nonneg {l : List Int} (h : ∀ x ∈ l, 0 ≤ x) : 0 ≤ l.sum := by
  induction l with
  | nil => simp
  | cons x r ih =>
    rw [List.sum_cons]
    have := h x (by simp)
    have := ih (fun y hy => h y (List.mem_cons_of_mem _ hy))
    omega
theorem Upto.le {ws : List Int} {d up x : Int} {i : Nat} (h : Upto ws d up i) (hx : ws[i]? = some x) (hn : ∀ x ∈ ws, 0 ≤ x) : up + x ≤ ws.sum := by
  obtain ⟨_, _, _, h4⟩ := h
  rw [sum_drop hx] at h4
  have := sum_nonneg (l := ws.drop (i + 1)) (fun y hy => hn y (List.mem_of_mem_drop hy))
  omega
theorem Upto.stop {ws : List Int} {d up x : Int} {i : Nat} (h : Upto ws d up i) (hx : ws[i]? = some x) (hd : d < up + x) : place ws d = i := by
  rw [h.1, place_stop hx (by omega)]; rfl
theorem Upto.next {ws : List Int} {d up x : Int} {i : Nat} (h : Upto ws d up i) (hx : ws[i]? = some x) (hd : ¬ d < up + x) : Upto ws d (up + x) (i + 1) := by
  obtain ⟨h1, h2, h3, h4⟩ := h
  rw [sum_drop hx] at h2 h4
  refine ⟨?_, by omega, by omega, by omega⟩
  rw [h1, place_next hx (by omega), show d - up - x = d - (up + x) by omega]
  omega

set_option maxHeartbeats 2000000 in
set_option maxRecDepth 100000 in
theorem rpick_any (w : World) (base g : Nat) (r : Option Nat) (l ws : List Int) (B : Nat) (A : Option Addr) (c : Nat) (h : Str w base 32 g r l) (hl : l.length ≤ 4096) (hr : Rd w B A ws) (hB : B ≤ w.heap.size) (hA : ws ≠ [] → ∀ b off, A = some ⟨b, off, none⟩ → b ≠ g) (hm : ws.length ≤ 9223372036854770000) :
    Calls Try.prog 17 #[.pointer (some ⟨g, 0, none⟩), .slice A ws.length c] w fun e w' => e = .returned (.tuple #[.int .i64 (pv (pick l ws)), .bool (pb (pick l ws))]) ∧ Went w w' base 32 g r (l.drop (pu (pick l ws))) := by
  have HS := Lib.hid h; have HR := Lib.hid hr; have HA := Lib.hid hA
  clear h hr hA
  go_enter Try.func17, Try.ntmps17
  go_wp2
  go_loopg [6, 7] ws.length (fun gh s6 s7 wr => ∃ (k : Nat) (s : Int), k ≤ ws.length ∧ gh = ws.length - k ∧ s6 = .int .i64 s ∧ 0 ≤ s ∧ s ≤ 4294967296 ∧ s7 = .int .i64 k ∧ w = wr ∧ Hid (tot ws 0 = tot (ws.drop k) s))
  case atStart => exact ⟨0, 0, by omega, rfl, rfl, by omega, by omega, rfl, rfl, rfl⟩
  case round =>
    obtain ⟨k, s, hk, rfl, rfl, hs0, hs1, rfl, rfl, hs⟩ := hrel
    by_cases hlt : k < ws.length
    · obtain ⟨b, off, x, rfl, _, hx, hc⟩ := HR.out.at' hlt
      have HX := Lib.hid hx; clear hx
      by_cases h0 : x < 0
      · have HP := Lib.hid (pick_tot (l := l) (hs.out.trans (tot_no HX.out (.inl h0))))
        go_wp2
        go_ret2
        exact ⟨by rw [HP.out]; rfl, by rw [HP.out]; exact Went.same HS.out⟩
      · have h0' : decide (x < 0) = false := by simpa using h0
        by_cases h1 : 4294967296 - s < x
        · have HP := Lib.hid (pick_tot (l := l) (hs.out.trans (tot_no HX.out (.inr h1))))
          go_wp2
          go_ret2
          exact ⟨by rw [HP.out]; rfl, by rw [HP.out]; exact Went.same HS.out⟩
        · have h1' : decide (4294967296 - s < x) = false := by simpa using h1
          go_wp2
          go_roundg (ws.length - (k + 1))
          case measure => omega
          case rel => exact ⟨k + 1, s + x, by omega, rfl, rfl, by omega, by omega, by go_num, rfl, hs.out.trans (tot_next HX.out (by omega) (by omega))⟩
    · have ht : tot ws 0 = some s := hs.out.trans (tot_end (by omega))
      clear hs
      rcases hf : fair l s with _ | ⟨d, u⟩
      · have HP := Lib.hid (pick_fair ht hf); have HF := Lib.hid hf
        clear ht hf
        go_wp2_with ((with_reducible refine (rbelow_none _ base g r l s HS.out hl HF.out).mono ?_); rintro e w1 ⟨rfl, hw⟩; have HW := Lib.hid hw; clear hw)
        refine wp_loop_rounds 1 ?_
        rw [rounds_succ]
        by_cases he : 0 < ws.length
        · have he' : (0 : Int) < ws.length := by omega
          go_wp2
          go_ret2
          exact ⟨by rw [HP.out]; rfl, by rw [HP.out]; exact HW.out.went⟩
        · have he' : decide ((0 : Int) < ws.length) = false := decide_eq_false (by omega)
          have he2 : decide (0 < ws.length) = false := decide_eq_false (by omega)
          go_wp2
          go_ret2
          exact ⟨by rw [HP.out]; rfl, by rw [HP.out]; exact HW.out.went⟩
      · have hfs := fair_some hf
        have hts := tot_some ht
        have HP := Lib.hid (pick_some ht hf); have HF := Lib.hid hf
        have hd0 : 0 ≤ d := hfs.2.2.1
        have hds : d < s := hfs.2.2.2.1
        have HU := Lib.hid (Upto.start hd0 (show d < ws.sum by omega))
        have HNN := Lib.hid hts.1
        have hss : ws.sum ≤ 4294967296 := by omega
        clear ht hf hfs hts
        go_wp2_with ((with_reducible refine (rbelow_some _ base g r l s d u HS.out hl HF.out).mono ?_); rintro e w1 ⟨rfl, hw⟩; have HR1 := Lib.hid (Moved.rd hw hB HA.out HR.out); have HW := Lib.hid hw; clear hw)
        go_loopg [10, 11] ws.length (fun gh s10 s11 wr => ∃ (i : Nat) (up : Int), i ≤ ws.length ∧ gh = ws.length - i ∧ s10 = .int .i64 up ∧ 0 ≤ up ∧ up ≤ 4294967296 ∧ s11 = .int .i64 i ∧ w1 = wr ∧ Hid (Upto ws d up i))
        case atStart => exact ⟨0, 0, by omega, rfl, rfl, by omega, by omega, rfl, rfl, HU.out⟩
        case round =>
          obtain ⟨i, up, hi, rfl, rfl, hu0, hu1, rfl, rfl, hU⟩ := hrel
          clear HU
          have hil := hU.out.lt
          have hil' : (i : Int) < ws.length := by omega
          have hup : up ≤ d := by have := hU.out.2.2; omega
          obtain ⟨b, off, x, rfl, _, hx, hc⟩ := HR1.out.at' hil
          have hx0 : 0 ≤ x := HNN.out x (List.mem_of_getElem? hx)
          have hle := hU.out.le hx HNN.out
          have hux : up + x ≤ 4294967296 := by omega
          have HX := Lib.hid hx; clear hx hle
          by_cases hq : d < up + x
          · have HE := Lib.hid (hU.out.stop HX.out hq)
            go_wp2
            go_ret2
            exact ⟨by rw [HP.out]; show _ = Ending.returned (.tuple #[.int .i64 (place ws d), .bool true]); rw [HE.out]; rfl, by rw [HP.out]; exact HW.out.went⟩
          · have hq' : decide (d < up + x) = false := by simpa using hq
            have HN := Lib.hid (hU.out.next HX.out hq)
            go_wp2
            go_roundg (ws.length - (i + 1))
            case measure => omega
            case rel => exact ⟨i + 1, up + x, by omega, rfl, rfl, by omega, by omega, by go_num, rfl, HN.out⟩

set_option maxHeartbeats 1000000 in
/-- Same of two slices that read alike. -/
theorem same_any (B B' : Nat) (A A' : Option Addr) (n c c' : Nat) (p : List Int) (w : World) (hn : p.length = n) (hr : Rd w B A p) (hr' : Rd w B' A' p) (hl : n ≤ 9223372036854770000) :
    Calls Try.prog 20 #[.slice A n c, .slice A' n c'] w fun e w' => e = .returned (.bool true) ∧ ∃ q, w' = w.drewN q := by
  subst hn
  have HR := Lib.hid hr; have HR' := Lib.hid hr'
  clear hr hr'
  go_enter Try.func20, Try.ntmps20
  go_wp2
  go_loopg [5] p.length (fun gh s5 wr => ∃ k q : Nat, k ≤ p.length ∧ gh = p.length - k ∧ s5 = .int .i64 k ∧ wr = w.drewN q)
  case atStart => exact ⟨0, 0, by omega, rfl, rfl, rfl⟩
  case round =>
    obtain ⟨k, q, hk, rfl, rfl, rfl⟩ := hrel
    by_cases hlt : k < p.length
    · obtain ⟨b, off, x, rfl, _, hx, hc⟩ := HR.out.at' hlt
      obtain ⟨b', off', x', rfl, _, hx', hc'⟩ := HR'.out.at' hlt
      obtain rfl : x = x' := by rw [hx] at hx'; exact Option.some.inj hx'
      clear hx hx'
      have hlt' : (k : Int) < p.length := by omega
      have e0 : (0 : Int) ≤ k := by omega
      go_wp2
      go_quiet (fail)
      go_wp2
      go_roundg (p.length - (k + 1))
      case measure => omega
      case rel => exact ⟨k + 1, _, by omega, rfl, by go_num, rfl⟩
    · go_wp2
      go_ret
      exact ⟨rfl, q, rfl⟩
end Go.Proofs.Ytieohegflcfnaaa.Con
