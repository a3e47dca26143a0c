/-
  Contract of the document's Decode.
-/
import Derived.Test.YtadpajkjjmdcnaaDoorMsd
namespace Go.Proofs.YtadpajkjjmdcnaaDoor.Con
open Go.RowKit Pm Mth
set_option linter.unusedVariables false

set_option maxRecDepth 20000 in
set_option maxHeartbeats 4000000 in
theorem rdecode_any (A : Option Addr) (c : Nat) (b : List Int) (w : World) (B : Nat) (hr : Rd .u8 w B A b) (hB : B ≤ w.heap.size) (hl : (b.length : Int) ≤ 100000) (hb : Byt b) (hc : b.length ≤ c) :
    Calls Tryd.prog 16 #[.slice A b.length c] w (DA w b) := by
  have HRa : Hid (∀ V, Below w.heap.size w V → Rd .u8 V B A b) := Lib.hid (fun V hV => hr.below hV hB)
  have HBy := Lib.hid hb; have HBw := Lib.hid hB; have HC := Lib.hid hc
  by_cases h0 : b.length = 0
  · have HD : Hid (zM = deC b ∧ (2 : Int) = deE b) := Lib.hid (de_zero (de_none (by cases b with
      | nil => rfl
      | cons x r => simp at h0)))
    have h0' : ((b.length : Int) == 0) = true := by simpa using h0
    clear hr hB hb hc
    go_enter Tryd.func16, Tryd.ntmps16
    go_wp2
    refine bodyPost_ret (by simp [results, Tryd.results16, go_sem]; try rfl) rfl ?_
    exact ⟨none, 0, zM, 2, HD, rfl, Lib.hid (own_none _ _ _ _), Lib.hid (by go_grown)⟩
  · have h0' : ((b.length : Int) == 0) = false := by simpa using h0
    have hlt0 : 0 < b.length := by omega
    have hlt0' : (0 : Int) < b.length := by omega
    obtain ⟨p, off, d, rfl, hpB, hd, hcell⟩ := hr.at' hlt0
    have hpw : p < w.heap.size := by omega
    obtain ⟨hd0, hd1⟩ := hb.at hd
    have HD := Lib.hid hd
    rw [Nat.add_zero] at hcell
    have HP := Lib.hid (fun V => rsize_any d V (by omega) (by omega))
    have HN := Lib.hid (szN_le d)
    have hcell2 : (w.alloc (.cells #[.int .i64 0, .slice none 0 0, .string { data := #[] }] 24)).cell? ⟨p, off, none⟩ = some (.int .u8 d) := (World.cell?_of_block (Below.heap_alloc w _ p hpw)).trans hcell
    have hX0 : Bx (w.alloc (.cells #[.int .i64 0, .slice none 0 0, .string { data := #[] }] 24)) w.heap.size zM none 0 := heap_alloc_new w _
    have hs0 : (w.alloc (.cells #[.int .i64 0, .slice none 0 0, .string { data := #[] }] 24)).heap.size = w.heap.size + 1 := by simp
    have HX1 : Hid (Bx ((w.alloc (.cells #[.int .i64 0, .slice none 0 0, .string { data := #[] }] 24)).alloc (.cells #[.int .i64 d, .slice none 0 0, .string { data := #[] }] 24)) w.heap.size zM none 0) := Lib.hid (hX0.alloc _)
    have HY1 : Hid (Bx ((w.alloc (.cells #[.int .i64 0, .slice none 0 0, .string { data := #[] }] 24)).alloc (.cells #[.int .i64 d, .slice none 0 0, .string { data := #[] }] 24)) (w.heap.size + 1) ⟨d, [], []⟩ none 0) := Lib.hid (by rw [← hs0]; exact heap_alloc_new _ _)
    have HV1 : Hid (Below w.heap.size w ((w.alloc (.cells #[.int .i64 0, .slice none 0 0, .string { data := #[] }] 24)).alloc (.cells #[.int .i64 d, .slice none 0 0, .string { data := #[] }] 24))) := Lib.hid (by go_grown)
    clear hr hB hb hc hd h0 hcell hX0 hs0
    generalize hnn : szN d = n at HP HN
    have HNn := Lib.hid hnn; clear hnn
    have y0 := HY1.out.at.1
    simp only at y0
    go_enter Tryd.func16, Tryd.ntmps16
    go_wp2_with ((with_reducible refine (HP.out _).mono ?_); rintro e w3 ⟨rfl, rfl⟩)
    clear hcell2 y0
    generalize (w.alloc (.cells #[.int .i64 0, .slice none 0 0, .string { data := #[] }] 24)).alloc (.cells #[.int .i64 d, .slice none 0 0, .string { data := #[] }] 24) = w1 at *
    have hn10 : (n : Int) ≤ 10 := by have := HN.out; omega
    generalize hR : w.heap.size + 1 = R at *
    have HR := Lib.hid hR; clear hR
    go_loopg [7, 8] n (fun g s7 s8 wr => ∃ (j : Nat) (ls : List Int) (A3 : Option Addr) (c3 : Nat) (a : Int), j ≤ n ∧ g = n - j ∧ s7 = .int .i64 a ∧ s8 = .int .i64 (j : Int) ∧ Hid (Own wr (R + 1) .i64 3 A3 c3 ls) ∧ Hid (Below w.heap.size w wr) ∧ Hid (Bx wr w.heap.size zM none 0) ∧ Hid (Bx wr R ⟨d, ls, []⟩ A3 c3) ∧ Hid (ls.length = j) ∧ Hid (1 ≤ a ∧ a ≤ b.length) ∧ Hid (rl b n 1 = pre ls (rl b (n - j) a)))
    case atStart => exact ⟨0, [], none, 0, 1, by omega, rfl, rfl, rfl, Lib.hid (own_none _ _ _ _), HV1, HX1, HY1, Lib.hid rfl, Lib.hid (by omega), Lib.hid (pre_nil _).symm⟩
    case round =>
      obtain ⟨j, ls, A3, c3, a, hj, rfl, rfl, rfl, HO3, HB3, HX3, HY3, HL3, HA, HE⟩ := hrel
      have ha0 : -9223372036854775808 ≤ a := by have := HA.out; omega
      have ha1 : a ≤ 9223372036854775807 := by have := HA.out; omega
      by_cases hjn : j < n
      · have hjn' : (j : Int) < n := by omega
        rcases hri : ri b a with _ | ⟨v, k⟩
        · have HRi := Lib.hid hri
          have HDn : Hid (zM = deC b ∧ (2 : Int) = deE b) := Lib.hid (de_zero (de_none (say_none HD.out (by rw [HNn.out]; exact rl_stop hjn HE.out hri))))
          obtain ⟨z0, z1, z2⟩ := HX3.out.at
          simp only [zM] at z0 z1 z2
          have zf := frozOf' HX3.out
          clear hri
          go_wp2_with ((with_reducible refine (Pk.rri_no (some ⟨p, off, none⟩) c b a _ B (HRa.out _ HB3.out) (by omega) HBy.out ha1 HRi.out).mono ?_); rintro e w4 ⟨rfl, rfl⟩)
          obtain ⟨q0, q1, q2⟩ := HX3.out.zero
          refine bodyPost_ret (by simp [results, Tryd.results16, go_sem, q0, q1, q2]; try rfl) rfl ?_
          exact ⟨none, 0, zM, 2, HDn, rfl, Lib.hid (own_none _ _ _ _), Lib.hid (below_put HB3.out (Nat.le_refl _) zM none 0)⟩
        · have HRi := Lib.hid hri
          obtain ⟨_, hv0, hv1, hk0, hk1⟩ := ri_bound HBy.out hri
          have hls : (ls.length : Int) ≤ 10 := by have := HL3.out; omega
          have y1 := HY3.out.at.2.1
          simp only at y1
          clear hri
          go_wp2_with (first
            | ((with_reducible refine (Pk.rri_yes (some ⟨p, off, none⟩) c b a _ B (HRa.out _ HB3.out) (by omega) HBy.out ha1 HRi.out).mono ?_); rintro e w4 ⟨rfl, rfl⟩)
            | (at_builtin; refine wpList_app (K := .i64) (t := 22) (e := 3) Tryd.underlying22 int_info rfl (by omega) rfl (.tmp 44) (.tmp 46) rfl (R + 1) (wr.heap.size + 1) A3 c3 ls [v] (some ⟨wr.heap.size, 0, none⟩) 1 rfl rfl (HO3.out.alloc _) (own_new wr v) (by simp; omega) (by have := HY3.out.lt; simp; omega) ?_; intro A4 c4 w4 l4 HL4 HO4 HS4; have HB4 : Hid (Below (R + 1) wr w4) := Lib.hid ((Below.alloc (Below.refl _ _) (by have := HY3.out.lt; omega) _).trans (HS4.out.below (fun k hk => (HO3.out.lt k hk).1) (by have := HY3.out.lt; simp; omega))); have HY4 := Lib.hid (HY3.out.of HB4.out (Nat.lt_succ_self _)); have y4 := HY4.out.at.2.1; simp only at y4; have yf := frozOf' HY4.out))
          go_roundg (n - (j + 1))
          case measure => omega
          case rel =>
            have hRw := HR.out
            refine ⟨j + 1, l4, A4, c4, k, by omega, rfl, rfl, by go_num, Lib.hid (own_set_other HO4.out (Nat.lt_succ_self _) _), Lib.hid (below_set (HB3.out.trans (HB4.out.mono (by omega))) (by omega) _), Lib.hid (Bx.other (HX3.out.of HB4.out (by omega)) (by omega) _ _), Lib.hid (HY4.out.set1 l4 A4 c4), Lib.hid (by rw [HL4.out, List.length_append, HL3.out]; rfl), Lib.hid (by have := HA.out; omega), Lib.hid (rl_next hjn HE.out HRi.out HL4.out)⟩
      · have hjn' : decide ((j : Int) < n) = false := by simp; omega
        have hjn2 : decide (j < n) = false := by simpa using hjn
        obtain ⟨z, rfl⟩ : ∃ z : Nat, a = (z : Int) := ⟨a.toNat, by have := HA.out; omega⟩
        have hz0 : (z : Int) ≤ b.length := by have := HA.out; omega
        have hz1 : z ≤ b.length := by omega
        have hz2 : z ≤ c := by have := HC.out; omega
        have hz3 : (z : Int) ≤ c := by omega
        have hSy := say_some HD.out (by rw [HNn.out]; exact rl_at (by omega) HE.out)
        rw [Int.toNat_natCast] at hSy
        have hRd := (HRa.out _ HB3.out).cut z
        have hlen : (b.drop z).length = b.length - z := List.length_drop
        generalize b.drop z = m at hRd hlen hSy
        obtain ⟨hf, hg1, hg2, hg3⟩ := ld_say HBy.out hSy
        clear hg1 hg2 hg3
        have HRi := Lib.hid (fun V => rright_any ⟨d, ls, m⟩ A3 c3 hf (by have := HL3.out; simp only; omega) (by have := hlen; simp only; omega) V)
        have HSy := Lib.hid hSy; have HL := Lib.hid hlen; have HRd := Lib.hid hRd
        clear hSy hf hlen hRd
        have hRw := HR.out
        have HX5 := Lib.hid (HX3.out.other (by omega) (.string (strOfNums m)) 2 (r := R))
        have HY5 := Lib.hid (HY3.out.set2 m)
        have HV5 := Lib.hid (below_set HB3.out (by omega) (.string (strOfNums m)) (b := R) (o := 2))
        have HO5 := Lib.hid (own_set_other HO3.out (Nat.lt_succ_self R) (.string (strOfNums m)) (o := 2))
        have x2 := HY3.out.at.2.2
        simp only at x2
        have yf := frozOf' HY3.out
        obtain ⟨y0, y1, y2⟩ := HY5.out.at
        simp only at y0 y1 y2
        clear hRw
        by_cases hcz : c = z
        · subst hcz
          have e0 : b.length - c = 0 := by have := HC.out; omega
          obtain rfl : m = [] := List.eq_nil_of_length_eq_zero (by have := HL.out; omega)
          have hcv : (convert 27 9 (.slice (some ⟨p, off, none⟩) (b.length - c) 0)).run Tryd.prog wr = .ok (.string (strOfNums [])) wr := by
            have := conv (c := 0) (Rd.nil (K := .u8) (w := wr) (B := B) (A := some ⟨p, off, none⟩))
            rw [e0]; exact this
          clear e0
          cases hrt : rtM ⟨d, ls, []⟩ with
          | false =>
            have HDn := Lib.hid (de_zero (de_bad HSy.out hrt))
            rw [hrt] at HRi
            clear hrt
            go_wp2_with ((with_reducible refine (HRi.out _).mono ?_); rintro e w6 ⟨rfl, hB6⟩; have HB6 := Lib.hid hB6; have HX6 := Lib.hid (HX5.out.of hB6 HX5.out.lt); have hz6 := HX6.out.at; obtain ⟨z0, z1, z2⟩ := hz6; simp only [zM] at z0 z1 z2; have zf := frozOf' HX6.out; clear hB6)
            obtain ⟨q0, q1, q2⟩ := HX6.out.zero
            refine bodyPost_ret (by simp [results, Tryd.results16, go_sem, q0, q1, q2]; try rfl) rfl ?_
            exact ⟨none, 0, zM, 2, HDn, rfl, Lib.hid (own_none _ _ _ _), Lib.hid (below_put (below_more HV5.out HB6.out) (Nat.le_refl _) zM none 0)⟩
          | true =>
            have HDn := Lib.hid (de_some (de_good HSy.out hrt))
            rw [hrt] at HRi
            clear hrt
            go_wp2_with ((with_reducible refine (HRi.out _).mono ?_); rintro e w6 ⟨rfl, hB6⟩; have HB6 := Lib.hid hB6; have HX6 := Lib.hid (HX5.out.of hB6 HX5.out.lt); have hz6 := HX6.out.at; obtain ⟨z0, z1, z2⟩ := hz6; simp only [zM] at z0 z1 z2; have zf := frozOf' HX6.out; have HY6 := Lib.hid (HY5.out.of hB6 HY5.out.lt); have hy6 := HY6.out.at; obtain ⟨v0, v1, v2⟩ := hy6; simp only at v0 v1 v2; clear hB6)
            obtain ⟨q0, q1, q2⟩ := (HX6.out.put ⟨d, ls, []⟩ A3 c3).at
            simp only [put] at q0 q1 q2
            refine bodyPost_ret (by simp [results, Tryd.results16, go_sem, q0, q1, q2]; try rfl) rfl ?_
            have hRw := HR.out
            exact ⟨A3, c3, ⟨d, ls, []⟩, 0, HDn, rfl, Lib.hid (own_base (own_put (HO5.out.below HB6.out (Nat.le_refl _)) (by omega) ⟨d, ls, []⟩ A3 c3) (by omega)), Lib.hid (below_put (below_more HV5.out HB6.out) (Nat.le_refl _) ⟨d, ls, []⟩ A3 c3)⟩
        · have hcv := conv (c := c - z) HRd.out
          rw [HL.out] at hcv
          cases hrt : rtM ⟨d, ls, m⟩ with
          | false =>
            have HDn := Lib.hid (de_zero (de_bad HSy.out hrt))
            rw [hrt] at HRi
            clear hrt
            go_wp2_with ((with_reducible refine (HRi.out _).mono ?_); rintro e w6 ⟨rfl, hB6⟩; have HB6 := Lib.hid hB6; have HX6 := Lib.hid (HX5.out.of hB6 HX5.out.lt); have hz6 := HX6.out.at; obtain ⟨z0, z1, z2⟩ := hz6; simp only [zM] at z0 z1 z2; have zf := frozOf' HX6.out; clear hB6)
            obtain ⟨q0, q1, q2⟩ := HX6.out.zero
            refine bodyPost_ret (by simp [results, Tryd.results16, go_sem, q0, q1, q2]; try rfl) rfl ?_
            exact ⟨none, 0, zM, 2, HDn, rfl, Lib.hid (own_none _ _ _ _), Lib.hid (below_put (below_more HV5.out HB6.out) (Nat.le_refl _) zM none 0)⟩
          | true =>
            have HDn := Lib.hid (de_some (de_good HSy.out hrt))
            rw [hrt] at HRi
            clear hrt
            go_wp2_with ((with_reducible refine (HRi.out _).mono ?_); rintro e w6 ⟨rfl, hB6⟩; have HB6 := Lib.hid hB6; have HX6 := Lib.hid (HX5.out.of hB6 HX5.out.lt); have hz6 := HX6.out.at; obtain ⟨z0, z1, z2⟩ := hz6; simp only [zM] at z0 z1 z2; have zf := frozOf' HX6.out; have HY6 := Lib.hid (HY5.out.of hB6 HY5.out.lt); have hy6 := HY6.out.at; obtain ⟨v0, v1, v2⟩ := hy6; simp only at v0 v1 v2; clear hB6)
            obtain ⟨q0, q1, q2⟩ := (HX6.out.put ⟨d, ls, m⟩ A3 c3).at
            simp only [put] at q0 q1 q2
            refine bodyPost_ret (by simp [results, Tryd.results16, go_sem, q0, q1, q2]; try rfl) rfl ?_
            have hRw := HR.out
            exact ⟨A3, c3, ⟨d, ls, m⟩, 0, HDn, rfl, Lib.hid (own_base (own_put (HO5.out.below HB6.out (Nat.le_refl _)) (by omega) ⟨d, ls, m⟩ A3 c3) (by omega)), Lib.hid (below_put (below_more HV5.out HB6.out) (Nat.le_refl _) ⟨d, ls, m⟩ A3 c3)⟩
end Go.Proofs.YtadpajkjjmdcnaaDoor.Con
