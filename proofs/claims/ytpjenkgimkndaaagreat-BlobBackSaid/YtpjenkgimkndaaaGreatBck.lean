/-
  Contracts of Decode at bytes of content and at short bytes, and of content.Same at content without anything, as the laws want them.
-/
import Derived.Test.YtpjenkgimkndaaaGreatSma
import Derived.Test.YtpjenkgimkndaaaGreatFew
import Derived.Test.YtpjenkgimkndaaaGreatSam
namespace Go.Proofs.YtpjenkgimkndaaaGreat.Con
open Go.RowKit Go.Maps Pm Mth

theorem flat_ge {α : Type} {g : α → List Int} {l : List α} (h : ∀ x ∈ l, 1 ≤ (g x).length) : l.length ≤ (fRows g l).length := by
  unfold fRows
  rw [List.length_cons]
  have : l.length ≤ (l.flatMap g).length := by
    induction l with
    | nil => simp
    | cons x r ih =>
      rw [List.flatMap_cons, List.length_append, List.length_cons]
      have h1 := h x (by simp)
      have h2 := ih (fun y hy => h y (List.mem_cons_of_mem _ hy))
      omega
  omega
theorem flat_mem {α : Type} {g : α → List Int} {l : List α} {a : α} (h : a ∈ l) : (g a).length ≤ (fRows g l).length := by
  unfold fRows
  rw [List.length_cons]
  have : (g a).length ≤ (l.flatMap g).length := by
    induction l with
    | nil => cases h
    | cons x r ih =>
      rw [List.flatMap_cons, List.length_append]
      rcases List.mem_cons.1 h with rfl | h
      · omega
      · have := ih h; omega
  omega
/-- Content of few numbers is short in all its rows. -/
theorem sm_flat {d : Cn} (h : (fCn d).length ≤ 50000) : Sm d := by
  have e : (fCn d).length = (fRows fAb d.ab).length + (fRows fAu d.au).length + (fRows fFo d.fo).length + 2 + (fRows fTr d.wl).length + 2 + 2 := by simp [fCn]; omega
  have e1 := flat_ge (g := fAb) (l := d.ab) (fun x _ => by simp [fAb])
  have e2 := flat_ge (g := fAu) (l := d.au) (fun x _ => by simp [fAu])
  have e3 := flat_ge (g := fFo) (l := d.fo) (fun x _ => by simp [fFo])
  have e4 := flat_ge (g := fTr) (l := d.wl) (fun x _ => by simp [fTr])
  refine ⟨by omega, by omega, by omega, by omega, fun a ha => ?_, fun a ha => ?_, fun a ha => ?_⟩
  · have := flat_mem (g := fAb) ha
    have := flat_ge (g := fEf) (l := a.eff) (fun x _ => by simp [fEf])
    have : (fAb a).length = 7 + (fRows fEf a.eff).length := by simp [fAb]; omega
    omega
  · have := flat_mem (g := fFo) ha
    have := flat_ge (g := fLn) (l := a.script) (fun x _ => by simp [fLn])
    have : (fFo a).length = 6 + (fRows fLn a.script).length + (fRows fPz a.hoard).length := by simp [fFo]; omega
    omega
  · have := flat_mem (g := fFo) ha
    have := flat_ge (g := fPz) (l := a.hoard) (fun x _ => by simp [fPz])
    have : (fFo a).length = 6 + (fRows fLn a.script).length + (fRows fPz a.hoard).length := by simp [fFo]; omega
    omega
theorem few_len {c : Cn} (h : FewP c) : (fCn c).length ≤ 200000 := by
  obtain ⟨h1, h2, h3, h4, h5, h6⟩ := h
  refine fCn_len ⟨by omega, by omega, by omega, by omega⟩ (fun a ha => ?_) (fun f hf => ?_) (fun f hf => ?_)
  · obtain ⟨i, hi, rfl⟩ := List.getElem_of_mem ha; exact h1 i _ (by omega) (List.getElem?_eq_getElem hi)
  · obtain ⟨i, hi, rfl⟩ := List.getElem_of_mem hf; exact (h2 i _ (by omega) (List.getElem?_eq_getElem hi)).1
  · obtain ⟨i, hi, rfl⟩ := List.getElem_of_mem hf; exact (h2 i _ (by omega) (List.getElem?_eq_getElem hi)).2
theorem en_short {l : List Int} (h : l.length ≤ 200000) (hf : Fit l) : ((En l).length : Int) ≤ 3000000 := by
  have := wl_len hf
  have := dg_len10 (n := l.length) (by omega)
  unfold En mk4; simp only [List.length_append, List.length_cons, List.length_nil]; omega
/-- Decode of written content that is right. -/
theorem dec_en {w : World} {A : Option Addr} {cc : Nat} {c : Cn} {lx : List Int} (hx : lx = En (fCn c)) (hf : Fit (fCn c)) (hl : (fCn c).length ≤ 200000) (hs : Sm c) (hr : RightC c) (ho : Rd .u8 w w.heap.size A lx) (hc : lx.length ≤ cc) :
    Calls Tryz.prog 18 #[.slice A lx.length cc] w fun e w' => ∃ k, e = .returned (.tuple #[cnv k, .int .i64 0]) ∧ Hid (k.pl = c.pl) ∧ Hid (RC w' w'.heap.size k) ∧ Hid (Below w.heap.size w w') := by
  subst hx
  have hlen := en_short hl hf
  have hd := dc_en (c := c) hf
  refine (decode_any A cc _ w w.heap.size ho (Nat.le_refl _) (en_byt _) hc (by omega) (fun l h => by
      have := dl_uniq (by omega) h (show DL (En (fCn c)) (some (fCn c)) from ⟨rfl, hf⟩)
      injection this with this
      subst this; omega) (fun d h => by
      have := dc_uniq (by omega) h hd
      injection this with this
      subst this
      exact hs.of_pl (by simp [Cn.pl, Ab.pl, Fo.pl, Function.comp_def]))).mono ?_
  rintro e w' ⟨k, er, rfl, HK, HO, HB⟩
  obtain ⟨o, h1, h2⟩ := HO.out
  have := dc_uniq (by omega) h1 hd
  subst this
  rcases h2 with ⟨h, _⟩ | ⟨d, h, h3, _⟩ | ⟨d, h, _, h3, rfl⟩
  · cases h
  · injection h with h
    subst h
    exact absurd ((rightC_pl _).2 hr) h3
  · injection h with h
    exact ⟨k, rfl, Lib.hid (h3.trans h.symm), Lib.hid HK.out.rc, HB⟩
/-- Decode of short bytes: of none, of content that is not right, or of one that is. -/
theorem dec_short {w : World} {B : Nat} {A : Option Addr} {cc : Nat} {l : List Int} (hr : Rd .u8 w B A l) (hB : B ≤ w.heap.size) (hb : Byt l) (hc : l.length ≤ cc) (hl : (l.length : Int) ≤ 4096) :
    Calls Tryz.prog 18 #[.slice A l.length cc] w fun e w' => (∃ er : Int, (er = 1 ∨ er = 2) ∧ e = .returned (.tuple #[.agg #[.slice none 0 0, .slice none 0 0, .slice none 0 0, .int .i64 0, .int .i64 0, .slice none 0 0, .int .i64 0, .int .i64 0, .int .i64 0, .int .i64 0], .int .i64 er]) ∧ Hid (Below w.heap.size w w')) ∨ (∃ k : Cn, e = .returned (.tuple #[cnv k, .int .i64 0]) ∧ Hid (RightC k ∧ l = En (fCn k) ∧ Fit (fCn k) ∧ (fCn k).length ≤ 4096) ∧ Hid (RC w' w'.heap.size k) ∧ Hid (Below w.heap.size w w')) := by
  refine (decode_any A cc l w B hr hB hb hc (by omega) (fun m h => by have := en_long m; rw [← h.1] at this; omega) (fun d h => by
      obtain ⟨e1, _, _⟩ := dc_some h
      have := en_long (fCn d)
      rw [← e1] at this
      exact sm_flat (by omega))).mono ?_
  rintro e w' ⟨k, er, rfl, HK, HO, HB⟩
  obtain ⟨o, h1, h2⟩ := HO.out
  rcases h2 with ⟨_, rfl, rfl⟩ | ⟨d, _, _, rfl, rfl⟩ | ⟨d, h, hr, h3, rfl⟩
  · exact .inl ⟨2, .inr rfl, rfl, HB⟩
  · exact .inl ⟨1, .inl rfl, rfl, HB⟩
  · subst h
    obtain ⟨e1, e2, e3⟩ := dc_some h1
    have hk : fCn k = fCn d := by rw [← fCn_pl k, h3]
    have := en_long (fCn d)
    rw [← e1] at this
    refine .inr ⟨k, rfl, Lib.hid ⟨(rightC_of (h3.trans e3.symm)).2 hr, by rw [hk]; exact e1, by rw [hk]; exact e2, by rw [hk]; omega⟩, Lib.hid HK.out.rc, HB⟩
theorem same_zero (w : World) : Calls Tryz.prog 21 #[.agg #[.slice none 0 0, .slice none 0 0, .slice none 0 0, .int .i64 0, .int .i64 0, .slice none 0 0, .int .i64 0, .int .i64 0, .int .i64 0, .int .i64 0], .agg #[.slice none 0 0, .slice none 0 0, .slice none 0 0, .int .i64 0, .int .i64 0, .slice none 0 0, .int .i64 0, .int .i64 0, .int .i64 0, .int .i64 0]] w fun e w' => e = .returned (.bool true) ∧ Below w.heap.size w w' :=
  same_c zCn zCn (rc_zero w 0) (rc_zero w 0) (Nat.zero_le _) ⟨by simp [zCn], by simp [zCn], by simp [zCn], by simp [zCn], by simp [zCn], by simp [zCn], by simp [zCn]⟩ true (by simp)
end Go.Proofs.YtpjenkgimkndaaaGreat.Con
