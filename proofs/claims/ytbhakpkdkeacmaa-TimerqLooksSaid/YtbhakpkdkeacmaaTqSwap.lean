/-
  The contract of the queue's Swap.
-/
import Derived.Test.YtbhakpkdkeacmaaTqHeap
namespace Go.Proofs.Ytbhakpkdkeacmaa.Tq
open Go.RowKit Go.Maps

theorem law3 : Keyed Try.prog 3 := int_keyed Try.underlying3
theorem wf_nat {n : Nat} (h : n ≤ 9223372036854775807) : (Lit.int .i64 (n : Int)).wf = true := WalkArith.wf_i64 (by omega)

set_option maxHeartbeats 1000000 in
theorem swap_any {w : World} {B q mb : Nat} {now : Int} {V : Value} {ts : List Tm} {D : DataW Unit} (h : QM w B q mb now V ts D) {i j : Nat} {a b : Tm} (hi : ts[i]? = some a) (hj : ts[j]? = some b) (hne : i ≠ j) (hsz : Maps.size D + 2 < maxLen) :
    Calls Try.prog 54 #[.pointer (some ⟨q, 0, none⟩), .int .i64 i, .int .i64 j] w fun e w' => e = .returned (.tuple #[]) ∧
      QM w' B q mb now V ((ts.set i b).set j a) ((D.put (.int .i64 b.1) (.lit (.int .i64 i))).put (.int .i64 a.1) (.lit (.int .i64 j))) ∧ Fr B w w' := by
  have hil : i < ts.length := (List.getElem?_eq_some_iff.1 hi).1
  have hjl : j < ts.length := (List.getElem?_eq_some_iff.1 hj).1
  obtain ⟨g, cap, rfl, hb, hg, hc, hm, _⟩ := h.form (by omega)
  obtain ⟨ci0, ci1⟩ := h.at_ hi
  obtain ⟨cj0, cj1⟩ := h.at_ hj
  have c1 := h.c1
  have hq := h.lt
  have f0 := h.fzr (i * 2)
  have f1 := h.fzr (i * 2 + 1)
  have f2 := h.fzr (j * 2)
  have f3 := h.fzr (j * 2 + 1)
  have wa : (Lit.int .i64 a.1).wf = true := h.wf a (List.mem_of_getElem? hi)
  have wb : (Lit.int .i64 b.1).wf = true := h.wf b (List.mem_of_getElem? hj)
  have hm' : cap ≤ 9223372036854775807 := by unfold maxLen at hm; omega
  -- behind the exchange
  obtain ⟨W1, hW1⟩ : ∃ W1, W1 = ((((w.setCell ⟨g, i * 2, none⟩ (.int .i64 b.1)).setCell ⟨g, i * 2 + 1, none⟩ (.int .u64 b.2)).setCell ⟨g, j * 2, none⟩ (.int .i64 a.1)).setCell ⟨g, j * 2 + 1, none⟩ (.int .u64 a.2)).drew := ⟨_, rfl⟩
  have h1 := h.put hil b wb
  have h2 := QM.put (cap := cap) (ts := ts.set i b) (i := j) (by simpa using h1) (by simpa using hjl) a wa
  have h3 : QM W1 B q mb now (.slice (some ⟨g, 0, none⟩) ts.length cap) ((ts.set i b).set j a) D := by
    rw [hW1]; exact (by simpa using h2 : QM _ B q mb now (.slice (some ⟨g, 0, none⟩) ts.length cap) ((ts.set i b).set j a) D).below ((Below.refl _ _).drew)
  have hF : Fr B w W1 := by
    rw [hW1]
    refine ((h.put_fr (by omega) (i * 2) (i * 2 + 1) _ _).trans (QM.put_fr (cap := cap) (ts := ts.set i b) (by simpa using h1) (by simp; omega) (j * 2) (j * 2 + 1) _ _)).trans (Fr.of_below ((Below.refl _ _).drew) ?_)
    have := h.le; simp; omega
  have hti : ((ts.set i b).set j a)[i]? = some b := by
    rw [List.getElem?_set_ne (Ne.symm hne), List.getElem?_set_self hil]
  have htj : ((ts.set i b).set j a)[j]? = some a := by
    rw [List.getElem?_set_self (by simpa using hjl)]
  have HW := Lib.hid hW1
  have HF := Lib.hid hF
  clear hW1 hF h h1 h2 hi hj
  have hl : ((ts.set i b).set j a).length = ts.length := by simp
  generalize (ts.set i b).set j a = ts' at *
  have d1 := h3.c1
  have d2 := h3.c2
  obtain ⟨di0, _⟩ := QM.at_ (cap := cap) (by rw [hl]; exact h3) hti
  obtain ⟨dj0, _⟩ := QM.at_ (cap := cap) (by rw [hl]; exact h3) htj
  have H3 := Lib.hid h3
  have HL := Lib.hid hl
  have HJ := Lib.hid htj
  clear h3 hti htj hl
  go_enter Try.func54, Try.ntmps54
  go_wp2
  go_region
  go_wp2_with fail
  rw [← HW.out]
  clear HW ci0 ci1 cj0 cj1 c1 f0 f1 f2 f3
  have hkb := keyOf_int_mk Try.underlying3 wb
  have hka := keyOf_int_mk Try.underlying3 wa
  have wi : (Lit.int .i64 (i : Int)).wf = true := wf_nat (by omega)
  have wj : (Lit.int .i64 (j : Int)).wf = true := wf_nat (by omega)
  have hs1 : Maps.size D < maxLen := by omega
  go_still_tail 13, (by kernel_rfl)
  have h4 := H3.out.below ((Below.refl _ _).drew)
  have hF2 := Lib.hid (HF.out.trans (Fr.of_below ((Below.refl W1.heap.size W1).drew) H3.out.le))
  clear H3 HF
  change wpList _ _ _ _ _ W1.drew
  generalize W1.drew = W2 at *
  at_mapUpdate
  refine wpList_mapUpdate_in _ rfl _ _ _ 46 rfl 3 3 law3 Try.underlying46 _ mb _ D rfl h4.mp hs1 _ _ _ rfl rfl hkb _ [] (plainElem_int Try.underlying3 wi) ?_
  intro w3 hown3 hturn3
  obtain ⟨h5, hF5⟩ := h4.turned hown3 hturn3
  have hF3 := Lib.hid (hF2.out.trans hF5)
  have hs2 : Maps.size (D.put (.int .i64 b.1) (.lit (.int .i64 (i : Int)))) < maxLen := by
    have h6 := hown3.size_le
    omega
  clear d1 d2 di0 dj0 hown3 hturn3 hF2 hF5 h4
  have d1 := h5.c1
  have d2 := h5.c2
  have dj0 := (QM.at_ (cap := cap) (by rw [HL.out]; exact h5) HJ.out).1
  have H5 := Lib.hid h5
  clear h5
  go_wp2_with fail
  go_still_tail 13, (by kernel_rfl)
  have h6 := H5.out.below ((Below.refl _ _).drew)
  have hF6 := Lib.hid (hF3.out.trans (Fr.of_below ((Below.refl w3.heap.size w3).drew) H5.out.le))
  clear H5 hF3
  change wpList _ _ _ _ _ w3.drew
  generalize w3.drew = W4 at *
  at_mapUpdate
  refine wpList_mapUpdate_in _ rfl _ _ _ 46 rfl 3 3 law3 Try.underlying46 _ mb _ _ rfl h6.mp hs2 _ _ _ rfl rfl hka _ [] (plainElem_int Try.underlying3 wj) ?_
  intro w5 hown5 hturn5
  obtain ⟨h7, hF7⟩ := h6.turned hown5 hturn5
  have hF8 := Lib.hid (hF6.out.trans hF7)
  have H7 := Lib.hid h7
  clear hown5 hturn5 hF7 h6 hF6 h7
  go_wp2_with fail
  go_end0
  exact ⟨rfl, H7.out, hF8.out⟩
end Go.Proofs.Ytbhakpkdkeacmaa.Tq
