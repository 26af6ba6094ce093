/-
  The walk of BurstForgets.
-/
import Derived.Test.YtkabhpmnhdhodaaBuRefPlay
namespace Go.Proofs.Ytkabhpmnhdhodaa.Bu
open Go.RowKit Go.Shelf

/-- What the frame says of a slice that came in. -/
theorem lst_of_row {w : World} {a : Option Addr} {len cap : Nat} {zs : List Int} (h : (a = none ∧ len = 0 ∧ cap = 0 ∧ zs = []) ∨
    ∃ x, a = some x ∧ len ≤ cap ∧ cap ≤ maxLen ∧ zs.length = cap ∧ (∀ i, i < zs.length → w.cell? (x.add i) = some (.int .u64 (zs.getD i 0))) ∧ ∀ n ∈ zs, (Lit.int .u64 n).wf = true) :
    ∃ l, l.length = len ∧ Lst w (.slice a len cap) l ∧ U l ∧ len ≤ 9223372036854775807 := by
  rcases h with ⟨rfl, rfl, rfl, rfl⟩ | ⟨x, rfl, hl, hm, hz, hc, hw⟩
  · exact ⟨[], rfl, ⟨none, 0, rfl, ⟨rfl, fun hn => by simp at hn⟩, fun _ => rfl⟩, U_nil, by omega⟩
  · have hlen : (zs.take len).length = len := by rw [List.length_take]; omega
    refine ⟨zs.take len, hlen, ⟨some x, cap, by rw [hlen], ⟨rfl, fun hn => ?_⟩, fun e => by cases e⟩, fun n hn => ?_, by unfold maxLen at hm; omega⟩
    · rw [hlen] at hn
      have h0 := hc 0 (by omega)
      have hs := World.cell?_spot h0
      obtain ⟨b, off, spot⟩ := x
      have hs : spot = none := by simpa [Addr.add] using hs
      subst hs
      refine ⟨b, off, rfl, fun k y hk => ?_⟩
      have hkl : k < len := by have := (List.getElem?_eq_some_iff.1 hk).1; omega
      have := hc k (by omega)
      rw [Addr.add_lit] at this
      rw [this]
      rw [List.getElem?_take_of_lt hkl] at hk
      simp [List.getD, hk]
    · have := u64_bd (hw n (List.mem_of_mem_take hn))
      unfold mx; exact this

theorem trim_trim {l : List Int} {n m a b : Int} (h : ∀ t, young m b t = true → young n a t = true) : trim (trim l n a) m b = trim l m b := by
  unfold trim
  rw [List.filter_filter]
  congr 1
  funext t
  by_cases hm : young m b t = true
  · simp [hm, h t hm]
  · have hm : young m b t = false := by simpa using hm
    simp [hm]
theorem trim_mono {l : List Int} {n a b : Int} (h : ∀ t, young n b t = true → young n a t = true) : (trim l n b).length ≤ (trim l n a).length := by
  have e := trim_trim (l := l) h
  rw [← e]; exact trim_le _ _ _
theorem young_later {n m w t : Int} (h : n ≤ m) (hy : young m w t = true) : young n w t = true := by
  unfold young subS at *
  simp only [decide_eq_true_eq] at *
  split at hy <;> split <;> omega
theorem young_wider {n v w t : Int} (h : v ≤ w) (hy : young n v t = true) : young n w t = true := by
  unfold young at *
  simp only [decide_eq_true_eq] at *
  omega

set_option maxRecDepth 100000 in
set_option maxHeartbeats 2000000 in
theorem BurstForgets_walk {w : World} {v : Value} {l : List Int} {a1 a2 a3 : Int} (h : Lst w v l) (hU : U l) (hl : l.length ≤ 9223372036854775807) (w1 : (Lit.int .u64 a1).wf = true) (w2 : (Lit.int .u64 a2).wf = true) (w3 : (Lit.int .u64 a3).wf = true) :
    Calls Try.prog 6 #[v, .int .u64 a1, .int .u64 a2, .int .u64 a3] w (BTrue w) := by
  obtain ⟨b1, c1⟩ := u64_bd w1
  obtain ⟨b2, c2⟩ := u64_bd w2
  obtain ⟨b3, c3⟩ := u64_bd w3
  clear w1 w2 w3
  have hv := h
  obtain ⟨A0, k0, rfl, _⟩ := hv
  by_cases h60 : 60 < l.length
  · have h60' : (60 : Int) < (l.length : Int) := by omega
    clear h hU
    go_enter Try.func6, Try.ntmps6
    go_wp2_with (go_at_call 7; ((with_reducible refine (sane_any _).mono ?_); rintro e w1 ⟨rfl, hb⟩; have B0 := Lib.hid hb; clear hb))
    go_ret
    exact ⟨rfl, B0.out⟩
  · have h60' : (l.length : Int) ≤ 60 := by omega
    have hx : ∀ W, Lst W (.slice A0 l.length k0) l → Calls Try.prog 8 #[.slice A0 l.length k0, .int .u64 100] W (SegPost W (l.map (· % 100))) := fun W hW => small_any hW hU (by omega) (by omega) (by omega)
    have hxU : U (l.map (· % 100)) := U.mods (by omega) (by omega)
    have hxl : (l.map (· % 100)).length ≤ 60 := by rw [List.length_map]; omega
    generalize l.map (· % 100) = xs at hx hxU hxl
    have m1 : a1 % 120 ≤ mx := by unfold mx; omega
    have m2 : a1 % 120 + a2 % 50 ≤ mx := by unfold mx; omega
    have C1 := fun W v (hW : Lst W v xs) => trim_any (a3 % 60) hW hxU (by omega) (show 0 ≤ a1 % 120 by omega) m1
    have C2 := fun W v (hW : Lst W v xs) => trim_any (a3 % 60) hW hxU (by omega) (show 0 ≤ a1 % 120 + a2 % 50 by omega) m2
    have C6 := fun W v (hW : Lst W v xs) => trim_any (a3 % 60 / 2) hW hxU (by omega) (show 0 ≤ a1 % 120 by omega) m1
    have C3 := fun W v (hW : Lst W v xs) => allow_any ((trim xs (a1 % 120) (a3 % 60)).length : Int) (a3 % 60) hW hxU (by omega) (show 0 ≤ a1 % 120 by omega) m1
    have tl := trim_le xs (a1 % 120) (a3 % 60)
    have tl2 := trim_le xs (a1 % 120 + a2 % 50) (a3 % 60)
    have C4 := fun W v (hW : Lst W v (trim xs (a1 % 120) (a3 % 60))) => trim_any (a3 % 60) hW (hxU.trim _ _) (by omega) (show 0 ≤ a1 % 120 by omega) m1
    have C5 := fun W v (hW : Lst W v (trim xs (a1 % 120) (a3 % 60))) => trim_any (a3 % 60) hW (hxU.trim _ _) (by omega) (show 0 ≤ a1 % 120 + a2 % 50 by omega) m2
    have e4 : trim (trim xs (a1 % 120) (a3 % 60)) (a1 % 120) (a3 % 60) = trim xs (a1 % 120) (a3 % 60) := trim_trim fun _ h => h
    have e5 : trim (trim xs (a1 % 120) (a3 % 60)) (a1 % 120 + a2 % 50) (a3 % 60) = trim xs (a1 % 120 + a2 % 50) (a3 % 60) := trim_trim fun _ h => young_later (by omega) h
    have e6 := trim_mono (l := xs) (n := a1 % 120) (b := a3 % 60 / 2) (a := a3 % 60) fun t h => young_wider (by omega) h
    have e3a : allowL xs ((trim xs (a1 % 120) (a3 % 60)).length : Int) (a1 % 120) (a3 % 60) = trim xs (a1 % 120) (a3 % 60) := by unfold allowL; rw [if_neg (by omega)]
    have e3b : allowB xs ((trim xs (a1 % 120) (a3 % 60)).length : Int) (a1 % 120) (a3 % 60) = false := by unfold allowB; exact decide_eq_false (by omega)
    simp only [e4] at C4
    simp only [e5] at C5
    simp only [e3a, e3b] at C3
    clear e4 e5 e3a e3b
    generalize trim xs (a1 % 120) (a3 % 60) = ta at *
    generalize trim xs (a1 % 120 + a2 % 50) (a3 % 60) = tb at *
    generalize trim xs (a1 % 120) (a3 % 60 / 2) = tc at *
    have HX := Lib.hid hx
    have H1 := Lib.hid C1
    have H2 := Lib.hid C2
    have H3 := Lib.hid C3
    have H4 := Lib.hid C4
    have H5 := Lib.hid C5
    have H6 := Lib.hid C6
    have HL := Lib.hid h
    clear hx C1 C2 C3 C4 C5 C6 h hU hxU m1 m2
    have e6' : (tc.length : Int) ≤ (ta.length : Int) := by omega
    go_enter Try.func6, Try.ntmps6
    go_wp2_with (go_at_call 7; ((with_reducible refine (sane_any _).mono ?_); rintro e w1 ⟨rfl, hb⟩; have B1 := Lib.hid hb; have L1 := Lib.hid (HL.out.below hb); clear hb))
    go_wp2_with (go_at_call 8; ((with_reducible refine (HX.out _ L1.out).mono ?_); rintro e w2 ⟨v2, rfl, hs, hb⟩; obtain ⟨A2, n2, c2, rfl⟩ := hs.form; have X2 := Lib.hid hs.lst; have B2 := Lib.hid (B1.out.trans (hb.mono B1.out.size)); clear hs hb))
    go_wp2_with (go_at_call 12; ((with_reducible refine (H1.out _ _ X2.out).mono ?_); rintro e w3 ⟨v3, rfl, hs, hb⟩; obtain ⟨A3, c3, rfl, _⟩ := hs.shape; have T3 := Lib.hid hs.lst; have X3 := Lib.hid (X2.out.below hb); have B3 := Lib.hid (B2.out.trans (hb.mono B2.out.size)); clear hs hb))
    go_wp2_with (go_at_call 12; ((with_reducible refine (H2.out _ _ X3.out).mono ?_); rintro e w4 ⟨v4, rfl, hs, hb⟩; obtain ⟨A4, n4, c4, rfl⟩ := hs.form; have U4 := Lib.hid hs.lst; have T4 := Lib.hid (T3.out.below hb); have X4 := Lib.hid (X3.out.below hb); have B4 := Lib.hid (B3.out.trans (hb.mono B3.out.size)); clear hs hb))
    go_wp2_with (go_at_call 9; ((with_reducible refine (H3.out _ _ X4.out).mono ?_); rintro e w5 ⟨v5, rfl, hs, hb⟩; obtain ⟨A5, n5, c5, rfl⟩ := hs.form; have V5 := Lib.hid hs.lst; have U5 := Lib.hid (U4.out.below hb); have T5 := Lib.hid (T4.out.below hb); have X5 := Lib.hid (X4.out.below hb); have B5 := Lib.hid (B4.out.trans (hb.mono B4.out.size)); clear hs hb))
    go_wp2_with (go_at_call 12; ((with_reducible refine (H4.out _ _ T5.out).mono ?_); rintro e w6 ⟨v6, rfl, hs, hb⟩; obtain ⟨A6, n6, c6, rfl⟩ := hs.form; have Y6 := Lib.hid hs.lst; have V6 := Lib.hid (V5.out.below hb); have U6 := Lib.hid (U5.out.below hb); have T6 := Lib.hid (T5.out.below hb); have X6 := Lib.hid (X5.out.below hb); have B6 := Lib.hid (B5.out.trans (hb.mono B5.out.size)); clear hb hs))
    go_wp2_with (go_at_call 11; ((with_reducible refine (same_any Y6.out T6.out (by omega)).mono ?_); rintro e w7 ⟨rfl, q7, hq⟩; have hb : Below w6.heap.size w6 w7 := by (rw [hq]; exact below_drewN _ _)); have V7 := Lib.hid (V6.out.below hb); have U7 := Lib.hid (U6.out.below hb); have T7 := Lib.hid (T6.out.below hb); have X7 := Lib.hid (X6.out.below hb); have B7 := Lib.hid (B6.out.trans (hb.mono B6.out.size)); clear hb hq)
    go_wp2_with (go_at_call 12; ((with_reducible refine (H5.out _ _ T7.out).mono ?_); rintro e w8 ⟨v8, rfl, hs, hb⟩; obtain ⟨A8, n8, c8, rfl⟩ := hs.form; have Y8 := Lib.hid hs.lst; have V8 := Lib.hid (V7.out.below hb); have U8 := Lib.hid (U7.out.below hb); have T8 := Lib.hid (T7.out.below hb); have X8 := Lib.hid (X7.out.below hb); have B8 := Lib.hid (B7.out.trans (hb.mono B7.out.size)); clear hb hs))
    go_wp2_with (go_at_call 11; ((with_reducible refine (same_any Y8.out U8.out (by omega)).mono ?_); rintro e w9 ⟨rfl, q9, hq⟩; have hb : Below w8.heap.size w8 w9 := by (rw [hq]; exact below_drewN _ _)); have V9 := Lib.hid (V8.out.below hb); have T9 := Lib.hid (T8.out.below hb); have X9 := Lib.hid (X8.out.below hb); have B9 := Lib.hid (B8.out.trans (hb.mono B8.out.size)); clear hb hq)
    go_wp2_with (go_at_call 12; ((with_reducible refine (H6.out _ _ X9.out).mono ?_); rintro e w10 ⟨v10, rfl, hs, hb⟩; obtain ⟨A10, c10, rfl, _⟩ := hs.shape; have V10 := Lib.hid (V9.out.below hb); have T10 := Lib.hid (T9.out.below hb); have B10 := Lib.hid (B9.out.trans (hb.mono B9.out.size)); clear hb hs))
    go_wp2_with (go_at_call 11; ((with_reducible refine (same_any T10.out V10.out (by omega)).mono ?_); rintro e w11 ⟨rfl, q11, hq⟩; have hb : Below w10.heap.size w10 w11 := by (rw [hq]; exact below_drewN _ _));  have B11 := Lib.hid (B10.out.trans (hb.mono B10.out.size)); clear hb hq)
    go_ret
    exact ⟨rfl, B11.out⟩
theorem BurstForgets_law (a0 : Option Addr) (len0 cap0 : Nat) (z0 : List Int) (a1 a2 a3 : Int) (w : World) (w0 : (a0 = none ∧ len0 = 0 ∧ cap0 = 0 ∧ z0 = []) ∨
    ∃ x, a0 = some x ∧ len0 ≤ cap0 ∧ cap0 ≤ maxLen ∧ z0.length = cap0 ∧ (∀ i, i < z0.length → w.cell? (x.add i) = some (.int .u64 (z0.getD i 0))) ∧ ∀ n ∈ z0, (Lit.int .u64 n).wf = true)
    (w1 : (Lit.int .u64 a1).wf = true) (w2 : (Lit.int .u64 a2).wf = true) (w3 : (Lit.int .u64 a3).wf = true) :
    Calls Try.prog 6 #[.slice a0 len0 cap0, .int .u64 a1, .int .u64 a2, .int .u64 a3] w (BTrue w) := by
  obtain ⟨l, rfl, hL, hU, hle⟩ := lst_of_row w0
  exact BurstForgets_walk hL hU hle w1 w2 w3
end Go.Proofs.Ytkabhpmnhdhodaa.Bu
