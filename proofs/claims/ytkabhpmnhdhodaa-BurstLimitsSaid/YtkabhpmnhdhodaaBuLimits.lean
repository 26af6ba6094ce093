/-
  The walk of BurstLimits.
-/
import Derived.Test.YtkabhpmnhdhodaaBuPlays
import Derived.Test.YtkabhpmnhdhodaaBuLimMath
import Derived.RegionTactic
import Derived.ChangeAlike
import Derived.BigRegion
namespace Go.Proofs.Ytkabhpmnhdhodaa.Bu
open Go.RowKit Go.Shelf

theorem tmod_bd (v n : Int) (h0 : 1 ≤ n) : -n < v.tmod n ∧ v.tmod n < n := by
  have e0 := Int.emod_nonneg v (show n ≠ 0 by omega)
  have e1 := Int.emod_lt_of_pos v (show 0 < n by omega)
  have e2 := Int.tmod_eq_emod (a := v) (b := n)
  have e3 : (n.natAbs : Int) = n := Int.natAbs_of_nonneg (by omega)
  split at e2
  · omega
  · rename_i h
    have hne : v % n ≠ 0 := fun e => h (.inr (Int.dvd_of_emod_eq_zero e))
    rw [e3] at e2
    omega

/-- A store among numbers of the call's own. -/
theorem Seg.set {w : World} {B g off n c : Nat} {l : List Int} (h : Seg w B (.slice (some ⟨g, off, none⟩) n c) l) (i : Nat) (x : Int) : Seg (w.setCell ⟨g, off + i, none⟩ (.int .u64 x)) B (.slice (some ⟨g, off, none⟩) n c) (l.set i x) := by
  rcases h with ⟨h1, _⟩ | ⟨g', off', cap, cur, h1, h2, h3, h4, h5, h6, h7⟩
  · simp at h1
  · simp only [Value.slice.injEq, Option.some.injEq, Addr.mk.injEq, and_true] at h1
    obtain ⟨⟨rfl, rfl⟩, rfl, rfl⟩ := h1
    refine .inr ⟨g, off, c, cur.setIfInBounds (off + i) (.int .u64 x), by simp, h2, setCell_block h3, by simpa using h4, h5, by simpa using h6, fun k y hk => ?_⟩
    rw [Array.getElem?_setIfInBounds]
    rw [List.getElem?_set] at hk
    by_cases e : i = k
    · subst e
      rw [if_pos rfl] at hk
      split at hk
      · rename_i hil
        rw [if_pos rfl, if_pos (by omega)]
        simp at hk
        rw [hk]
      · cases hk
    · rw [if_neg e] at hk
      rw [if_neg (by omega)]
      exact h7 k y hk
theorem Seg.base {w : World} {B g off n c : Nat} {l : List Int} (h : Seg w B (.slice (some ⟨g, off, none⟩) n c) l) : B ≤ g ∧ ∀ k, w.frozen? ⟨g, k, none⟩ = false := by
  rcases h with ⟨h1, _⟩ | ⟨g', off', cap, cur, h1, h2, h3, _⟩
  · simp at h1
  · simp only [Value.slice.injEq, Option.some.injEq, Addr.mk.injEq, and_true] at h1
    obtain ⟨⟨rfl, rfl⟩, _, _⟩ := h1
    exact ⟨h2, fun k => by simp [World.frozen?, h3]⟩
theorem Seg.at_ {w : World} {B n c : Nat} {A : Option Addr} {l : List Int} (h : Seg w B (.slice A n c) l) {i : Nat} {x : Int} (hx : l[i]? = some x) : ∃ g off, A = some ⟨g, off, none⟩ ∧ n = l.length := by
  rcases h with ⟨_, h1⟩ | ⟨g', off', cap, cur, h1, _⟩
  · rw [h1] at hx; simp at hx
  · simp only [Value.slice.injEq] at h1
    exact ⟨g', off', h1.1, h1.2.1⟩

set_option maxRecDepth 100000 in
set_option maxHeartbeats 4000000 in
theorem BurstLimits_walk {w : World} {v : Value} {l : List Int} {a0 a1 : Int} (h : Lst w v l) (hU : U l) (hl : l.length ≤ 9223372036854775807) (w0 : (Lit.int .i64 a0).wf = true) (w1 : (Lit.int .u64 a1).wf = true) :
    Calls Try.prog 5 #[.int .i64 a0, .int .u64 a1, v] w (BTrue w) := by
  obtain ⟨b0, c0⟩ := i64_bd w0
  obtain ⟨b1, c1⟩ := u64_bd w1
  clear w0 w1
  have hv := h
  obtain ⟨A0, k0, rfl, _⟩ := hv
  by_cases h60 : 60 < l.length
  · have h60' : (60 : Int) < (l.length : Int) := by omega
    clear h hU
    go_enter Try.func5, Try.ntmps5
    go_wp2_with (go_at_call 7; ((with_reducible refine (sane_any _).mono ?_); rintro e w1 ⟨rfl, hb⟩; have B0 := Lib.hid hb; clear hb))
    go_ret
    exact ⟨rfl, B0.out⟩
  · have h60' : (l.length : Int) ≤ 60 := by omega
    have hx : ∀ W, Lst W (.slice A0 l.length k0) l → Calls Try.prog 8 #[.slice A0 l.length k0, .int .u64 100] W (SegPost W (l.map (· % 100))) := fun W hW => small_any hW hU (by omega) (by omega) (by omega)
    have hx1 : ∀ x ∈ l.map (· % 100), 0 ≤ x ∧ x ≤ 99 := fun x hx => by
      obtain ⟨y, _, rfl⟩ := List.mem_map.1 hx
      have := Int.emod_nonneg y (show (100 : Int) ≠ 0 by omega)
      have := Int.emod_lt_of_pos y (show (0 : Int) < 100 by omega)
      exact ⟨by omega, by omega⟩
    have hxl : (l.map (· % 100)).length ≤ 60 := by rw [List.length_map]; omega
    generalize l.map (· % 100) = xs at hx hx1 hxl
    obtain ⟨t0, t1⟩ := tmod_bd a0 5 (by omega)
    have HX := Lib.hid hx
    have X1 := Lib.hid hx1
    have HL := Lib.hid h
    clear hx hx1 h hU
    go_enter Try.func5, Try.ntmps5
    go_wp2_with (go_at_call 7; ((with_reducible refine (sane_any _).mono ?_); rintro e w1 ⟨rfl, hb⟩; have B1 := Lib.hid hb; have L1 := Lib.hid (HL.out.below hb); clear hb))
    go_wp2_with (go_at_call 8; ((with_reducible refine (HX.out _ L1.out).mono ?_); rintro e w2 ⟨v2, rfl, hs, hb⟩; obtain ⟨A2, c2, rfl, _⟩ := hs.shape; have S2 := Lib.hid (hs.mono B1.out.size); have B2 := Lib.hid (B1.out.trans (hb.mono B1.out.size)); clear hs hb))
    have hm1 : (a0.tmod 5 % 5) < 5 := by omega
    generalize 1 + a0.tmod 5 % 5 = mo at *
    generalize a1 % 30 = win at *
    have hup := up_first (l := xs) (fun x hx => (X1.out x hx).1)
    have HUP := Lib.hid hup
    clear hup
    go_loopg [8] (xs.length + 2) (fun g s wr => ∃ i : Nat, s = .int .i64 ((i : Int) + 1) ∧ i ≤ xs.length ∧ xs.length - i + 1 ≤ g ∧ Seg wr w.heap.size (.slice A2 xs.length c2) ((up 0 xs).take (i + 1) ++ xs.drop (i + 1)) ∧ Below w.heap.size w wr)
    case atStart => exact ⟨0, by go_num, by omega, by omega, by rw [HUP.out]; exact S2.out, B2.out⟩
    case round =>
      obtain ⟨i, rfl, hi, hg, hs, hb⟩ := hrel
      obtain ⟨wo, rfl⟩ : ∃ wo : World, wo = wr := ⟨_, rfl⟩
      by_cases hin : i + 1 < xs.length
      · obtain ⟨x, hx⟩ : ∃ x, xs[i + 1]? = some x := ⟨xs[i + 1], List.getElem?_eq_getElem hin⟩
        obtain ⟨e1, p, e2, e3⟩ := up_at hx
        have hst := up_step hx e2
        obtain ⟨g, off, rfl, hn⟩ := hs.at_ e1
        obtain ⟨hbg, hfz⟩ := hs.base
        obtain ⟨A9, c9, hv9, hrd⟩ := hs.shape
        simp only [Value.slice.injEq] at hv9
        obtain ⟨rfl, hlen, rfl⟩ := hv9
        obtain ⟨g9, o9, he9, hcells⟩ := hrd.2 (by omega)
        simp only [Option.some.injEq, Addr.mk.injEq, and_true] at he9
        obtain ⟨rfl, rfl⟩ := he9
        have d1 := hcells _ _ e1
        have d2 := hcells _ _ e3
        have f1 := hfz (off + (i + 1))
        obtain ⟨x0, x1⟩ := X1.out x (List.mem_of_getElem? hx)
        have hg9 := World.block_lt_of_cell? wo _ d1
        have HS := Lib.hid hs
        have HB := Lib.hid hb
        have HST := Lib.hid hst
        have hii : (i : Int) + 1 < (xs.length : Int) := by omega
        clear hs hb hst hx e1 e2 e3 hn hfz hlen hrd hcells
        have SV := Lib.hid (show Seg (wo.setCell ⟨g, off + (i + 1), none⟩ (.int .u64 (max x p))) w.heap.size (.slice (some ⟨g, off, none⟩) xs.length c2) ((up 0 xs).take (i + 1 + 1) ++ xs.drop (i + 1 + 1)) by rw [← HST.out]; exact HS.out.set (i + 1) _)
        have BV := Lib.hid (HB.out.setCell (p := ⟨g, off + (i + 1), none⟩) hbg (.int .u64 (max x p)))
        go_wp2_with fail
        go_region
        all_goals
          go_wp2_with fail
          go_roundg (xs.length - (i + 1) + 1)
          case measure => omega
          case rel => exact ⟨i + 1, by go_num, by omega, Nat.le_refl _, SV.out, BV.out.drew⟩
      · have hul := up_length 0 xs
        have hys : (up 0 xs).take (i + 1) ++ xs.drop (i + 1) = up 0 xs := by
          rw [List.take_of_length_le (by omega), List.drop_eq_nil_of_le (by omega), List.append_nil]
        rw [hys] at hs
        have hle := up_le (b := 99) 0 xs (by omega) (fun x hx => (X1.out x hx).2)
        have hge := up_ge 0 xs
        have has := up_asc 0 xs
        have hlim := fun (i : Nat) (y : Int) => limits_up (most := mo) (win := win) xs (i := i) (y := y)
        have hUy : U (up 0 xs) := fun x hx => ⟨hge x hx, by have := hle x hx; unfold mx; omega⟩
        have hdl := play_length mo win [] 0 (up 0 xs)
        have HP := Lib.hid (play_any (most := mo) (win := win) hs.lst hUy (by omega))
        generalize up 0 xs = ys at *
        generalize play mo win [] 0 ys = ds at *
        obtain ⟨n, hn⟩ : ∃ n, n = xs.length := ⟨_, rfl⟩
        have HYL := Lib.hid (show ys.length = n by omega)
        have HDL := Lib.hid (show ds.length = n by omega)
        rw [← hn] at hs HP ⊢
        have hin' : ¬ (i : Int) + 1 < (n : Int) := by omega
        have hn60 : n ≤ 60 := by omega
        have HS := Lib.hid hs
        have HB := Lib.hid hb
        have HLE := Lib.hid hle
        have HGE := Lib.hid hge
        have HAS := Lib.hid has
        have HLM := Lib.hid hlim
        clear hs hb hle hge has hlim hUy hdl hul hys hn hxl hin
        go_wp2_with (go_at_call 14; ((with_reducible refine HP.out.mono ?_); rintro e w4 ⟨v4, rfl, hr, hb4⟩; obtain ⟨A4, c4, rfl, hr4⟩ := hr; rw [HDL.out] at hr4 ⊢; have R4 := Lib.hid hr4; have Q4 := Lib.hid (HS.out.below hb4).lst; have B4 := Lib.hid (HB.out.trans (hb4.mono HB.out.size)); clear hr4 hb4))
        go_loopg [57] (n + 1) (fun g s wr => ∃ i m : Nat, s = .int .i64 i ∧ i ≤ n ∧ n - i + 1 ≤ g ∧ wr = w4.drewN m)
        case atStart => exact ⟨0, 0, rfl, Nat.zero_le _, by omega, rfl⟩
        case round =>
          obtain ⟨i2, m2, rfl, hi2, hg2, rfl⟩ := hrel
          by_cases hin2 : i2 < n
          · obtain ⟨y, hy⟩ : ∃ y, ys[i2]? = some y := ⟨ys[i2]'(by have := HYL.out; omega), List.getElem?_eq_getElem _⟩
            have hdy := HLM.out i2 y hy
            obtain ⟨A9, c9, hv9, hrd, _⟩ := Q4.out
            simp only [Value.slice.injEq] at hv9
            obtain ⟨rfl, _, rfl⟩ := hv9
            obtain ⟨gx, ox, rfl, kx⟩ := hrd.2 (by have := HYL.out; omega)
            obtain ⟨gd, od, rfl, kd⟩ := R4.out (by omega)
            have hKX := Lib.hid kx
            have hKD := Lib.hid kd
            have d1 := kx i2 y hy
            have d4 := kd i2 _ hdy
            have y1 := HLE.out y (List.mem_of_getElem? hy)
            have y0 := HGE.out y (List.mem_of_getElem? hy)
            have HY := Lib.hid hy
            have hi2n : (i2 : Int) < (n : Int) := by omega
            have D4 := Lib.hid d4
            clear hrd kx kd hy hdy d4
            go_wp2_with fail
            go_loopg [11, 12] (i2 + 1) (fun g nn s wr => ∃ k m : Nat, s = .int .i64 k ∧ k ≤ i2 ∧ i2 - k + 1 ≤ g ∧ nn = .int .i64 (cnt ys ds y win k : Nat) ∧ wr = w4.drewN m)
            case atStart => exact ⟨0, m2, rfl, Nat.zero_le _, by omega, by rw [cnt_zero]; rfl, rfl⟩
            case round =>
              obtain ⟨k, m3, rfl, hk, hg3, rfl, rfl⟩ := hrel
              by_cases hki : k < i2
              · obtain ⟨t, ht⟩ : ∃ t, ys[k]? = some t := ⟨ys[k]'(by have := HYL.out; omega), List.getElem?_eq_getElem _⟩
                obtain ⟨b, hbk⟩ : ∃ b, ds[k]? = some b := ⟨ds[k]'(by have := HDL.out; omega), List.getElem?_eq_getElem _⟩
                have d2 := hKX.out k t ht
                have d3 := hKD.out k b hbk
                have t0' := HGE.out t (List.mem_of_getElem? ht)
                have hty := asc_at HAS.out ht HY.out hki
                have hst := cnt_step (y := y) (win := win) ht hbk hty
                have hcl := cnt_le ys ds y win k
                have hkii : (k : Int) < (i2 : Int) := by omega
                have hkn : (k : Int) < (n : Int) := by omega
                cases b with
                | false =>
                  rw [if_neg (by simp), Nat.add_zero] at hst
                  have HC := Lib.hid hst
                  clear hst ht hbk
                  go_wp2_with fail
                  go_quiet (fail)
                  go_wp2_with fail
                  go_roundg (i2 - (k + 1) + 1)
                  case measure => omega
                  case rel => exact ⟨k + 1, _, by go_num, by omega, Nat.le_refl _, by rw [HC.out]; rfl, rfl⟩
                | true =>
                  by_cases hw : y - t < win
                  · rw [if_pos ⟨rfl, hw⟩] at hst
                    have HC := Lib.hid hst
                    have hwd : decide (y - t < win) = true := decide_eq_true hw
                    clear hst ht hbk
                    go_wp2_with fail
                    go_quiet (fail)
                    go_wp2_with fail
                    go_roundg (i2 - (k + 1) + 1)
                    case measure => omega
                    case rel => exact ⟨k + 1, _, by go_num, by omega, Nat.le_refl _, by rw [HC.out]; go_num, rfl⟩
                  · rw [if_neg (fun e => hw e.2), Nat.add_zero] at hst
                    have HC := Lib.hid hst
                    have hwd : decide (y - t < win) = false := decide_eq_false hw
                    clear hst ht hbk hw
                    go_wp2_with fail
                    go_quiet (fail)
                    go_wp2_with fail
                    go_roundg (i2 - (k + 1) + 1)
                    case measure => omega
                    case rel => exact ⟨k + 1, _, by go_num, by omega, Nat.le_refl _, by rw [HC.out]; rfl, rfl⟩
              · obtain rfl : k = i2 := by omega
                have d4 := D4.out
                by_cases hlt : (cnt ys ds y win k : Int) < mo
                · rw [decide_eq_true hlt] at d4
                  go_wp2_with fail
                  go_roundg (n - (k + 1) + 1)
                  case measure => omega
                  case rel => exact ⟨k + 1, _, by go_num, by omega, Nat.le_refl _, rfl⟩
                · rw [decide_eq_false hlt] at d4
                  have hlt' : decide ((cnt ys ds y win k : Int) < mo) = false := decide_eq_false hlt
                  clear hlt
                  go_wp2_with fail
                  go_roundg (n - (k + 1) + 1)
                  case measure => omega
                  case rel => exact ⟨k + 1, _, by go_num, by omega, Nat.le_refl _, rfl⟩
          · have hin3 : ¬ (i2 : Int) < (n : Int) := by omega
            have hb6 := Lib.hid (B4.out.trans ((below_drewN w4 m2).mono B4.out.size))
            go_wp2_with fail
            go_ret
            exact ⟨rfl, hb6.out⟩
theorem BurstLimits_law (a0 a1 : Int) (a2 : Option Addr) (len2 cap2 : Nat) (z2 : List Int) (w : World) (w0 : (Lit.int .i64 a0).wf = true) (w1 : (Lit.int .u64 a1).wf = true) (w2 : (a2 = none ∧ len2 = 0 ∧ cap2 = 0 ∧ z2 = []) ∨
    ∃ x, a2 = some x ∧ len2 ≤ cap2 ∧ cap2 ≤ maxLen ∧ z2.length = cap2 ∧ (∀ i, i < z2.length → w.cell? (x.add i) = some (.int .u64 (z2.getD i 0))) ∧ ∀ n ∈ z2, (Lit.int .u64 n).wf = true) :
    Calls Try.prog 5 #[.int .i64 a0, .int .u64 a1, .slice a2 len2 cap2] w (BTrue w) := by
  obtain ⟨l, rfl, hL, hU, hle⟩ := lst_of_row w2
  exact BurstLimits_walk hL hU hle w0 w1
end Go.Proofs.Ytkabhpmnhdhodaa.Bu
