/-
  The walk of BurstAllows.
-/
import Derived.Test.YtkabhpmnhdhodaaBuPlays
namespace Go.Proofs.Ytkabhpmnhdhodaa.Bu
open Go.RowKit Go.Shelf

/-- Two numbers, each within bounds, in a block of their own. -/
def Two (w : World) (b : Nat) (kd : IntKind) (P : Int → Prop) : Prop := ∀ k : Nat, k < 2 → ∃ x, w.cell? ⟨b, k, none⟩ = some (.int kd x) ∧ P x
theorem Two.below {w w' : World} {b : Nat} {kd : IntKind} {P : Int → Prop} (h : Two w b kd P) (hb : Below w.heap.size w w') : Two w' b kd P := fun k hk => by
  obtain ⟨x, h1, h2⟩ := h k hk
  exact ⟨x, (hb.cell (World.block_lt_of_cell? w _ h1)).trans h1, h2⟩
theorem two_made {w : World} {kd : IntKind} {P : Int → Prop} {x y : Int} (t : TypeId) (hx : P x) (hy : P y) :
    Two (w.alloc (.cells #[.int kd x, .int kd y] t)) w.heap.size kd P ∧ Below w.heap.size w (w.alloc (.cells #[.int kd x, .int kd y] t)) ∧ w.heap.size < (w.alloc (.cells #[.int kd x, .int kd y] t)).heap.size := by
  have h := heap_alloc_new w (.cells #[.int kd x, .int kd y] t)
  refine ⟨fun k hk => ?_, (Below.refl _ _).alloc (Nat.le_refl _) _, by simp⟩
  match k, hk with
  | 0, _ => exact ⟨x, cell_of_row _ _ 0 _ _ _ h, hx⟩
  | 1, _ => exact ⟨y, cell_of_row _ _ 1 _ _ _ h, hy⟩
def InU (x : Int) : Prop := 0 ≤ x ∧ x ≤ mx
theorem inU_mk {x : Int} (h0 : 0 ≤ x) (h1 : x ≤ 18446744073709551615) : InU x := by unfold InU mx; exact ⟨h0, h1⟩

set_option maxRecDepth 100000 in
set_option maxHeartbeats 4000000 in
theorem BurstAllows_walk {w : World} {v : Value} {l : List Int} {a1 a2 a3 : Int} (h : Lst w v l) (hU : U l) (hl : l.length ≤ 9223372036854775807) (w1 : (Lit.int .i64 a1).wf = true) (w2 : (Lit.int .u64 a2).wf = true) (w3 : (Lit.int .u64 a3).wf = true) :
    Calls Try.prog 3 #[v, .int .i64 a1, .int .u64 a2, .int .u64 a3] w (BTrue w) := by
  obtain ⟨b1, c1⟩ := i64_bd w1
  obtain ⟨b2, c2⟩ := u64_bd w2
  obtain ⟨b3, c3⟩ := u64_bd w3
  clear w1 w2 w3
  have hv := h
  obtain ⟨A0, k0, rfl, _⟩ := hv
  by_cases h60 : 60 < l.length
  · have h60' : (60 : Int) < (l.length : Int) := by omega
    clear h hU
    go_enter Try.func3, Try.ntmps3
    go_wp2_with (go_at_call 7; ((with_reducible refine (sane_any _).mono ?_); rintro e w1 ⟨rfl, hb⟩; have B0 := Lib.hid hb; clear hb))
    go_ret
    exact ⟨rfl, B0.out⟩
  · have h60' : (l.length : Int) ≤ 60 := by omega
    have hx : ∀ W, Lst W (.slice A0 l.length k0) l → Calls Try.prog 8 #[.slice A0 l.length k0, .int .u64 50] W (SegPost W (l.map (· % 50))) := fun W hW => small_any hW hU (by omega) (by omega) (by omega)
    have hxU : U (l.map (· % 50)) := U.mods (by omega) (by omega)
    have hxl : (l.map (· % 50)).length ≤ 60 := by rw [List.length_map]; omega
    generalize l.map (· % 50) = xs at hx hxU hxl
    have HX := Lib.hid hx
    have HU := Lib.hid hU
    have XU := Lib.hid hxU
    have XL := Lib.hid hxl
    have HL := Lib.hid h
    have I2 := Lib.hid (inU_mk b2 c2)
    have I2' := Lib.hid (show InU (a2 % 60) from inU_mk (by omega) (by omega))
    clear hx hxU hxl h hU
    go_enter Try.func3, Try.ntmps3
    go_wp2_with (go_at_call 7; ((with_reducible refine (sane_any _).mono ?_); rintro e w1 ⟨rfl, hb⟩; have B1 := Lib.hid hb; have L1 := Lib.hid (HL.out.below hb); clear hb))
    go_wp2_with (go_at_call 8; ((with_reducible refine (HX.out _ L1.out).mono ?_); rintro e w2 ⟨v2, rfl, hs, hb⟩; obtain ⟨A2, n2, c2, rfl⟩ := hs.form; have X2 := Lib.hid hs.lst; have L2 := Lib.hid (L1.out.below hb); have B2 := Lib.hid (B1.out.trans (hb.mono B1.out.size)); clear hs hb))
    obtain ⟨P3, B3⟩ := pair_made L2.out HU.out (by omega) X2.out XU.out XL.out
    obtain ⟨W, hW⟩ : ∃ W, W = w2.alloc (.cells #[.slice A0 l.length k0, .slice A2 n2 c2] 22) := ⟨_, rfl⟩
    rw [← hW] at P3 B3 ⊢
    have hz : w2.heap.size < W.heap.size := by rw [hW]; simp
    have BW := Lib.hid (B2.out.trans (B3.mono B2.out.size))
    have PW := Lib.hid P3
    clear P3 B3 hW
    generalize w2.heap.size = b at *
    go_loopg [31] 3 (fun g i wr => ∃ k : Nat, i = .int .i64 k ∧ k ≤ 2 ∧ 2 - k + 1 ≤ g ∧ Below W.heap.size W wr)
    case atStart => exact ⟨0, rfl, by omega, by omega, Below.refl _ _⟩
    case round =>
      obtain ⟨k, rfl, hk, hg, hb⟩ := hrel
      obtain ⟨wo, rfl⟩ : ∃ wo : World, wo = wr := ⟨_, rfl⟩
      by_cases hk2 : k < 2
      · obtain ⟨A3, n3, c3, ls, d3, q3, u3, e3⟩ := (PW.out.below hb).at_ k hk2
        have Q3 := Lib.hid q3
        have U3 := Lib.hid u3
        have HB := Lib.hid hb
        have hki : (k : Int) < 2 := by omega
        clear q3 u3 hb
        go_wp2_with fail
        obtain ⟨TWb, BWb, zWb⟩ := two_made (w := wo) (kd := .u64) (P := fun _ => True) (x := a3) (y := a3 % 40) 23 trivial trivial
        obtain ⟨Wb, hWb⟩ : ∃ Wb, Wb = wo.alloc (.cells #[.int .u64 a3, .int .u64 (a3 % 40)] 23) := ⟨_, rfl⟩
        rw [← hWb] at TWb BWb zWb ⊢
        have QWb := Lib.hid (Q3.out.below BWb)
        have BWb' := Lib.hid (HB.out.trans (BWb.mono HB.out.size))
        have TWb' := Lib.hid TWb
        clear TWb BWb hWb
        generalize wo.heap.size = bb at *
        go_loopg [40] 3 (fun g i wr => ∃ k : Nat, i = .int .i64 k ∧ k ≤ 2 ∧ 2 - k + 1 ≤ g ∧ Below Wb.heap.size Wb wr)
        case atStart => exact ⟨0, rfl, by omega, by omega, Below.refl _ _⟩
        case round =>
          obtain ⟨j, rfl, hj, hgj, hbj⟩ := hrel
          obtain ⟨wj, rfl⟩ : ∃ wj : World, wj = wr := ⟨_, rfl⟩
          by_cases h2j : j < 2
          · obtain ⟨win, dw, iwin⟩ := (TWb'.out.below hbj) j h2j
            have Lj := Lib.hid (QWb.out.below hbj)
            have Hj := Lib.hid hbj
            have hij : (j : Int) < 2 := by omega
            have Iwin := Lib.hid iwin
            clear hbj iwin
            go_wp2_with fail
            obtain ⟨TWc, BWc, zWc⟩ := two_made (w := wj) (kd := .u64) (P := InU) (x := a2) (y := a2 % 60) 23 I2.out I2'.out
            obtain ⟨Wc, hWc⟩ : ∃ Wc, Wc = wj.alloc (.cells #[.int .u64 a2, .int .u64 (a2 % 60)] 23) := ⟨_, rfl⟩
            rw [← hWc] at TWc BWc zWc ⊢
            have QWc := Lib.hid (Lj.out.below BWc)
            have BWc' := Lib.hid (Hj.out.trans (BWc.mono Hj.out.size))
            have TWc' := Lib.hid TWc
            clear TWc BWc hWc
            generalize wj.heap.size = bc at *
            go_loopg [49] 3 (fun g i wr => ∃ k : Nat, i = .int .i64 k ∧ k ≤ 2 ∧ 2 - k + 1 ≤ g ∧ Below Wc.heap.size Wc wr)
            case atStart => exact ⟨0, rfl, by omega, by omega, Below.refl _ _⟩
            case round =>
              obtain ⟨m, rfl, hm, hgm, hbm⟩ := hrel
              obtain ⟨wm, rfl⟩ : ∃ wm : World, wm = wr := ⟨_, rfl⟩
              by_cases h2m : m < 2
              · obtain ⟨nw, dn, inw⟩ := (TWc'.out.below hbm) m h2m
                have Lm := Lib.hid (QWc.out.below hbm)
                have Hm := Lib.hid hbm
                have him : (m : Int) < 2 := by omega
                have Inw := Lib.hid inw
                clear hbm inw
                go_wp2_with fail
                obtain ⟨TWd, BWd, zWd⟩ := two_made (w := wm) (kd := .i64) (P := fun _ => True) (x := a1) (y := a1.tmod 6) 3 trivial trivial
                obtain ⟨Wd, hWd⟩ : ∃ Wd, Wd = wm.alloc (.cells #[.int .i64 a1, .int .i64 (a1.tmod 6)] 3) := ⟨_, rfl⟩
                rw [← hWd] at TWd BWd zWd ⊢
                have QWd := Lib.hid (Lm.out.below BWd)
                have BWd' := Lib.hid (Hm.out.trans (BWd.mono Hm.out.size))
                have TWd' := Lib.hid TWd
                clear TWd BWd hWd
                generalize wm.heap.size = bd at *
                go_loopg [58] 3 (fun g i wr => ∃ k : Nat, i = .int .i64 k ∧ k ≤ 2 ∧ 2 - k + 1 ≤ g ∧ Below Wd.heap.size Wd wr)
                case atStart => exact ⟨0, rfl, by omega, by omega, Below.refl _ _⟩
                case round =>
                  obtain ⟨s, rfl, hs0, hgs, hbs⟩ := hrel
                  obtain ⟨ws, rfl⟩ : ∃ ws : World, ws = wr := ⟨_, rfl⟩
                  by_cases h2s : s < 2
                  · obtain ⟨mo, dm, imo⟩ := (TWd'.out.below hbs) s h2s
                    have Ls := Lib.hid (QWd.out.below hbs)
                    have Hs := Lib.hid hbs
                    have his : (s : Int) < 2 := by omega
                    have Imo := Lib.hid imo
                    clear hbs imo
                    have HA := Lib.hid (allow_any mo win Ls.out U3.out (by omega) Inw.out.1 Inw.out.2)
                    have HR : Hid (∀ W', Lst W' (.slice A3 n3 c3) ls → Calls Try.prog 10 #[.slice A3 n3 c3, .int .i64 mo, .int .u64 nw, .int .u64 win] W' (AllowPost W' (allowL ls mo nw win) (allowB ls mo nw win))) := Lib.hid (fun W' hW' => refallow_any mo win hW' U3.out (by omega) Inw.out.1 Inw.out.2)
                    have hal := allowL_le ls mo nw win
                    generalize allowL ls mo nw win = al at *
                    generalize allowB ls mo nw win = ab at *
                    have hal' : al.length ≤ 1000 := by omega
                    have dm' := dm
                    go_wp2_with (first
                      | (go_at_call 9; ((with_reducible refine HA.out.mono ?_); rintro e w5 ⟨v5, rfl, hs, hb5⟩; obtain ⟨A5, n5, c5, rfl⟩ := hs.form; have V5 := Lib.hid hs.lst; have L5 := Lib.hid (Ls.out.below hb5); have B5 := Lib.hid (Hs.out.trans (hb5.mono Hs.out.size)); clear hs hb5))
                      | (go_at_call 10; ((with_reducible refine (HR.out _ L5.out).mono ?_); rintro e w6 ⟨v6, rfl, hs, hb6⟩; obtain ⟨A6, n6, c6, rfl⟩ := hs.form; have V6 := Lib.hid hs.lst; have V5' := Lib.hid (V5.out.below hb6); have B6 := Lib.hid (B5.out.trans (hb6.mono B5.out.size)); clear hs hb6))
                      | (go_at_call 11; ((with_reducible refine (same_any V5'.out V6.out (by omega)).mono ?_); rintro e w7 ⟨rfl, q7, hq⟩; have B7 := Lib.hid (show Below Wd.heap.size Wd w7 by rw [hq]; exact B6.out.trans ((below_drewN _ _).mono B6.out.size)); clear hq)))
                    go_roundg (2 - (s + 1) + 1)
                    case measure => omega
                    case rel => exact ⟨s + 1, by go_num, by omega, Nat.le_refl _, B7.out⟩
                  · have his : ¬ (s : Int) < 2 := by omega
                    have Hs := Lib.hid (BWd'.out.trans (hbs.mono BWd'.out.size))
                    have Ls := Lib.hid (QWd.out.below hbs)
                    clear hbs
                    have HA := Lib.hid (trim_any win Ls.out U3.out (by omega) Inw.out.1 Inw.out.2)
                    have HR : Hid (∀ W', Lst W' (.slice A3 n3 c3) ls → Calls Try.prog 13 #[.slice A3 n3 c3, .int .u64 nw, .int .u64 win] W' (SegPost W' (trim ls nw win))) := Lib.hid (fun W' hW' => reftrim_any win hW' U3.out (by omega) Inw.out.1 Inw.out.2)
                    have hal := trim_le ls nw win
                    generalize trim ls nw win = al at *
                    have hal' : al.length ≤ 1000 := by omega
                    go_wp2_with (first
                      | (go_at_call 12; ((with_reducible refine HA.out.mono ?_); rintro e w5 ⟨v5, rfl, hs, hb5⟩; obtain ⟨A5, n5, c5, rfl⟩ := hs.form; have V5 := Lib.hid hs.lst; have L5 := Lib.hid (Ls.out.below hb5); have B5 := Lib.hid (Hs.out.trans (hb5.mono Hs.out.size)); clear hs hb5))
                      | (go_at_call 13; ((with_reducible refine (HR.out _ L5.out).mono ?_); rintro e w6 ⟨v6, rfl, hs, hb6⟩; obtain ⟨A6, n6, c6, rfl⟩ := hs.form; have V6 := Lib.hid hs.lst; have V5' := Lib.hid (V5.out.below hb6); have B6 := Lib.hid (B5.out.trans (hb6.mono B5.out.size)); clear hs hb6))
                      | (go_at_call 11; ((with_reducible refine (same_any V5'.out V6.out (by omega)).mono ?_); rintro e w7 ⟨rfl, q7, hq⟩; have B7 := Lib.hid (show Below Wc.heap.size Wc w7 by rw [hq]; exact B6.out.trans ((below_drewN _ _).mono B6.out.size)); clear hq)))
                    go_roundg (2 - (m + 1) + 1)
                    case measure => omega
                    case rel => exact ⟨m + 1, by go_num, by omega, Nat.le_refl _, B7.out⟩
              · have him : ¬ (m : Int) < 2 := by omega
                have Hm := Lib.hid (BWc'.out.trans (hbm.mono BWc'.out.size))
                clear hbm
                go_wp2_with fail
                go_roundg (2 - (j + 1) + 1)
                case measure => omega
                case rel => exact ⟨j + 1, by go_num, by omega, Nat.le_refl _, Hm.out⟩
          · have hij : ¬ (j : Int) < 2 := by omega
            have Hj := Lib.hid (BWb'.out.trans (hbj.mono BWb'.out.size))
            clear hbj
            go_wp2_with fail
            go_roundg (2 - (k + 1) + 1)
            case measure => omega
            case rel => exact ⟨k + 1, by go_num, by omega, Nat.le_refl _, Hj.out⟩
      · have hki : ¬ (k : Int) < 2 := by omega
        have HB := Lib.hid (BW.out.trans (hb.mono BW.out.size))
        clear hb
        go_wp2_with fail
        go_ret
        exact ⟨rfl, HB.out⟩
theorem BurstAllows_law (a0 : Option Addr) (len0 cap0 : Nat) (z0 : List Int) (a1 a2 a3 : Int) (w : World) (w0 : (a0 = none ∧ len0 = 0 ∧ cap0 = 0 ∧ z0 = []) ∨
    ∃ x, a0 = some x ∧ len0 ≤ cap0 ∧ cap0 ≤ maxLen ∧ z0.length = cap0 ∧ (∀ i, i < z0.length → w.cell? (x.add i) = some (.int .u64 (z0.getD i 0))) ∧ ∀ n ∈ z0, (Lit.int .u64 n).wf = true)
    (w1 : (Lit.int .i64 a1).wf = true) (w2 : (Lit.int .u64 a2).wf = true) (w3 : (Lit.int .u64 a3).wf = true) :
    Calls Try.prog 3 #[.slice a0 len0 cap0, .int .i64 a1, .int .u64 a2, .int .u64 a3] w (BTrue w) := by
  obtain ⟨l, rfl, hL, hU, hle⟩ := lst_of_row w0
  exact BurstAllows_walk hL hU hle w1 w2 w3
end Go.Proofs.Ytkabhpmnhdhodaa.Bu
