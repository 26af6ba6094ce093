/-
  Layer 7: GraphRight.
-/
import Derived.Test.YtohiioafdajhmaaGpLawF
namespace Go.Proofs.Ytohiioafdajhmaa.Gp
open Go.RowKit

set_option maxHeartbeats 4000000 in
set_option maxRecDepth 100000 in
theorem GraphRight_law {w : World} {A : Option Addr} {n c : Nat} {zs : List Int} (h : IntsIn w A n zs) :
    Calls Try.prog 5 #[.slice A n c] w (BPost w true) := by
  have HS := Lib.hid (sane_any w)
  have HW := Lib.hid (fun (W : World) (hb : Below w.heap.size w W) => wild_any (c := c) (h.below hb))
  clear h
  go_enter Try.func5, Try.ntmps5
  go_upto_region 4 with (first
    | (go_at_call 8; ((with_reducible refine HS.out.mono ?_); rintro e w1 ⟨rfl, hb1⟩; have B1 := Lib.hid hb1; have HW1 := Lib.hid (HW.out _ hb1); clear hb1))
    | (go_at_call 9; ((with_reducible refine HW1.out.mono ?_); rintro e w2 ⟨v2, js, rfl, hj, hjl, hb2⟩; obtain ⟨A2, c2, rfl⟩ := hj.form; have J2 := Lib.hid hj; have B2 := Lib.hid (B1.out.trans (hb2.mono B1.out.size)); clear hj hb2)))
  have HO := Lib.hid (gorder_ex J2.out)
  have HC := Lib.hid (fun (W : World) (hb : Below w2.heap.size w2 W) => gcycle_ex (J2.out.below hb))
  obtain ⟨nn, hnn⟩ : ∃ nn, nn = nnOf js := ⟨_, rfl⟩
  have hlen : js.length = nn.length := by rw [hnn, nnOf_length]
  have hbd := nnOf_bd js
  have HX := Lib.hid (fun (W : World) (k : Nat) (hb : Below w2.heap.size w2 W) => (by have := gneeds_pl (J2.out.below hb) k; rw [needsI_nat] at this; exact this))
  rw [← hnn] at HO HC HX hbd
  rw [hlen] at HO HC HX hjl ⊢
  obtain ⟨m, hm⟩ : ∃ m, m = nn.length := ⟨_, rfl⟩
  have hcl := cycle_len hbd
  have hcy := cycle_cyc hbd
  rw [← hm] at HO HC HX hjl ⊢
  have HMM := Lib.hid hm
  clear hnn hlen hm hbd HW HS HW1 B1
  obtain ⟨ord, hord⟩ : ∃ ord, ord = orderN nn := ⟨_, rfl⟩
  obtain ⟨cyc, hcyc⟩ : ∃ cyc, cyc = cycleN nn := ⟨_, rfl⟩
  rw [← hord] at HO
  rw [← hcyc] at HC
  have ORD := Lib.hid hord
  have hol := (order_len (nn := nn)).1
  rw [← hord, ← HMM.out] at hol
  rw [← hord, ← hcyc, ← HMM.out] at hcl
  rw [← hcyc] at hcy
  have CL := Lib.hid hcl
  have CY := Lib.hid hcy
  clear hord hcyc hcl hcy
  go_wp2_with (first
    | (go_at_call 13; ((with_reducible refine HO.out.mono ?_); rintro e w3 ⟨v3, rfl, ho3, hb3⟩; obtain ⟨A3, c3, rfl⟩ := own_formN ho3; have L3 := Lib.hid ho3.lst; have B3 := Lib.hid hb3; have HC3 := Lib.hid (HC.out _ hb3); clear ho3 hb3))
    | (go_at_call 15; ((with_reducible refine HC3.out.mono ?_); rintro e w4 ⟨v4, rfl, hl4, hb4⟩; obtain ⟨A4, c4, rfl⟩ := lst_formN hl4; have C4 := Lib.hid hl4; have L4 := Lib.hid (L3.out.below hb4); have B4 := Lib.hid (B3.out.trans (hb4.mono B3.out.size)); clear hl4 hb4)))
  obtain ⟨ol, hole⟩ : ∃ ol, ol = ord.length := ⟨_, rfl⟩
  obtain ⟨cl, hcle⟩ : ∃ cl, cl = cyc.length := ⟨_, rfl⟩
  rw [← hole] at L4 hol CL ⊢
  rw [← hcle] at C4 CL ⊢
  have OL := Lib.hid hole
  have CLE := Lib.hid hcle
  have hc3 : ol ≤ c3 := by obtain ⟨_, c', e, _, _, hx, _⟩ := L4.out; injection e with _ _ e; rw [ints_length, ← hole] at hx; omega
  have hc4 : cl ≤ c4 := by obtain ⟨_, c', e, _, _, hx, _⟩ := C4.out; injection e with _ _ e; rw [ints_length, ← hcle] at hx; omega
  have hclb : cl ≤ 9223372036854775807 := by have := lst_bd C4.out; rw [ints_length, ← hcle] at this; exact this
  clear hole hcle HO HC HC3 L3
  go_loopg [22] (ol + 1) (fun g' v23 wr => ∃ (k : Nat), v23 = .int .i64 k ∧ k ≤ ol ∧ ol - k + 1 ≤ g' ∧ Below w4.heap.size w4 wr)
  case atStart => exact ⟨0, rfl, by omega, by omega, Below.refl _ _⟩
  case round =>
    obtain ⟨k, rfl, hk, hg, hbr⟩ := hrel
    obtain ⟨wo, rfl⟩ : ∃ wo : World, wo = wr := ⟨_, rfl⟩
    have BR := Lib.hid hbr
    have L5 := Lib.hid (L4.out.below hbr)
    have B2o := Lib.hid (B4.out.trans (hbr.mono B4.out.size))
    clear hbr
    by_cases hkm : k < ol
    · have hki : (k : Int) < (ol : Int) := by omega
      have hkc : (k : Int) ≤ (c3 : Int) := by omega
      have hkl : k < ord.length := by rw [← OL.out]; exact hkm
      obtain ⟨g, off, rfl, hc⟩ := lst_cells L5.out (by rw [ints_length]; omega)
      have h0 := hc k (by rw [ints_length]; exact hkl)
      rw [getD_ints (by rw [ints_length]; exact hkl)] at h0
      have hsp : ord = ord.take k ++ ord[k]'hkl :: ord.drop (k + 1) := by rw [← List.drop_eq_getElem_cons hkl, List.take_append_drop]
      generalize ord[k]'hkl = x0 at *
      have hof := order_front (nn := nn) (by rw [← ORD.out]; exact hsp)
      obtain ⟨P, hP⟩ : ∃ P, P = ord.take k := ⟨_, rfl⟩
      obtain ⟨need, hneed⟩ : ∃ need, need = nn.getD x0 [] := ⟨_, rfl⟩
      rw [← hP, ← hneed] at hof
      have OF := Lib.hid hof.2.2.1
      have LP := Lib.hid (lst_take L5.out (k := k) (by omega))
      rw [← hP] at LP
      have HN := Lib.hid (HX.out wo x0 B2o.out)
      rw [← hneed] at HN
      clear hc hsp hof hP hneed
      go_wp2_with (go_at_call 17; ((with_reducible refine HN.out.mono ?_); rintro e w5 ⟨v5, rfl, hl5, hb5⟩; obtain ⟨A5, c5, rfl⟩ := lst_formN hl5; have LN := Lib.hid hl5; have LP5 := Lib.hid (LP.out.below hb5); have B5 := Lib.hid (BR.out.trans (hb5.mono BR.out.size)); clear hl5 hb5))
      obtain ⟨q, hq⟩ : ∃ q, q = need.length := ⟨_, rfl⟩
      rw [← hq] at LN ⊢
      have hqb : q ≤ 9223372036854775807 := by have := lst_bd LN.out; rw [ints_length, ← hq] at this; exact this
      have Q := Lib.hid hq
      clear hq
      go_loopg [31] (q + 1) (fun g2 v31 w6 => ∃ (j : Nat), v31 = .int .i64 j ∧ j ≤ q ∧ q - j + 1 ≤ g2 ∧ ∃ d, w6 = w5.drewN d)
      case atStart => exact ⟨0, rfl, by omega, by omega, 0, rfl⟩
      case round =>
        obtain ⟨j, rfl, hj, hg2, d5, rfl⟩ := hrel
        by_cases hjq : j < q
        · have hji : (j : Int) < (q : Int) := by omega
          have hjl2 : j < need.length := by rw [← Q.out]; exact hjq
          obtain ⟨gn, offn, rfl, hcn⟩ := lst_cells LN.out (by rw [ints_length]; omega)
          have hv := hcn j (by rw [ints_length]; exact hjl2)
          rw [getD_ints (by rw [ints_length]; exact hjl2)] at hv
          have hmem : need[j]'hjl2 ∈ P := OF.out _ (List.getElem_mem _)
          generalize need[j]'hjl2 = y at *
          have HH := Lib.hid (has_nat (LP5.out.drewN d5) y)
          rw [decide_eq_true hmem] at HH
          clear hcn hmem
          go_wp2_with (go_at_call 24; ((with_reducible refine HH.out.mono ?_); rintro e w6 ⟨rfl, d6, rfl⟩))
          go_roundg (q - (j + 1) + 1)
          case measure => omega
          case rel => exact ⟨j + 1, by go_num, by omega, Nat.le_refl _, d5 + d6, rfl⟩
        · obtain rfl : j = q := by omega
          go_wp2_with fail
          go_roundg (ol - (k + 1) + 1)
          case measure => omega
          case rel => exact ⟨k + 1, by go_num, by omega, Nat.le_refl _, B5.out.trans ((below_drewN _ _).mono B5.out.size)⟩
    · obtain rfl : k = ol := by omega
      have hbo : ((k : Int) == (m : Int)) = ((cl : Int) == 0) := by
        have h1 := CL.out
        by_cases e : k = m
        · have e2 := h1.1 e
          rw [e, e2, beq_self_eq_true]; rfl
        · have e2 : ¬ cl = 0 := fun h => e (h1.2 h)
          rw [beq_eq_false_iff_ne.2 (by omega), beq_eq_false_iff_ne.2 (by omega)]
      have C5 := Lib.hid (C4.out.below BR.out)
      generalize hbb : ((cl : Int) == 0) = bb at *
      cases bb
      all_goals
        go_wp2_with fail
        go_loopg [54] (cl + 1) (fun g' v54 wr => ∃ (z : Nat), v54 = .int .i64 z ∧ z ≤ cl ∧ cl - z + 1 ≤ g' ∧ Below wo.heap.size wo wr)
        case atStart => exact ⟨0, rfl, by omega, by omega, Below.refl _ _⟩
        case round =>
          obtain ⟨z, rfl, hz, hg3, hb3⟩ := hrel
          obtain ⟨wp, rfl⟩ : ∃ wp : World, wp = wr := ⟨_, rfl⟩
          have BP := Lib.hid hb3
          have C6 := Lib.hid (C5.out.below hb3)
          have B2p := Lib.hid (B2o.out.trans (hb3.mono B2o.out.size))
          clear hb3
          by_cases hzc : z < cl
          · have hzi : (z : Int) < (cl : Int) := by omega
            have hz4 : (z : Int) ≤ (c4 : Int) := by omega
            have hzl : z < cyc.length := by rw [← CLE.out]; exact hzc
            have hcl0 : ((cl : Int) == 0) = false := beq_eq_false_iff_ne.2 (by omega)
            have hclz : ¬ cl = 0 := by omega
            have hcy := CY.out (by omega)
            obtain ⟨nx, hnx⟩ : ∃ nx, nx = (z + 1) % cl := ⟨_, rfl⟩
            have hnxl : nx < cl := by rw [hnx]; exact Nat.mod_lt _ (by omega)
            have hnxi : (nx : Int) < (cl : Int) := by omega
            have hnxc : nx < cyc.length := by rw [← CLE.out]; exact hnxl
            have htm : ((z : Int) + 1).tmod (cl : Int) = (nx : Int) := by rw [hnx, Int.tmod_eq_emod_of_nonneg (by omega)]; push_cast; rfl
            have hw1 : IntKind.i64.wrap ((z : Int) + 1) = (z : Int) + 1 := by rw [IntKind.wrap_i64]; omega
            have hw2 : IntKind.i64.wrap (nx : Int) = (nx : Int) := by rw [IntKind.wrap_i64]; omega
            obtain ⟨g, off, rfl, hc⟩ := lst_cells C6.out (by rw [ints_length]; omega)
            have h0 := hc z (by rw [ints_length]; exact hzl)
            have h1 := hc nx (by rw [ints_length]; exact hnxc)
            rw [getD_ints (by rw [ints_length]; exact hzl)] at h0
            rw [getD_ints (by rw [ints_length]; exact hnxc)] at h1
            have hlink := hcy.link z (cyc[z]'hzl) (cyc[nx]'hnxc) (List.getElem?_eq_getElem hzl) (by rw [← CLE.out, ← hnx]; exact List.getElem?_eq_getElem hnxc)
            have hsp : cyc = cyc.take z ++ cyc[z]'hzl :: cyc.drop (z + 1) := by rw [← List.drop_eq_getElem_cons hzl, List.take_append_drop]
            generalize cyc[z]'hzl = x at *
            generalize cyc[nx]'hnxc = y at *
            have hnd := hcy.nodup
            rw [hsp, List.nodup_append] at hnd
            have hnot : x ∉ cyc.take z := fun hx => hnd.2.2 x hx x (by simp) rfl
            have LP := Lib.hid (lst_take C6.out (k := z) (by omega))
            have NX2 := Lib.hid hnot
            have HN := Lib.hid (fun (W : World) (hb : Below wp.heap.size wp W) => HX.out W x (B2p.out.trans (hb.mono B2p.out.size)))
            obtain ⟨need, hneed⟩ : ∃ need, need = nn.getD x [] := ⟨_, rfl⟩
            rw [← hneed] at HN hlink
            have LK := Lib.hid hlink
            have NXX := Lib.hid hnx
            clear hc hcy hlink hsp hnd hnot hneed hnx
            go_wp2_with fail
            have H1d := Lib.hid (has_nat (w := wp.drew) (show Lst .i64 wp.drew _ _ from LP.out) x)
            rw [decide_eq_false NX2.out] at H1d
            have HC0 : wp.drew.cell? ⟨g, off + nx, none⟩ = some (.int .i64 (y : Int)) := h1
            go_region_held3 (fun w' => w'.cell? ⟨g, off + nx, none⟩ = some (.int .i64 (y : Int)))
                (first
                  | exact h17
                  | exact h16
                  | exact h15
                  | exact HC0)
                (first
                  | (go_at_call 24; ((with_reducible refine H1d.out.mono ?_); rintro e w5 ⟨rfl, d5, hw5⟩; have hb5 : Below wp.heap.size wp w5 := (by rw [hw5]; exact (below_drewN wp 1).trans (below_drewN (wp.drewN 1) d5)); have h15 := cell_up hb5 h1; have B5 := Lib.hid hb5; have HN5 := Lib.hid (HN.out _ hb5); clear hb5 hw5))
                  | (go_at_call 17; ((with_reducible refine HN5.out.mono ?_); rintro e w6 ⟨v6, rfl, hl6, hb6⟩; obtain ⟨A6, c6, rfl⟩ := lst_formN hl6; have h16 := cell_up hb6 h15; have B6 := Lib.hid (B5.out.trans (hb6.mono B5.out.size)); have H6 := has_nat hl6 y; rw [decide_eq_true LK.out] at H6; have H6 := Lib.hid H6; clear hl6 hb6))
                  | (go_at_call 24; ((with_reducible refine H6.out.mono ?_); rintro e w7 ⟨rfl, d7, hw7⟩; have h17 := cell_up (show Below w6.heap.size w6 w7 by rw [hw7]; exact below_drewN _ _) h16; have B7 := Lib.hid (B6.out.trans ((show Below w6.heap.size w6 w7 by rw [hw7]; exact below_drewN _ _).mono B6.out.size)); clear hw7)))
            all_goals
              go_wp2_with fail
              go_roundg (cl - (z + 1) + 1)
              case measure => omega
              case rel => exact ⟨z + 1, by go_num, by omega, Nat.le_refl _, BP.out.trans (B7.out.mono BP.out.size)⟩
          · obtain rfl : z = cl := by omega
            go_wp2_with fail
            go_ret
            exact ⟨rfl, B2.out.trans (B2p.out.mono B2.out.size)⟩
end Go.Proofs.Ytohiioafdajhmaa.Gp
