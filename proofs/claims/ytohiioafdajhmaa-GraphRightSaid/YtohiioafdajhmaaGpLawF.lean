/-
  Layer 7: GraphFirst.
-/
import Derived.Test.YtohiioafdajhmaaGpWild
namespace Go.Proofs.Ytohiioafdajhmaa.Gp
open Go.RowKit

/-- Is a job left that could be taken: it is not in P, and all of these are? -/
def rdB (P : List Nat) (x : Nat) (l : List Nat) : Bool := !decide (x ∈ P) && l.all fun m => decide (m ∈ P)
theorem rdB_snoc (P : List Nat) (x : Nat) (l : List Nat) (y : Nat) : rdB P x (l ++ [y]) = (rdB P x l && decide (y ∈ P)) := by unfold rdB; simp [Bool.and_assoc]
theorem rdB_nil (P : List Nat) (x : Nat) : rdB P x [] = !decide (x ∈ P) := by unfold rdB; simp
theorem rdB_no {P : List Nat} {x : Nat} {l : List Nat} (h : x ∉ P → ∃ k ∈ l, k ∉ P) : rdB P x l = false := by
  unfold rdB
  by_cases hx : x ∈ P
  · rw [decide_eq_true hx]; rfl
  · obtain ⟨k, h1, h2⟩ := h hx
    rw [Bool.and_eq_false_iff]
    right
    rw [List.all_eq_false]
    exact ⟨k, h1, by simpa using h2⟩
theorem has_nat {w : World} {v : Value} {l : List Nat} (h : Lst .i64 w v (ints l)) (x : Nat) :
    Calls Try.prog 24 #[v, .int .i64 x] w fun e w' => e = .returned (.bool (decide (x ∈ l))) ∧ ∃ m, w' = w.drewN m := by
  have := rhas_ex h (x : Int)
  rw [show decide ((x : Int) ∈ ints l) = decide (x ∈ l) by rw [Bool.eq_iff_iff, decide_eq_true_eq, decide_eq_true_eq]; exact mem_ints] at this
  exact this
theorem lst_take {w : World} {A : Option Addr} {n c : Nat} {l : List Nat} (h : Lst .i64 w (.slice A n c) (ints l)) {k : Nat} (hk : k ≤ l.length) : Lst .i64 w (.slice A k c) (ints (l.take k)) := by
  obtain ⟨A', c', e, hr, hA, hlc, hcm⟩ := h
  injection e with e1 e2 e3
  subst e1; subst e3
  rw [ints_length] at e2 hlc
  refine ⟨_, _, by rw [ints_length, List.length_take]; congr 1; omega, fun hn => ?_, hA, by rw [ints_length, List.length_take]; omega, hcm⟩
  rw [ints_length, List.length_take] at hn
  obtain ⟨g, off, rfl, hc⟩ := hr (by rw [ints_length]; omega)
  refine ⟨g, off, rfl, fun j x hx => hc j x ?_⟩
  have hj : j < (ints (l.take k)).length := (List.getElem?_eq_some_iff.1 hx).1
  rw [ints_length, List.length_take] at hj
  rw [← hx]
  simp only [ints, List.getElem?_map]
  rw [List.getElem?_take_of_lt (by omega)]
set_option maxHeartbeats 4000000 in
set_option maxRecDepth 100000 in
theorem GraphFirst_law {w : World} {A : Option Addr} {n c : Nat} {zs : List Int} (h : IntsIn w A n zs) :
    Calls Try.prog 7 #[.slice A n c] w (BPost w true) := by
  have HS := Lib.hid (sane_any w)
  have HW := Lib.hid (fun (W : World) (hb : Below w.heap.size w W) => wild_any (c := c) (h.below hb))
  clear h
  go_enter Try.func7, Try.ntmps7
  go_upto_region 4 with (first
    | (go_at_call 8; ((with_reducible refine HS.out.mono ?_); rintro e w1 ⟨rfl, hb1⟩; have B1 := Lib.hid hb1; have HW1 := Lib.hid (HW.out _ hb1); clear hb1))
    | (go_at_call 9; ((with_reducible refine HW1.out.mono ?_); rintro e w2 ⟨v2, js, rfl, hj, hjl, hb2⟩; obtain ⟨A2, c2, rfl⟩ := hj.form; have J2 := Lib.hid hj; have B2 := Lib.hid (B1.out.trans (hb2.mono B1.out.size)); clear hj hb2)))
  have HO := Lib.hid (gorder_ex J2.out)
  obtain ⟨nn, hnn⟩ : ∃ nn, nn = nnOf js := ⟨_, rfl⟩
  have hlen : js.length = nn.length := by rw [hnn, nnOf_length]
  have HX := Lib.hid (fun (W : World) (k : Nat) (hb : Below w2.heap.size w2 W) => (by have := gneeds_pl (J2.out.below hb) k; rw [needsI_nat] at this; exact this))
  rw [← hnn] at HO HX
  rw [hlen] at HO HX hjl ⊢
  obtain ⟨m, hm⟩ : ∃ m, m = nn.length := ⟨_, rfl⟩
  rw [← hm] at HO HX hjl ⊢
  have HMM := Lib.hid hm
  clear hnn hlen hm HW HS HW1 B1
  obtain ⟨ord, hord⟩ : ∃ ord, ord = orderN nn := ⟨_, rfl⟩
  rw [← hord] at HO
  have ORD := Lib.hid hord
  have hol := (order_len (nn := nn)).1
  rw [← hord, ← HMM.out] at hol
  clear hord
  go_wp2_with (go_at_call 13; ((with_reducible refine HO.out.mono ?_); rintro e w3 ⟨v3, rfl, ho3, hb3⟩; obtain ⟨A3, c3, rfl⟩ := own_formN ho3; have L3 := Lib.hid ho3.lst; have B3 := Lib.hid hb3; clear ho3 hb3))
  obtain ⟨ol, hole⟩ : ∃ ol, ol = ord.length := ⟨_, rfl⟩
  rw [← hole] at L3 hol ⊢
  have OL := Lib.hid hole
  have hc3 : ol ≤ c3 := by obtain ⟨_, c', e, _, _, hx, _⟩ := L3.out; injection e with _ _ e; rw [ints_length, ← hole] at hx; omega
  clear hole HO
  go_loopg [23] (ol + 1) (fun g' v23 wr => ∃ (k : Nat), v23 = .int .i64 k ∧ k ≤ ol ∧ ol - k + 1 ≤ g' ∧ Below w3.heap.size w3 wr)
  case atStart => exact ⟨0, rfl, by omega, by omega, Below.refl _ _⟩
  case round =>
    obtain ⟨k, rfl, hk, hg, hbr⟩ := hrel
    obtain ⟨wo, rfl⟩ : ∃ wo : World, wo = wr := ⟨_, rfl⟩
    have BR := Lib.hid hbr
    have L4 := Lib.hid (L3.out.below hbr)
    clear hbr
    by_cases hkm : k < ol
    · have hki : (k : Int) < (ol : Int) := by omega
      have hkl : k < ord.length := by rw [← OL.out]; exact hkm
      obtain ⟨g, off, rfl, hc⟩ := lst_cells L4.out (by rw [ints_length]; omega)
      have h0 := hc k (by rw [ints_length]; exact hkl)
      rw [getD_ints (by rw [ints_length]; exact hkl)] at h0
      have hsp : ord = ord.take k ++ ord[k]'hkl :: ord.drop (k + 1) := by rw [← List.drop_eq_getElem_cons hkl, List.take_append_drop]
      generalize ord[k]'hkl = x0 at *
      have hof := order_front (nn := nn) (by rw [← ORD.out]; exact hsp)
      obtain ⟨P, hP⟩ : ∃ P, P = ord.take k := ⟨_, rfl⟩
      rw [← hP] at hof
      have OF := Lib.hid hof.2.2.2
      have hx0 : x0 < m := by rw [HMM.out]; exact hof.1
      have LP := Lib.hid (lst_take L4.out (k := k) (by omega))
      rw [← hP] at LP
      clear hc hsp hof hP
      go_wp2_with fail
      go_loopg [7] (x0 + 1) (fun g' v7 wr => ∃ (y0 : Nat), v7 = .int .i64 y0 ∧ y0 ≤ x0 ∧ x0 - y0 + 1 ≤ g' ∧ Below wo.heap.size wo wr)
      case atStart => exact ⟨0, rfl, by omega, by omega, Below.refl _ _⟩
      case round =>
        obtain ⟨y0, rfl, hy, hg7, hb7⟩ := hrel
        obtain ⟨wp, rfl⟩ : ∃ wp : World, wp = wr := ⟨_, rfl⟩
        have BP := Lib.hid hb7
        have LP2 := Lib.hid (LP.out.below hb7)
        have B2p := Lib.hid ((B3.out.trans (BR.out.mono B3.out.size)).trans (hb7.mono (Nat.le_trans B3.out.size BR.out.size)))
        clear hb7
        by_cases hyx : y0 < x0
        · have hyi : (y0 : Int) < (x0 : Int) := by omega
          have hkc : (k : Int) ≤ (c3 : Int) := by omega
          have HH0 := Lib.hid (has_nat LP2.out y0)
          have HN := Lib.hid (fun (W : World) (hb : Below wp.heap.size wp W) => HX.out W y0 (B2p.out.trans (hb.mono B2p.out.size)))
          obtain ⟨need, hneed⟩ : ∃ need, need = nn.getD y0 [] := ⟨_, rfl⟩
          rw [← hneed] at HN
          have FIN := Lib.hid (rdB_no (P := P) (x := y0) (l := need) (fun hx => by rw [hneed]; exact OF.out y0 hyx hx))
          clear hneed
          go_wp2_with (first
            | (go_at_call 24; ((with_reducible refine HH0.out.mono ?_); rintro e w6 ⟨rfl, d6, hw6⟩; have hb6 : Below wp.heap.size wp w6 := (by rw [hw6]; exact below_drewN _ _); have HN6 := Lib.hid (HN.out _ hb6); have LP6 := Lib.hid (LP2.out.below hb6); have BP6 := Lib.hid (BP.out.trans (hb6.mono BP.out.size)); clear hb6 hw6))
            | (go_at_call 17; ((with_reducible refine HN6.out.mono ?_); rintro e w4 ⟨v4, rfl, hl4, hb4⟩; obtain ⟨A4, c4, rfl⟩ := lst_formN hl4; have LN := Lib.hid hl4; have LP5 := Lib.hid (LP6.out.below hb4); have B4 := Lib.hid (BP6.out.trans (hb4.mono BP6.out.size)); clear hl4 hb4)))
          obtain ⟨q, hq⟩ : ∃ q, q = need.length := ⟨_, rfl⟩
          rw [← hq] at LN ⊢
          have hqb : q ≤ 9223372036854775807 := by have := lst_bd LN.out; rw [ints_length, ← hq] at this; exact this
          have Q := Lib.hid hq
          clear hq
          go_loopg [8, 43] (q + 1) (fun g2 v8 v38 w5 => ∃ (j : Nat), v8 = .bool (rdB P y0 (need.take j)) ∧ v38 = .int .i64 j ∧ j ≤ q ∧ q - j + 1 ≤ g2 ∧ ∃ d, w5 = w4.drewN d)
          case atStart => exact ⟨0, by rw [List.take_zero, rdB_nil], rfl, by omega, by omega, 0, rfl⟩
          case round =>
            obtain ⟨j, rfl, rfl, hj, hg2, d5, rfl⟩ := hrel
            by_cases hjq : j < q
            · have hji : (j : Int) < (q : Int) := by omega
              have hjl2 : j < need.length := by rw [← Q.out]; exact hjq
              obtain ⟨gn, offn, rfl, hcn⟩ := lst_cells LN.out (by rw [ints_length]; omega)
              have hv := hcn j (by rw [ints_length]; exact hjl2)
              rw [getD_ints (by rw [ints_length]; exact hjl2)] at hv
              have htk : need.take (j + 1) = need.take j ++ [need[j]'hjl2] := List.take_succ_eq_append_getElem hjl2
              generalize need[j]'hjl2 = y at *
              have hsn := rdB_snoc P y0 (need.take j) y
              rw [← htk] at hsn
              have SN := Lib.hid hsn
              have HH := Lib.hid (has_nat (LP5.out.drewN d5) y)
              clear hcn htk hsn
              cases hb : rdB P y0 (need.take j) with
              | false =>
                rw [hb, Bool.false_and] at SN
                clear hb
                go_wp2_with fail
                go_roundg (q - (j + 1) + 1)
                case measure => omega
                case rel => exact ⟨j + 1, by rw [SN.out], by go_num, by omega, Nat.le_refl _, d5, rfl⟩
              | true =>
                rw [hb, Bool.true_and] at SN
                clear hb
                generalize decide (y ∈ P) = bb at *
                go_wp2_with (go_at_call 24; ((with_reducible refine HH.out.mono ?_); rintro e w6 ⟨rfl, d6, rfl⟩))
                go_roundg (q - (j + 1) + 1)
                case measure => omega
                case rel => exact ⟨j + 1, by rw [SN.out], by go_num, by omega, Nat.le_refl _, d5 + d6, rfl⟩
            · obtain rfl : j = q := by omega
              have htk : need.take j = need := List.take_of_length_le (by rw [Q.out]; exact Nat.le_refl _)
              rw [htk, FIN.out]
              clear htk FIN
              go_wp2_with fail
              go_roundg (x0 - (y0 + 1) + 1)
              case measure => omega
              case rel => exact ⟨y0 + 1, by go_num, by omega, Nat.le_refl _, B4.out.trans ((below_drewN _ _).mono B4.out.size)⟩
        · obtain rfl : y0 = x0 := by omega
          go_wp2_with fail
          go_roundg (ol - (k + 1) + 1)
          case measure => omega
          case rel => exact ⟨k + 1, by go_num, by omega, Nat.le_refl _, BR.out.trans (BP.out.mono BR.out.size)⟩
    · obtain rfl : k = ol := by omega
      have B2o := Lib.hid (B3.out.trans (BR.out.mono B3.out.size))
      go_wp2_with fail
      go_loopg [60] (m + 1) (fun g' v60 wr => ∃ (y0 : Nat), v60 = .int .i64 y0 ∧ y0 ≤ m ∧ m - y0 + 1 ≤ g' ∧ Below wo.heap.size wo wr)
      case atStart => exact ⟨0, rfl, by omega, by omega, Below.refl _ _⟩
      case round =>
        obtain ⟨y0, rfl, hy, hg7, hb7⟩ := hrel
        obtain ⟨wp, rfl⟩ : ∃ wp : World, wp = wr := ⟨_, rfl⟩
        have BP := Lib.hid hb7
        have LP2 := Lib.hid (L4.out.below hb7)
        have B2p := Lib.hid (B2o.out.trans (hb7.mono B2o.out.size))
        clear hb7
        by_cases hym : y0 < m
        · have hyi : (y0 : Int) < (m : Int) := by omega
          have HH0 := Lib.hid (has_nat LP2.out y0)
          have HN := Lib.hid (fun (W : World) (hb : Below wp.heap.size wp W) => HX.out W y0 (B2p.out.trans (hb.mono B2p.out.size)))
          obtain ⟨need, hneed⟩ : ∃ need, need = nn.getD y0 [] := ⟨_, rfl⟩
          rw [← hneed] at HN
          have FIN := Lib.hid (rdB_no (P := ord) (x := y0) (l := need) (fun hx => by rw [hneed, ORD.out]; exact order_end (by rw [← HMM.out]; exact hym) (by rw [← ORD.out]; exact hx)))
          clear hneed
          go_wp2_with (first
            | (go_at_call 24; ((with_reducible refine HH0.out.mono ?_); rintro e w6 ⟨rfl, d6, hw6⟩; have hb6 : Below wp.heap.size wp w6 := (by rw [hw6]; exact below_drewN _ _); have HN6 := Lib.hid (HN.out _ hb6); have LP6 := Lib.hid (LP2.out.below hb6); have BP6 := Lib.hid (BP.out.trans (hb6.mono BP.out.size)); clear hb6 hw6))
            | (go_at_call 17; ((with_reducible refine HN6.out.mono ?_); rintro e w4 ⟨v4, rfl, hl4, hb4⟩; obtain ⟨A4, c4, rfl⟩ := lst_formN hl4; have LN := Lib.hid hl4; have LP5 := Lib.hid (LP6.out.below hb4); have B4 := Lib.hid (BP6.out.trans (hb4.mono BP6.out.size)); clear hl4 hb4)))
          obtain ⟨q, hq⟩ : ∃ q, q = need.length := ⟨_, rfl⟩
          rw [← hq] at LN ⊢
          have hqb : q ≤ 9223372036854775807 := by have := lst_bd LN.out; rw [ints_length, ← hq] at this; exact this
          have Q := Lib.hid hq
          clear hq
          go_loopg [12, 71] (q + 1) (fun g2 v8 v38 w5 => ∃ (j : Nat), v8 = .bool (rdB ord y0 (need.take j)) ∧ v38 = .int .i64 j ∧ j ≤ q ∧ q - j + 1 ≤ g2 ∧ ∃ d, w5 = w4.drewN d)
          case atStart => exact ⟨0, by rw [List.take_zero, rdB_nil], rfl, by omega, by omega, 0, rfl⟩
          case round =>
            obtain ⟨j, rfl, rfl, hj, hg2, d5, rfl⟩ := hrel
            by_cases hjq : j < q
            · have hji : (j : Int) < (q : Int) := by omega
              have hjl2 : j < need.length := by rw [← Q.out]; exact hjq
              obtain ⟨gn, offn, rfl, hcn⟩ := lst_cells LN.out (by rw [ints_length]; omega)
              have hv := hcn j (by rw [ints_length]; exact hjl2)
              rw [getD_ints (by rw [ints_length]; exact hjl2)] at hv
              have htk : need.take (j + 1) = need.take j ++ [need[j]'hjl2] := List.take_succ_eq_append_getElem hjl2
              generalize need[j]'hjl2 = y at *
              have hsn := rdB_snoc ord y0 (need.take j) y
              rw [← htk] at hsn
              have SN := Lib.hid hsn
              have HH := Lib.hid (has_nat (LP5.out.drewN d5) y)
              clear hcn htk hsn
              cases hb : rdB ord y0 (need.take j) with
              | false =>
                rw [hb, Bool.false_and] at SN
                clear hb
                go_wp2_with fail
                go_roundg (q - (j + 1) + 1)
                case measure => omega
                case rel => exact ⟨j + 1, by rw [SN.out], by go_num, by omega, Nat.le_refl _, d5, rfl⟩
              | true =>
                rw [hb, Bool.true_and] at SN
                clear hb
                generalize decide (y ∈ ord) = bb at *
                go_wp2_with (go_at_call 24; ((with_reducible refine HH.out.mono ?_); rintro e w6 ⟨rfl, d6, rfl⟩))
                go_roundg (q - (j + 1) + 1)
                case measure => omega
                case rel => exact ⟨j + 1, by rw [SN.out], by go_num, by omega, Nat.le_refl _, d5 + d6, rfl⟩
            · obtain rfl : j = q := by omega
              have htk : need.take j = need := List.take_of_length_le (by rw [Q.out]; exact Nat.le_refl _)
              rw [htk, FIN.out]
              clear htk FIN
              go_wp2_with fail
              go_roundg (m - (y0 + 1) + 1)
              case measure => omega
              case rel => exact ⟨y0 + 1, by go_num, by omega, Nat.le_refl _, B4.out.trans ((below_drewN _ _).mono B4.out.size)⟩
        · obtain rfl : y0 = m := by omega
          go_wp2_with fail
          go_ret
          exact ⟨rfl, B2.out.trans (B2p.out.mono B2.out.size)⟩
end Go.Proofs.Ytohiioafdajhmaa.Gp
