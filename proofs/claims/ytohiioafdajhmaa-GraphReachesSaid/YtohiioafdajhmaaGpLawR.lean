/-
  Layer 7: GraphReaches.
-/
import Derived.Test.YtohiioafdajhmaaGpWild
namespace Go.Proofs.Ytohiioafdajhmaa.Gp
open Go.RowKit

/-- Does one of these places count: it is r, or it is in D? -/
def inB (r : Nat) (D l : List Nat) : Bool := l.any fun n => decide (n = r) || decide (n ∈ D)
theorem inB_snoc (r : Nat) (D l : List Nat) (y : Nat) : inB r D (l ++ [y]) = (inB r D l || (decide (y = r) || decide (y ∈ D))) := by unfold inB; simp
theorem inB_reach {nn : List (List Nat)} {r k : Nat} (hb : ∀ i, ∀ k ∈ nn.getD i [], k < nn.length) (hk : k < nn.length) : inB r (ascN nn.length (reachN nn (r : Int))) (nn.getD k []) = decide (k ∈ ascN nn.length (reachN nn (r : Int))) := by
  rw [Bool.eq_iff_iff, decide_eq_true_eq, mem_ascN]
  unfold inB
  rw [List.any_eq_true]
  have h := reach_iff (nn := nn) (i := (r : Int)) hk
  constructor
  · rintro ⟨n, h1, h2⟩
    refine ⟨hk, h.2 ⟨n, h1, ?_⟩⟩
    rw [Bool.or_eq_true, decide_eq_true_eq, decide_eq_true_eq, mem_ascN] at h2
    rcases h2 with h2 | h2
    · exact .inl (by omega)
    · exact .inr h2.2
  · rintro ⟨_, h2⟩
    obtain ⟨n, h3, h4⟩ := h.1 h2
    refine ⟨n, h3, ?_⟩
    rw [Bool.or_eq_true, decide_eq_true_eq, decide_eq_true_eq, mem_ascN]
    rcases h4 with h4 | h4
    · exact .inl (by omega)
    · exact .inr ⟨hb k n h3, h4⟩
set_option maxHeartbeats 4000000 in
set_option maxRecDepth 100000 in
theorem GraphReaches_law {w : World} {A : Option Addr} {n c : Nat} {zs : List Int} (h : IntsIn w A n zs) {i : Int} (hi0 : -9223372036854775808 ≤ i) (hi1 : i ≤ 9223372036854775807) :
    Calls Try.prog 6 #[.slice A n c, .int .i64 i] w (BPost w true) := by
  have HS := Lib.hid (sane_any w)
  have HW := Lib.hid (fun (W : World) (hb : Below w.heap.size w W) => wild_any (c := c) (h.below hb))
  have I0 := Lib.hid hi0
  have I1 := Lib.hid hi1
  clear h hi0 hi1
  go_enter Try.func6, Try.ntmps6
  go_upto_region 4 with (first
    | (go_at_call 8; ((with_reducible refine HS.out.mono ?_); rintro e w1 ⟨rfl, hb1⟩; have B1 := Lib.hid hb1; have HW1 := Lib.hid (HW.out _ hb1); clear hb1))
    | (go_at_call 9; ((with_reducible refine HW1.out.mono ?_); rintro e w2 ⟨v2, js, rfl, hj, hjl, hb2⟩; obtain ⟨A2, c2, rfl⟩ := hj.form; have J2 := Lib.hid hj; have B2 := Lib.hid (B1.out.trans (hb2.mono B1.out.size)); clear hj hb2)))
  have HO := Lib.hid (fun (W : World) (hb : Below w2.heap.size w2 W) => gorder_ex (J2.out.below hb))
  obtain ⟨nn, hnn⟩ : ∃ nn, nn = nnOf js := ⟨_, rfl⟩
  have hbd := nnOf_bd js
  have hlen : js.length = nn.length := by rw [hnn, nnOf_length]
  have HX := Lib.hid (fun (W : World) (k : Nat) (hb : Below w2.heap.size w2 W) => (by have := gneeds_pl (J2.out.below hb) k; rw [needsI_nat] at this; exact this))
  have HD := Lib.hid (fun (W : World) (k : Int) (hb : Below w2.heap.size w2 W) => gdep_ex (J2.out.below hb) k)
  rw [← hnn] at HO hbd HX HD
  rw [hlen] at HO HX HD hjl ⊢
  have BD := Lib.hid hbd
  obtain ⟨m, hm⟩ : ∃ m, m = nn.length := ⟨_, rfl⟩
  rw [← hm] at HO HX HD BD hjl ⊢
  have HMM := Lib.hid hm
  clear hnn hbd hlen hm HW HS HW1 B1
  rcases Nat.eq_zero_or_pos m with h0 | h0
  · subst h0
    have hol : (orderN nn).length = 0 := by have := (order_len (nn := nn)).1; have := HMM.out; omega
    have HO2 := Lib.hid (HO.out w2 (Below.refl _ _))
    have OL := Lib.hid hol
    clear hol
    go_wp2_with (go_at_call 13; ((with_reducible refine HO2.out.mono ?_); rintro e w3 ⟨v3, rfl, ho3, hb3⟩; obtain ⟨A3, c3, hv3⟩ := own_formN ho3; rw [OL.out] at hv3; subst hv3; have B3 := Lib.hid (B2.out.trans (hb3.mono B2.out.size)); clear ho3 hb3))
    go_ret
    exact ⟨rfl, B3.out⟩
  · have hmne : ((m : Int) == 0) = false := beq_eq_false_iff_ne.2 (by omega)
    have HM := Lib.hid (mod_any i m (by omega) (by omega) I0.out I1.out w2)
    obtain ⟨r, hr⟩ := Int.eq_ofNat_of_zero_le (Int.emod_nonneg i (show (m : Int) ≠ 0 by omega))
    have hrm : r < m := by have := Int.emod_lt_of_pos i (show (0 : Int) < m by omega); omega
    rw [hr] at HM
    have HD2 := Lib.hid (HD.out w2 r (Below.refl _ _))
    have HO2 := HO
    clear hr HD HO I0 I1
    obtain ⟨D, hD⟩ : ∃ D, D = ascN m (reachN nn (r : Int)) := ⟨_, rfl⟩
    rw [← hD] at HD2
    have DD := Lib.hid hD
    clear hD
    go_wp2_with (first
      | (go_at_call 21; ((with_reducible refine HM.out.mono ?_); rintro e w3 ⟨rfl, rfl⟩))
      | (go_at_call 19; ((with_reducible refine HD2.out.mono ?_); rintro e w3 ⟨v3, rfl, hl3, hb3⟩; obtain ⟨A3, c3, rfl⟩ := lst_formN hl3; have L3 := Lib.hid hl3; have B3 := Lib.hid hb3; clear hl3 hb3)))
    go_loopg [31] (m + 1) (fun g' v31 wr => ∃ (k : Nat), v31 = .int .i64 k ∧ k ≤ m ∧ m - k + 1 ≤ g' ∧ Below w3.heap.size w3 wr)
    case atStart => exact ⟨0, rfl, by omega, by omega, Below.refl _ _⟩
    case round =>
      obtain ⟨k, rfl, hk, hg, hbr⟩ := hrel
      obtain ⟨wo, rfl⟩ : ∃ wo : World, wo = wr := ⟨_, rfl⟩
      have BR := Lib.hid hbr
      have B2o := Lib.hid (B3.out.trans (hbr.mono B3.out.size))
      have L4 := Lib.hid (L3.out.below hbr)
      clear hbr
      by_cases hkm : k < m
      · have hki : (k : Int) < (m : Int) := by omega
        have HN := Lib.hid (HX.out wo k B2o.out)
        obtain ⟨need, hneed⟩ : ∃ need, need = nn.getD k [] := ⟨_, rfl⟩
        rw [← hneed] at HN
        have hfin : inB r D need = decide (k ∈ D) := by
          rw [hneed, DD.out, HMM.out]
          exact inB_reach (by rw [← HMM.out]; exact BD.out) (by rw [← HMM.out]; exact hkm)
        have FIN := Lib.hid hfin
        clear hneed hfin
        go_wp2_with (go_at_call 17; ((with_reducible refine HN.out.mono ?_); rintro e w4 ⟨v4, rfl, hl4, hb4⟩; obtain ⟨A4, c4, rfl⟩ := lst_formN hl4; have LN := Lib.hid hl4; have L5 := Lib.hid (L4.out.below hb4); have B4 := Lib.hid (BR.out.trans (hb4.mono BR.out.size)); clear hl4 hb4))
        obtain ⟨q, hq⟩ : ∃ q, q = need.length := ⟨_, rfl⟩
        rw [← hq] at LN ⊢
        have hqb : q ≤ 9223372036854775807 := by have := lst_bd LN.out; rw [ints_length, ← hq] at this; exact this
        have Q := Lib.hid hq
        clear hq
        go_loopg [8, 38] (q + 1) (fun g2 v8 v38 w5 => ∃ (j : Nat), v8 = .bool (inB r D (need.take j)) ∧ v38 = .int .i64 j ∧ j ≤ q ∧ q - j + 1 ≤ g2 ∧ ∃ d, w5 = w4.drewN d)
        case atStart => exact ⟨0, rfl, rfl, by omega, by omega, 0, rfl⟩
        case round =>
          obtain ⟨j, rfl, rfl, hj, hg2, d5, rfl⟩ := hrel
          by_cases hjq : j < q
          · have hji : (j : Int) < (q : Int) := by omega
            have hjl2 : j < need.length := by rw [← Q.out]; exact hjq
            obtain ⟨g, off, rfl, hc⟩ := lst_cells LN.out (by rw [ints_length]; omega)
            have hv := hc j (by rw [ints_length]; exact hjl2)
            rw [getD_ints (by rw [ints_length]; exact hjl2)] at hv
            have htk : need.take (j + 1) = need.take j ++ [need[j]'hjl2] := List.take_succ_eq_append_getElem hjl2
            generalize need[j]'hjl2 = y at *
            have hsn := inB_snoc r D (need.take j) y
            rw [← htk] at hsn
            have SN := Lib.hid hsn
            have HH := Lib.hid (rhas_ex (L5.out.drewN d5) (y : Int))
            clear hc htk hsn
            cases hb : inB r D (need.take j) with
            | true =>
              rw [hb] at SN
              clear hb
              go_wp2_with fail
              go_roundg (q - (j + 1) + 1)
              case measure => omega
              case rel => exact ⟨j + 1, by rw [SN.out]; rfl, by go_num, by omega, Nat.le_refl _, d5, rfl⟩
            | false =>
              rw [hb, Bool.false_or] at SN
              clear hb
              by_cases hyr : y = r
              · have hyb : ((y : Int) == (r : Int)) = true := by rw [hyr]; exact beq_self_eq_true _
                rw [decide_eq_true hyr, Bool.true_or] at SN
                clear hyr
                go_wp2_with fail
                go_roundg (q - (j + 1) + 1)
                case measure => omega
                case rel => exact ⟨j + 1, by rw [SN.out], by go_num, by omega, Nat.le_refl _, d5, rfl⟩
              · have hyb : ((y : Int) == (r : Int)) = false := beq_eq_false_iff_ne.2 (by omega)
                rw [decide_eq_false hyr, Bool.false_or] at SN
                have hmi : decide ((y : Int) ∈ ints D) = decide (y ∈ D) := by rw [Bool.eq_iff_iff, decide_eq_true_eq, decide_eq_true_eq]; exact mem_ints
                rw [hmi] at HH
                clear hyr hmi
                generalize decide (y ∈ D) = bb at *
                go_wp2_with (go_at_call 24; ((with_reducible refine HH.out.mono ?_); rintro e w6 ⟨rfl, d6, rfl⟩))
                go_roundg (q - (j + 1) + 1)
                case measure => omega
                case rel => exact ⟨j + 1, by rw [SN.out], by go_num, by omega, Nat.le_refl _, d5 + d6, rfl⟩
          · obtain rfl : j = q := by omega
            have htk : need.take j = need := List.take_of_length_le (by rw [Q.out]; exact Nat.le_refl _)
            rw [htk, FIN.out]
            have hmi : decide ((k : Int) ∈ ints D) = decide (k ∈ D) := by rw [Bool.eq_iff_iff, decide_eq_true_eq, decide_eq_true_eq]; exact mem_ints
            have HH := Lib.hid (rhas_ex (L5.out.drewN d5) (k : Int))
            rw [hmi] at HH
            clear htk hmi FIN
            cases hkd : decide (k ∈ D)
            all_goals
              rw [hkd] at HH
              clear hkd
              go_wp2_with (go_at_call 24; ((with_reducible refine HH.out.mono ?_); rintro e w6 ⟨rfl, d6, rfl⟩))
              go_roundg (m - (k + 1) + 1)
              case measure => omega
              case rel => exact ⟨k + 1, by go_num, by omega, Nat.le_refl _, B4.out.trans ((below_drewN _ _).mono B4.out.size)⟩
      · obtain rfl : k = m := by omega
        have HO3 := Lib.hid (HO2.out wo B2o.out)
        obtain ⟨ord, hord⟩ : ∃ ord, ord = orderN nn := ⟨_, rfl⟩
        rw [← hord] at HO3
        by_cases hlt : ord.length < k
        · have hli : (ord.length : Int) < (k : Int) := by omega
          clear hord
          go_wp2_with (go_at_call 13; ((with_reducible refine HO3.out.mono ?_); rintro e w5 ⟨v5, rfl, ho5, hb5⟩; obtain ⟨A5, c5, rfl⟩ := own_formN ho5; have B5 := Lib.hid (B2o.out.trans (hb5.mono B2o.out.size)); clear ho5 hb5))
          go_ret
          exact ⟨rfl, B2.out.trans (B5.out.mono B2.out.size)⟩
        · have hol := (order_len (nn := nn)).1
          rw [← hord, ← HMM.out] at hol
          have heq : ord.length = k := by omega
          have hns : (r : Int) ∉ ints D := by
            rw [mem_ints, DD.out, mem_ascN]
            intro hx
            exact reach_self (by rw [← HMM.out]; exact hrm) (by rw [← hord, ← HMM.out]; exact heq) hx.2
          have NS := Lib.hid hns
          have OLD := L4
          have HH := Lib.hid (fun (W : World) (hb : Below wo.heap.size wo W) => rhas_ex (L4.out.below hb) (r : Int))
          rw [decide_eq_false hns] at HH
          have HQ := Lib.hid heq
          clear hord hol hlt hns heq
          go_wp2_with (first
            | (go_at_call 13; ((with_reducible refine HO3.out.mono ?_); rintro e w5 ⟨v5, rfl, ho5, hb5⟩; obtain ⟨A5, c5, hv5⟩ := own_formN ho5; rw [HQ.out] at hv5; subst hv5; have HH5 := Lib.hid (HH.out _ hb5); have B5 := Lib.hid (B2o.out.trans (hb5.mono B2o.out.size)); clear ho5 hb5))
            | (go_at_call 24; ((with_reducible refine HH5.out.mono ?_); rintro e w6 ⟨rfl, d6, rfl⟩)))
          go_ret
          exact ⟨rfl, B2.out.trans ((B5.out.trans ((below_drewN _ _).mono B5.out.size)).mono B2.out.size)⟩
end Go.Proofs.Ytohiioafdajhmaa.Gp
