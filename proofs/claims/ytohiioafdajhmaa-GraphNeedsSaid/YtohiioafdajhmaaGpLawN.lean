/-
  Layer 7: GraphNeeds.
-/
import Derived.Test.YtohiioafdajhmaaGpWild
namespace Go.Proofs.Ytohiioafdajhmaa.Gp
open Go.RowKit

theorem same_yes {w : World} {va vb : Value} {a : List Nat} (ha : Lst .i64 w va (ints a)) (hb : Lst .i64 w vb (ints a)) :
    Calls Try.prog 12 #[va, vb] w fun e w' => e = .returned (.bool true) ∧ ∃ d, w' = w.drewN d := by
  have := same_ex ha hb
  rw [decide_eq_true rfl] at this
  exact this
set_option maxHeartbeats 4000000 in
set_option maxRecDepth 100000 in
theorem GraphNeeds_law {w : World} {A : Option Addr} {n c : Nat} {zs : List Int} (h : IntsIn w A n zs) {i : Int} (hi0 : -9223372036854775808 ≤ i) (hi1 : i ≤ 9223372036854775807) (name : ByteArray) :
    Calls Try.prog 4 #[.slice A n c, .int .i64 i, .string name] w (BPost w true) := by
  have HS := Lib.hid (sane_any w)
  have HW := Lib.hid (fun (W : World) (hb : Below w.heap.size w W) => wild_any (c := c) (h.below hb))
  have HM := Lib.hid (fun W => mod_any i 9 (by omega) (by omega) hi0 hi1 W)
  have M0 := Lib.hid (Int.emod_nonneg i (show (9 : Int) ≠ 0 by omega))
  have M1 := Lib.hid (Int.emod_lt_of_pos i (show (0 : Int) < 9 by omega))
  clear h
  go_enter Try.func4, Try.ntmps4
  go_wp2_with (first
    | (go_at_call 8; ((with_reducible refine HS.out.mono ?_); rintro e w1 ⟨rfl, hb1⟩; have B1 := Lib.hid hb1; have HW1 := Lib.hid (HW.out _ hb1); clear hb1))
    | (go_at_call 9; ((with_reducible refine HW1.out.mono ?_); rintro e w2 ⟨v2, js, rfl, hj, hjl, hb2⟩; obtain ⟨A2, c2, rfl⟩ := hj.form; have J2 := Lib.hid hj; have B2 := Lib.hid (B1.out.trans (hb2.mono B1.out.size)); clear hj hb2)))
  obtain ⟨m, hm⟩ : ∃ m, m = js.length := ⟨_, rfl⟩
  rw [← hm] at J2 hjl ⊢
  clear hm HW HS HW1 B1
  go_loopg [8] (m + 3) (fun g' v8 wr => ∃ (t : Int), v8 = .int .i64 t ∧ -1 ≤ t ∧ t ≤ m + 1 ∧ (m + 1 - t).toNat + 1 ≤ g' ∧ Below w2.heap.size w2 wr)
  case atStart => exact ⟨-1, rfl, by omega, by omega, by omega, Below.refl _ _⟩
  case round =>
    obtain ⟨t, rfl, ht0, ht1, hg, hbr⟩ := hrel
    obtain ⟨wo, rfl⟩ : ∃ wo : World, wo = wr := ⟨_, rfl⟩
    have BR := Lib.hid hbr
    have JO := Lib.hid (J2.out.below hbr)
    clear hbr
    by_cases htm : t ≤ (m : Int)
    · have hw1 : IntKind.i64.wrap (t + 1) = t + 1 := by rw [IntKind.wrap_i64]; omega
      have HA := Lib.hid (gneeds_pl JO.out t)
      go_wp2_with (first
        | (go_at_call 17; ((with_reducible refine HA.out.mono ?_); rintro e w3 ⟨v3, rfl, hl3, hb3⟩; obtain ⟨A3, c3, rfl⟩ := lst_formN hl3; have L3 := Lib.hid hl3; have J3 := Lib.hid (JO.out.below hb3); have B3 := Lib.hid hb3; have HB := Lib.hid (rneeds_ex J3.out t); clear hl3 hb3))
        | (go_at_call 18; ((with_reducible refine HB.out.mono ?_); rintro e w4 ⟨v4, rfl, hl4, hb4⟩; obtain ⟨A4, c4, rfl⟩ := lst_formN hl4; have J4 := Lib.hid (J3.out.below hb4); have B4 := Lib.hid (B3.out.trans (hb4.mono B3.out.size)); have HC := Lib.hid (same_yes (L3.out.below hb4) hl4); clear hl4 hb4))
        | (go_at_call 12; ((with_reducible refine HC.out.mono ?_); rintro e w5 ⟨rfl, d5, hw5⟩; have hb5 : Below w4.heap.size w4 w5 := (by rw [hw5]; exact below_drewN _ _); have J5 := Lib.hid (J4.out.below hb5); have B5 := Lib.hid (B4.out.trans (hb5.mono B4.out.size)); have HD := Lib.hid (gdep_ex J5.out t); clear hw5 hb5))
        | (go_at_call 19; ((with_reducible refine HD.out.mono ?_); rintro e w6 ⟨v6, rfl, hl6, hb6⟩; obtain ⟨A6, c6, rfl⟩ := lst_formN hl6; have L6 := Lib.hid hl6; have J6 := Lib.hid (J5.out.below hb6); have B6 := Lib.hid (B5.out.trans (hb6.mono B5.out.size)); have HE := Lib.hid (rdep_ex J6.out t); clear hl6 hb6))
        | (go_at_call 20; ((with_reducible refine HE.out.mono ?_); rintro e w7 ⟨v7, rfl, hl7, hb7⟩; obtain ⟨A7, c7, rfl⟩ := lst_formN hl7; have B7 := Lib.hid (B6.out.trans (hb7.mono B6.out.size)); have HF := Lib.hid (same_yes (L6.out.below hb7) hl7); clear hl7 hb7))
        | (go_at_call 12; ((with_reducible refine HF.out.mono ?_); rintro e w8 ⟨rfl, d8, rfl⟩)))
      go_roundg ((m + 1 - (t + 1)).toNat + 1)
      case measure => omega
      case rel => exact ⟨t + 1, by go_num, by omega, by omega, Nat.le_refl _, BR.out.trans ((B7.out.trans ((below_drewN _ _).mono B7.out.size)).mono BR.out.size)⟩
    · have hw2 : IntKind.i64.wrap (97 + i % 9) = 97 + i % 9 := by rw [IntKind.wrap_i64]; have := M0.out; have := M1.out; omega
      have hw3 : IntKind.u8.wrap (97 + i % 9) = 97 + i % 9 := by rw [IntKind.wrap_u8]; have := M0.out; have := M1.out; omega
      have hcv := conv_lst (lst_one (k := .u8) wo (97 + i % 9) 5) (by intro x hx; simp at hx; have := M0.out; have := M1.out; omega)
      have BA := Lib.hid (balloc wo (.cells #[.int .u8 (97 + i % 9)] 5))
      have JA := Lib.hid (JO.out.below BA.out)
      have HA := Lib.hid (gindex_ex JA.out name)
      generalize bytesOf [97 + i % 9] = nm at *
      generalize i % 9 = r at *
      go_wp2_with (first
        | (go_at_call 21; ((with_reducible refine (HM.out wo).mono ?_); rintro e w3 ⟨rfl, rfl⟩))
        | (go_at_call 22; ((with_reducible refine HA.out.mono ?_); rintro e w3 ⟨rfl, hb3⟩; have J3 := Lib.hid (JA.out.below hb3); have B3 := Lib.hid (BA.out.trans (hb3.mono BA.out.size)); have HB := Lib.hid (rindex_ex J3.out name); clear hb3))
        | (go_at_call 23; ((with_reducible refine HB.out.mono ?_); rintro e w4 ⟨rfl, d4, hw4⟩; have hb4 : Below w3.heap.size w3 w4 := (by rw [hw4]; exact below_drewN _ _); have J4 := Lib.hid (J3.out.below hb4); have B4 := Lib.hid (B3.out.trans (hb4.mono B3.out.size)); have HC := Lib.hid (gindex_ex J4.out nm); clear hb4 hw4))
        | (go_at_call 22; ((with_reducible refine HC.out.mono ?_); rintro e w5 ⟨rfl, hb5⟩; have J5 := Lib.hid (J4.out.below hb5); have B5 := Lib.hid (B4.out.trans (hb5.mono B4.out.size)); have HD := Lib.hid (rindex_ex J5.out nm); clear hb5))
        | (go_at_call 23; ((with_reducible refine HD.out.mono ?_); rintro e w6 ⟨rfl, d6, hw6⟩; have hb6 : Below w5.heap.size w5 w6 := (by rw [hw6]; exact below_drewN _ _); have J6 := Lib.hid (J5.out.below hb6); have B6 := Lib.hid (B5.out.trans (hb6.mono B5.out.size)); have HE := Lib.hid (gneeds_pl J6.out i); clear hb6 hw6))
        | (go_at_call 17; ((with_reducible refine HE.out.mono ?_); rintro e w7 ⟨v7, rfl, hl7, hb7⟩; obtain ⟨A7, c7, rfl⟩ := lst_formN hl7; have L7 := Lib.hid hl7; have J7 := Lib.hid (J6.out.below hb7); have B7 := Lib.hid (B6.out.trans (hb7.mono B6.out.size)); have HF := Lib.hid (rneeds_ex J7.out i); clear hl7 hb7))
        | (go_at_call 18; ((with_reducible refine HF.out.mono ?_); rintro e w8 ⟨v8, rfl, hl8, hb8⟩; obtain ⟨A8, c8, rfl⟩ := lst_formN hl8; have B8 := Lib.hid (B7.out.trans (hb8.mono B7.out.size)); have HG := Lib.hid (same_yes (L7.out.below hb8) hl8); clear hl8 hb8))
        | (go_at_call 12; ((with_reducible refine HG.out.mono ?_); rintro e w9 ⟨rfl, d9, rfl⟩)))
      go_ret
      exact ⟨rfl, (B2.out.trans (BR.out.mono B2.out.size)).trans ((B8.out.trans ((below_drewN _ _).mono B8.out.size)).mono (Nat.le_trans B2.out.size BR.out.size))⟩
end Go.Proofs.Ytohiioafdajhmaa.Gp
