/-
  Decoding does not depend on how bytes are divided.
-/
import Derived.Test.YtjcgcloanamabaaRuTwo
import Derived.Deep.RegionLaw
import Derived.Deep.CutRange
namespace Go.Proofs.Ytjcgcloanamabaa.Ru
open Go.RowKit

theorem lst_set {k : IntKind} {w : World} {R : Nat} {v u : Value} {l : List Int} {t : TypeId} (h : Lst k w v l) (hk : w.heap[R]? = some (.cells #[.slice none 0 0] t (0, 0))) : Lst k (w.setCell ⟨R, 0, none⟩ u) v l := by
  obtain ⟨A, c, e1, e2, e3⟩ := h
  refine ⟨A, c, e1, fun hn => ?_, e3⟩
  obtain ⟨g, off, e4, e5⟩ := e2 hn
  refine ⟨g, off, e4, fun j x hx => ?_⟩
  have hc := e5 j x hx
  by_cases hg : g = R
  · subst hg
    rw [cell_of_row _ _ _ _ _ _ hk] at hc
    match off + j, hc with
    | 0, hc => simp at hc
    | n + 1, hc => simp at hc
  · rw [World.cell?_of_block (w := w) (heap_setCell_other _ _ _ _ hg)]; exact hc
theorem divR (l : List Int) (q : Nat) : decR (rest0 (decR [] (l.take q))) (l.drop q) = decR [] l := by
  rw [rest0_of (valid_decR _ valid_nil), ← decR_append, List.take_append_drop]
theorem divO (l : List Int) (q : Nat) : decO [] (l.take q) ++ decO (rest0 (decR [] (l.take q))) (l.drop q) = decO [] l := by
  rw [rest0_of (valid_decR _ valid_nil), ← decO_append, List.take_append_drop]

set_option maxRecDepth 100000 in
set_option maxHeartbeats 4000000 in
theorem RunesDivides_law {w : World} {v vb : Value} {l bs : List Int} {cut : Int} (h : Lst .i64 w v l) (hi : Ints l) (hb : Lst .u8 w vb bs) (hby : By bs) (h0 : -9223372036854775808 ≤ cut) (h1 : cut ≤ 9223372036854775807) :
    Calls Try.prog 5 #[v, vb, .int .i64 cut] w (BPost w true) := by
  have HS := Lib.hid (fun W => sane_any W)
  have HV := Lib.hid h
  have HI := Lib.hid hi
  have HB := Lib.hid hb
  have HY := Lib.hid hby
  obtain ⟨A, c, rfl, _⟩ := h
  obtain ⟨Ab, cb, rfl, _⟩ := hb
  clear hi hby
  by_cases hl : bs.length ≤ 200
  · have hl' : (bs.length : Int) ≤ 200 := by omega
    go_enter Try.func5, Try.ntmps5
    go_wp2_with (first
      | (go_at_call 7; ((with_reducible refine (HS.out _).mono ?_); rintro e w1 ⟨rfl, hb1⟩; have B1 := Lib.hid hb1; have HO := Lib.hid (odd_any (HV.out.below hb1) HI.out); clear hb1))
      | (go_at_call 11; ((with_reducible refine HO.out.mono ?_); rintro e w2 ⟨vo, lo, rfl, hvo, hbo, hlo, hb2⟩; have T2 := Lib.hid (two_made hvo hbo (by omega) ((HB.out.below B1.out).below hb2) HY.out hl); have B2 := Lib.hid ((B1.out.trans (hb2.mono B1.out.size)).alloc (by have := B1.out.size; have := hb2.size; omega) (.cells #[vo, .slice Ab bs.length cb] 25)); obtain ⟨Ao, co, rfl, _⟩ := hvo; clear hbo hb2)))
    generalize hw3 : w2.alloc (.cells #[.slice Ao lo.length co, .slice Ab bs.length cb] 25) = w3 at *
    clear hw3
    go_loopg [8, 9, 10, 11, 12, 13, 14, 15, 26] (2 + 1) (fun g' _ _ _ _ _ _ _ _ i wr => ∃ (k : Nat), i = .int .i64 k ∧ k ≤ 2 ∧ 2 - k + 1 ≤ g' ∧ Below w3.heap.size w3 wr)
    case atStart => exact ⟨0, rfl, by omega, by omega, Below.refl _ _⟩
    case round =>
      obtain ⟨k, rfl, hk, hg, hbw⟩ := hrel
      obtain ⟨wo, rfl⟩ : ∃ wo : World, wo = wr := ⟨_, rfl⟩
      by_cases hkn : k < 2
      · have hki : (k : Int) < 2 := by omega
        obtain ⟨vx, xs, dx, hx, hxb, hxl⟩ := (T2.out.below hbw) k hkn
        have BW := Lib.hid hbw
        have HX := Lib.hid hx
        have HXB := Lib.hid hxb
        have HM := Lib.hid (fun W => mod_any cut ((xs.length : Int) + 1) (by omega) (by omega) h0 h1 W)
        have hm0 := Int.emod_nonneg cut (show (xs.length : Int) + 1 ≠ 0 by omega)
        have hm1 := Int.emod_lt_of_pos cut (show (0 : Int) < (xs.length : Int) + 1 by omega)
        generalize cut % ((xs.length : Int) + 1) = qi at *
        obtain ⟨q, rfl⟩ := Int.eq_ofNat_of_zero_le hm0
        have hqn : q ≤ xs.length := by omega
        have HD1 := Lib.hid (decode_any (w := wo) (Lst.nil .u8 _) By.nil hx hxb (by omega))
        rw [rest0_of valid_nil] at HD1
        have HR1 := Lib.hid (By.decR By.nil hxb)
        have HR2 := Lib.hid (By.decR By.nil (hxb.take q))
        have HT := Lib.hid (fun (W : World) (v2 : Value) (h1 : Lst .u8 W v2 (xs.take q)) => decode_any (w := W) (Lst.nil .u8 _) By.nil h1 (hxb.take q) (by rw [List.length_take]; omega))
        have HU := Lib.hid (fun (W : World) (v v2 : Value) (h1 : Lst .u8 W v (decR [] (xs.take q))) (h2 : Lst .u8 W v2 (xs.drop q)) => decode_any (w := W) h1 HR2.out h2 (hxb.drop q) (by rw [List.length_drop]; omega))
        have hyl := decO_le [] (xs.take q)
        have hzl := decO_le (rest0 (decR [] (xs.take q))) (xs.drop q)
        rw [List.length_take] at hyl
        rw [List.length_drop] at hzl
        have hyl2 : (decO [] (xs.take q)).length ≤ 400 := by omega
        have hzl2 : (decO (rest0 (decR [] (xs.take q))) (xs.drop q)).length ≤ 400 := by omega
        clear hyl hzl
        have EO := Lib.hid (divO xs q)
        rw [divR xs q] at HU
        rw [rest0_of valid_nil] at HT
        generalize decO (rest0 (decR [] (xs.take q))) (xs.drop q) = z at *
        generalize decR [] (xs.take q) = ra at *
        generalize decO [] (xs.take q) = y at *
        generalize decR [] xs = rr at *
        generalize decO [] xs = oo at *
        clear hbw hxb hm0 hm1
        cases xs with
        | nil =>
          obtain ⟨A9, c9, rfl, _, hA9, _, hm9⟩ := hx
          obtain rfl : q = 0 := by simp at hqn; exact hqn
          simp only [List.length_nil, List.take_nil, List.drop_nil, Int.natCast_zero, Int.zero_add] at *
          cases A9 with
          | none =>
            obtain rfl := hA9 rfl
            have HQ1 := Lib.hid (fun (W : World) (_ : Below wo.heap.size wo W) => HT.out W (.slice none 0 0) (Lst.nil _ _))
            go_wp2_with (first
              | (go_at_call 8; ((with_reducible refine (HM.out _).mono ?_); rintro e w' ⟨rfl, rfl⟩))
              | (go_at_call 12; ((with_reducible refine HD1.out.mono ?_); rintro e w4 ⟨va, o4, rfl, hva, ho4, hb4⟩; have ka := heap_alloc_new w4 (.cells #[va] 30); have VA := Lib.hid (hva.below (balloc w4 (.cells #[va] 30))); have VX := Lib.hid (ho4.below (balloc w4 (.cells #[va] 30))); have B4 := Lib.hid (hb4.alloc hb4.size (.cells #[va] 30)); have HQ2 := Lib.hid (HQ1.out _ B4.out); obtain ⟨Aa, ca, rfl, _⟩ := hva; obtain ⟨Ax, cx, rfl, _⟩ := ho4; clear hb4))
              | (go_at_call 12; ((with_reducible refine HQ2.out.mono ?_); rintro e w5 ⟨vc, o5, rfl, hvc, ho5, hb5⟩; have ka2 := (hb5.block _ (heap_lt ka)).trans ka; have B5 := Lib.hid (B4.out.trans (hb5.mono B4.out.size)); have VC := Lib.hid hvc; have VY := Lib.hid ho5; have VA2 := Lib.hid (VA.out.below hb5); have VX2 := Lib.hid (VX.out.below hb5); obtain ⟨Ac, cc, rfl, _⟩ := hvc; obtain ⟨Ay, cy, rfl, _⟩ := ho5; clear hb5)))
            have B6 := Lib.hid (B5.out.alloc B5.out.size (.cells #[.slice Ac ra.length cc] 30))
            have b56 := balloc w5 (.cells #[.slice Ac ra.length cc] 30)
            have ka6 := (b56.block _ (heap_lt ka2)).trans ka2
            have kc6 := heap_alloc_new w5 (.cells #[.slice Ac ra.length cc] 30)
            have VC6 := Lib.hid (VC.out.below b56)
            have VY6 := Lib.hid (VY.out.below b56)
            have VA6 := Lib.hid (VA2.out.below b56)
            have VX6 := Lib.hid (VX2.out.below b56)
            generalize w5.alloc (.cells #[.slice Ac ra.length cc] 30) = w6 at *
            have dc6 := cell_of_row _ _ 0 _ _ _ kc6
            have KA6 := Lib.hid ka6
            have hlt56 := heap_lt kc6
            have hne56 : w5.heap.size ≠ w6.heap.size := by omega
            have HU1 := Lib.hid (fun (W : World) (hb : Below w6.heap.size w6 W) => HU.out W (.slice Ac ra.length cc) (.slice none 0 0) (VC6.out.below hb) (Lst.nil _ _))
            clear ka ka2 b56 ka6 kc6
            go_cut [14, 15] from 49 to 56 (fun p vz wx => ∃ g14 Ad cd Az cz, p = .pointer (some ⟨g14, 0, none⟩) ∧ vz = .slice Az z.length cz ∧ wx.heap[g14]? = some (.cells #[.slice Ad rr.length cd] 30 (0, 0)) ∧ Lst .u8 wx (.slice Ad rr.length cd) rr ∧ Lst .i64 wx vz z ∧ Below w6.heap.size w6 wx)
            case first =>
              go_region_law (first
                | (go_simp; go_at_call 12; ((with_reducible refine (HU1.out w6.drew (Below.refl _ _).drew).mono ?_); rintro e w7 ⟨vd, o7, rfl, hvd, ho7, hb7⟩; have B7 : Hid (Below w6.heap.size w6 w7) := Lib.hid ((Below.refl _ _).drew.trans hb7); have VD := Lib.hid hvd; have VZ := Lib.hid ho7; obtain ⟨Ad, cd, rfl, _⟩ := hvd; obtain ⟨Az, cz, rfl, _⟩ := ho7; clear hb7))
                | (go_simp; go_at_call 12; ((with_reducible refine (HU1.out (w6.alloc (.cells #[.slice none 0 0] 30)).drew (balloc _ _).drew).mono ?_); rintro e w7 ⟨vd, o7, rfl, hvd, ho7, hb7⟩; have B7 : Hid (Below w6.heap.size w6 w7) := Lib.hid ((balloc w6 _).drew.trans (hb7.mono (by simp))); have VD := Lib.hid hvd; have VZ := Lib.hid ho7; have k7 := (hb7.block w6.heap.size (by simp)).trans (heap_alloc_new w6 (.cells #[.slice none 0 0] 30)); have d7 := cell_of_row _ _ 0 _ _ _ k7; have f7 := frozen_of_row _ _ 0 _ _ k7; obtain ⟨Ad, cd, rfl, _⟩ := hvd; obtain ⟨Az, cz, rfl, _⟩ := ho7; clear hb7)))
              all_goals
                go_wp2_with fail
                go_meet
                first
                  | exact ⟨_, _, _, _, _, rfl, rfl, heap_alloc_new w7 _, VD.out.below (balloc w7 _), VZ.out.below (balloc w7 _), B7.out.alloc B7.out.size _⟩
                  | exact ⟨_, _, _, _, _, rfl, rfl, res_cell w7 w6.heap.size _ _ _ k7, lst_set VD.out k7, lst_set VZ.out k7, B7.out.setCell (Nat.le_refl _) _⟩
            case rest =>
              obtain ⟨g14, Ad, cd, Az, cz, rfl, rfl, hk14, hvd, hvz, hb7⟩ := hcut
              have ka7 := (hb7.block _ (heap_lt KA6.out)).trans KA6.out
              have da7 := cell_of_row _ _ 0 _ _ _ ka7
              have dd7 := cell_of_row _ _ 0 _ _ _ hk14
              have HSM := Lib.hid (refsame_any (VA6.out.below hb7) hvd HR1.out)
              have VX7 := Lib.hid (VX6.out.below hb7)
              have VY7 := Lib.hid (VY6.out.below hb7)
              have VZ7 := Lib.hid hvz
              have B7 := Lib.hid (B6.out.trans (hb7.mono B6.out.size))
              clear ka7 hk14 hvd hvz hb7
              go_wp2_with (first
                | (go_at_call 14; ((with_reducible refine HSM.out.mono ?_); rintro e w8 ⟨rfl, hb8⟩; have VX8 := Lib.hid (VX7.out.below hb8); have VY8 := Lib.hid (VY7.out.below hb8); have VZ8 := Lib.hid (VZ7.out.below hb8); have B8 := Lib.hid (B7.out.trans (hb8.mono B7.out.size)); clear hb8))
                | (at_builtin; refine wpList_app_w (by rfl) _ _ rfl elInt rfl (own_lit 3 .i64 w8 (Nat.le_refl _)) rfl (VY8.out.below (balloc w8 _)) (by simp; omega) (by simp) ?_; intro v9 w9 hO9 hF9; have b9 := (balloc w8 (.cells #[] 3)).trans hF9.bel; have BB9 := Lib.hid b9; have VZ9 := Lib.hid (VZ8.out.below b9); have b89 := b9.size; obtain ⟨A9, k9, rfl, hO9'⟩ := own_to hO9; have O9 := Lib.hid hO9'; clear hO9 hO9' hF9 b9)
                | (at_builtin; refine wpList_app_w (by rfl) _ _ rfl elInt rfl O9.out rfl VZ9.out (by omega) b89 ?_; intro v10 w10 hO10 hF10; have b10 := BB9.out.trans hF10.bel; have B10 := Lib.hid (B8.out.trans (b10.mono B8.out.size)); have VX10 := Lib.hid (VX8.out.below b10); rw [EO.out] at hO10; have HQQ := Lib.hid (same_any VX10.out hO10.lst); obtain ⟨A10, k10, rfl⟩ := hO10.form; clear hO10 hF10 b10)
                | (go_at_call 15; ((with_reducible refine HQQ.out.mono ?_); rintro e w11 ⟨rfl, q11, hw⟩; have B11 : Hid (Below wo.heap.size wo w11) := Lib.hid (by rw [hw]; exact B10.out.trans ((below_drewN _ _).mono B10.out.size)); clear hw)))
              go_roundg (2 - (k + 1) + 1)
              case measure => omega
              case rel => exact ⟨k + 1, by go_num, by omega, Nat.le_refl _, BW.out.trans (B11.out.mono BW.out.size)⟩
          | some ad =>
            have HQ1 := Lib.hid (fun (W : World) (_ : Below wo.heap.size wo W) => HT.out W (.slice (some ad) 0 c9) (lst_empty (fun e => by simp at e) hm9))
            go_wp2_with (first
              | (go_at_call 8; ((with_reducible refine (HM.out _).mono ?_); rintro e w' ⟨rfl, rfl⟩))
              | (go_at_call 12; ((with_reducible refine HD1.out.mono ?_); rintro e w4 ⟨va, o4, rfl, hva, ho4, hb4⟩; have ka := heap_alloc_new w4 (.cells #[va] 30); have VA := Lib.hid (hva.below (balloc w4 (.cells #[va] 30))); have VX := Lib.hid (ho4.below (balloc w4 (.cells #[va] 30))); have B4 := Lib.hid (hb4.alloc hb4.size (.cells #[va] 30)); have HQ2 := Lib.hid (HQ1.out _ B4.out); obtain ⟨Aa, ca, rfl, _⟩ := hva; obtain ⟨Ax, cx, rfl, _⟩ := ho4; clear hb4))
              | (go_at_call 12; ((with_reducible refine HQ2.out.mono ?_); rintro e w5 ⟨vc, o5, rfl, hvc, ho5, hb5⟩; have ka2 := (hb5.block _ (heap_lt ka)).trans ka; have B5 := Lib.hid (B4.out.trans (hb5.mono B4.out.size)); have VC := Lib.hid hvc; have VY := Lib.hid ho5; have VA2 := Lib.hid (VA.out.below hb5); have VX2 := Lib.hid (VX.out.below hb5); obtain ⟨Ac, cc, rfl, _⟩ := hvc; obtain ⟨Ay, cy, rfl, _⟩ := ho5; clear hb5)))
            have B6 := Lib.hid (B5.out.alloc B5.out.size (.cells #[.slice Ac ra.length cc] 30))
            have b56 := balloc w5 (.cells #[.slice Ac ra.length cc] 30)
            have ka6 := (b56.block _ (heap_lt ka2)).trans ka2
            have kc6 := heap_alloc_new w5 (.cells #[.slice Ac ra.length cc] 30)
            have VC6 := Lib.hid (VC.out.below b56)
            have VY6 := Lib.hid (VY.out.below b56)
            have VA6 := Lib.hid (VA2.out.below b56)
            have VX6 := Lib.hid (VX2.out.below b56)
            generalize w5.alloc (.cells #[.slice Ac ra.length cc] 30) = w6 at *
            have dc6 := cell_of_row _ _ 0 _ _ _ kc6
            have KA6 := Lib.hid ka6
            have hlt56 := heap_lt kc6
            have hne56 : w5.heap.size ≠ w6.heap.size := by omega
            have HU1 := Lib.hid (fun (W : World) (hb : Below w6.heap.size w6 W) => HU.out W (.slice Ac ra.length cc) (.slice (some ad) 0 c9) (VC6.out.below hb) (lst_empty (fun e => by simp at e) hm9))
            clear ka ka2 b56 ka6 kc6
            go_cut [14, 15] from 49 to 56 (fun p vz wx => ∃ g14 Ad cd Az cz, p = .pointer (some ⟨g14, 0, none⟩) ∧ vz = .slice Az z.length cz ∧ wx.heap[g14]? = some (.cells #[.slice Ad rr.length cd] 30 (0, 0)) ∧ Lst .u8 wx (.slice Ad rr.length cd) rr ∧ Lst .i64 wx vz z ∧ Below w6.heap.size w6 wx)
            case first =>
              go_region_law (first
                | (go_simp; go_at_call 12; ((with_reducible refine (HU1.out w6.drew (Below.refl _ _).drew).mono ?_); rintro e w7 ⟨vd, o7, rfl, hvd, ho7, hb7⟩; have B7 : Hid (Below w6.heap.size w6 w7) := Lib.hid ((Below.refl _ _).drew.trans hb7); have VD := Lib.hid hvd; have VZ := Lib.hid ho7; obtain ⟨Ad, cd, rfl, _⟩ := hvd; obtain ⟨Az, cz, rfl, _⟩ := ho7; clear hb7))
                | (go_simp; go_at_call 12; ((with_reducible refine (HU1.out (w6.alloc (.cells #[.slice none 0 0] 30)).drew (balloc _ _).drew).mono ?_); rintro e w7 ⟨vd, o7, rfl, hvd, ho7, hb7⟩; have B7 : Hid (Below w6.heap.size w6 w7) := Lib.hid ((balloc w6 _).drew.trans (hb7.mono (by simp))); have VD := Lib.hid hvd; have VZ := Lib.hid ho7; have k7 := (hb7.block w6.heap.size (by simp)).trans (heap_alloc_new w6 (.cells #[.slice none 0 0] 30)); have d7 := cell_of_row _ _ 0 _ _ _ k7; have f7 := frozen_of_row _ _ 0 _ _ k7; obtain ⟨Ad, cd, rfl, _⟩ := hvd; obtain ⟨Az, cz, rfl, _⟩ := ho7; clear hb7)))
              all_goals
                go_wp2_with fail
                go_meet
                first
                  | exact ⟨_, _, _, _, _, rfl, rfl, heap_alloc_new w7 _, VD.out.below (balloc w7 _), VZ.out.below (balloc w7 _), B7.out.alloc B7.out.size _⟩
                  | exact ⟨_, _, _, _, _, rfl, rfl, res_cell w7 w6.heap.size _ _ _ k7, lst_set VD.out k7, lst_set VZ.out k7, B7.out.setCell (Nat.le_refl _) _⟩
            case rest =>
              obtain ⟨g14, Ad, cd, Az, cz, rfl, rfl, hk14, hvd, hvz, hb7⟩ := hcut
              have ka7 := (hb7.block _ (heap_lt KA6.out)).trans KA6.out
              have da7 := cell_of_row _ _ 0 _ _ _ ka7
              have dd7 := cell_of_row _ _ 0 _ _ _ hk14
              have HSM := Lib.hid (refsame_any (VA6.out.below hb7) hvd HR1.out)
              have VX7 := Lib.hid (VX6.out.below hb7)
              have VY7 := Lib.hid (VY6.out.below hb7)
              have VZ7 := Lib.hid hvz
              have B7 := Lib.hid (B6.out.trans (hb7.mono B6.out.size))
              clear ka7 hk14 hvd hvz hb7
              go_wp2_with (first
                | (go_at_call 14; ((with_reducible refine HSM.out.mono ?_); rintro e w8 ⟨rfl, hb8⟩; have VX8 := Lib.hid (VX7.out.below hb8); have VY8 := Lib.hid (VY7.out.below hb8); have VZ8 := Lib.hid (VZ7.out.below hb8); have B8 := Lib.hid (B7.out.trans (hb8.mono B7.out.size)); clear hb8))
                | (at_builtin; refine wpList_app_w (by rfl) _ _ rfl elInt rfl (own_lit 3 .i64 w8 (Nat.le_refl _)) rfl (VY8.out.below (balloc w8 _)) (by simp; omega) (by simp) ?_; intro v9 w9 hO9 hF9; have b9 := (balloc w8 (.cells #[] 3)).trans hF9.bel; have BB9 := Lib.hid b9; have VZ9 := Lib.hid (VZ8.out.below b9); have b89 := b9.size; obtain ⟨A9, k9, rfl, hO9'⟩ := own_to hO9; have O9 := Lib.hid hO9'; clear hO9 hO9' hF9 b9)
                | (at_builtin; refine wpList_app_w (by rfl) _ _ rfl elInt rfl O9.out rfl VZ9.out (by omega) b89 ?_; intro v10 w10 hO10 hF10; have b10 := BB9.out.trans hF10.bel; have B10 := Lib.hid (B8.out.trans (b10.mono B8.out.size)); have VX10 := Lib.hid (VX8.out.below b10); rw [EO.out] at hO10; have HQQ := Lib.hid (same_any VX10.out hO10.lst); obtain ⟨A10, k10, rfl⟩ := hO10.form; clear hO10 hF10 b10)
                | (go_at_call 15; ((with_reducible refine HQQ.out.mono ?_); rintro e w11 ⟨rfl, q11, hw⟩; have B11 : Hid (Below wo.heap.size wo w11) := Lib.hid (by rw [hw]; exact B10.out.trans ((below_drewN _ _).mono B10.out.size)); clear hw)))
              go_roundg (2 - (k + 1) + 1)
              case measure => omega
              case rel => exact ⟨k + 1, by go_num, by omega, Nat.le_refl _, BW.out.trans (B11.out.mono BW.out.size)⟩
        | cons x0 xr =>
          obtain ⟨A9, c9, rfl, hr9, _, hc9, hm9⟩ := hx
          obtain ⟨g, off, rfl, _⟩ := hr9 (by simp)
          clear hr9
          generalize hxs : x0 :: xr = xs at *
          have hqc : q ≤ c9 := by omega
          have hn1 : 0 < xs.length := by rw [← hxs]; simp
          clear hxs
          by_cases hcq : c9 = q
          · subst hcq
            obtain rfl : c9 = xs.length := by omega
            have HQ1 := Lib.hid (fun (W : World) (hb : Below wo.heap.size wo W) => HT.out W (.slice (some ⟨g, off, none⟩) xs.length xs.length) (lst_take (HX.out.below hb) hqn))
            go_wp2_with (first
              | (go_at_call 8; ((with_reducible refine (HM.out _).mono ?_); rintro e w' ⟨rfl, rfl⟩))
              | (go_at_call 12; ((with_reducible refine HD1.out.mono ?_); rintro e w4 ⟨va, o4, rfl, hva, ho4, hb4⟩; have ka := heap_alloc_new w4 (.cells #[va] 30); have VA := Lib.hid (hva.below (balloc w4 (.cells #[va] 30))); have VX := Lib.hid (ho4.below (balloc w4 (.cells #[va] 30))); have B4 := Lib.hid (hb4.alloc hb4.size (.cells #[va] 30)); have HQ2 := Lib.hid (HQ1.out _ B4.out); obtain ⟨Aa, ca, rfl, _⟩ := hva; obtain ⟨Ax, cx, rfl, _⟩ := ho4; clear hb4))
              | (go_at_call 12; ((with_reducible refine HQ2.out.mono ?_); rintro e w5 ⟨vc, o5, rfl, hvc, ho5, hb5⟩; have ka2 := (hb5.block _ (heap_lt ka)).trans ka; have B5 := Lib.hid (B4.out.trans (hb5.mono B4.out.size)); have VC := Lib.hid hvc; have VY := Lib.hid ho5; have VA2 := Lib.hid (VA.out.below hb5); have VX2 := Lib.hid (VX.out.below hb5); obtain ⟨Ac, cc, rfl, _⟩ := hvc; obtain ⟨Ay, cy, rfl, _⟩ := ho5; clear hb5)))
            have B6 := Lib.hid (B5.out.alloc B5.out.size (.cells #[.slice Ac ra.length cc] 30))
            have b56 := balloc w5 (.cells #[.slice Ac ra.length cc] 30)
            have ka6 := (b56.block _ (heap_lt ka2)).trans ka2
            have kc6 := heap_alloc_new w5 (.cells #[.slice Ac ra.length cc] 30)
            have VC6 := Lib.hid (VC.out.below b56)
            have VY6 := Lib.hid (VY.out.below b56)
            have VA6 := Lib.hid (VA2.out.below b56)
            have VX6 := Lib.hid (VX2.out.below b56)
            generalize w5.alloc (.cells #[.slice Ac ra.length cc] 30) = w6 at *
            have dc6 := cell_of_row _ _ 0 _ _ _ kc6
            have KA6 := Lib.hid ka6
            have hlt56 := heap_lt kc6
            have hne56 : w5.heap.size ≠ w6.heap.size := by omega
            have HU1 := Lib.hid (fun (W : World) (hb : Below w6.heap.size w6 W) => HU.out W (.slice Ac ra.length cc) (.slice (some ⟨g, off, none⟩) 0 0) (VC6.out.below hb) (by rw [List.drop_length]; exact lst_empty (fun e => by simp at e) (Nat.zero_le _)))
            clear ka ka2 b56 ka6 kc6
            go_cut [14, 15] from 49 to 56 (fun p vz wx => ∃ g14 Ad cd Az cz, p = .pointer (some ⟨g14, 0, none⟩) ∧ vz = .slice Az z.length cz ∧ wx.heap[g14]? = some (.cells #[.slice Ad rr.length cd] 30 (0, 0)) ∧ Lst .u8 wx (.slice Ad rr.length cd) rr ∧ Lst .i64 wx vz z ∧ Below w6.heap.size w6 wx)
            case first =>
              go_region_law (first
                | (go_simp; go_at_call 12; ((with_reducible refine (HU1.out w6.drew (Below.refl _ _).drew).mono ?_); rintro e w7 ⟨vd, o7, rfl, hvd, ho7, hb7⟩; have B7 : Hid (Below w6.heap.size w6 w7) := Lib.hid ((Below.refl _ _).drew.trans hb7); have VD := Lib.hid hvd; have VZ := Lib.hid ho7; obtain ⟨Ad, cd, rfl, _⟩ := hvd; obtain ⟨Az, cz, rfl, _⟩ := ho7; clear hb7))
                | (go_simp; go_at_call 12; ((with_reducible refine (HU1.out (w6.alloc (.cells #[.slice none 0 0] 30)).drew (balloc _ _).drew).mono ?_); rintro e w7 ⟨vd, o7, rfl, hvd, ho7, hb7⟩; have B7 : Hid (Below w6.heap.size w6 w7) := Lib.hid ((balloc w6 _).drew.trans (hb7.mono (by simp))); have VD := Lib.hid hvd; have VZ := Lib.hid ho7; have k7 := (hb7.block w6.heap.size (by simp)).trans (heap_alloc_new w6 (.cells #[.slice none 0 0] 30)); have d7 := cell_of_row _ _ 0 _ _ _ k7; have f7 := frozen_of_row _ _ 0 _ _ k7; obtain ⟨Ad, cd, rfl, _⟩ := hvd; obtain ⟨Az, cz, rfl, _⟩ := ho7; clear hb7)))
              all_goals
                go_wp2_with fail
                go_meet
                first
                  | exact ⟨_, _, _, _, _, rfl, rfl, heap_alloc_new w7 _, VD.out.below (balloc w7 _), VZ.out.below (balloc w7 _), B7.out.alloc B7.out.size _⟩
                  | exact ⟨_, _, _, _, _, rfl, rfl, res_cell w7 w6.heap.size _ _ _ k7, lst_set VD.out k7, lst_set VZ.out k7, B7.out.setCell (Nat.le_refl _) _⟩
            case rest =>
              obtain ⟨g14, Ad, cd, Az, cz, rfl, rfl, hk14, hvd, hvz, hb7⟩ := hcut
              have ka7 := (hb7.block _ (heap_lt KA6.out)).trans KA6.out
              have da7 := cell_of_row _ _ 0 _ _ _ ka7
              have dd7 := cell_of_row _ _ 0 _ _ _ hk14
              have HSM := Lib.hid (refsame_any (VA6.out.below hb7) hvd HR1.out)
              have VX7 := Lib.hid (VX6.out.below hb7)
              have VY7 := Lib.hid (VY6.out.below hb7)
              have VZ7 := Lib.hid hvz
              have B7 := Lib.hid (B6.out.trans (hb7.mono B6.out.size))
              clear ka7 hk14 hvd hvz hb7
              go_wp2_with (first
                | (go_at_call 14; ((with_reducible refine HSM.out.mono ?_); rintro e w8 ⟨rfl, hb8⟩; have VX8 := Lib.hid (VX7.out.below hb8); have VY8 := Lib.hid (VY7.out.below hb8); have VZ8 := Lib.hid (VZ7.out.below hb8); have B8 := Lib.hid (B7.out.trans (hb8.mono B7.out.size)); clear hb8))
                | (at_builtin; refine wpList_app_w (by rfl) _ _ rfl elInt rfl (own_lit 3 .i64 w8 (Nat.le_refl _)) rfl (VY8.out.below (balloc w8 _)) (by simp; omega) (by simp) ?_; intro v9 w9 hO9 hF9; have b9 := (balloc w8 (.cells #[] 3)).trans hF9.bel; have BB9 := Lib.hid b9; have VZ9 := Lib.hid (VZ8.out.below b9); have b89 := b9.size; obtain ⟨A9, k9, rfl, hO9'⟩ := own_to hO9; have O9 := Lib.hid hO9'; clear hO9 hO9' hF9 b9)
                | (at_builtin; refine wpList_app_w (by rfl) _ _ rfl elInt rfl O9.out rfl VZ9.out (by omega) b89 ?_; intro v10 w10 hO10 hF10; have b10 := BB9.out.trans hF10.bel; have B10 := Lib.hid (B8.out.trans (b10.mono B8.out.size)); have VX10 := Lib.hid (VX8.out.below b10); rw [EO.out] at hO10; have HQQ := Lib.hid (same_any VX10.out hO10.lst); obtain ⟨A10, k10, rfl⟩ := hO10.form; clear hO10 hF10 b10)
                | (go_at_call 15; ((with_reducible refine HQQ.out.mono ?_); rintro e w11 ⟨rfl, q11, hw⟩; have B11 : Hid (Below wo.heap.size wo w11) := Lib.hid (by rw [hw]; exact B10.out.trans ((below_drewN _ _).mono B10.out.size)); clear hw)))
              go_roundg (2 - (k + 1) + 1)
              case measure => omega
              case rel => exact ⟨k + 1, by go_num, by omega, Nat.le_refl _, BW.out.trans (B11.out.mono BW.out.size)⟩
          · have HQ1 := Lib.hid (fun (W : World) (hb : Below wo.heap.size wo W) => HT.out W (.slice (some ⟨g, off, none⟩) q c9) (lst_take (HX.out.below hb) hqn))
            go_wp2_with (first
              | (go_at_call 8; ((with_reducible refine (HM.out _).mono ?_); rintro e w' ⟨rfl, rfl⟩))
              | (go_at_call 12; ((with_reducible refine HD1.out.mono ?_); rintro e w4 ⟨va, o4, rfl, hva, ho4, hb4⟩; have ka := heap_alloc_new w4 (.cells #[va] 30); have VA := Lib.hid (hva.below (balloc w4 (.cells #[va] 30))); have VX := Lib.hid (ho4.below (balloc w4 (.cells #[va] 30))); have B4 := Lib.hid (hb4.alloc hb4.size (.cells #[va] 30)); have HQ2 := Lib.hid (HQ1.out _ B4.out); obtain ⟨Aa, ca, rfl, _⟩ := hva; obtain ⟨Ax, cx, rfl, _⟩ := ho4; clear hb4))
              | (go_at_call 12; ((with_reducible refine HQ2.out.mono ?_); rintro e w5 ⟨vc, o5, rfl, hvc, ho5, hb5⟩; have ka2 := (hb5.block _ (heap_lt ka)).trans ka; have B5 := Lib.hid (B4.out.trans (hb5.mono B4.out.size)); have VC := Lib.hid hvc; have VY := Lib.hid ho5; have VA2 := Lib.hid (VA.out.below hb5); have VX2 := Lib.hid (VX.out.below hb5); obtain ⟨Ac, cc, rfl, _⟩ := hvc; obtain ⟨Ay, cy, rfl, _⟩ := ho5; clear hb5)))
            have B6 := Lib.hid (B5.out.alloc B5.out.size (.cells #[.slice Ac ra.length cc] 30))
            have b56 := balloc w5 (.cells #[.slice Ac ra.length cc] 30)
            have ka6 := (b56.block _ (heap_lt ka2)).trans ka2
            have kc6 := heap_alloc_new w5 (.cells #[.slice Ac ra.length cc] 30)
            have VC6 := Lib.hid (VC.out.below b56)
            have VY6 := Lib.hid (VY.out.below b56)
            have VA6 := Lib.hid (VA2.out.below b56)
            have VX6 := Lib.hid (VX2.out.below b56)
            generalize w5.alloc (.cells #[.slice Ac ra.length cc] 30) = w6 at *
            have dc6 := cell_of_row _ _ 0 _ _ _ kc6
            have KA6 := Lib.hid ka6
            have hlt56 := heap_lt kc6
            have hne56 : w5.heap.size ≠ w6.heap.size := by omega
            have hcq1 : q < c9 := by omega
            have HU1 := Lib.hid (fun (W : World) (hb : Below w6.heap.size w6 W) => HU.out W (.slice Ac ra.length cc) (.slice (some ⟨g, off + q, none⟩) (xs.length - q) (c9 - q)) (VC6.out.below hb) (lst_drop (HX.out.below (B6.out.trans (hb.mono B6.out.size))) hqn))
            clear ka ka2 b56 ka6 kc6
            go_cut [14, 15] from 49 to 56 (fun p vz wx => ∃ g14 Ad cd Az cz, p = .pointer (some ⟨g14, 0, none⟩) ∧ vz = .slice Az z.length cz ∧ wx.heap[g14]? = some (.cells #[.slice Ad rr.length cd] 30 (0, 0)) ∧ Lst .u8 wx (.slice Ad rr.length cd) rr ∧ Lst .i64 wx vz z ∧ Below w6.heap.size w6 wx)
            case first =>
              go_region_law (first
                | (go_simp; go_at_call 12; ((with_reducible refine (HU1.out w6.drew (Below.refl _ _).drew).mono ?_); rintro e w7 ⟨vd, o7, rfl, hvd, ho7, hb7⟩; have B7 : Hid (Below w6.heap.size w6 w7) := Lib.hid ((Below.refl _ _).drew.trans hb7); have VD := Lib.hid hvd; have VZ := Lib.hid ho7; obtain ⟨Ad, cd, rfl, _⟩ := hvd; obtain ⟨Az, cz, rfl, _⟩ := ho7; clear hb7))
                | (go_simp; go_at_call 12; ((with_reducible refine (HU1.out (w6.alloc (.cells #[.slice none 0 0] 30)).drew (balloc _ _).drew).mono ?_); rintro e w7 ⟨vd, o7, rfl, hvd, ho7, hb7⟩; have B7 : Hid (Below w6.heap.size w6 w7) := Lib.hid ((balloc w6 _).drew.trans (hb7.mono (by simp))); have VD := Lib.hid hvd; have VZ := Lib.hid ho7; have k7 := (hb7.block w6.heap.size (by simp)).trans (heap_alloc_new w6 (.cells #[.slice none 0 0] 30)); have d7 := cell_of_row _ _ 0 _ _ _ k7; have f7 := frozen_of_row _ _ 0 _ _ k7; obtain ⟨Ad, cd, rfl, _⟩ := hvd; obtain ⟨Az, cz, rfl, _⟩ := ho7; clear hb7)))
              all_goals
                go_wp2_with fail
                go_meet
                first
                  | exact ⟨_, _, _, _, _, rfl, rfl, heap_alloc_new w7 _, VD.out.below (balloc w7 _), VZ.out.below (balloc w7 _), B7.out.alloc B7.out.size _⟩
                  | exact ⟨_, _, _, _, _, rfl, rfl, res_cell w7 w6.heap.size _ _ _ k7, lst_set VD.out k7, lst_set VZ.out k7, B7.out.setCell (Nat.le_refl _) _⟩
            case rest =>
              obtain ⟨g14, Ad, cd, Az, cz, rfl, rfl, hk14, hvd, hvz, hb7⟩ := hcut
              have ka7 := (hb7.block _ (heap_lt KA6.out)).trans KA6.out
              have da7 := cell_of_row _ _ 0 _ _ _ ka7
              have dd7 := cell_of_row _ _ 0 _ _ _ hk14
              have HSM := Lib.hid (refsame_any (VA6.out.below hb7) hvd HR1.out)
              have VX7 := Lib.hid (VX6.out.below hb7)
              have VY7 := Lib.hid (VY6.out.below hb7)
              have VZ7 := Lib.hid hvz
              have B7 := Lib.hid (B6.out.trans (hb7.mono B6.out.size))
              clear ka7 hk14 hvd hvz hb7
              go_wp2_with (first
                | (go_at_call 14; ((with_reducible refine HSM.out.mono ?_); rintro e w8 ⟨rfl, hb8⟩; have VX8 := Lib.hid (VX7.out.below hb8); have VY8 := Lib.hid (VY7.out.below hb8); have VZ8 := Lib.hid (VZ7.out.below hb8); have B8 := Lib.hid (B7.out.trans (hb8.mono B7.out.size)); clear hb8))
                | (at_builtin; refine wpList_app_w (by rfl) _ _ rfl elInt rfl (own_lit 3 .i64 w8 (Nat.le_refl _)) rfl (VY8.out.below (balloc w8 _)) (by simp; omega) (by simp) ?_; intro v9 w9 hO9 hF9; have b9 := (balloc w8 (.cells #[] 3)).trans hF9.bel; have BB9 := Lib.hid b9; have VZ9 := Lib.hid (VZ8.out.below b9); have b89 := b9.size; obtain ⟨A9, k9, rfl, hO9'⟩ := own_to hO9; have O9 := Lib.hid hO9'; clear hO9 hO9' hF9 b9)
                | (at_builtin; refine wpList_app_w (by rfl) _ _ rfl elInt rfl O9.out rfl VZ9.out (by omega) b89 ?_; intro v10 w10 hO10 hF10; have b10 := BB9.out.trans hF10.bel; have B10 := Lib.hid (B8.out.trans (b10.mono B8.out.size)); have VX10 := Lib.hid (VX8.out.below b10); rw [EO.out] at hO10; have HQQ := Lib.hid (same_any VX10.out hO10.lst); obtain ⟨A10, k10, rfl⟩ := hO10.form; clear hO10 hF10 b10)
                | (go_at_call 15; ((with_reducible refine HQQ.out.mono ?_); rintro e w11 ⟨rfl, q11, hw⟩; have B11 : Hid (Below wo.heap.size wo w11) := Lib.hid (by rw [hw]; exact B10.out.trans ((below_drewN _ _).mono B10.out.size)); clear hw)))
              go_roundg (2 - (k + 1) + 1)
              case measure => omega
              case rel => exact ⟨k + 1, by go_num, by omega, Nat.le_refl _, BW.out.trans (B11.out.mono BW.out.size)⟩
      · obtain rfl : k = 2 := by omega
        go_wp2_with fail
        go_ret
        exact ⟨rfl, B2.out.trans (hbw.mono B2.out.size)⟩
  · have hl' : (200 : Int) < (bs.length : Int) := by omega
    go_enter Try.func5, Try.ntmps5
    go_wp2_with (go_at_call 7; ((with_reducible refine (HS.out _).mono ?_); rintro e w1 ⟨rfl, hb1⟩; have B1 := Lib.hid hb1; clear hb1))
    go_ret
    exact ⟨rfl, B1.out⟩
end Go.Proofs.Ytjcgcloanamabaa.Ru
