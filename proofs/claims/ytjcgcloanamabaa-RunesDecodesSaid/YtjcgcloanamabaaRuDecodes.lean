/-
  What bytes are decoded to, after any rest: as the reference has it.
-/
import Derived.Test.YtjcgcloanamabaaRuTwo
import Derived.Deep.RegionHeld3
import Derived.Deep.CutRange
namespace Go.Proofs.Ytjcgcloanamabaa.Ru
open Go.RowKit

theorem lst_first {k : IntKind} {w : World} {A : Option Addr} {c q : Nat} {l : List Int} (h : Lst k w (.slice A l.length c) l) (hq : q ≤ l.length) : Lst k w (.slice A q c) (l.take q) := by
  obtain ⟨A', c', h1, h2, h3, h4, h5⟩ := h
  simp only [Value.slice.injEq] at h1
  obtain ⟨rfl, _, rfl⟩ := h1
  have hl : (l.take q).length = q := by rw [List.length_take]; omega
  refine ⟨A, c, by rw [hl], fun hn => ?_, h3, by omega, h5⟩
  rw [hl] at hn
  obtain ⟨g', off', e1, e2⟩ := h2 (by omega)
  refine ⟨g', off', e1, fun j x hx => e2 j x ?_⟩
  have hj : j < q := by have := (List.getElem?_eq_some_iff.1 hx).1; omega
  rw [List.getElem?_take_of_lt hj] at hx
  exact hx
/-- Three decoders' rests at block b. -/
def Tri (w : World) (b : Nat) : Prop := ∀ k, k < 3 → ∃ v l, w.cell? ⟨b, k, none⟩ = some v ∧ Lst .u8 w v l ∧ By l
theorem Tri.below {w w' : World} {b : Nat} (h : Tri w b) (hb : Below w.heap.size w w') : Tri w' b := fun k hk => by
  obtain ⟨v, l, h1, h2, h3⟩ := h k hk
  exact ⟨v, l, (hb.cell (World.block_lt_of_cell? w _ h1)).trans h1, h2.below hb, h3⟩
theorem tri_made {w : World} {v1 v2 : Value} {l1 l2 : List Int} (h1 : Lst .u8 w v1 l1) (b1 : By l1) (h2 : Lst .u8 w v2 l2) (b2 : By l2) :
    Tri (w.alloc (.cells #[.slice none 0 0, v1, v2] 30)) w.heap.size := by
  have hk := heap_alloc_new w (.cells #[.slice none 0 0, v1, v2] 30)
  intro k hk2
  match k, hk2 with
  | 0, _ => exact ⟨_, [], cell_of_row _ _ 0 _ _ _ hk, Lst.nil _ _, By.nil⟩
  | 1, _ => exact ⟨v1, l1, cell_of_row _ _ 1 _ _ _ hk, h1.below (balloc _ _), b1⟩
  | 2, _ => exact ⟨v2, l2, cell_of_row _ _ 2 _ _ _ hk, h2.below (balloc _ _), b2⟩
  | k + 3, h => omega
/-- The two answers, boxed: where the decoders lie, what they and the lists of characters read as. -/
structure Dx (w : World) (be bf bd : Nat) (ve vf vd vm vn : Value) (R ld O : List Int) : Prop where
  ce : w.cell? ⟨be, 0, none⟩ = some ve
  cf : w.cell? ⟨bf, 0, none⟩ = some vf
  cd : w.cell? ⟨bd, 0, none⟩ = some vd
  le : Lst .u8 w ve R
  lf : Lst .u8 w vf R
  ld : Lst .u8 w vd ld
  lm : Lst .i64 w vm O
  ln : Lst .i64 w vn O
theorem Dx.below {w w' : World} {be bf bd : Nat} {ve vf vd vm vn : Value} {R ld O : List Int} (h : Dx w be bf bd ve vf vd vm vn R ld O) (hb : Below w.heap.size w w') : Dx w' be bf bd ve vf vd vm vn R ld O :=
  ⟨(hb.cell (World.block_lt_of_cell? w _ h.ce)).trans h.ce, (hb.cell (World.block_lt_of_cell? w _ h.cf)).trans h.cf, (hb.cell (World.block_lt_of_cell? w _ h.cd)).trans h.cd, h.le.below hb, h.lf.below hb, h.ld.below hb, h.lm.below hb, h.ln.below hb⟩

set_option maxRecDepth 100000 in
set_option maxHeartbeats 8000000 in
theorem RunesDecodes_law {w : World} {vr vb vl : Value} {rs bs l : List Int} (hr : Lst .u8 w vr rs) (hry : By rs) (hb : Lst .u8 w vb bs) (hby : By bs) (h : Lst .i64 w vl l) (hi : Ints l) :
    Calls Try.prog 4 #[vr, vb, vl] w (BPost w true) := by
  have HS := Lib.hid (fun W => sane_any W)
  have HV := Lib.hid h
  have HI := Lib.hid hi
  have HR := Lib.hid hr
  have HRY := Lib.hid hry
  have HB := Lib.hid hb
  have HY := Lib.hid hby
  obtain ⟨Ar, cr, rfl, _⟩ := hr
  obtain ⟨A, c, rfl, _⟩ := h
  obtain ⟨Ab, cb, rfl, _⟩ := hb
  clear hi hby hry
  by_cases hl6 : rs.length ≤ 6
  · have hl6' : decide ((6 : Int) < (rs.length : Int)) = false := decide_eq_false (by omega)
    by_cases hl : bs.length ≤ 200
    · have hl' : decide ((200 : Int) < (bs.length : Int)) = false := decide_eq_false (by omega)
      go_enter Try.func4, Try.ntmps4
      go_upto_region 6 with (first
        | (go_at_call 7; ((with_reducible refine (HS.out _).mono ?_); rintro e w1 ⟨rfl, hb1⟩; have B1 := Lib.hid hb1; have HO := Lib.hid (odd_any (HV.out.below hb1) HI.out); clear hb1))
        | (go_at_call 11; ((with_reducible refine HO.out.mono ?_); rintro e w2 ⟨vo, lo, rfl, hvo, hbo, hlo, hb2⟩; have B2 := Lib.hid (B1.out.trans (hb2.mono B1.out.size)); have VO := Lib.hid hvo; have BO := Lib.hid hbo; obtain ⟨Ao, co, rfl, _, hAo, hco, hmo⟩ := hvo; clear hbo hb2)))
      go_cut [37, 38, 39] from 28 to 39 (fun a b c wx => ∃ b3, a = .slice (some ⟨b3, 0, none⟩) 3 3 ∧ b = .int .i64 3 ∧ c = .int .i64 0 ∧ Tri wx b3 ∧ Below w2.heap.size w2 wx)
      case first =>
        have VR := Lib.hid (HR.out.below B2.out)
        have HT2 := Lib.hid (BO.out.take 2)
        have hlo2 : lo.length ≤ 60 := hlo
        clear hlo
        cases Ao with
        | none =>
          obtain rfl := hAo rfl
          obtain rfl : lo = [] := List.eq_nil_of_length_eq_zero (by omega)
          simp only [List.length_nil] at *
          go_wp2_with fail
          go_meet
          exact ⟨_, rfl, rfl, rfl, tri_made VR.out HRY.out (Lst.nil _ _) By.nil, balloc w2 _⟩
        | some ad =>
          go_wp2_with fail
          all_goals
            go_meet
            first
              | exact ⟨_, rfl, rfl, rfl, tri_made VR.out HRY.out (lst_first VO.out (by omega)) HT2.out, balloc w2 _⟩
              | exact ⟨_, rfl, rfl, rfl, tri_made VR.out HRY.out VO.out BO.out, balloc w2 _⟩
      case rest =>
        obtain ⟨b3, rfl, rfl, rfl, htri, hbx⟩ := hcut
        obtain ⟨w3, rfl⟩ : ∃ w3 : World, w3 = wc := ⟨_, rfl⟩
        have T3 := Lib.hid htri
        have B3 := Lib.hid (B2.out.trans (hbx.mono B2.out.size))
        have VO3 := Lib.hid (VO.out.below hbx)
        have VB3 := Lib.hid (HB.out.below B3.out)
        clear htri hbx
        go_wp2_with fail
        go_loopg [9, 11, 12, 13, 14, 15, 39] (3 + 1) (fun g' _ _ _ _ _ _ i wr => ∃ (k : Nat), i = .int .i64 k ∧ k ≤ 3 ∧ 3 - k + 1 ≤ g' ∧ Below w3.heap.size w3 wr)
        case atStart => exact ⟨0, rfl, by omega, by omega, Below.refl _ _⟩
        case round =>
          obtain ⟨k, rfl, hk, hg, hb4⟩ := hrel
          obtain ⟨w4, rfl⟩ : ∃ w4 : World, w4 = wr := ⟨_, rfl⟩
          by_cases hkn : k < 3
          · have hki : (k : Int) < 3 := by omega
            obtain ⟨vd, ld, dd, hvd, hld⟩ := (T3.out.below hb4) k hkn
            have B4 := Lib.hid hb4
            have VD := Lib.hid hvd
            have LD := Lib.hid hld
            have VO4 := Lib.hid (VO3.out.below hb4)
            have VB4 := Lib.hid (VB3.out.below hb4)
            obtain ⟨Ad, cd, rfl, _⟩ := hvd
            clear hb4 hld
            go_wp2_with fail
            have k9 := heap_alloc_new w4 (.cells #[.slice Ad ld.length cd] 30)
            have b45 := balloc w4 (.cells #[.slice Ad ld.length cd] 30)
            have TW := Lib.hid (two_made (VB4.out.below b45) HY.out hl (VO4.out.below b45) BO.out (by omega))
            have B5 := Lib.hid ((b45.alloc b45.size (.cells #[.slice Ab bs.length cb, .slice Ao lo.length co] 25)))
            have K9 := Lib.hid (((balloc (w4.alloc (.cells #[.slice Ad ld.length cd] 30)) (.cells #[.slice Ab bs.length cb, .slice Ao lo.length co] 25)).block _ (heap_lt k9)).trans k9)
            rw [World.size_alloc] at TW
            generalize (w4.alloc (.cells #[.slice Ad ld.length cd] 30)).alloc (.cells #[.slice Ab bs.length cb, .slice Ao lo.length co] 25) = w5 at *
            have VD5 := Lib.hid (VD.out.below B5.out)
            clear k9 b45
            go_loopg [11, 12, 13, 14, 15, 47] (2 + 1) (fun g' _ _ _ _ _ i wr => ∃ (j : Nat), i = .int .i64 j ∧ j ≤ 2 ∧ 2 - j + 1 ≤ g' ∧ Below w5.heap.size w5 wr)
            case atStart => exact ⟨0, rfl, by omega, by omega, Below.refl _ _⟩
            case round =>
              obtain ⟨j, rfl, hj, hg2, hb6⟩ := hrel
              obtain ⟨w6, rfl⟩ : ∃ w6 : World, w6 = wr := ⟨_, rfl⟩
              by_cases hjn : j < 2
              · have hji : (j : Int) < 2 := by omega
                obtain ⟨vx, xs, dx, hx, hxb, hxl⟩ := (TW.out.below hb6) j hjn
                have B6 := Lib.hid hb6
                have hk6 := (hb6.block _ (heap_lt K9.out)).trans K9.out
                have c9 := cell_of_row _ _ 0 _ _ _ hk6
                have VD6 := Lib.hid (VD5.out.below hb6)
                have HX := Lib.hid hx
                have HXB := Lib.hid hxb
                have RY := Lib.hid (LD.out.rest0.decR hxb)
                have VR9 := Lib.hid (valid_decR xs (valid_rest0 ld))
                have hD := decode_any VD6.out LD.out hx hxb (by omega)
                have HE := Lib.hid (fun (W : World) (hb : Below w6.heap.size w6 W) => refdec_any (VD6.out.below hb) LD.out (HX.out.below hb) HXB.out (by omega))
                generalize decR (rest0 ld) xs = R at *
                generalize decO (rest0 ld) xs = O at *
                have HD := Lib.hid hD
                obtain ⟨Ax, cx, rfl, _⟩ := hx
                clear hb6 hk6 hxb hD
                go_wp2_with (first
                  | (go_at_call 12; ((with_reducible refine HD.out.mono ?_); rintro e w7 ⟨ve, o7, rfl, hve, ho7, hb7⟩; have k12 := heap_alloc_new w7 (.cells #[ve] 30); have VE := Lib.hid (hve.below (balloc w7 (.cells #[ve] 30))); have VM := Lib.hid (ho7.below (balloc w7 (.cells #[ve] 30))); have b7 := hb7.alloc hb7.size (.cells #[ve] 30); have B7 := Lib.hid b7; have HE7 := Lib.hid (HE.out _ b7); have cd7 := (b7.cell (World.block_lt_of_cell? w6 _ c9)).trans c9; obtain ⟨Ae, ce, rfl, _⟩ := hve; obtain ⟨Am, cm, rfl, _⟩ := ho7; clear hb7 b7))
                  | (go_at_call 13; ((with_reducible refine HE7.out.mono ?_); rintro e w8 ⟨vf, o8, rfl, hvf, ho8, hb8⟩; have X8 := Lib.hid (show Dx (w8.alloc (.cells #[vf] 30)) w7.heap.size w8.heap.size w4.heap.size (.slice Ae R.length ce) vf (.slice Ad ld.length cd) (.slice Am O.length cm) o8 R ld O from ⟨((hb8.trans ((balloc w8 _).mono hb8.size)).cell (heap_lt k12)).trans (cell_of_row _ _ 0 _ _ _ k12), cell_of_row _ _ 0 _ _ _ (heap_alloc_new w8 _), ((hb8.trans ((balloc w8 _).mono hb8.size)).cell (World.block_lt_of_cell? _ _ cd7)).trans cd7, VE.out.below (hb8.trans ((balloc w8 _).mono hb8.size)), hvf.below (balloc w8 _), VD6.out.below (B7.out.trans ((hb8.trans ((balloc w8 _).mono hb8.size)).mono B7.out.size)), VM.out.below (hb8.trans ((balloc w8 _).mono hb8.size)), ho8.below (balloc w8 _)⟩); have B8 := Lib.hid (B7.out.trans ((hb8.alloc hb8.size (.cells #[vf] 30)).mono B7.out.size)); obtain ⟨Af, cf, rfl, _⟩ := hvf; obtain ⟨An, cn, rfl, _⟩ := ho8; clear hb8)))
                generalize w8.alloc (.cells #[.slice Af R.length cf] 30) = y8 at *
                have hca := X8.out.ce
                have hcb := X8.out.cf
                have hcc := X8.out.cd
                have HC8 := Lib.hid (refsame_any (w := y8.drew) X8.out.le X8.out.lf RY.out)
                go_region_held3 (fun w' => w'.cell? ⟨w7.heap.size, 0, none⟩ = some (.slice Ae R.length ce) ∧ w'.cell? ⟨w8.heap.size, 0, none⟩ = some (.slice Af R.length cf) ∧ w'.cell? ⟨w4.heap.size, 0, none⟩ = some (.slice Ad ld.length cd))
                    (first
                      | exact ⟨X16.out.ce, X16.out.cf, X16.out.cd⟩
                      | exact ⟨X15.out.ce, X15.out.cf, X15.out.cd⟩
                      | exact ⟨X14.out.ce, X14.out.cf, X14.out.cd⟩
                      | exact ⟨X13.out.ce, X13.out.cf, X13.out.cd⟩
                      | exact ⟨X12.out.ce, X12.out.cf, X12.out.cd⟩
                      | exact ⟨X11.out.ce, X11.out.cf, X11.out.cd⟩
                      | exact ⟨X10.out.ce, X10.out.cf, X10.out.cd⟩
                      | exact ⟨X9.out.ce, X9.out.cf, X9.out.cd⟩
                      | exact ⟨X8.out.ce, X8.out.cf, X8.out.cd⟩)
                    (first
                      | (go_at_call 14; ((with_reducible refine HC8.out.mono ?_); rintro e w9 ⟨rfl, hb0⟩; have hb := (Below.refl y8.heap.size y8).drew.trans hb0; clear hb0; have X9 := Lib.hid (X8.out.below hb); have B9 := Lib.hid (B8.out.trans (hb.mono B8.out.size)); have HC9 := Lib.hid (same_any X9.out.lm X9.out.ln); clear hb))
                      | (go_at_call 15; ((with_reducible refine HC9.out.mono ?_); rintro e w10 ⟨rfl, q, hw⟩; have hb : Below w9.heap.size w9 w10 := (by rw [hw]; exact below_drewN _ _); clear hw; have X10 := Lib.hid (X9.out.below hb); have B10 := Lib.hid (B9.out.trans (hb.mono B9.out.size)); have HC10 := Lib.hid (valid_any X10.out.ld LD.out); clear hb))
                      | (go_at_call 16; ((with_reducible refine HC10.out.mono ?_); rintro e w11 ⟨rfl, hb⟩; have X11 := Lib.hid (X10.out.below hb); have B11 := Lib.hid (B10.out.trans (hb.mono B10.out.size)); have HC11 := Lib.hid (refvalid_any X11.out.ld LD.out); clear hb))
                      | (go_at_call 17; ((with_reducible refine HC11.out.mono ?_); rintro e w12 ⟨rfl, hb⟩; have X12 := Lib.hid (X11.out.below hb); have B12 := Lib.hid (B11.out.trans (hb.mono B11.out.size)); have HC12 := Lib.hid (flush_any X12.out.ld LD.out); clear hb))
                      | (go_at_call 18; ((with_reducible refine HC12.out.mono ?_); rintro e w13 ⟨v13, rfl, hv, hb⟩; have X13 := Lib.hid (X12.out.below hb); have B13 := Lib.hid (B12.out.trans (hb.mono B12.out.size)); have V13 := Lib.hid hv; obtain ⟨A13, c13, rfl, _⟩ := hv; have HC13 := Lib.hid (refflush_any X13.out.ld LD.out); clear hb))
                      | (go_at_call 19; ((with_reducible refine HC13.out.mono ?_); rintro e w14 ⟨v14, rfl, hv, hb⟩; have X14 := Lib.hid (X13.out.below hb); have B14 := Lib.hid (B13.out.trans (hb.mono B13.out.size)); have HC14 := Lib.hid (same_any (V13.out.below hb) hv); obtain ⟨A14, c14, rfl, _⟩ := hv; clear hb))
                      | (go_at_call 15; ((with_reducible refine HC14.out.mono ?_); rintro e w15 ⟨rfl, q, hw⟩; have hb : Below w14.heap.size w14 w15 := (by rw [hw]; exact below_drewN _ _); clear hw; have X15 := Lib.hid (X14.out.below hb); have B15 := Lib.hid (B14.out.trans (hb.mono B14.out.size)); have hva := valid_any X15.out.le RY.out; rw [VR9.out] at hva; have HC15 := Lib.hid hva; clear hva; clear hb))
                      | (go_at_call 16; ((with_reducible refine HC15.out.mono ?_); rintro e w16 ⟨rfl, hb⟩; have X16 := Lib.hid (X15.out.below hb); have B16 := Lib.hid (B15.out.trans (hb.mono B15.out.size)); clear hb)))
                go_wp2_with fail
                go_roundg (2 - (j + 1) + 1)
                case measure => omega
                case rel => exact ⟨j + 1, by go_num, by omega, Nat.le_refl _, B6.out.trans (B16.out.mono B6.out.size)⟩
              · obtain rfl : j = 2 := by omega
                go_wp2_with fail
                go_roundg (3 - (k + 1) + 1)
                case measure => omega
                case rel => exact ⟨k + 1, by go_num, by omega, Nat.le_refl _, B4.out.trans ((B5.out.trans (hb6.mono B5.out.size)).mono B4.out.size)⟩
          · obtain rfl : k = 3 := by omega
            go_wp2_with fail
            go_ret
            exact ⟨rfl, B3.out.trans (hb4.mono B3.out.size)⟩
    · have hl' : decide ((200 : Int) < (bs.length : Int)) = true := decide_eq_true (by omega)
      go_enter Try.func4, Try.ntmps4
      go_wp2_with (go_at_call 7; ((with_reducible refine (HS.out _).mono ?_); rintro e w1 ⟨rfl, hb1⟩; have B1 := Lib.hid hb1; clear hb1))
      go_ret
      exact ⟨rfl, B1.out⟩
  · have hl6' : decide ((6 : Int) < (rs.length : Int)) = true := decide_eq_true (by omega)
    go_enter Try.func4, Try.ntmps4
    go_wp2_with (go_at_call 7; ((with_reducible refine (HS.out _).mono ?_); rintro e w1 ⟨rfl, hb1⟩; have B1 := Lib.hid hb1; clear hb1))
    go_ret
    exact ⟨rfl, B1.out⟩
end Go.Proofs.Ytjcgcloanamabaa.Ru
