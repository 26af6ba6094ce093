/-
  Layer 5, the reference: words and numbers; patterns.
-/
import Derived.Test.YtjhcbcadagljlaaDoorLxLoops
import Derived.Deep.RegionLaw
namespace Go.Proofs.YtjhcbcadagljlaaDoor.Lx
open Go.RowKit

def pw (w : Bool) : Int → Bool := if w then inWord else digit
def Sp (w : Bool) (l : List Int) (k : Nat) : Prop := spanL w l = k + spanL w (l.drop k)
theorem spanL_cons (w : Bool) (a : Int) (r : List Int) : spanL w (a :: r) = if pw w a then spanL w r + 1 else 0 := by
  unfold spanL pw
  rw [List.takeWhile_cons]
  cases w <;> (simp only [Bool.false_eq_true, if_false, if_true]; split <;> simp)
theorem Sp.more {w : Bool} {l : List Int} {k : Nat} {x : Int} (h : Sp w l k) (hx : l[k]? = some x) (hp : pw w x = true) : Sp w l (k + 1) := by
  unfold Sp at *; rw [drop_at hx, spanL_cons, if_pos hp] at h; omega
theorem Sp.stop {w : Bool} {l : List Int} {k : Nat} {x : Int} (h : Sp w l k) (hx : l[k]? = some x) (hp : pw w x = false) : spanL w l = k := by
  unfold Sp at *; rw [drop_at hx, spanL_cons, if_neg (by simp [hp])] at h; exact h
theorem Sp.over {w : Bool} {l : List Int} (h : Sp w l l.length) : spanL w l = l.length := by
  unfold Sp at h; rw [h, List.drop_length]; rfl

set_option maxRecDepth 100000 in
set_option maxHeartbeats 2000000 in
theorem span_any {s : ByteArray} {l : List Int} (hs : ch s = l) (hn : l.length ≤ 100000) (f : Bool) (w : World) : Calls Tryd.prog 28 #[.string s, .bool f] w fun e w' => e = .returned (.int .i64 (spanL f l)) ∧ w = w' := by
  have HSZ : Hid (s.size = l.length) := Lib.hid (by rw [← hs, ch_length])
  have HAT : Hid (∀ k x, l[k]? = some x → ∃ hk : k < s.size, ((s[k]'hk).toNat : Int) = x) := Lib.hid (fun k x h => ch_at (by rw [hs]; exact h))
  have HD := Lib.hid (fun (x : Int) (W : World) => digit_any x W)
  have HL := Lib.hid (fun (x : Int) (W : World) => letter_any x W)
  clear hs
  go_enter Tryd.func28, Tryd.ntmps28
  go_wp2_with fail
  go_loopg [5] (l.length + 1) (fun g' i wr => ∃ (k : Nat), i = .int .i64 k ∧ k ≤ l.length ∧ l.length - k + 1 ≤ g' ∧ Sp f l k ∧ wr = w)
  case atStart => exact ⟨0, rfl, Nat.zero_le _, by omega, by unfold Sp; simp, rfl⟩
  case round =>
    obtain ⟨k, rfl, hk, hg, hsk, rfl⟩ := hrel
    have SK := Lib.hid hsk
    clear hsk
    by_cases hkn : k < l.length
    · obtain ⟨x, hx⟩ : ∃ x, l[k]? = some x := ⟨l[k], List.getElem?_eq_getElem hkn⟩
      obtain ⟨hks, x0⟩ := HAT.out k x hx
      have hki : (k : Int) < (s.size : Int) := by omega
      have HX := Lib.hid hx
      have HDx := Lib.hid (HD.out x)
      have HLx := Lib.hid (HL.out x)
      clear hx
      cases hd : digit x with
      | true =>
        rw [hd] at HDx
        cases f with
        | true =>
          have S1 := Lib.hid (SK.out.more HX.out (by simp [pw, inWord, hd]))
          go_wp2_with (first | (go_at_call 29; ((with_reducible refine (HDx.out _).mono ?_); rintro e w' ⟨rfl, rfl⟩)) | (go_at_call 27; ((with_reducible refine (HLx.out _).mono ?_); rintro e w' ⟨rfl, rfl⟩)))
          go_roundg (l.length - (k + 1) + 1)
          case measure => omega
          case rel => exact ⟨k + 1, by go_num, by omega, Nat.le_refl _, S1.out, rfl⟩
        | false =>
          have S1 := Lib.hid (SK.out.more HX.out (by simp [pw, hd]))
          go_wp2_with (first | (go_at_call 29; ((with_reducible refine (HDx.out _).mono ?_); rintro e w' ⟨rfl, rfl⟩)) | (go_at_call 27; ((with_reducible refine (HLx.out _).mono ?_); rintro e w' ⟨rfl, rfl⟩)))
          go_roundg (l.length - (k + 1) + 1)
          case measure => omega
          case rel => exact ⟨k + 1, by go_num, by omega, Nat.le_refl _, S1.out, rfl⟩
      | false =>
        rw [hd] at HDx
        cases f with
        | false =>
          have E := Lib.hid (SK.out.stop HX.out (by simp [pw, hd]))
          go_wp2_with (first | (go_at_call 29; ((with_reducible refine (HDx.out _).mono ?_); rintro e w' ⟨rfl, rfl⟩)) | (go_at_call 27; ((with_reducible refine (HLx.out _).mono ?_); rintro e w' ⟨rfl, rfl⟩)))
          go_ret
          exact ⟨ret_i (by rw [E.out]), rfl⟩
        | true =>
          cases hl : letter x with
          | true =>
            rw [hl] at HLx
            have S1 := Lib.hid (SK.out.more HX.out (by simp [pw, inWord, hl]))
            go_wp2_with (first | (go_at_call 29; ((with_reducible refine (HDx.out _).mono ?_); rintro e w' ⟨rfl, rfl⟩)) | (go_at_call 27; ((with_reducible refine (HLx.out _).mono ?_); rintro e w' ⟨rfl, rfl⟩)))
            go_roundg (l.length - (k + 1) + 1)
            case measure => omega
            case rel => exact ⟨k + 1, by go_num, by omega, Nat.le_refl _, S1.out, rfl⟩
          | false =>
            rw [hl] at HLx
            by_cases h45 : x = 45
            · subst h45
              have S1 := Lib.hid (SK.out.more HX.out (by decide))
              go_wp2_with (first | (go_at_call 29; ((with_reducible refine (HDx.out _).mono ?_); rintro e w' ⟨rfl, rfl⟩)) | (go_at_call 27; ((with_reducible refine (HLx.out _).mono ?_); rintro e w' ⟨rfl, rfl⟩)))
              go_roundg (l.length - (k + 1) + 1)
              case measure => omega
              case rel => exact ⟨k + 1, by go_num, by omega, Nat.le_refl _, S1.out, rfl⟩
            · have q45 : (x == 45) = false := beq_eq_false_iff_ne.2 h45
              have HN45 := Lib.hid h45
              clear h45
              have E := Lib.hid (SK.out.stop HX.out (by simp [pw, inWord, hd, hl, HN45.out]))
              go_wp2_with (first | (go_at_call 29; ((with_reducible refine (HDx.out _).mono ?_); rintro e w' ⟨rfl, rfl⟩)) | (go_at_call 27; ((with_reducible refine (HLx.out _).mono ?_); rintro e w' ⟨rfl, rfl⟩)))
              go_ret
              exact ⟨ret_i (by rw [E.out]), rfl⟩
    · obtain rfl : k = l.length := by omega
      have E := Lib.hid SK.out.over
      have hmi : (s.size : Int) ≤ (l.length : Int) := by have := HSZ.out; omega
      go_wp2_with fail
      go_ret
      exact ⟨ret_i (by rw [E.out]), rfl⟩

/-! ### patterns -/
theorem sla_end (r : List Int) : sla (47 :: r) = some ([], 1) := by cases r <;> simp [sla]
theorem sla_low {a : Int} {r : List Int} (h : a < 32) (h47 : a ≠ 47) : sla (a :: r) = none := by
  cases r with
  | nil => simp [sla, h47]
  | cons b r => simp [sla, h47, h]
theorem sla_bs1 : sla [92] = none := by decide
theorem sla_bs2 {b : Int} {r : List Int} (h : b < 32) : sla (92 :: b :: r) = none := by simp [sla, h]
theorem sla_esc {b : Int} {r : List Int} (h : ¬ b < 32) : sla (92 :: b :: r) = (sla r).map fun x => ((if b = 47 then [47] else [92, b]) ++ x.1, x.2 + 2) := by simp [sla, h]
theorem sla_one {a : Int} {r : List Int} (h47 : a ≠ 47) (h32 : ¬ a < 32) (h92 : a ≠ 92) : sla (a :: r) = (sla r).map fun x => ([a] ++ x.1, x.2 + 1) := by
  cases r with
  | nil => simp [sla, h47]
  | cons b r => simp [sla, h47, h32, h92]
theorem lst_two {k : IntKind} (w : World) (x y : Int) (t : TypeId) : Lst k (w.alloc (.cells #[.int k x, .int k y] t)) (.slice (some ⟨w.heap.size, 0, none⟩) 2 2) [x, y] :=
  lst_row [x, y] (heap_alloc_new w _) (by simp)
theorem own_snoc2 {e : TypeId} {k : IntKind} {w : World} {B : Nat} {v : Value} {l : List Int} {x y : Int} (h : Own e k w B v (l ++ [x, y])) : ∃ A c, v = .slice A (l.length + 2) c := by
  obtain ⟨A, c, hv⟩ := h.form
  exact ⟨A, c, by rw [hv, List.length_append]; rfl⟩

set_option maxRecDepth 100000 in
set_option maxHeartbeats 4000000 in
theorem slashed_any {s : ByteArray} {l : List Int} (hs : ch s = l) (hn : l.length ≤ 100000) (w : World) : Calls Tryd.prog 31 #[.string s] w (VPost w (cutV (sla l))) := by
  have HBY : Hid (By l) := Lib.hid (by rw [← hs]; exact ch_By s)
  have HSZ : Hid (s.size = l.length) := Lib.hid (by rw [← hs, ch_length])
  have HAT : Hid (∀ k x, l[k]? = some x → ∃ hk : k < s.size, ((s[k]'hk).toNat : Int) = x) := Lib.hid (fun k x h => ch_at (by rw [hs]; exact h))
  clear hs
  go_enter Tryd.func31, Tryd.ntmps31
  go_wp2_with fail
  go_loopg [4, 5] (l.length + 1) (fun g' ov i wr => ∃ (k : Nat) (out : List Int), i = .int .i64 k ∧ k ≤ l.length ∧ l.length - k + 1 ≤ g' ∧ Own 5 .u8 wr w.heap.size ov out ∧ By out ∧ out.length ≤ k ∧ Below w.heap.size w wr ∧ Rest sla l out k)
  case atStart => exact ⟨0, [], rfl, Nat.zero_le _, by omega, Own.nil _ _ _ _, By.nil, Nat.le_refl _, Below.refl _ _, Rest.start _ _⟩
  case round =>
    obtain ⟨k, out, rfl, hk, hg, hown, hbo, hol, hbel, hrest⟩ := hrel
    obtain ⟨wo, rfl⟩ : ∃ wo : World, wo = wr := ⟨_, rfl⟩
    have O0 := Lib.hid hown
    have BO := Lib.hid hbo
    have BW := Lib.hid hbel
    have HR := Lib.hid hrest
    have hcv := conv_lst hown.lst hbo
    obtain ⟨Ao, co, rfl⟩ := hown.form
    clear hown hbo hbel hrest
    by_cases hkn : k < l.length
    · obtain ⟨x, hx⟩ : ∃ x, l[k]? = some x := ⟨l[k], List.getElem?_eq_getElem hkn⟩
      obtain ⟨hks, x0⟩ := HAT.out k x hx
      have hki : (k : Int) < (s.size : Int) := by omega
      have HXB := Lib.hid (HBY.out x (List.mem_of_getElem? hx))
      have HDR := Lib.hid (drop_at hx)
      clear hx
      by_cases h47 : x = 47
      · subst h47
        have E := Lib.hid (HR.out.done (by rw [HDR.out]; exact sla_end _))
        have hge : ¬ s.size ≤ k := by omega
        go_wp2_with fail
        go_ret2
        exact ⟨ret_t (by rw [E.out]; unfold cutV; simp), BW.out⟩
      have n47 : (x != 47) = true := bne_iff_ne.2 h47
      have HN47 := Lib.hid h47
      clear h47
      by_cases h32 : x < 32
      · have E := Lib.hid (HR.out.none (by rw [HDR.out]; exact sla_low h32 HN47.out))
        clear hcv
        go_wp2_with fail
        go_ret2
        exact ⟨ret_t (by rw [E.out]; rfl), BW.out⟩
      have h32' : 32 ≤ x := by omega
      have HN32 := Lib.hid h32
      clear h32
      by_cases h92 : x = 92
      · subst h92
        clear hcv
        by_cases hk1 : k + 1 < l.length
        · obtain ⟨y, hy⟩ : ∃ y, l[k + 1]? = some y := ⟨l[k + 1], List.getElem?_eq_getElem hk1⟩
          obtain ⟨hks1, y0⟩ := HAT.out (k + 1) y hy
          have hki1 : (k : Int) + 1 < (s.size : Int) := by omega
          have HYB := Lib.hid (HBY.out y (List.mem_of_getElem? hy))
          have HDR2 := Lib.hid (HDR.out.trans (congrArg (92 :: ·) (drop_at hy)))
          clear hy
          by_cases y32 : y < 32
          · have E := Lib.hid (HR.out.none (by rw [HDR2.out]; exact sla_bs2 y32))
            go_wp2_with fail
            go_ret2
            exact ⟨ret_t (by rw [E.out]; rfl), BW.out⟩
          have y32' : 32 ≤ y := by omega
          have HR2 := Lib.hid (HR.out.step (n := 2) (by rw [HDR2.out]; exact sla_esc y32))
          clear y32
          by_cases y47 : y = 47
          · subst y47
            go_wp2_with (at_builtin; refine wpList_app rfl _ _ rfl elByte rfl (O0.out.below (balloc _ _)) rfl (lst_one _ 47 5) (by simp; omega) (by have := BW.out.size; simp; omega) ?_; intro v5 w5 hO hF; obtain ⟨A5, c5, hv5⟩ := own_snoc hO; subst hv5; have O5 := Lib.hid hO; have B5 := Lib.hid ((BW.out.alloc BW.out.size _).trans hF.bel); clear hO hF)
            go_roundg (l.length - (k + 2) + 1)
            case measure => omega
            case rel => exact ⟨k + 2, out ++ [47], by go_num, by omega, Nat.le_refl _, by have := O5.out; simpa using this, BO.out.append (By.one (by omega)), by simp; omega, B5.out, by have := HR2.out; simpa using this⟩
          · have yb : (y == 47) = false := beq_eq_false_iff_ne.2 y47
            have HY47 := Lib.hid y47
            clear y47
            go_wp2_with fail
            have hw2 : IntKind.i64.wrap ((k : Int) + 2) = (k : Int) + 2 := by rw [IntKind.wrap_i64]; omega
            have hw1 : IntKind.i64.wrap ((k : Int) + 1) = (k : Int) + 1 := by rw [IntKind.wrap_i64]; omega
            have hw0 : (0 : Int) ≤ (k : Int) + 1 := by omega
            have hwt : ((k : Int) + 1).toNat = k + 1 := by omega
            go_region_law (refine step_app rfl (.tmp 71) (.tmp 79) rfl elByte (B := w.heap.size) rfl (O0.out.below (balloc wo (.cells #[.int .u8 92, .int .u8 y] 5)).drew) rfl ((lst_two wo 92 y 5).below (Below.refl _ _).drew) ?h1 ?h2 ?_; (case h1 => (simp; omega)); (case h2 => (have := BW.out.size; simp; omega)); intro v5 w5 hO hF; obtain ⟨A5, c5, hv5⟩ := own_snoc2 hO; subst hv5; have O5 := Lib.hid hO; have B5 := Lib.hid ((BW.out.alloc BW.out.size (.cells #[.int .u8 92, .int .u8 y] 5)).drew.trans hF.bel); clear hO hF)
            all_goals
              clear hw2 hw1 hw0 hwt
              go_wp2_with fail
              go_roundg (l.length - (k + 2) + 1)
              case measure => omega
              case rel => exact ⟨k + 2, out ++ [92, y], by go_num, by omega, Nat.le_refl _, by have := O5.out; simpa using this, BO.out.append (fun z hz => by have := HYB.out; simp at hz; omega), by simp; omega, B5.out, by have := HR2.out; rw [if_neg HY47.out] at this; exact this⟩
        · have hk2 : (s.size : Int) ≤ (k : Int) + 1 := by have := HSZ.out; omega
          have E := Lib.hid (HR.out.none (by rw [HDR.out, List.drop_of_length_le (by omega)]; exact sla_bs1))
          go_wp2_with fail
          go_ret2
          exact ⟨ret_t (by rw [E.out]; rfl), BW.out⟩
      · have b92 : (x == 92) = false := beq_eq_false_iff_ne.2 h92
        have HR2 := Lib.hid (HR.out.step (n := 1) (by rw [HDR.out]; exact sla_one HN47.out HN32.out h92))
        clear hcv h92
        go_wp2_with (at_builtin; refine wpList_app rfl _ _ rfl elByte rfl (O0.out.below (balloc _ _)) rfl (lst_one _ x 5) (by simp; omega) (by have := BW.out.size; simp; omega) ?_; intro v5 w5 hO hF; obtain ⟨A5, c5, hv5⟩ := own_snoc hO; subst hv5; have O5 := Lib.hid hO; have B5 := Lib.hid ((BW.out.alloc BW.out.size _).trans hF.bel); clear hO hF)
        go_roundg (l.length - (k + 1) + 1)
        case measure => omega
        case rel => exact ⟨k + 1, out ++ [x], by go_num, by omega, Nat.le_refl _, by have := O5.out; simpa using this, BO.out.append (By.one HXB.out), by simp; omega, B5.out, HR2.out⟩
    · obtain rfl : k = l.length := by omega
      have E := Lib.hid (HR.out.none (by rw [List.drop_length]; rfl))
      have hki2 : decide ((l.length : Int) < (s.size : Int)) = false := decide_eq_false (by have := HSZ.out; omega)
      have hki3 : (s.size : Int) ≤ (l.length : Int) := by have := HSZ.out; omega
      clear hcv
      go_wp2_with fail
      go_ret2
      exact ⟨ret_t (by rw [E.out]; rfl), BW.out⟩
end Go.Proofs.YtjhcbcadagljlaaDoor.Lx
