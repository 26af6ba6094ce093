/-
  Layer 5, the program: Quote.
-/
import Derived.Test.YtjhcbcadagljlaaDoorLxG17
namespace Go.Proofs.YtjhcbcadagljlaaDoor.Lx
open Go.RowKit

theorem and15_all : ∀ n : Fin 256, bits .and .u8 (n.val : Int) 15 = (n.val : Int) % 16 := by decide +kernel
theorem and15 {x : Int} (h0 : 0 ≤ x) (h1 : x ≤ 255) : bits .and .u8 x 15 = x % 16 := by
  have := and15_all ⟨x.toNat, by omega⟩
  simp only at this
  rwa [Int.toNat_of_nonneg h0] at this
theorem dig_int {y : Int} (h0 : 0 ≤ y) (_h1 : y < 16) (hk : y.toNat < 16) : (((⟨#[48, 49, 50, 51, 52, 53, 54, 55, 56, 57, 97, 98, 99, 100, 101, 102]⟩ : ByteArray)[y.toNat]'hk).toNat : Int) = hexd y := by
  rw [dig_at _ hk, Int.toNat_of_nonneg h0]
theorem ch_n : ch ⟨#[92, 110]⟩ = [92, 110] := rfl
theorem ch_t : ch ⟨#[92, 116]⟩ = [92, 116] := rfl
theorem ch_x : ch ⟨#[92, 120]⟩ = [92, 120] := rfl

set_option maxRecDepth 100000 in
set_option maxHeartbeats 8000000 in
theorem gquote_any {s : ByteArray} {l : List Int} (hs : ch s = l) (hn : l.length ≤ 10000) (w : World) : Calls Tryd.prog 11 #[.string s] w (VPost w (.string (bytesOf (quoteL l)))) := by
  have HBY : Hid (By l) := Lib.hid (by rw [← hs]; exact ch_By s)
  have HSZ : Hid (s.size = l.length) := Lib.hid (by rw [← hs, ch_length])
  have HAT : Hid (∀ k x, l[k]? = some x → ∃ hk : k < s.size, ((s[k]'hk).toNat : Int) = x) := Lib.hid (fun k x h => ch_at (by rw [hs]; exact h))
  clear hs
  have K0 := Lib.hid (bld_new w)
  have B0 := Lib.hid (balloc w (.cells #[.pointer none, .slice none 0 0] 55))
  go_enter Tryd.func11, Tryd.ntmps11
  go_wp2_with (go_at_call 18; ((refine (bld_byte 34 K0.out (by simp) B0.out.size).mono ?_); rintro e w1 ⟨rfl, ho1, hb1⟩; have K1 : Hid (Bld w1 w.heap.size w.heap.size [34]) := Lib.hid ho1; have B1 := Lib.hid (B0.out.trans hb1); clear ho1 hb1))
  go_loopg [4, 5, 9] (l.length + 1) (fun g' _ _ i wr => ∃ (k : Nat), i = .int .i64 k ∧ k ≤ l.length ∧ l.length - k + 1 ≤ g' ∧ Bld wr w.heap.size w.heap.size (34 :: quoBs (l.take k)) ∧ Below w.heap.size w wr)
  case atStart => exact ⟨0, rfl, Nat.zero_le _, by omega, K1.out, B1.out⟩
  case round =>
    obtain ⟨k, rfl, hk, hg, hown, hbel⟩ := hrel
    obtain ⟨wo, rfl⟩ : ∃ wo : World, wo = wr := ⟨_, rfl⟩
    have O0 := Lib.hid hown
    have BW := Lib.hid hbel
    have hql := quoBs_le (l.take k)
    rw [List.length_take] at hql
    have hq1 : (34 :: quoBs (l.take k)).length ≤ 50000 := by simp; omega
    clear hown hbel hql
    by_cases hkn : k < l.length
    · obtain ⟨x, hx⟩ : ∃ x, l[k]? = some x := ⟨l[k], List.getElem?_eq_getElem hkn⟩
      obtain ⟨hks, x0⟩ := HAT.out k x hx
      have hki : (k : Int) < (s.size : Int) := by omega
      have HXB := Lib.hid (HBY.out x (List.mem_of_getElem? hx))
      have HT : Hid (34 :: quoBs (l.take (k + 1)) = (34 :: quoBs (l.take k)) ++ quoB x) := Lib.hid (by rw [take_snoc' hx, quoBs_snoc]; rfl)
      generalize 34 :: quoBs (l.take k) = o at *
      clear hx
      have hx0 := HXB.out.1
      have hx1 := HXB.out.2
      by_cases hmk : x = 34 ∨ x = 92
      · have HQ := Lib.hid (quoB_mark hmk)
        rcases hmk with rfl | rfl
        · clear hx0 hx1
          go_wp2_with (first
            | (go_at_call 18; ((refine (bld_byte _ O2.out (by first | omega | (simp; omega)) B2.out.size).mono ?_); rintro e w3 ⟨rfl, ho, hb⟩; have O3 : Hid (Bld w3 w.heap.size w.heap.size (o ++ [92] ++ [34])) := Lib.hid (by exact ho); have B3 : Hid (Below w.heap.size w w3) := Lib.hid (B2.out.trans hb); clear ho hb))
            | (go_at_call 18; ((refine (bld_byte _ O0.out (by first | omega | (simp; omega)) BW.out.size).mono ?_); rintro e w2 ⟨rfl, ho, hb⟩; have O2 : Hid (Bld w2 w.heap.size w.heap.size (o ++ [92])) := Lib.hid (by exact ho); have B2 : Hid (Below w.heap.size w w2) := Lib.hid (BW.out.trans hb); clear ho hb)))
          go_roundg (l.length - (k + 1) + 1)
          case measure => omega
          case rel => exact ⟨k + 1, by go_num, by omega, Nat.le_refl _, by rw [HT.out, HQ.out]; simpa using O3.out, B3.out⟩
        · clear hx0 hx1
          go_wp2_with (first
            | (go_at_call 18; ((refine (bld_byte _ O2.out (by first | omega | (simp; omega)) B2.out.size).mono ?_); rintro e w3 ⟨rfl, ho, hb⟩; have O3 : Hid (Bld w3 w.heap.size w.heap.size (o ++ [92] ++ [92])) := Lib.hid (by exact ho); have B3 : Hid (Below w.heap.size w w3) := Lib.hid (B2.out.trans hb); clear ho hb))
            | (go_at_call 18; ((refine (bld_byte _ O0.out (by first | omega | (simp; omega)) BW.out.size).mono ?_); rintro e w2 ⟨rfl, ho, hb⟩; have O2 : Hid (Bld w2 w.heap.size w.heap.size (o ++ [92])) := Lib.hid (by exact ho); have B2 : Hid (Below w.heap.size w w2) := Lib.hid (BW.out.trans hb); clear ho hb)))
          go_roundg (l.length - (k + 1) + 1)
          case measure => omega
          case rel => exact ⟨k + 1, by go_num, by omega, Nat.le_refl _, by rw [HT.out, HQ.out]; simpa using O3.out, B3.out⟩
      by_cases h10 : x = 10
      · subst h10
        have HQ := Lib.hid quoB_nl
        clear hmk hx0 hx1
        go_wp2_with (first
          | (go_at_call 19; ((refine (bld_str ch_n O0.out (by simp; omega) BW.out.size).mono ?_); rintro e w2 ⟨rfl, ho, hb⟩; have O2 : Hid (Bld w2 w.heap.size w.heap.size (o ++ [92, 110])) := Lib.hid ho; have B2 : Hid (Below w.heap.size w w2) := Lib.hid (BW.out.trans hb); clear ho hb)))
        go_roundg (l.length - (k + 1) + 1)
        case measure => omega
        case rel => exact ⟨k + 1, by go_num, by omega, Nat.le_refl _, by rw [HT.out, HQ.out]; simpa using O2.out, B2.out⟩
      by_cases h9 : x = 9
      · subst h9
        have HQ := Lib.hid quoB_tab
        clear hmk hx0 hx1
        go_wp2_with (first
          | (go_at_call 19; ((refine (bld_str ch_t O0.out (by simp; omega) BW.out.size).mono ?_); rintro e w2 ⟨rfl, ho, hb⟩; have O2 : Hid (Bld w2 w.heap.size w.heap.size (o ++ [92, 116])) := Lib.hid ho; have B2 : Hid (Below w.heap.size w w2) := Lib.hid (BW.out.trans hb); clear ho hb)))
        go_roundg (l.length - (k + 1) + 1)
        case measure => omega
        case rel => exact ⟨k + 1, by go_num, by omega, Nat.le_refl _, by rw [HT.out, HQ.out]; simpa using O2.out, B2.out⟩
      have q34 : (x == 34) = false := beq_eq_false_iff_ne.2 (by omega)
      have q92 : (x == 92) = false := beq_eq_false_iff_ne.2 (by omega)
      have q10 : (x == 10) = false := beq_eq_false_iff_ne.2 h10
      have q9 : (x == 9) = false := beq_eq_false_iff_ne.2 h9
      by_cases hlow : x < 32 ∨ x = 127
      · have HQ := Lib.hid (quoB_low h10 h9 hlow)
        have ha15 := and15 hx0 hx1
        rcases hlow with hlow | h127
        · clear hmk h10 h9
          go_wp2_with (first
            | (go_at_call 19; ((refine (bld_str ch_x O0.out (by simp; omega) BW.out.size).mono ?_); rintro e w2 ⟨rfl, ho, hb⟩; have O2 : Hid (Bld w2 w.heap.size w.heap.size (o ++ [92, 120])) := Lib.hid ho; have B2 : Hid (Below w.heap.size w w2) := Lib.hid (BW.out.trans hb); clear ho hb))
            | (go_at_call 18; ((refine (bld_byte _ O3.out (by first | omega | (simp; omega)) B3.out.size).mono ?_); rintro e w4 ⟨rfl, ho, hb⟩; have O4 : Hid (Bld w4 w.heap.size w.heap.size (o ++ [92, 120] ++ [hexd (x / 16)] ++ [hexd (x % 16)])) := Lib.hid (by rw [dig_int (by omega) (by omega)] at ho; exact ho); have B4 : Hid (Below w.heap.size w w4) := Lib.hid (B3.out.trans hb); clear ho hb))
            | (go_at_call 18; ((refine (bld_byte _ O2.out (by first | omega | (simp; omega)) B2.out.size).mono ?_); rintro e w3 ⟨rfl, ho, hb⟩; have O3 : Hid (Bld w3 w.heap.size w.heap.size (o ++ [92, 120] ++ [hexd (x / 16)])) := Lib.hid (by rw [dig_int (by omega) (by omega)] at ho; exact ho); have B3 : Hid (Below w.heap.size w w3) := Lib.hid (B2.out.trans hb); clear ho hb)))
          go_roundg (l.length - (k + 1) + 1)
          case measure => omega
          case rel => exact ⟨k + 1, by go_num, by omega, Nat.le_refl _, by rw [HT.out, HQ.out]; simpa using O4.out, B4.out⟩
        · have q127 : (x == 127) = true := by simp [h127]
          have hge : 32 ≤ x := by omega
          clear hmk h10 h9 h127
          go_wp2_with (first
            | (go_at_call 19; ((refine (bld_str ch_x O0.out (by simp; omega) BW.out.size).mono ?_); rintro e w2 ⟨rfl, ho, hb⟩; have O2 : Hid (Bld w2 w.heap.size w.heap.size (o ++ [92, 120])) := Lib.hid ho; have B2 : Hid (Below w.heap.size w w2) := Lib.hid (BW.out.trans hb); clear ho hb))
            | (go_at_call 18; ((refine (bld_byte _ O3.out (by first | omega | (simp; omega)) B3.out.size).mono ?_); rintro e w4 ⟨rfl, ho, hb⟩; have O4 : Hid (Bld w4 w.heap.size w.heap.size (o ++ [92, 120] ++ [hexd (x / 16)] ++ [hexd (x % 16)])) := Lib.hid (by rw [dig_int (by omega) (by omega)] at ho; exact ho); have B4 : Hid (Below w.heap.size w w4) := Lib.hid (B3.out.trans hb); clear ho hb))
            | (go_at_call 18; ((refine (bld_byte _ O2.out (by first | omega | (simp; omega)) B2.out.size).mono ?_); rintro e w3 ⟨rfl, ho, hb⟩; have O3 : Hid (Bld w3 w.heap.size w.heap.size (o ++ [92, 120] ++ [hexd (x / 16)])) := Lib.hid (by rw [dig_int (by omega) (by omega)] at ho; exact ho); have B3 : Hid (Below w.heap.size w w3) := Lib.hid (B2.out.trans hb); clear ho hb)))
          go_roundg (l.length - (k + 1) + 1)
          case measure => omega
          case rel => exact ⟨k + 1, by go_num, by omega, Nat.le_refl _, by rw [HT.out, HQ.out]; simpa using O4.out, B4.out⟩
      · have HQ := Lib.hid (quoB_self hmk hlow)
        have hge : 32 ≤ x := by omega
        have q127 : (x == 127) = false := beq_eq_false_iff_ne.2 (by omega)
        clear hmk h10 h9 hlow
        go_wp2_with (first
          | (go_at_call 18; ((refine (bld_byte _ O0.out (by first | omega | (simp; omega)) BW.out.size).mono ?_); rintro e w2 ⟨rfl, ho, hb⟩; have O2 : Hid (Bld w2 w.heap.size w.heap.size (o ++ [x])) := Lib.hid (by exact ho); have B2 : Hid (Below w.heap.size w w2) := Lib.hid (BW.out.trans hb); clear ho hb)))
        go_roundg (l.length - (k + 1) + 1)
        case measure => omega
        case rel => exact ⟨k + 1, by go_num, by omega, Nat.le_refl _, by rw [HT.out, HQ.out]; simpa using O2.out, B2.out⟩
    · obtain rfl : k = l.length := by omega
      have hki3 : (s.size : Int) ≤ (l.length : Int) := by have := HSZ.out; omega
      have HQ : Hid (By (34 :: quoBs (l.take l.length) ++ [34])) := Lib.hid (by rw [List.take_length]; exact ((By.one (x := 34) (by omega)).append (quoBs_By HBY.out)).append (By.one (by omega)))
      have HE : Hid (34 :: quoBs (l.take l.length) ++ [34] = quoteL l) := Lib.hid (by rw [List.take_length]; rfl)
      generalize 34 :: quoBs (l.take l.length) = o at *
      go_wp2_with (first
        | (go_at_call 18; ((refine (bld_byte _ O0.out (by first | omega | (simp; omega)) BW.out.size).mono ?_); rintro e w2 ⟨rfl, ho, hb⟩; have O2 : Hid (Bld w2 w.heap.size w.heap.size (o ++ [34])) := Lib.hid (by exact ho); have B2 : Hid (Below w.heap.size w w2) := Lib.hid (BW.out.trans hb); clear ho hb))
        | (go_at_call 20; ((refine (bld_string O2.out HQ.out B2.out.size).mono ?_); rintro e w3 ⟨rfl, hb3⟩; have B3 : Hid (Below w.heap.size w w3) := Lib.hid (B2.out.trans hb3); clear hb3)))
      go_ret
      exact ⟨ret_t (by rw [← HE.out]; rfl), B3.out⟩
end Go.Proofs.YtjhcbcadagljlaaDoor.Lx
