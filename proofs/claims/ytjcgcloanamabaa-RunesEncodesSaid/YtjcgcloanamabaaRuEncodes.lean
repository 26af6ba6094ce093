/-
  The encodings of any number are as the document has them.
-/
import Derived.Test.YtjcgcloanamabaaRuSane
import Derived.Deep.RegionLaw
namespace Go.Proofs.Ytjcgcloanamabaa.Ru
open Go.RowKit

set_option maxRecDepth 100000 in
set_option maxHeartbeats 4000000 in
theorem RunesEncodes_law {w : World} {r : Int} (h0 : -9223372036854775808 ≤ r) (h1 : r ≤ 9223372036854775807) :
    Calls Try.prog 3 #[.int .i64 r] w (BPost w true) := by
  have HS := Lib.hid (fun W => sane_any W)
  have M1 := Lib.hid (fun W => mod_any r 1114128 (by omega) (by omega) h0 h1 W)
  have M2 := Lib.hid (fun W => mod_any r 2304 (by omega) (by omega) h0 h1 W)
  have M3 := Lib.hid (fun W => mod_any r 2080 (by omega) (by omega) h0 h1 W)
  have e0 := Int.emod_nonneg r (show (2080 : Int) ≠ 0 by omega)
  have e1 := Int.emod_lt_of_pos r (show (0 : Int) < 2080 by omega)
  generalize r % 1114128 = a at M1
  generalize r % 2304 = b at M2
  generalize r % 2080 = c at *
  go_enter Try.func3, Try.ntmps3
  go_wp2_with (first
    | (go_at_call 7; ((with_reducible refine (HS.out _).mono ?_); rintro e w1 ⟨rfl, hb1⟩; have B1 := Lib.hid hb1; clear hb1))
    | (go_at_call 8; ((with_reducible refine (M1.out _).mono ?_); rintro e w' ⟨rfl, rfl⟩))
    | (go_at_call 8; ((with_reducible refine (M2.out _).mono ?_); rintro e w' ⟨rfl, rfl⟩))
    | (go_at_call 8; ((with_reducible refine (M3.out _).mono ?_); rintro e w' ⟨rfl, rfl⟩)))
  have L2 := Lib.hid (lst_row (k := .i64) [r, a, b, 55280 + c] (heap_alloc_new w1 (.cells #[.int .i64 r, .int .i64 a, .int .i64 b, .int .i64 (55280 + c)] 3)) (by simp))
  have B2 := Lib.hid (B1.out.trans ((balloc w1 (.cells #[.int .i64 r, .int .i64 a, .int .i64 b, .int .i64 (55280 + c)] 3)).mono B1.out.size))
  generalize hns : [r, a, b, 55280 + c] = ns at L2
  have NS : Hid (ns.length = 4) := Lib.hid (by rw [← hns]; rfl)
  rw [NS.out] at L2
  clear hns
  generalize w1.alloc (.cells #[.int .i64 r, .int .i64 a, .int .i64 b, .int .i64 (55280 + c)] 3) = w2 at *
  go_loopg [4, 17] (4 + 1) (fun g' _ i wr => ∃ (k : Nat), i = .int .i64 k ∧ k ≤ 4 ∧ 4 - k + 1 ≤ g' ∧ Below w2.heap.size w2 wr)
  case atStart => exact ⟨0, rfl, by omega, by omega, Below.refl _ _⟩
  case round =>
    obtain ⟨k, rfl, hk, hg, hb⟩ := hrel
    obtain ⟨wo, rfl⟩ : ∃ wo : World, wo = wr := ⟨_, rfl⟩
    have BW := Lib.hid hb
    by_cases hkn : k < 4
    · obtain ⟨x, hx⟩ : ∃ x, ns[k]? = some x := ⟨ns[k]'(by rw [NS.out]; omega), List.getElem?_eq_getElem _⟩
      have hki : (k : Int) < 4 := by omega
      have dx : wo.cell? ⟨w1.heap.size, k, none⟩ = some (.int .i64 x) := by
        obtain ⟨A, c', e, hr, _⟩ := L2.out.below hb
        simp only [Value.slice.injEq] at e
        obtain ⟨rfl, _, rfl⟩ := e
        obtain ⟨g, off, e2, e3⟩ := hr (by rw [NS.out]; omega)
        simp only [Option.some.injEq, Addr.mk.injEq, and_true] at e2
        obtain ⟨rfl, rfl⟩ := e2
        have := e3 k x hx
        rw [Nat.zero_add] at this
        exact this
      have HE := Lib.hid (fun W => encode_any (w := W) x)
      have HR := Lib.hid (fun W => refenc_any (w := W) x)
      have HB := Lib.hid (enc_By x)
      clear hb hx
      generalize enc x = l at *
      go_wp2_with fail
      go_region_law (first
        | (go_simp; go_at_call 9; ((with_reducible refine (HE.out _).mono ?_); rintro e w3 ⟨v3, rfl, hL3, hb3⟩; have L3 := Lib.hid hL3; have B3 := Lib.hid (BW.out.drew.trans (hb3.mono BW.out.size)); have C3 := conv_lst hL3 HB.out; obtain ⟨A3, c3, rfl, _⟩ := hL3; clear hb3))
        | (go_simp; go_at_call 10; ((with_reducible refine (HR.out _).mono ?_); rintro e w4 ⟨v4, rfl, hL4, hb4⟩; have B4 := Lib.hid (B3.out.trans (hb4.mono B3.out.size)); have C4 := conv_lst hL4 HB.out; have C5 := conv_lst (L3.out.below hb4) HB.out; obtain ⟨A4, c4, rfl, _⟩ := hL4; clear hb4)))
      all_goals
        go_wp2_with fail
        go_roundg (4 - (k + 1) + 1)
        case measure => omega
        case rel => exact ⟨k + 1, by go_num, by omega, Nat.le_refl _, B4.out⟩
    · obtain rfl : k = 4 := by omega
      go_wp2_with fail
      go_ret
      exact ⟨rfl, B2.out.trans (BW.out.mono B2.out.size)⟩
end Go.Proofs.Ytjcgcloanamabaa.Ru
