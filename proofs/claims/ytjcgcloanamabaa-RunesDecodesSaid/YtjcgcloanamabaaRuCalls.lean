/-
  The contracts of the small functions of layer 4.
-/
import Derived.Test.YtjcgcloanamabaaProg
import Derived.Test.YtjcgcloanamabaaRuMath
import Derived.WalkKit
import Derived.WalkLawsBesides
import Derived.WalkSpells
import Derived.Below
import Derived.Lib.Hide
import Derived.Outline
import Derived.Laws.BitsLemmas
namespace Go.Proofs.Ytjcgcloanamabaa.Ru
open Go.RowKit

theorem ret_b {a b : Bool} (h : a = b) : Ending.returned (.bool a) = .returned (.bool b) := by rw [h]
theorem ret_i {a b : Int} (h : a = b) : Ending.returned (.int .i64 a) = .returned (.int .i64 b) := by rw [h]
theorem ret_y {a b : Int} (h : a = b) : Ending.returned (.int .u8 a) = .returned (.int .u8 b) := by rw [h]

theorem wraps_i64 (n : Int) (h₀ : 0 ≤ n) (h₁ : n < 2 ^ 40) : IntKind.i64.wrap n = n := by rw [IntKind.wrap_i64]; omega
theorem i64_and63 (x : Int) (h₀ : 0 ≤ x) (h₁ : x < 1099511627776) : bits .and .i64 x 63 = x % 64 := bits_mask .i64 40 (by decide) wraps_i64 6 (by decide) x h₀ h₁
theorem i64_or (i : Nat) (hi : i ≤ 40) (x y : Int) (hx₀ : 0 ≤ x) (hx : x % 2 ^ i = 0) (hx₁ : x < 1099511627776) (h₀ : 0 ≤ y) (h₁ : y < 2 ^ i) : bits .or .i64 x y = x + y :=
  bits_join .i64 40 (by decide) wraps_i64 i x y hx₀ hx hx₁ h₀ h₁ (Int.lt_of_lt_of_le h₁ (by exact_mod_cast Nat.pow_le_pow_right (by decide) hi))
theorem u8_c0' : ∀ n : Fin 256, (bits .and .u8 (n.val : Int) 192 == 128) = decide (128 ≤ (n.val : Int) ∧ (n.val : Int) ≤ 191) := by decide +kernel
theorem u8_c0 (b : Int) (h0 : 0 ≤ b) (h1 : b ≤ 255) : (bits .and .u8 b 192 == 128) = cont b := by
  obtain ⟨n, rfl⟩ := Int.eq_ofNat_of_zero_le h0
  exact u8_c0' ⟨n, by omega⟩

theorem continues_any (b : Int) (h0 : 0 ≤ b) (h1 : b ≤ 255) (w : World) :
    Calls Try.prog 33 #[.int .u8 b] w fun e w' => e = .returned (.bool (cont b)) ∧ w = w' := by
  have H := Lib.hid (u8_c0 b h0 h1)
  go_enter Try.func33, Try.ntmps33
  go_wp2
  go_ret
  exact ⟨ret_b H.out, rfl⟩
theorem tail_any (r : Int) (h0 : 0 ≤ r) (h1 : r ≤ 1114111) (w : World) :
    Calls Try.prog 22 #[.int .i64 r] w fun e w' => e = .returned (.int .u8 (128 + r % 64)) ∧ w = w' := by
  have H := Lib.hid (i64_and63 r h0 (by omega))
  go_enter Try.func22, Try.ntmps22
  go_wp2
  go_ret
  exact ⟨ret_y (by rw [H.out, show r % 64 % 256 = r % 64 by omega]; exact u8_or128 _ (by omega) (by omega)), rfl⟩
theorem length_any (f : Int) (h0 : 0 ≤ f) (h1 : f ≤ 255) (w : World) :
    Calls Try.prog 35 #[.int .u8 f] w fun e w' => e = .returned (.int .i64 (len1 f)) ∧ w = w' := by
  go_enter Try.func35, Try.ntmps35
  go_wp2
  all_goals
    go_ret
    exact ⟨ret_i (by unfold len1; omega), rfl⟩
theorem size_any (f : Int) (h0 : 0 ≤ f) (h1 : f ≤ 255) (w : World) :
    Calls Try.prog 36 #[.int .u8 f] w fun e w' => e = .returned (.int .i64 (len1 f)) ∧ w = w' := by
  go_enter Try.func36, Try.ntmps36
  go_wp2
  all_goals
    go_ret
    exact ⟨ret_i (by unfold len1; omega), rfl⟩
theorem contF_any (f b : Int) (h0 : 0 ≤ b) (h1 : b ≤ 255) (w : World) :
    Calls Try.prog 34 #[.int .u8 f, .int .u8 b] w fun e w' => e = .returned (.bool (contF f b)) ∧ w = w' := by
  have HC := Lib.hid (fun W => continues_any b h0 h1 W)
  by_cases h224 : f = 224
  · subst h224
    rcases Bool.eq_false_or_eq_true (cont b) with hc | hc
    · rw [hc] at HC
      simp only [cont, decide_eq_true_eq] at hc
      have HB := Lib.hid hc
      clear hc
      go_enter Try.func34, Try.ntmps34
      go_wp2_with (go_at_call 33; ((with_reducible refine (HC.out _).mono ?_); rintro e w' ⟨rfl, rfl⟩))
      go_ret
      exact ⟨ret_b (by have := HB.out; unfold contF; simp only [Int.reduceEq, if_true, if_false]; exact decide_eq_decide.2 (by omega)), rfl⟩
    · rw [hc] at HC
      simp only [cont, decide_eq_false_iff_not] at hc
      have HB := Lib.hid hc
      clear hc
      go_enter Try.func34, Try.ntmps34
      go_wp2_with (go_at_call 33; ((with_reducible refine (HC.out _).mono ?_); rintro e w' ⟨rfl, rfl⟩))
      go_ret
      exact ⟨ret_b (by have := HB.out; unfold contF; simp only [Int.reduceEq, if_true, if_false]; exact (decide_eq_false (by omega)).symm), rfl⟩
  by_cases h237 : f = 237
  · subst h237
    rcases Bool.eq_false_or_eq_true (cont b) with hc | hc
    · rw [hc] at HC
      simp only [cont, decide_eq_true_eq] at hc
      have HB := Lib.hid hc
      clear hc
      go_enter Try.func34, Try.ntmps34
      go_wp2_with (go_at_call 33; ((with_reducible refine (HC.out _).mono ?_); rintro e w' ⟨rfl, rfl⟩))
      go_ret
      exact ⟨ret_b (by have := HB.out; unfold contF; simp only [Int.reduceEq, if_true, if_false]; exact decide_eq_decide.2 (by omega)), rfl⟩
    · rw [hc] at HC
      simp only [cont, decide_eq_false_iff_not] at hc
      have HB := Lib.hid hc
      clear hc
      go_enter Try.func34, Try.ntmps34
      go_wp2_with (go_at_call 33; ((with_reducible refine (HC.out _).mono ?_); rintro e w' ⟨rfl, rfl⟩))
      go_ret
      exact ⟨ret_b (by have := HB.out; unfold contF; simp only [Int.reduceEq, if_true, if_false]; exact (decide_eq_false (by omega)).symm), rfl⟩
  by_cases h240 : f = 240
  · subst h240
    rcases Bool.eq_false_or_eq_true (cont b) with hc | hc
    · rw [hc] at HC
      simp only [cont, decide_eq_true_eq] at hc
      have HB := Lib.hid hc
      clear hc
      go_enter Try.func34, Try.ntmps34
      go_wp2_with (go_at_call 33; ((with_reducible refine (HC.out _).mono ?_); rintro e w' ⟨rfl, rfl⟩))
      go_ret
      exact ⟨ret_b (by have := HB.out; unfold contF; simp only [Int.reduceEq, if_true, if_false]; exact decide_eq_decide.2 (by omega)), rfl⟩
    · rw [hc] at HC
      simp only [cont, decide_eq_false_iff_not] at hc
      have HB := Lib.hid hc
      clear hc
      go_enter Try.func34, Try.ntmps34
      go_wp2_with (go_at_call 33; ((with_reducible refine (HC.out _).mono ?_); rintro e w' ⟨rfl, rfl⟩))
      go_ret
      exact ⟨ret_b (by have := HB.out; unfold contF; simp only [Int.reduceEq, if_true, if_false]; exact (decide_eq_false (by omega)).symm), rfl⟩
  by_cases h244 : f = 244
  · subst h244
    rcases Bool.eq_false_or_eq_true (cont b) with hc | hc
    · rw [hc] at HC
      simp only [cont, decide_eq_true_eq] at hc
      have HB := Lib.hid hc
      clear hc
      go_enter Try.func34, Try.ntmps34
      go_wp2_with (go_at_call 33; ((with_reducible refine (HC.out _).mono ?_); rintro e w' ⟨rfl, rfl⟩))
      go_ret
      exact ⟨ret_b (by have := HB.out; unfold contF; simp only [Int.reduceEq, if_true, if_false]; exact decide_eq_decide.2 (by omega)), rfl⟩
    · rw [hc] at HC
      simp only [cont, decide_eq_false_iff_not] at hc
      have HB := Lib.hid hc
      clear hc
      go_enter Try.func34, Try.ntmps34
      go_wp2_with (go_at_call 33; ((with_reducible refine (HC.out _).mono ?_); rintro e w' ⟨rfl, rfl⟩))
      go_ret
      exact ⟨ret_b (by have := HB.out; unfold contF; simp only [Int.reduceEq, if_true, if_false]; exact (decide_eq_false (by omega)).symm), rfl⟩
  have E : Hid (cont b = contF f b) := Lib.hid (by unfold contF; rw [if_neg h224, if_neg h237, if_neg h240, if_neg h244])
  have e1 : (f == 224) = false := beq_eq_false_iff_ne.2 h224
  have e2 : (f == 237) = false := beq_eq_false_iff_ne.2 h237
  have e3 : (f == 240) = false := beq_eq_false_iff_ne.2 h240
  have e4 : (f == 244) = false := beq_eq_false_iff_ne.2 h244
  clear h224 h237 h240 h244
  go_enter Try.func34, Try.ntmps34
  go_wp2_with (go_at_call 33; ((with_reducible refine (HC.out _).mono ?_); rintro e w' ⟨rfl, rfl⟩))
  go_ret
  exact ⟨ret_b E.out, rfl⟩
theorem isCh_any (r : Int) (w : World) :
    Calls Try.prog 21 #[.int .i64 r] w fun e w' => e = .returned (.bool (isCh r)) ∧ w = w' := by
  go_enter Try.func21, Try.ntmps21
  go_wp2
  all_goals
    go_ret
    exact ⟨ret_b (by unfold isCh; rw [Bool.eq_iff_iff]; simp only [decide_eq_true_eq, Bool.or_eq_true, Bool.false_eq_true, false_iff, true_iff]; omega), rfl⟩
theorem refCh_any (r : Int) (w : World) :
    Calls Try.prog 23 #[.int .i64 r] w fun e w' => e = .returned (.bool (isCh r)) ∧ w = w' := by
  go_enter Try.func23, Try.ntmps23
  go_wp2
  all_goals
    go_ret
    exact ⟨ret_b (by unfold isCh; rw [Bool.eq_iff_iff]; simp only [decide_eq_true_eq, Bool.or_eq_true, Bool.false_eq_true, false_iff, true_iff]; omega), rfl⟩
end Go.Proofs.Ytjcgcloanamabaa.Ru
