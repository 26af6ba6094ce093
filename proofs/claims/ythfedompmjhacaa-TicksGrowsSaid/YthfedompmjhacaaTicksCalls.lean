/-
  The contracts of the program's and the reference's functions of layer 1.
-/
import Derived.Test.YthfedompmjhacaaProg
import Derived.Test.YthfedompmjhacaaShelf
import Derived.Test.YthfedompmjhacaaTicksMath
import Derived.WalkKit
import Derived.WalkLawsBesides
import Derived.WalkSpells
import Derived.Below
import Derived.Lib.Hide
import Derived.Outline
import Derived.Shelf.Spec.BitsCarry
namespace Go.Proofs.Ythfedompmjhacaa.Tk
open Go.RowKit Go.Shelf

theorem ret_u {a b : Int} (h : a = b) : Ending.returned (.int .u64 a) = .returned (.int .u64 b) := by rw [h]

theorem add64 (x y : Int) (hx : 0 ≤ x) (hy : 0 ≤ y) (w : World) :
    (callFunc 17 #[.int .u64 x, .int .u64 y, .int .u64 0]).run Try.prog w =
    .ok (.value (.tuple #[.int .u64 ((x + y) % 18446744073709551616), .int .u64 ((x + y) / 18446744073709551616)])) w := by
  rw [run_callFunc_extern Try.func17 (by kernel_rfl) (by kernel_rfl) (by kernel_rfl) (e := add64Entry) (by kernel_rfl), run_add64 x y 0 hx hy (Int.le_refl 0) (by decide)]
  simp only [Result.andThen, Int.add_zero]
theorem sub64 (x y : Int) (hx : 0 ≤ x) (hy : 0 ≤ y) (hy' : y ≤ mx) (w : World) :
    (callFunc 18 #[.int .u64 x, .int .u64 y, .int .u64 0]).run Try.prog w =
    .ok (.value (.tuple #[.int .u64 ((x - y) % 18446744073709551616), .int .u64 (if x < y then 1 else 0)])) w := by
  unfold mx at hy'
  obtain ⟨x, rfl⟩ := Int.eq_ofNat_of_zero_le hx
  obtain ⟨y, rfl⟩ := Int.eq_ofNat_of_zero_le hy
  have e1 : (((x + 18446744073709551616 - y - 0) % 18446744073709551616 : Nat) : Int) = ((x : Int) - y) % 18446744073709551616 := by omega
  have e2 : ((if x < y + 0 then 1 else 0 : Nat) : Int) = if (x : Int) < y then 1 else 0 := by split <;> split <;> omega
  rw [run_callFunc_extern Try.func18 (by kernel_rfl) (by kernel_rfl) (by kernel_rfl) (e := sub64Entry) (by kernel_rfl)]
  have := run_sub64 (P := Try.prog) x y 0 (by omega) w
  rw [e1, e2] at this
  simp only [Int.natCast_zero] at this
  rw [this]; rfl

/-- Both ways of a sum: it fits, or it does not. -/
theorem add_fits {x y : Int} (hx : 0 ≤ x) (hy : 0 ≤ y) (h : x + y ≤ mx) (w : World) :
    (callFunc 17 #[.int .u64 x, .int .u64 y, .int .u64 0]).run Try.prog w = .ok (.value (.tuple #[.int .u64 (addS x y), .int .u64 0])) w := by
  rw [add64 x y hx hy, show (x + y) % 18446744073709551616 = addS x y by unfold addS mx at *; rw [if_pos h]; omega, show (x + y) / 18446744073709551616 = 0 by unfold mx at h; omega]
theorem add_over {x y : Int} (hx : 0 ≤ x) (hx1 : x ≤ mx) (hy : 0 ≤ y) (hy1 : y ≤ mx) (h : ¬ x + y ≤ mx) (w : World) :
    ∃ r : Int, (callFunc 17 #[.int .u64 x, .int .u64 y, .int .u64 0]).run Try.prog w = .ok (.value (.tuple #[.int .u64 r, .int .u64 1])) w :=
  ⟨_, by rw [add64 x y hx hy, show (x + y) / 18446744073709551616 = 1 by unfold mx at *; omega]⟩
theorem sub_fits {x y : Int} (hx : 0 ≤ x) (hx1 : x ≤ mx) (hy : 0 ≤ y) (hy1 : y ≤ mx) (h : ¬ x < y) (w : World) :
    (callFunc 18 #[.int .u64 x, .int .u64 y, .int .u64 0]).run Try.prog w = .ok (.value (.tuple #[.int .u64 (subS x y), .int .u64 0])) w := by
  rw [sub64 x y hx hy hy1, if_neg h, show (x - y) % 18446744073709551616 = subS x y by unfold subS mx at *; rw [if_neg h]; omega]
theorem sub_over {x y : Int} (hx : 0 ≤ x) (hy : 0 ≤ y) (hy1 : y ≤ mx) (h : x < y) (w : World) :
    ∃ r : Int, (callFunc 18 #[.int .u64 x, .int .u64 y, .int .u64 0]).run Try.prog w = .ok (.value (.tuple #[.int .u64 r, .int .u64 1])) w :=
  ⟨_, by rw [sub64 x y hx hy hy1, if_pos h]⟩

theorem add_any (x y : Int) (hx : 0 ≤ x) (hx1 : x ≤ mx) (hy : 0 ≤ y) (hy1 : y ≤ mx) (w : World) :
    Calls Try.prog 9 #[.int .u64 x, .int .u64 y] w fun e w' => e = .returned (.int .u64 (addS x y)) ∧ w = w' := by
  by_cases h : x + y ≤ mx
  · have H := add_fits hx hy h w
    clear hx1 hy1 h
    go_enter Try.func9, Try.ntmps9
    go_wp2
    go_ret
    exact ⟨rfl, rfl⟩
  · obtain ⟨r, H⟩ := add_over hx hx1 hy hy1 h w
    have e : addS x y = 18446744073709551615 := by unfold addS; rw [if_neg h]; rfl
    rw [e]
    clear hx1 hy1 h e
    go_enter Try.func9, Try.ntmps9
    go_wp2
    go_ret
    exact ⟨rfl, rfl⟩
theorem refadd_any (x y : Int) (hx : 0 ≤ x) (hx1 : x ≤ mx) (hy : 0 ≤ y) (hy1 : y ≤ mx) (w : World) :
    Calls Try.prog 10 #[.int .u64 x, .int .u64 y] w fun e w' => e = .returned (.int .u64 (addS x y)) ∧ w = w' := by
  by_cases h : x + y ≤ mx
  · have H := add_fits hx hy h w
    clear hx1 hy1 h
    go_enter Try.func10, Try.ntmps10
    go_wp2
    go_ret
    exact ⟨rfl, rfl⟩
  · obtain ⟨r, H⟩ := add_over hx hx1 hy hy1 h w
    have e : addS x y = 18446744073709551615 := by unfold addS; rw [if_neg h]; rfl
    rw [e]
    clear hx1 hy1 h e
    go_enter Try.func10, Try.ntmps10
    go_wp2
    go_ret
    exact ⟨rfl, rfl⟩
theorem sub_any (x y : Int) (hx : 0 ≤ x) (hx1 : x ≤ mx) (hy : 0 ≤ y) (hy1 : y ≤ mx) (w : World) :
    Calls Try.prog 11 #[.int .u64 x, .int .u64 y] w fun e w' => e = .returned (.int .u64 (subS x y)) ∧ w = w' := by
  by_cases h : x < y
  · obtain ⟨r, H⟩ := sub_over hx hy hy1 h w
    have e : subS x y = 0 := by unfold subS; rw [if_pos h]
    rw [e]
    clear hx1 hy1 h e
    go_enter Try.func11, Try.ntmps11
    go_wp2
    go_ret
    exact ⟨rfl, rfl⟩
  · have H := sub_fits hx hx1 hy hy1 h w
    clear hx1 hy1 h
    go_enter Try.func11, Try.ntmps11
    go_wp2
    go_ret
    exact ⟨rfl, rfl⟩
theorem refsub_any (x y : Int) (hx : 0 ≤ x) (hx1 : x ≤ mx) (hy : 0 ≤ y) (hy1 : y ≤ mx) (w : World) :
    Calls Try.prog 12 #[.int .u64 x, .int .u64 y] w fun e w' => e = .returned (.int .u64 (subS x y)) ∧ w = w' := by
  unfold mx at hx1 hy1
  have H : Hid (subS x y = x - min x y) := Lib.hid (by unfold subS; split <;> omega)
  go_enter Try.func12, Try.ntmps12
  go_wp2
  go_ret
  exact ⟨ret_u H.out.symm, rfl⟩

theorem double_zero (n : Int) (w : World) :
    Calls Try.prog 13 #[.int .u64 0, .int .i64 n] w fun e w' => e = .returned (.int .u64 0) ∧ w = w' := by
  go_enter Try.func13, Try.ntmps13
  go_wp2
  go_ret
  exact ⟨rfl, rfl⟩
theorem double_neg (a n : Int) (ha : (a == 0) = false) (hn : n < 0) (w : World) :
    Calls Try.prog 13 #[.int .u64 a, .int .i64 n] w fun e w' => e = .returned (.int .u64 a) ∧ w = w' := by
  go_enter Try.func13, Try.ntmps13
  go_wp2
  go_ret
  exact ⟨rfl, rfl⟩
theorem double_over (a n l : Int) (ha : (a == 0) = false) (h0 : 0 ≤ a) (h1 : a ≤ mx) (hn : ¬ n < 0) (hl : l = 64 - (Lib.bitLen a.toNat : Int)) (h : l < n) (w : World) :
    Calls Try.prog 13 #[.int .u64 a, .int .i64 n] w fun e w' => e = .returned (.int .u64 18446744073709551615) ∧ w = w' := by
  have c : ∀ w : World, Calls Try.prog 19 #[.int .u64 a] w fun e w' => e = .returned (.int .i64 l) ∧ w' = w := by
    intro w; rw [hl]; exact Try.bits_LeadingZeros64 a w h0 h1
  clear hl h1
  go_enter Try.func13, Try.ntmps13
  go_wp2_with (go_at_call 19; refine (c _).mono ?_; rintro e w' ⟨rfl, rfl⟩)
  go_ret
  exact ⟨rfl, rfl⟩
theorem wrap_pow {a : Int} {k : Nat} (h : a * ((2 ^ k : Nat) : Int) ≤ mx) (h0 : 0 ≤ a) : IntKind.u64.wrap (a * 2 ^ k) = a * ((2 ^ k : Nat) : Int) := by
  have e : ((2 ^ k : Nat) : Int) = (2 : Int) ^ k := by simp
  rw [← e]
  have p : 0 ≤ a * ((2 ^ k : Nat) : Int) := Int.mul_nonneg h0 (Int.natCast_nonneg _)
  unfold mx at h
  exact IntWalk.u64_in _ ⟨p, h⟩
theorem double_fits (a n l : Int) (ha : (a == 0) = false) (h0 : 0 ≤ a) (h1 : a ≤ mx) (hn : ¬ n < 0) (hl : l = 64 - (Lib.bitLen a.toNat : Int)) (h : ¬ l < n) (hb : a * ((2 ^ n.toNat : Nat) : Int) ≤ mx) (w : World) :
    Calls Try.prog 13 #[.int .u64 a, .int .i64 n] w fun e w' => e = .returned (.int .u64 (a * ((2 ^ n.toNat : Nat) : Int))) ∧ w = w' := by
  have HB := Lib.hid hb
  have hn1 : n ≤ 64 := by omega
  clear hb
  have c : ∀ w : World, Calls Try.prog 19 #[.int .u64 a] w fun e w' => e = .returned (.int .i64 l) ∧ w' = w := by
    intro w; rw [hl]; exact Try.bits_LeadingZeros64 a w h0 h1
  clear hl h1
  go_enter Try.func13, Try.ntmps13
  go_wp2_with (go_at_call 19; refine (c _).mono ?_; rintro e w' ⟨rfl, rfl⟩)
  go_ret
  exact ⟨ret_u (wrap_pow HB.out h0), rfl⟩
theorem double_any (a n : Int) (h0 : 0 ≤ a) (h1 : a ≤ mx) (w : World) :
    Calls Try.prog 13 #[.int .u64 a, .int .i64 n] w fun e w' => e = .returned (.int .u64 (dblS a n)) ∧ w = w' := by
  by_cases ha : a = 0
  · subst ha; rw [dblS_zero]; exact double_zero n w
  have ha' : (a == 0) = false := by simpa using ha
  by_cases hn : n < 0
  · rw [dblS_neg (by omega)]; exact double_neg a n ha' hn w
  by_cases h : 64 - (Lib.bitLen a.toNat : Int) < n
  · rw [dbl_over (by omega) h1 h]; exact double_over a n _ ha' h0 h1 hn rfl h w
  · obtain ⟨e, b⟩ := dbl_fits (by omega) h1 h
    rw [e]; exact double_fits a n _ ha' h0 h1 hn rfl h b w

/-- The reference's loop. -/
theorem refdouble_any (a n : Int) (h0 : 0 ≤ a) (h1 : a ≤ mx) (hn : n ≤ 9223372036854775807) (w : World) :
    Calls Try.prog 14 #[.int .u64 a, .int .i64 n] w fun e w' => e = .returned (.int .u64 (dblS a n)) ∧ w = w' := by
  go_enter Try.func14, Try.ntmps14
  go_wp2
  go_loop [0, 5] (fun x i => ∃ k : Nat, (k : Int) ≤ max n 0 ∧ i = .int .i64 k ∧ x = .int .u64 (dbN a k)) (fun _ i => (n - intOf i).toNat)
  case atStart => exact ⟨0, by omega, rfl, rfl⟩
  case round =>
    obtain ⟨k, hk, rfl, rfl⟩ := hrel
    have b := dbN_bd h0 h1 k
    by_cases hlt : (k : Int) < n
    · by_cases hz : dbN a k = 0
      · have hz' : (dbN a k == 0) = true := by simpa using hz
        have e : dblS a n = dbN a k := by
          unfold dblS
          rw [show n.toNat = k + (n.toNat - k) by omega, dbN_add, hz, dbN_zero]
        have HE := Lib.hid e
        clear hz e b
        go_wp2
        go_ret
        exact ⟨ret_u HE.out.symm, rfl⟩
      · by_cases hm : dbN a k = mx
        · have hz' : (dbN a k == 0) = false := by simpa using hz
          have hm' : (dbN a k == 18446744073709551615) = true := by rw [hm]; rfl
          have e : dblS a n = 18446744073709551615 := by
            unfold dblS
            rw [show n.toNat = k + (n.toNat - k) by omega, dbN_add, hm, dbN_mx]; rfl
          have HE := Lib.hid e
          clear hz hm e b
          go_wp2
          go_ret
          exact ⟨ret_u HE.out.symm, rfl⟩
        · have hz' : (dbN a k == 0) = false := by simpa using hz
          have hm' : (dbN a k == 18446744073709551615) = false := by simpa [mx] using hm
          obtain ⟨b0, b1⟩ := b
          clear hz hm
          go_wp2_with (go_at_call 10; refine (refadd_any _ _ b0 b1 b0 b1 _).mono ?_; rintro e w' ⟨rfl, rfl⟩)
          go_round
          case rel => exact ⟨k + 1, by omega, by go_num, rfl⟩
          case measure => simp [intOf]; omega
    · have e : dblS a n = dbN a k := by
        unfold dblS
        rw [show n.toNat = k by omega]
      have HE := Lib.hid e
      clear e b
      go_wp2
      go_ret
      exact ⟨ret_u HE.out.symm, rfl⟩

theorem delay_any (a l n j : Int) (h0 : 0 ≤ a) (h1 : a ≤ mx) (l0 : 0 ≤ l) (l1 : l ≤ mx) (j0 : 0 ≤ j) (j1 : j ≤ mx) (w : World) :
    Calls Try.prog 15 #[.int .u64 a, .int .u64 l, .int .i64 n, .int .u64 j] w fun e w' => e = .returned (.int .u64 (delS a l n j)) ∧ w = w' := by
  have b := dblS_bd h0 h1 n
  have m0 : 0 ≤ min l (dblS a n) := by omega
  have m1 : min l (dblS a n) ≤ mx := by omega
  clear b
  go_enter Try.func15, Try.ntmps15
  go_wp2_with (first
    | (go_at_call 13; refine (double_any _ _ h0 h1 _).mono ?_; rintro e w' ⟨rfl, rfl⟩)
    | (go_at_call 9; refine (add_any _ _ m0 m1 j0 j1 _).mono ?_; rintro e w' ⟨rfl, rfl⟩))
  go_ret
  exact ⟨rfl, rfl⟩
theorem refdelay_any (a l n j : Int) (h0 : 0 ≤ a) (h1 : a ≤ mx) (l0 : 0 ≤ l) (l1 : l ≤ mx) (hn : n ≤ 9223372036854775807) (j0 : 0 ≤ j) (j1 : j ≤ mx) (w : World) :
    Calls Try.prog 16 #[.int .u64 a, .int .u64 l, .int .i64 n, .int .u64 j] w fun e w' => e = .returned (.int .u64 (delS a l n j)) ∧ w = w' := by
  have b := dblS_bd h0 h1 n
  have m0 : 0 ≤ min l (dblS a n) := by omega
  have m1 : min l (dblS a n) ≤ mx := by omega
  clear b
  go_enter Try.func16, Try.ntmps16
  go_wp2_with (first
    | (go_at_call 14; refine (refdouble_any _ _ h0 h1 hn _).mono ?_; rintro e w' ⟨rfl, rfl⟩)
    | (go_at_call 10; refine (refadd_any _ _ m0 m1 j0 j1 _).mono ?_; rintro e w' ⟨rfl, rfl⟩))
  go_ret
  exact ⟨rfl, rfl⟩

theorem sane_any (w : World) :
    Calls Try.prog 8 #[] w fun e w' => e = .returned (.bool true) ∧ w = w' := by
  have e1 : (addS 18446744073709551615 5 == 18446744073709551615) = true := by decide
  have e2 : (delS 100 1000 3 7 == 807) = true := by decide
  have e3 : (delS 100 1000 4 7 == 1007) = true := by decide
  have e4 : (subS 3 9 == 0) = true := by decide
  go_enter Try.func8, Try.ntmps8
  go_wp2_with (first
    | (go_at_call 9; refine (add_any _ _ (by decide) (by decide) (by decide) (by decide) _).mono ?_; rintro e w' ⟨rfl, rfl⟩)
    | (go_at_call 11; refine (sub_any _ _ (by decide) (by decide) (by decide) (by decide) _).mono ?_; rintro e w' ⟨rfl, rfl⟩)
    | (go_at_call 15; refine (delay_any _ _ _ _ (by decide) (by decide) (by decide) (by decide) (by decide) (by decide) _).mono ?_; rintro e w' ⟨rfl, rfl⟩))
  go_ret
  exact ⟨rfl, rfl⟩
end Go.Proofs.Ythfedompmjhacaa.Tk
