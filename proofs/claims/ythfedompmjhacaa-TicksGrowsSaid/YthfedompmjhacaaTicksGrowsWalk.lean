/-
  The walk of TicksGrows.
-/
import Derived.Test.YthfedompmjhacaaTicksWalks
namespace Go.Proofs.Ythfedompmjhacaa.Tk
open Go.RowKit

theorem grows_core (a l n j m k : Int) (b0 : 0 ≤ a) (c0 : a ≤ mx) (b1 : 0 ≤ l) (c1 : l ≤ mx) (b3 : 0 ≤ j) (c3 : j ≤ mx) (b4 : 0 ≤ m) (c4 : m ≤ mx) (b5 : 0 ≤ k) (c5 : k ≤ 255)
    (a2 : Int) (hn : a2.tmod 100 = n) (n0 : -99 ≤ n) (n1 : n ≤ 99) (w : World) :
    Calls Try.prog 6 #[.int .u64 a, .int .u64 l, .int .i64 a2, .int .u64 j, .int .u64 m, .int .u8 k] w fun e w' => e = .returned (.bool true) ∧ Grown w w' := by
  have g1 : decide (delS (addS a m) l n j < delS a l n j) = false := decide_eq_false (grow_base b4 c0)
  have g2 : decide (delS a (addS l m) n j < delS a l n j) = false := decide_eq_false (grow_limit b4 c1)
  have g3 : decide (delS a l (n + k) j < delS a l n j) = false := decide_eq_false (grow_n b0 c0 b5)
  have g4 : decide (delS a l n (addS j m) < delS a l n j) = false := decide_eq_false (grow_j b4 c3)
  obtain ⟨p1, p2⟩ := del_ge (n := n) b0 c0 b1 c1 b3 c3
  have d1 : decide (min a l ≤ delS a l n j) = true := decide_eq_true p1
  have d2 : decide (j ≤ delS a l n j) = true := decide_eq_true p2
  obtain ⟨q0, q1⟩ := addS_bd b0 b4
  obtain ⟨q2, q3⟩ := addS_bd b1 b4
  obtain ⟨q4, q5⟩ := addS_bd b3 b4
  by_cases h : dblS a n < l
  · have h' : decide (dblS a n < l) = true := decide_eq_true h
    clear h p1 p2
    go_enter Try.func6, Try.ntmps6
    go_wp2_with (first
      | (go_at_call 8; refine (sane_any _).mono ?_; rintro e w' ⟨rfl, rfl⟩)
      | (go_at_call 15; refine (delay_any _ _ _ _ (by assumption) (by assumption) (by assumption) (by assumption) (by assumption) (by assumption) _).mono ?_; rintro e w' ⟨rfl, rfl⟩)
      | (go_at_call 13; refine (double_any _ _ (by assumption) (by assumption) _).mono ?_; rintro e w' ⟨rfl, rfl⟩)
      | (go_at_call 10; refine (refadd_any _ _ (by assumption) (by assumption) (by assumption) (by assumption) _).mono ?_; rintro e w' ⟨rfl, rfl⟩))
    go_ret
    exact ⟨rfl, Grown.refl _⟩
  · have h' : decide (dblS a n < l) = false := decide_eq_false h
    have h2 : (delS a l (n + k) j == addS l j) = true := by rw [del_cap b0 c0 b5 h]; simp
    clear h p1 p2
    go_enter Try.func6, Try.ntmps6
    go_wp2_with (first
      | (go_at_call 8; refine (sane_any _).mono ?_; rintro e w' ⟨rfl, rfl⟩)
      | (go_at_call 15; refine (delay_any _ _ _ _ (by assumption) (by assumption) (by assumption) (by assumption) (by assumption) (by assumption) _).mono ?_; rintro e w' ⟨rfl, rfl⟩)
      | (go_at_call 13; refine (double_any _ _ (by assumption) (by assumption) _).mono ?_; rintro e w' ⟨rfl, rfl⟩)
      | (go_at_call 10; refine (refadd_any _ _ (by assumption) (by assumption) (by assumption) (by assumption) _).mono ?_; rintro e w' ⟨rfl, rfl⟩))
    go_ret
    exact ⟨rfl, Grown.refl _⟩

theorem TicksGrows_walk (a0 : Int) (a1 : Int) (a2 : Int) (a3 : Int) (a4 : Int) (a5 : Int) (w0 : (Lit.int .u64 a0).wf = true) (w1 : (Lit.int .u64 a1).wf = true) (_w2 : (Lit.int .i64 a2).wf = true) (w3 : (Lit.int .u64 a3).wf = true) (w4 : (Lit.int .u64 a4).wf = true) (w5 : (Lit.int .u8 a5).wf = true) (w : World) :
    Calls Try.prog 6 #[.int .u64 a0, .int .u64 a1, .int .i64 a2, .int .u64 a3, .int .u64 a4, .int .u8 a5] w fun e w' => e = .returned (.bool true) ∧ Grown w w' := by
  obtain ⟨b0, c0⟩ := u64_bd w0
  obtain ⟨b1, c1⟩ := u64_bd w1
  obtain ⟨b3, c3⟩ := u64_bd w3
  obtain ⟨b4, c4⟩ := u64_bd w4
  obtain ⟨b5, c5⟩ := u8_bd w5
  have t1 := Int.tmod_lt_of_pos a2 (b := 100) (by decide)
  have t2 := Int.lt_tmod_of_pos a2 (b := 100) (by decide)
  exact grows_core a0 a1 _ a3 a4 a5 b0 c0 b1 c1 b3 c3 b4 c4 b5 c5 a2 rfl (by omega) (by omega) w
end Go.Proofs.Ythfedompmjhacaa.Tk
