/-
  The walks of the five statements of layer 1: each returns true, and the world is as it was.
-/
import Derived.Test.YthfedompmjhacaaTicksCalls
import Derived.RowKit3
namespace Go.Proofs.Ythfedompmjhacaa.Tk
open Go.RowKit

theorem u64_bd {x : Int} (h : (Lit.int .u64 x).wf = true) : 0 ≤ x ∧ x ≤ mx := by
  simp [Lit.wf, IntKind.min, IntKind.max, IntKind.signed, IntKind.bits] at h
  unfold mx; omega
theorem i64_bd {x : Int} (h : (Lit.int .i64 x).wf = true) : -9223372036854775808 ≤ x ∧ x ≤ 9223372036854775807 := by
  simp [Lit.wf, IntKind.min, IntKind.max, IntKind.signed, IntKind.bits] at h
  omega
theorem u8_bd {x : Int} (h : (Lit.int .u8 x).wf = true) : 0 ≤ x ∧ x ≤ 255 := by
  simp [Lit.wf, IntKind.min, IntKind.max, IntKind.signed, IntKind.bits] at h
  omega

theorem TicksSums_walk (a0 : Int) (a1 : Int) (a2 : Int) (w0 : (Lit.int .u64 a0).wf = true) (w1 : (Lit.int .u64 a1).wf = true) (w2 : (Lit.int .i64 a2).wf = true) (w : World) :
    Calls Try.prog 3 #[.int .u64 a0, .int .u64 a1, .int .i64 a2] w fun e w' => e = .returned (.bool true) ∧ Grown w w' := by
  obtain ⟨b0, c0⟩ := u64_bd w0
  obtain ⟨b1, c1⟩ := u64_bd w1
  obtain ⟨b2, c2⟩ := i64_bd w2
  have t2 : ∀ z : Int, a2.tmod 70 = z → z ≤ 9223372036854775807 := by
    intro z hz; have := Int.tmod_lt_of_pos a2 (b := 70) (by decide); omega
  clear w0 w1 w2
  go_enter Try.func3, Try.ntmps3
  go_wp2_with (first
    | (go_at_call 8; refine (sane_any _).mono ?_; rintro e w' ⟨rfl, rfl⟩)
    | (go_at_call 9; refine (add_any _ _ b0 c0 b1 c1 _).mono ?_; rintro e w' ⟨rfl, rfl⟩)
    | (go_at_call 10; refine (refadd_any _ _ b0 c0 b1 c1 _).mono ?_; rintro e w' ⟨rfl, rfl⟩)
    | (go_at_call 11; refine (sub_any _ _ b0 c0 b1 c1 _).mono ?_; rintro e w' ⟨rfl, rfl⟩)
    | (go_at_call 12; refine (refsub_any _ _ b0 c0 b1 c1 _).mono ?_; rintro e w' ⟨rfl, rfl⟩)
    | (go_at_call 13; refine (double_any _ _ (by assumption) (by assumption) _).mono ?_; rintro e w' ⟨rfl, rfl⟩)
    | (go_at_call 14; refine (refdouble_any _ _ (by assumption) (by assumption) (by first | assumption | exact t2 _ rfl) _).mono ?_; rintro e w' ⟨rfl, rfl⟩))
  go_ret
  exact ⟨rfl, Grown.refl _⟩

theorem TicksDelays_walk (a0 : Int) (a1 : Int) (a2 : Int) (a3 : Int) (w0 : (Lit.int .u64 a0).wf = true) (w1 : (Lit.int .u64 a1).wf = true) (w2 : (Lit.int .i64 a2).wf = true) (w3 : (Lit.int .u64 a3).wf = true) (w : World) :
    Calls Try.prog 4 #[.int .u64 a0, .int .u64 a1, .int .i64 a2, .int .u64 a3] w fun e w' => e = .returned (.bool true) ∧ Grown w w' := by
  obtain ⟨b0, c0⟩ := u64_bd w0
  obtain ⟨b1, c1⟩ := u64_bd w1
  obtain ⟨b2, c2⟩ := i64_bd w2
  obtain ⟨b3, c3⟩ := u64_bd w3
  have m0 : 0 ≤ a0 % 1000 := by omega
  have m1 : a0 % 1000 ≤ mx := by unfold mx; omega
  have m2 : 0 ≤ a3 % 1000 := by omega
  have m3 : a3 % 1000 ≤ mx := by unfold mx; omega
  have t2 : ∀ z : Int, a2.tmod 80 = z → z ≤ 9223372036854775807 := by
    intro z hz; have := Int.tmod_lt_of_pos a2 (b := 80) (by decide); omega
  clear w0 w1 w2 w3
  go_enter Try.func4, Try.ntmps4
  go_wp2_with (first
    | (go_at_call 8; refine (sane_any _).mono ?_; rintro e w' ⟨rfl, rfl⟩)
    | (go_at_call 15; refine (delay_any _ _ _ _ (by assumption) (by assumption) b1 c1 (by assumption) (by assumption) _).mono ?_; rintro e w' ⟨rfl, rfl⟩)
    | (go_at_call 16; refine (refdelay_any _ _ _ _ (by assumption) (by assumption) b1 c1 (by first | assumption | exact t2 _ rfl) (by assumption) (by assumption) _).mono ?_; rintro e w' ⟨rfl, rfl⟩))
  go_ret
  exact ⟨rfl, Grown.refl _⟩

theorem TicksRing_walk (a0 : Int) (a1 : Int) (a2 : Int) (w0 : (Lit.int .u64 a0).wf = true) (w1 : (Lit.int .u64 a1).wf = true) (w2 : (Lit.int .u64 a2).wf = true) (w : World) :
    Calls Try.prog 5 #[.int .u64 a0, .int .u64 a1, .int .u64 a2] w fun e w' => e = .returned (.bool true) ∧ Grown w w' := by
  obtain ⟨b0, c0⟩ := u64_bd w0
  obtain ⟨b1, c1⟩ := u64_bd w1
  obtain ⟨b2, c2⟩ := u64_bd w2
  obtain ⟨d0, e0⟩ := addS_bd b0 b1
  obtain ⟨d1, e1⟩ := addS_bd b1 b2
  have m0 : 0 ≤ max a0 a1 := by omega
  have m1 : max a0 a1 ≤ mx := by omega
  have m2 : 0 ≤ min a0 a1 := by omega
  have m3 : min a0 a1 ≤ mx := by omega
  have s0 : 0 ≤ subS (max a0 a1) (min a0 a1) := by unfold subS; split <;> omega
  have s1 : subS (max a0 a1) (min a0 a1) ≤ mx := by unfold subS; split <;> omega
  have r1 : (addS a0 a1 == addS a1 a0) = true := by rw [addS_comm]; simp
  have r2 : (addS (addS a0 a1) a2 == addS a0 (addS a1 a2)) = true := by rw [addS_assoc b0 b1 b2 c0 c1 c2]; simp
  have r3 : (addS (subS (max a0 a1) (min a0 a1)) (min a0 a1) == max a0 a1) = true := by rw [add_sub b0 b1 c0 c1]; simp
  clear w0 w1 w2
  go_enter Try.func5, Try.ntmps5
  go_wp2_with (first
    | (go_at_call 8; refine (sane_any _).mono ?_; rintro e w' ⟨rfl, rfl⟩)
    | (go_at_call 9; refine (add_any _ _ (by assumption) (by assumption) (by assumption) (by assumption) _).mono ?_; rintro e w' ⟨rfl, rfl⟩)
    | (go_at_call 11; refine (sub_any _ _ (by assumption) (by assumption) (by assumption) (by assumption) _).mono ?_; rintro e w' ⟨rfl, rfl⟩))
  go_ret
  exact ⟨rfl, Grown.refl _⟩

theorem TicksDoubles_walk (a0 : Int) (a1 : Int) (a2 : Int) (w0 : (Lit.int .u64 a0).wf = true) (w1 : (Lit.int .u8 a1).wf = true) (w2 : (Lit.int .u8 a2).wf = true) (w : World) :
    Calls Try.prog 7 #[.int .u64 a0, .int .u8 a1, .int .u8 a2] w fun e w' => e = .returned (.bool true) ∧ Grown w w' := by
  obtain ⟨b0, c0⟩ := u64_bd w0
  obtain ⟨b1, c1⟩ := u8_bd w1
  obtain ⟨b2, c2⟩ := u8_bd w2
  obtain ⟨d0, e0⟩ := dblS_bd b0 c0 a1
  have r1 : (dblS (dblS a0 a1) a2 == dblS a0 (a1 + a2)) = true := by rw [dblS_dblS b1 b2]; simp
  have r2 : (dblS a0 1 == addS a0 a0) = true := by rw [dblS_one]; simp
  have r3 : (dblS a0 0 == a0) = true := by rw [dblS_nil]; simp
  clear w0 w1 w2
  go_enter Try.func7, Try.ntmps7
  go_wp2_with (first
    | (go_at_call 8; refine (sane_any _).mono ?_; rintro e w' ⟨rfl, rfl⟩)
    | (go_at_call 9; refine (add_any _ _ (by assumption) (by assumption) (by assumption) (by assumption) _).mono ?_; rintro e w' ⟨rfl, rfl⟩)
    | (go_at_call 13; refine (double_any _ _ (by assumption) (by assumption) _).mono ?_; rintro e w' ⟨rfl, rfl⟩))
  go_ret
  exact ⟨rfl, Grown.refl _⟩
end Go.Proofs.Ythfedompmjhacaa.Tk
