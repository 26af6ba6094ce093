/-
  The walk of TimerqFull.
-/
import Derived.Test.YtbhakpkdkeacmaaTqSane
namespace Go.Proofs.Ytbhakpkdkeacmaa.Tq
open Go.RowKit Go.Maps

theorem i64_bd {x : Int} (h : (Lit.int .i64 x).wf = true) : -9223372036854775808 ≤ x ∧ x ≤ 9223372036854775807 := by
  simp [Lit.wf, IntKind.min, IntKind.max, IntKind.signed, IntKind.bits] at h
  omega
theorem u64_bd {x : Int} (h : (Lit.int .u64 x).wf = true) : 0 ≤ x ∧ x ≤ 18446744073709551615 := by
  simp [Lit.wf, IntKind.min, IntKind.max, IntKind.signed, IntKind.bits] at h
  omega
/-- Both Plays of one script, one after the other, give equal replies. -/
theorem OpsOwn.below {w w' : World} {B : Nat} {v : Value} {os : List TOp} (h : OpsOwn w B v os) (hb : Below w.heap.size w w') : OpsOwn w' B v os := ⟨own_below h.1 hb, h.2⟩
theorem RepsAt.rd0 {w : World} {B : Nat} {v : Value} {os : List TOp} (h : RepsAt w B v (play [] 0 os)) : ∃ A c, v = .slice A os.length c ∧ RepsRd w A os.length (play [] 0 os) := by
  obtain ⟨A, c, hv, hr⟩ := h.rd (play_fired [] 0 os (by simp))
  rw [play_length] at hv hr
  exact ⟨A, c, hv, hr⟩

set_option maxRecDepth 100000 in
set_option maxHeartbeats 2000000 in
theorem TimerqFull_walk (a0 : Int) (a1 : Int) (w0 : (Lit.int .i64 a0).wf = true) (w1 : (Lit.int .u64 a1).wf = true) (w : World) :
    Calls Try.prog 4 #[.int .i64 a0, .int .u64 a1] w (BTrue w) := by
  obtain ⟨i0, hi0, hz0, hz1, hz2⟩ := info_parts Try.info33
  obtain ⟨b0, c0⟩ := i64_bd w0
  obtain ⟨b1, c1⟩ := u64_bd w1
  have m0 := Int.emod_nonneg a0 (show (3 : Int) ≠ 0 by omega)
  have m1 := Int.emod_lt_of_pos a0 (show (0 : Int) < 3 by omega)
  have n0 := Int.emod_nonneg a0 (show (600 : Int) ≠ 0 by omega)
  have n1 := Int.emod_lt_of_pos a0 (show (0 : Int) < 600 by omega)
  have HM3 := Lib.hid (fun W => mod_any a0 3 (by omega) (by omega) b0 c0 W)
  have HM6 := Lib.hid (fun W => mod_any a0 600 (by omega) (by omega) b0 c0 W)
  have t0 : 0 ≤ a1 % 1000 := by omega
  have t1 : a1 % 1000 < 1000 := by omega
  obtain ⟨r, hr⟩ : ∃ r, a0 % 3 = r := ⟨_, rfl⟩
  rw [hr] at HM3 m0 m1
  obtain ⟨s, hs⟩ : ∃ s, a0 % 600 = s := ⟨_, rfl⟩
  rw [hs] at HM6 n0 n1
  obtain ⟨r, rfl⟩ := Int.eq_ofNat_of_zero_le m0
  clear w0 w1 hr hs
  go_enter Try.func4, Try.ntmps4
  go_wp2_with (go_at_call 8; ((with_reducible refine (sane_any _).mono ?_); rintro e w1 ⟨rfl, hb⟩; have B0 := Lib.hid hb; clear hb))
  go_loopg [5, 6] (300) (fun g v i wr => ∃ (k : Nat) (os : List TOp), i = .int .i64 k ∧ k ≤ 255 + r ∧ 258 - k + 1 ≤ g ∧ os.length = k ∧ OpsOwn wr w.heap.size v os ∧ Below w.heap.size w wr)
  case atStart => exact ⟨0, [], rfl, by omega, by omega, rfl, ⟨World.ownsRow_nil _ _ _ _, fun o ho => by simp at ho⟩, B0.out⟩
  case round =>
    obtain ⟨k, os, rfl, hk, hg, hl, ho, hbl⟩ := hrel
    obtain ⟨A, c, rfl⟩ := own_shape ho.1
    rw [hl] at ho ⊢
    have hrow : wr.ownsRow w.heap.size 33 3 (.slice A k c) k (flatO os) := by have := ho.1; rwa [hl] at this
    have HL := Lib.hid hl
    have HO := Lib.hid ho
    have RW := Lib.hid hrow
    have BL := Lib.hid hbl
    have hwr := hbl.size
    clear hl ho hrow hbl
    by_cases hkn : k < 255 + r
    · have hkn' : (k : Int) < 255 + (r : Int) := by omega
      go_wp2_with (first
        | (go_at_call 13; ((with_reducible refine (HM3.out _).mono ?_); rintro e w' ⟨rfl, rfl⟩))
        | (at_builtin; refine wpList_append_lies _ rfl (.tmp 16) (.tmp 21) 23 rfl w.heap.size 33 i0 (.agg #[.int .i64 0, .int .i64 0, .int .u64 0]) 3 24 Try.underlying23 hi0 hz0 hz1 hz2 rfl (by decide) (.slice A k c) k _ rfl (RW.out.alloc _) ⟨wr.heap.size, 0, none⟩ 1 1 [.int .i64 1, .int .i64 (k : Nat), .int .u64 (a1 % 1000)] rfl rfl (news_three wr _ _ _ _) (by simp [Value.oneCell']) (by omega) (by unfold maxLen; omega) (by omega) (by simp; omega) _ rfl ?_; intro g' cap' w5 hown5 hgrow5 hat5 hlt5; have O5 := Lib.hid hown5; have G5 := Lib.hid hgrow5; clear hown5 hgrow5 hat5 hlt5))
      have hbA : Below w.heap.size w (wr.alloc (.cells #[.int .i64 1, .int .i64 (k : Nat), .int .u64 (a1 % 1000)] 33)) := BL.out.alloc hwr _
      have hrA := RW.out.alloc (.cells #[.int .i64 1, .int .i64 (k : Nat), .int .u64 (a1 % 1000)] 33)
      have hB5 : Below w.heap.size w w5 := hbA.grown G5.out hbA.size (fun j e => (own_type hrA j e).1)
      have hO5 : OpsOwn w5 w.heap.size (.slice (some ⟨g', 0, none⟩) (k + 1) cap') (os ++ [⟨1, k, a1 % 1000⟩]) := by
        refine ⟨by rw [List.length_append, HL.out, flatO_append]; exact O5.out, fun o ho => ?_⟩
        rcases List.mem_append.1 ho with ho | ho
        · exact HO.out.2 o ho
        · simp at ho; subst ho; exact ⟨rfl, WalkArith.wf_i64 (by simp; omega), WalkArith.wf_u64 (by simp; omega)⟩
      go_roundg (258 - (k + 1) + 1)
      case measure => omega
      case rel => exact ⟨k + 1, _, by go_num, by omega, Nat.le_refl _, by simp [HL.out], hO5, hB5⟩
    · have hkn' : ¬ (k : Int) < 255 + (r : Int) := by omega
      have hkn2 : 255 + (r : Int) ≤ (k : Int) := by omega
      go_wp2_with (first
        | (go_at_call 13; ((with_reducible refine (HM3.out _).mono ?_); rintro e w' ⟨rfl, rfl⟩))
        | (go_at_call 13; ((with_reducible refine (HM6.out _).mono ?_); rintro e w' ⟨rfl, rfl⟩))
        | (at_builtin; refine wpList_append_row _ rfl (.tmp 23) (.tmp 31) 23 rfl w.heap.size w.heap.size 33 i0 (.agg #[.int .i64 0, .int .i64 0, .int .u64 0]) 3 24 Try.underlying23 hi0 hz0 hz1 hz2 rfl (by decide) (.slice A k c) k (flatO os) rfl (RW.out.alloc _) (.slice (some ⟨wr.heap.size, 0, none⟩) 3 3) 3 (flatO [⟨1, s, a1 % 1000⟩, ⟨4, 0, 0⟩, ⟨3, 0, 1048576⟩]) rfl (World.ownsRow_lit wr _ 3 hwr (by unfold maxLen; omega) rfl) (flatO_one _) (by unfold maxLen; omega) (by omega) (by simp; omega) ?_; intro v5 w5 hown5 hgrow5 hat5; have O5 := Lib.hid hown5; have G5 := Lib.hid hgrow5; clear hown5 hgrow5 hat5))
      have hO5 : OpsOwn w5 w.heap.size v5 (os ++ [⟨1, s, a1 % 1000⟩, ⟨4, 0, 0⟩, ⟨3, 0, 1048576⟩]) := (by
        refine ⟨by rw [List.length_append, HL.out, flatO_append]; exact O5.out, fun o ho => ?_⟩
        rcases List.mem_append.1 ho with ho | ho
        · exact HO.out.2 o ho
        · simp at ho
          rcases ho with rfl | rfl | rfl
          · exact ⟨rfl, WalkArith.wf_i64 (by simp; omega), WalkArith.wf_u64 (by simp; omega)⟩
          · exact ⟨rfl, rfl, rfl⟩
          · exact ⟨rfl, rfl, rfl⟩)
      have hrA := RW.out.alloc (.cells #[.int .i64 1, .int .i64 s, .int .u64 (a1 % 1000), .int .i64 4, .int .i64 0, .int .u64 0, .int .i64 3, .int .i64 0, .int .u64 1048576] 33)
      have hbA : Below w.heap.size w (wr.alloc (.cells #[.int .i64 1, .int .i64 s, .int .u64 (a1 % 1000), .int .i64 4, .int .i64 0, .int .u64 0, .int .i64 3, .int .i64 0, .int .u64 1048576] 33)) := BL.out.alloc hwr _
      have B5 := Lib.hid (hbA.grown G5.out hbA.size (fun j e => (own_type hrA j e).1))
      have hlen : (os ++ ([⟨1, s, a1 % 1000⟩, ⟨4, 0, 0⟩, ⟨3, 0, 1048576⟩] : List TOp)).length ≤ 2000 := (by rw [List.length_append, HL.out]; simp; omega)
      have HN := Lib.hid hlen
      generalize os ++ ([⟨1, s, a1 % 1000⟩, ⟨4, 0, 0⟩, ⟨3, 0, 1048576⟩] : List TOp) = os5 at *
      obtain ⟨A5, c5, rfl, hat⟩ := hO5.read
      have AT := Lib.hid hat
      clear hO5 hrA hbA hlen hat
      go_wp2_with (first
        | (go_at_call 11; ((with_reducible refine (play_any AT.out HN.out).mono ?_); rintro e w6 ⟨v6, rfl, hr6, hb6⟩; obtain ⟨A6, c6, rfl, _⟩ := hr6.rd0; have R6 := Lib.hid hr6; have AT6 := Lib.hid ((AT.out.below hb6).mono hb6.size); have B6 := Lib.hid (B5.out.trans (hb6.mono B5.out.size)); clear hr6 hb6))
        | (go_at_call 12; ((with_reducible refine (rplay_any AT6.out HN.out).mono ?_); rintro e w7 ⟨v7, rfl, hr7, hb7⟩; obtain ⟨A7, c7, rfl, hrd7⟩ := hr7.rd0; obtain ⟨A6', c6', hv6, hrd6⟩ := (R6.out.below hb7).rd0; simp only [Value.slice.injEq] at hv6; obtain ⟨rfl, _, rfl⟩ := hv6; have D6 := Lib.hid hrd6; have D7 := Lib.hid hrd7; have B7 := Lib.hid (B6.out.trans (hb7.mono B6.out.size)); clear hr7 hb7 hrd6 hrd7))
        | (go_at_call 10; ((with_reducible refine (same_eq D6.out D7.out (by have := HN.out; omega)).mono ?_); rintro e w8 ⟨rfl, q8, rfl⟩)))
      go_ret
      exact ⟨rfl, B7.out.trans ((below_drewN _ _).mono B7.out.size)⟩
end Go.Proofs.Ytbhakpkdkeacmaa.Tq
