/-
  Layer 4: the statements' example.
-/
import Derived.Test.YtjcgcloanamabaaRuMill
namespace Go.Proofs.Ytjcgcloanamabaa.Ru
open Go.RowKit

theorem sane_1 : decR (rest0 []) [226, 130] = [226, 130] ∧ decO (rest0 []) [226, 130] = [] := by decide
theorem sane_2 : decR (rest0 [226, 130]) [172] = [] ∧ decO (rest0 [226, 130]) [172] = [8364] := by decide
theorem By_2 : By [226, 130] := by intro x hx; simp at hx; omega

set_option maxRecDepth 100000 in
set_option maxHeartbeats 2000000 in
theorem sane_any (w : World) : Calls Try.prog 7 #[] w (BPost w true) := by
  have h1 := decode_any (w := w.alloc (.cells #[.int .u8 226, .int .u8 130] 5)) (Lst.nil .u8 _) By.nil (lst_row (k := .u8) [226, 130] (heap_alloc_new w (.cells #[.int .u8 226, .int .u8 130] 5)) (by simp)) By_2 (by simp)
  rw [sane_1.1, sane_1.2] at h1
  simp only [List.length_cons, List.length_nil, Nat.zero_add, Nat.reduceAdd] at h1
  have H1 := Lib.hid h1
  have HA := Lib.hid (balloc w (.cells #[.int .u8 226, .int .u8 130] 5))
  have h2 : ∀ (w1 : World) (A1 : Option Addr) (c1 : Nat), Lst .u8 w1 (.slice A1 2 c1) [226, 130] → Calls Try.prog 12 #[.agg #[.slice A1 2 c1], .slice (some ⟨w1.heap.size + 1, 0, none⟩) 1 1] ((w1.alloc (.cells #[.slice A1 2 c1] 30)).alloc (.cells #[.int .u8 172] 5)) (DPost ((w1.alloc (.cells #[.slice A1 2 c1] 30)).alloc (.cells #[.int .u8 172] 5)) [] [8364]) := by
    intro w1 A1 c1 hL
    have h := decode_any (w := (w1.alloc (.cells #[.slice A1 2 c1] 30)).alloc (.cells #[.int .u8 172] 5)) ((hL.below (balloc w1 _)).below (balloc _ _)) By_2 (lst_one (k := .u8) (w1.alloc (.cells #[.slice A1 2 c1] 30)) 172 5) (By.one (by omega)) (by simp)
    rw [sane_2.1, sane_2.2, World.size_alloc] at h
    exact h
  have H2 := Lib.hid h2
  clear h1 h2
  go_enter Try.func7, Try.ntmps7
  go_wp2_with (first
    | (go_at_call 12; ((with_reducible refine H1.out.mono ?_); rintro e w1 ⟨v1, o1, rfl, hv1, ho1, hb1⟩; have B1 := Lib.hid (HA.out.trans (hb1.mono (by simp))); obtain ⟨A1, c1, hv, _⟩ := id hv1; simp only [List.length_cons, List.length_nil, Nat.zero_add, Nat.reduceAdd] at hv; subst hv; have V1 := Lib.hid (H2.out _ _ _ hv1); obtain ⟨Ao, co, ho, _⟩ := ho1; simp only [List.length_nil] at ho; subst ho; have k1 := heap_alloc_new w1 (.cells #[.slice A1 2 c1] 30); have BB := Lib.hid ((balloc w1 (.cells #[.slice A1 2 c1] 30)).trans ((balloc (w1.alloc (.cells #[.slice A1 2 c1] 30)) (.cells #[.int .u8 172] 5)).mono (by simp))); clear hv1 hb1))
    | (go_at_call 12; ((with_reducible refine V1.out.mono ?_); rintro e w2 ⟨v2, o2, rfl, hv2, ho2, hb2⟩; obtain ⟨Av2, cv2, hv, _⟩ := hv2; simp only [List.length_nil] at hv; subst hv; obtain ⟨Ap, cp, hp, rp, _⟩ := ho2; simp only [List.length_cons, List.length_nil, Nat.zero_add] at hp; subst hp; obtain ⟨gp, op, rfl, ep⟩ := rp (by simp); have dp := ep 0 8364 rfl; rw [Nat.add_zero] at dp; have dp2 : (w2.alloc (.cells #[.slice Av2 0 cv2] 30)).cell? ⟨gp, op, none⟩ = some (.int .i64 8364) := ((balloc w2 _).cell (World.block_lt_of_cell? w2 _ dp)).trans dp; have kb : w2.heap[w1.heap.size]? = some (.cells #[.slice A1 2 c1] 30 (0, 0)) := (hb2.block _ (by simp; omega)).trans ((Below.heap_alloc _ _ _ (by simp)).trans k1); have kc : (w2.alloc (.cells #[.slice Av2 0 cv2] 30)).cell? ⟨w1.heap.size, 0, none⟩ = some (.slice A1 2 c1) := ((balloc w2 _).cell (heap_lt kb)).trans (cell_of_row _ _ 0 _ _ _ kb); have B2 := Lib.hid (((B1.out.trans (BB.out.mono B1.out.size)).trans (hb2.mono (by have := B1.out.size; simp; omega))).alloc (by have := B1.out.size; have := hb2.size; simp at this; omega) (.cells #[.slice Av2 0 cv2] 30)); clear hb2 ep rp dp kb)))
  go_ret
  exact ⟨rfl, B2.out⟩
end Go.Proofs.Ytjcgcloanamabaa.Ru
