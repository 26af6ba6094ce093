/-
  Layer 5: the statements' example.
-/
import Derived.Test.YtjhcbcadagljlaaDoorLxSame
import Derived.KernelRfl
namespace Go.Proofs.YtjhcbcadagljlaaDoor.Lx
open Go.RowKit

theorem sane_1 : allT [106, 111, 98, 32, 97, 32, 123, 125] = [⟨1, [106, 111, 98], 1, 1⟩, ⟨1, [97], 1, 5⟩, ⟨5, [123], 1, 7⟩, ⟨5, [125], 1, 8⟩, ⟨6, [], 1, 9⟩] := by kernel_rfl
theorem sane_2 : allF [106, 111, 98, 32, 97, 32, 123, 125] = (0, 0, 0) := by kernel_rfl
theorem sane_3 : allT [34, 120] = [] := by kernel_rfl
theorem sane_4 : allF [34, 120] = (51, 1, 1) := by kernel_rfl

set_option maxRecDepth 100000 in
set_option maxHeartbeats 2000000 in
theorem sane_any (w : World) (het : ET w) : Calls Tryd.prog 6 #[] w (BPost w true) := by
  have h1 := fun W (h : ET W) => prog_all (s := ⟨#[106, 111, 98, 32, 97, 32, 123, 125]⟩) (l := [106, 111, 98, 32, 97, 32, 123, 125]) (by decide) (by simp) W h
  have h2 := fun W (h : ET W) => prog_all (s := ⟨#[34, 120]⟩) (l := [34, 120]) (by decide) (by simp) W h
  rw [sane_1, sane_2] at h1
  rw [sane_3, sane_4] at h2
  have H1 := Lib.hid h1
  have H2 := Lib.hid h2
  have HET := Lib.hid het
  clear h1 h2 het
  go_enter Tryd.func6, Tryd.ntmps6
  go_wp2_with (first
    | (go_at_call 7; ((with_reducible refine (H1.out _ HET.out).mono ?_); rintro e w1 ⟨v1, rfl, hv1, hb1⟩; have V1 := Lib.hid (hv1.below (balloc w1 (.cells #[.int .i64 0, .int .i64 0, .int .i64 0] 29))); have B1 := Lib.hid (hb1.alloc hb1.size (.cells #[.int .i64 0, .int .i64 0, .int .i64 0] 29)); have k1 := heap_alloc_new w1 (.cells #[.int .i64 0, .int .i64 0, .int .i64 0] 29); have K1 := Lib.hid k1; obtain ⟨A1, c1, hv, _⟩ := hv1; simp only [List.length_cons, List.length_nil, Nat.zero_add, Nat.reduceAdd] at hv; subst hv; clear hb1 k1))
    | (go_at_call 7; ((with_reducible refine (H2.out _ (HET.out.below B1.out)).mono ?_); rintro e w2 ⟨v2, rfl, hv2, hb2⟩; have B2 := Lib.hid ((B1.out.trans (hb2.mono B1.out.size)).alloc (by have := B1.out.size; have := hb2.size; omega) (.cells #[.int .i64 51, .int .i64 1, .int .i64 1] 29)); have b3 := hb2.trans ((balloc w2 (.cells #[.int .i64 51, .int .i64 1, .int .i64 1] 29)).mono hb2.size); have k3 := (b3.block _ (heap_lt K1.out)).trans K1.out; have d0 := cell_of_row _ _ 0 _ _ _ k3; have d1 := cell_of_row _ _ 1 _ _ _ k3; have d2 := cell_of_row _ _ 2 _ _ _ k3; obtain ⟨A3, c3, hv3, ht3, _⟩ := V1.out.below b3; simp only [List.length_cons, List.length_nil, Nat.zero_add, Nat.reduceAdd, Value.slice.injEq, true_and] at hv3; obtain ⟨rfl, rfl⟩ := hv3; obtain ⟨g, off, rfl, ht⟩ := ht3 (by simp); have t1 := (ht 1 _ rfl).2.2.2; have t4 := (ht 4 _ rfl); have u4 := t4.1; have v4 := t4.2.2.2; obtain ⟨A2, c2, rfl, _⟩ := hv2; clear hb2 b3 k3 ht t4)))
  go_ret
  exact ⟨rfl, B2.out⟩
end Go.Proofs.YtjhcbcadagljlaaDoor.Lx
