/-
  The contracts of the queue's five methods.
-/
import Derived.Test.YtbhakpkdkeacmaaTqMem
import Derived.WalkLawsBesides
import Derived.WalkSpells
import Derived.Outline
import Derived.Handy
import Derived.BigRegion
import Derived.BigQuiet
import Derived.StillTailTactics
import Derived.Deep.RegionWith
namespace Go.Proofs.Ytbhakpkdkeacmaa.Tq
open Go.RowKit Go.Maps

theorem len_any {w : World} {B q mb : Nat} {now : Int} {V : Value} {ts : List Tm} {D : DataW Unit} (h : QM w B q mb now V ts D) :
    Calls Try.prog 28 #[.pointer (some ⟨q, 0, none⟩)] w fun e w' => e = .returned (.int .i64 ts.length) ∧ w = w' := by
  have c1 := h.c1
  obtain ⟨A, cap, rfl, _⟩ := h.shape
  clear h
  go_enter Try.func28, Try.ntmps28
  go_wp2
  go_ret
  exact ⟨rfl, rfl⟩

theorem less_cells (q g n cap i j : Nat) (a b : Tm) (w : World) (c1 : w.cell? ⟨q, 1, none⟩ = some (.slice (some ⟨g, 0, none⟩) n cap))
    (hq : q < w.heap.size) (hg : g < w.heap.size) (hi : i < n) (hj : j < n)
    (ci0 : w.cell? ⟨g, i * 2, none⟩ = some (.int .i64 a.1)) (ci1 : w.cell? ⟨g, i * 2 + 1, none⟩ = some (.int .u64 a.2))
    (cj0 : w.cell? ⟨g, j * 2, none⟩ = some (.int .i64 b.1)) (cj1 : w.cell? ⟨g, j * 2 + 1, none⟩ = some (.int .u64 b.2)) :
    Calls Try.prog 51 #[.pointer (some ⟨q, 0, none⟩), .int .i64 i, .int .i64 j] w fun e w' => e = .returned (.bool (tlt a b)) ∧ Below w.heap.size w w' := by
  by_cases hab : a.2 = b.2
  · have ht : tlt a b = decide (a.1 < b.1) := by unfold tlt; rw [if_pos hab]
    rw [ht]
    rw [hab] at ci1
    clear ht hab
    go_enter Try.func51, Try.ntmps51
    go_wp2
    go_region
    all_goals go_wp2
    all_goals go_ret
    all_goals (refine ⟨rfl, ?_⟩; go_grown)
  · have ht : tlt a b = decide (a.2 < b.2) := by unfold tlt; rw [if_neg hab]
    have hd : (a.2 == b.2) = false := by simpa using hab
    have hd' : (a.2 != b.2) = true := by simpa using hab
    rw [ht]
    clear ht hab
    go_enter Try.func51, Try.ntmps51
    go_wp2
    go_region
    all_goals go_wp2
    all_goals go_ret
    all_goals (refine ⟨rfl, ?_⟩; go_grown)

theorem less_any {w : World} {B q mb : Nat} {now : Int} {V : Value} {ts : List Tm} {D : DataW Unit} (h : QM w B q mb now V ts D) {i j : Nat} {a b : Tm} (hi : ts[i]? = some a) (hj : ts[j]? = some b) :
    Calls Try.prog 51 #[.pointer (some ⟨q, 0, none⟩), .int .i64 i, .int .i64 j] w fun e w' => e = .returned (.bool (tlt a b)) ∧ Below w.heap.size w w' := by
  have hil : i < ts.length := (List.getElem?_eq_some_iff.1 hi).1
  have hjl : j < ts.length := (List.getElem?_eq_some_iff.1 hj).1
  obtain ⟨g, cap, rfl, hb, hg, hc, hm, _⟩ := h.form (by omega)
  obtain ⟨ci0, ci1⟩ := h.at_ hi
  obtain ⟨cj0, cj1⟩ := h.at_ hj
  exact less_cells q g ts.length cap i j a b w h.c1 h.lt hg hil hjl ci0 ci1 cj0 cj1

end Go.Proofs.Ytbhakpkdkeacmaa.Tq
