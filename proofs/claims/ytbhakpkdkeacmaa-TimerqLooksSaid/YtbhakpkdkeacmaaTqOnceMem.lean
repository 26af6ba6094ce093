/-
  The two tables of TimerqOnce in memory.
-/
import Derived.Test.YtbhakpkdkeacmaaTqDivides
import Derived.Test.YtbhakpkdkeacmaaTqOnceMath
import Derived.Deep.OwnRows
namespace Go.Proofs.Ytbhakpkdkeacmaa.Tq
open Go.RowKit Go.Maps

theorem Try.info30 : (Try.prog.info? 30).map (fun i => (i.zero, i.size, i.bytes)) = some (some (.int .u64 0), 1, 8) := by kernel_rfl
theorem Try.info4 : (Try.prog.info? 4).map (fun i => (i.zero, i.size, i.bytes)) = some (some (.bool false), 1, 1) := by kernel_rfl

/-- The two tables in memory. -/
structure Tab (w : World) (P Q : Nat) (A : Nat → Int) (S : Nat → Bool) : Prop where
  ne : P ≠ Q
  pb : ∃ cs, w.heap[P]? = some (.cells cs 30 (0, 0)) ∧ ∀ j : Nat, j < 9 → cs[j]? = some (.int .u64 (A j))
  qb : ∃ cs, w.heap[Q]? = some (.cells cs 4 (0, 0)) ∧ ∀ j : Nat, j < 9 → cs[j]? = some (.bool (S j))

/-- What both orders of making the two tables leave. -/
def Made2 (w6 : World) (P Q : Nat) (W : World) : Prop := Tab W P Q (fun _ => 0) (fun _ => false) ∧ Below w6.heap.size w6 W ∧ w6.heap.size ≤ P ∧ w6.heap.size ≤ Q
theorem made_cells (v : Value) (n : Nat) : ∀ j : Nat, j < n → (madeCells #[v] n)[j]? = some v := by
  intro j hj
  simp [madeCells, hj, Nat.mod_one]
theorem tab_made1 (w : World) : Made2 w w.heap.size (w.heap.size + 1) ((w.alloc (.cells (madeCells #[.int .u64 0] 9) 30)).alloc (.cells (madeCells #[.bool false] 9) 4)).drew := by
  have h1 := heap_alloc_new w (.cells (madeCells #[.int .u64 0] 9) 30)
  have h2 := heap_alloc_new (w.alloc (.cells (madeCells #[.int .u64 0] 9) 30)) (.cells (madeCells #[.bool false] 9) 4)
  rw [World.size_alloc] at h2
  exact ⟨⟨by omega, ⟨_, (Below.heap_alloc _ _ _ (by simp)).trans h1, made_cells _ 9⟩, ⟨_, h2, made_cells _ 9⟩⟩, (((Below.refl _ _).alloc (Nat.le_refl _) _).alloc (by simp) _).drew, Nat.le_refl _, by omega⟩
theorem tab_made2 (w : World) : Made2 w (w.heap.size + 1) w.heap.size ((w.alloc (.cells (madeCells #[.bool false] 9) 4)).alloc (.cells (madeCells #[.int .u64 0] 9) 30)).drew := by
  have h1 := heap_alloc_new w (.cells (madeCells #[.bool false] 9) 4)
  have h2 := heap_alloc_new (w.alloc (.cells (madeCells #[.bool false] 9) 4)) (.cells (madeCells #[.int .u64 0] 9) 30)
  rw [World.size_alloc] at h2
  exact ⟨⟨by omega, ⟨_, h2, made_cells _ 9⟩, ⟨_, (Below.heap_alloc _ _ _ (by simp)).trans h1, made_cells _ 9⟩⟩, (((Below.refl _ _).alloc (Nat.le_refl _) _).alloc (by simp) _).drew, by omega, Nat.le_refl _⟩
/-- One proof for ends that are alike. -/
theorem share (R : Nat → Nat → World → Prop) {X : Nat → Nat → World → Prop} {G : Prop} (main : (∀ P Q W, R P Q W → X P Q W) → G) (pf : ∀ P Q W, R P Q W → X P Q W) : G := main pf
section
variable {w w' : World} {P Q : Nat} {A : Nat → Int} {S : Nat → Bool}
theorem Tab.lt (h : Tab w P Q A S) : P < w.heap.size ∧ Q < w.heap.size := by
  obtain ⟨_, h1, _⟩ := h.pb
  obtain ⟨_, h2, _⟩ := h.qb
  exact ⟨heap_lt h1, heap_lt h2⟩
theorem Tab.below (h : Tab w P Q A S) (hb : Below w.heap.size w w') : Tab w' P Q A S := by
  obtain ⟨hn, ⟨cs, h1, h2⟩, ⟨ds, h3, h4⟩⟩ := h
  exact ⟨hn, ⟨cs, (hb.block _ (heap_lt h1)).trans h1, h2⟩, ⟨ds, (hb.block _ (heap_lt h3)).trans h3, h4⟩⟩
theorem Tab.drew (h : Tab w P Q A S) : Tab w.drew P Q A S := ⟨h.ne, h.pb, h.qb⟩
theorem Tab.drewN (h : Tab w P Q A S) (m : Nat) : Tab (w.drewN m) P Q A S := ⟨h.ne, h.pb, h.qb⟩
theorem Tab.atA (h : Tab w P Q A S) {n : Nat} (hn : n < 9) : w.cell? ⟨P, n, none⟩ = some (.int .u64 (A n)) ∧ w.frozen? ⟨P, n, none⟩ = false := by
  obtain ⟨cs, h1, h2⟩ := h.pb
  exact ⟨(cell_of_row w P n cs _ _ h1).trans (h2 n hn), by simp [World.frozen?, h1]⟩
theorem Tab.atS (h : Tab w P Q A S) {n : Nat} (hn : n < 9) : w.cell? ⟨Q, n, none⟩ = some (.bool (S n)) ∧ w.frozen? ⟨Q, n, none⟩ = false := by
  obtain ⟨cs, h1, h2⟩ := h.qb
  exact ⟨(cell_of_row w Q n cs _ _ h1).trans (h2 n hn), by simp [World.frozen?, h1]⟩
theorem Tab.setA (h : Tab w P Q A S) (n : Nat) (v : Int) : Tab (w.setCell ⟨P, n, none⟩ (.int .u64 v)) P Q (up A n v) S := by
  obtain ⟨hn, ⟨cs, h1, h2⟩, ⟨ds, h3, h4⟩⟩ := h
  refine ⟨hn, ⟨cs.setIfInBounds n (.int .u64 v), by simp [World.setCell, Array.getElem?_modify, h1], fun j hj => ?_⟩, ⟨ds, (Below.heap_setCell w ⟨P, n, none⟩ _ Q (by simpa using hn.symm)).trans h3, h4⟩⟩
  have hl := (Array.getElem?_eq_some_iff.1 (h2 j hj)).1
  rw [Array.getElem?_setIfInBounds]
  by_cases e : n = j
  · subst e; rw [if_pos rfl, if_pos hl, up_same]
  · rw [if_neg e, up_other _ _ (fun h => e h.symm)]; exact h2 j hj
theorem Tab.setS (h : Tab w P Q A S) (n : Nat) (v : Bool) : Tab (w.setCell ⟨Q, n, none⟩ (.bool v)) P Q A (up S n v) := by
  obtain ⟨hn, ⟨cs, h1, h2⟩, ⟨ds, h3, h4⟩⟩ := h
  refine ⟨hn, ⟨cs, (Below.heap_setCell w ⟨Q, n, none⟩ _ P (by simpa using hn)).trans h1, h2⟩, ⟨ds.setIfInBounds n (.bool v), by simp [World.setCell, Array.getElem?_modify, h3], fun j hj => ?_⟩⟩
  have hl := (Array.getElem?_eq_some_iff.1 (h4 j hj)).1
  rw [Array.getElem?_setIfInBounds]
  by_cases e : n = j
  · subst e; rw [if_pos rfl, if_pos hl, up_same]
  · rw [if_neg e, up_other _ _ (fun h => e h.symm)]; exact h4 j hj
end
theorem play_at (l : List Tm) (now : Int) : ∀ (os : List TOp) (k : Nat) (o : TOp), os[k]? = some o → (play l now os)[k]? = some (stepR (runL l now (os.take k)) (runN now (os.take k)) o) := by
  intro os
  induction os generalizing l now with
  | nil => intro k o h; simp at h
  | cons x os ih =>
    intro k o h
    cases k with
    | zero => simp at h; subst h; rfl
    | succ k =>
      have h' : os[k]? = some o := by simpa using h
      have := ih (stepL l now x) (stepN now x) k o h'
      simpa [play, runL, runN] using this
/-- The builtin max of two u64. -/
theorem wpList_max {P : Program} (w : World) {ops : Array Oper} {rest : List Oper} {o : Oper} {a : Act} {Q : Exit → Act → World → Prop} (hgd : o.guard = none) (s x : Operand) (t : TypeId)
    (ho : o.op = .call { callee := .builtin .max, args := #[s, x], argTypes := #[t, t] }) (m n : Int) (hs : a.eval s = .int .u64 m) (hx : a.eval x = .int .u64 n)
    (h : wpList P ops Q rest (a.put o.dst (.int .u64 (max m n))) w) : wpList P ops Q (o :: rest) a w := by
  refine wpList_plain hgd fun K hK => ?_
  have hr : (Builtin.max_ #[t, t] o.type #[.int .u64 m, .int .u64 n]).run P w = .ok (.int .u64 (max m n)) w := by
    unfold Builtin.max_
    have e : (if n > m then n else m) = max m n := by split <;> omega
    show ((List.foldlM Builtin.max2 (.int .u64 m) [.int .u64 n]).run P w) = _
    simp only [List.foldlM_cons, List.foldlM_nil, Builtin.max2, e]
    rfl
  unfold Oper.wp execOp
  simp only [ho, resolve, invoke, builtin, Sem.run_bind, Sem.run_pure, Result.andThen_ok, List.map_toArray, List.map_cons, List.map_nil, hs, hx, hr]
  exact hK _ _ h
end Go.Proofs.Ytbhakpkdkeacmaa.Tq
