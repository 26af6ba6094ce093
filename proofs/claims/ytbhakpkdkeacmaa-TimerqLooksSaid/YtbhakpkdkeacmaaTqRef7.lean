/-
  The contract of the reference's step: next, with timers; advance.
-/
import Derived.Test.YtbhakpkdkeacmaaTqRef3
import Derived.Deep.Onto
namespace Go.Proofs.Ytbhakpkdkeacmaa.Tq
open Go.RowKit Go.Maps

/-- What first gives, whatever the list. -/
def BestIx (ts : List Tm) (v : Value) : Prop := (ts = [] ∧ v = .int .i64 (-1)) ∨ ∃ i : Nat, v = .int .i64 i ∧ i < ts.length ∧ ∀ k, k < ts.length → tle (at_ ts i) (at_ ts k)
def FirstAny (w : World) (ts : List Tm) (e : Ending) (w' : World) : Prop := ∃ v, e = .returned v ∧ BestIx ts v ∧ Below w.heap.size w w'
theorem first_any {w : World} {B : Nat} {v : Value} {ts : List Tm} (h : RL w B v ts) (hl : ts.length ≤ 1000) :
    Calls Try.prog 26 #[v] w (FirstAny w ts) := by
  by_cases hn : 0 < ts.length
  · refine (first_some h hl hn).mono ?_
    rintro e w' ⟨i, rfl, hi, hm, hb⟩
    exact ⟨_, rfl, .inr ⟨i, rfl, hi, hm⟩, hb⟩
  · have e0 : ts.length = 0 := by omega
    have e1 : ts = [] := List.length_eq_zero_iff.1 e0
    obtain ⟨A, c, hv⟩ := own_shape h
    rw [e0] at hv
    rw [hv]
    refine (first_nil A c).mono ?_
    rintro e w' ⟨rfl, rfl⟩
    exact ⟨_, rfl, .inl ⟨e1, rfl⟩, Below.refl _ _⟩

set_option maxRecDepth 100000 in
set_option maxHeartbeats 2000000 in
theorem nsome_any {w : World} {B : Nat} {v : Value} {now : Int} {l : List Tm} (h : RH w B v l) (x t : Int) {m : Tm} {r : List Tm} (ho : ord l = m :: r) (hB : B ≤ w.heap.size) :
    Calls Try.prog 19 #[v, .int .u64 now, .agg #[.int .i64 4, .int .i64 x, .int .u64 t]] w (StepPost w B now l ⟨0, [m.1], m.2⟩) := by
  obtain ⟨ts, h1, h2, h3, h4⟩ := h
  obtain ⟨A, cp, rfl⟩ := own_shape h1
  obtain ⟨W, hW⟩ : ∃ W, W = (w.alloc (.cells #[.int .i64 4, .int .i64 x, .int .u64 t] 33)).alloc zrep := ⟨_, rfl⟩
  obtain ⟨bx, hbx⟩ : ∃ bx, bx = w.heap.size := ⟨_, rfl⟩
  obtain ⟨R, hR⟩ : ∃ R, R = w.heap.size + 1 := ⟨_, rfl⟩
  have hL : Laid w W bx R 4 x t := by rw [hW, hbx, hR]; exact Laid.mk_ w 4 x t
  have hS : RL W B (.slice A ts.length cp) ts := own_below h1 (by rw [hW]; go_grown)
  have b0 := cell_of_row W bx 0 _ _ _ hL.box
  have b1 := cell_of_row W bx 1 _ _ _ hL.box
  have b2 := cell_of_row W bx 2 _ _ _ hL.box
  have r0 := cell_of_row W R 0 _ _ _ hL.res
  have r1 := cell_of_row W R 1 _ _ _ hL.res
  have r2 := cell_of_row W R 2 _ _ _ hL.res
  have z0 : W.frozen? ⟨R, 0, none⟩ = false := (by simp [World.frozen?, hL.res])
  have z1 : W.frozen? ⟨R, 1, none⟩ = false := (by simp [World.frozen?, hL.res])
  have z2 : W.frozen? ⟨R, 2, none⟩ = false := (by simp [World.frozen?, hL.res])
  have hbs := heap_lt hL.box
  have hrs := heap_lt hL.res
  have hBW : B ≤ W.heap.size := by have := hL.bel.size; omega
  obtain ⟨z, hz, hP⟩ := place_val (ts := ts) (by omega) h3 x
  have HP := Lib.hid (hP W B _ hS)
  have hn : 0 < ts.length := by
    rw [h2.length_eq, ← (ord_perm l).length_eq, ho]; simp
  have HF := Lib.hid (first_some (w := W) hS (by omega) hn)
  have EM : Hid (∀ i : Nat, i < ts.length → (∀ k, k < ts.length → tle (at_ ts i) (at_ ts k)) → at_ ts i = m) := by
    intro i hi hmin
    obtain ⟨r', e⟩ := ord_first (h2.mem_iff.1 (at_mem hi)) (fun t ht => by
      obtain ⟨k, hk⟩ := List.getElem?_of_mem (h2.mem_iff.2 ht)
      have := hmin k (List.getElem?_eq_some_iff.1 hk).1
      rwa [at_of hk] at this)
    rw [ho] at e
    injection e with e _
    exact e.symm
  obtain ⟨g, cap, hv, hg0, hgl⟩ := World.ownsRow.form hS hn
  simp only [Value.slice.injEq] at hv
  obtain ⟨rfl, _, rfl⟩ := hv
  clear hz ho
  have LD := Lib.hid hL
  have HS := Lib.hid hS
  have HW := Lib.hid hW
  have HX := Lib.hid hbx
  have HR := Lib.hid hR
  clear h1 hW hbx hR hL hS hP
  go_enter Try.func19, Try.ntmps19
  go_wp2_with (first
    | (go_at_call 24; rw [← HW.out, ← HR.out, ← HX.out]; ((with_reducible refine HP.out.mono ?_); rintro e w1 ⟨rfl, rfl⟩))
    | (go_at_call 26; ((with_reducible refine HF.out.mono ?_); rintro e w3 ⟨i, rfl, hi, hmin, hb3⟩; have LD3 := Lib.hid (LD.out.step hb3); have HS3 := Lib.hid (own_below HS.out hb3); have s0 := cell_of_row w3 R 0 _ _ _ LD3.out.res; have s1 := cell_of_row w3 R 1 _ _ _ LD3.out.res; have s2 := cell_of_row w3 R 2 _ _ _ LD3.out.res; have y0 : w3.frozen? ⟨R, 0, none⟩ = false := (by simp [World.frozen?, LD3.out.res]); have y1 : w3.frozen? ⟨R, 1, none⟩ = false := (by simp [World.frozen?, LD3.out.res]); have y2 : w3.frozen? ⟨R, 2, none⟩ = false := (by simp [World.frozen?, LD3.out.res]); have hrl3 := heap_lt LD3.out.res; have hg3 : g < w3.heap.size := (by have := hb3.size; omega); have em := EM.out i hi hmin; have cc := RL.at_ HS3.out (at_some hi); rw [em] at cc; obtain ⟨cc0, cc1⟩ := cc; have hgR : g ≠ R := (fun e => by have := own_ne HS3.out LD3.out.res (by decide); exact this (by rw [e]; rfl)); have hi1 : (0 : Int) ≤ (i : Int) := (by omega); have HB3 := Lib.hid hb3; clear hb3 hmin em)))
  go_region
  go_wp2_with fail
  have hb9 := res_cells w3 R (.int .i64 0) (.slice (some ⟨w3.heap.size, 0, none⟩) 1 1) (.int .u64 m.2) LD3.out.res
  have hg9 := res_grown w3 R (.int .i64 0) (.slice (some ⟨w3.heap.size, 0, none⟩) 1 1) (.int .u64 m.2)
  have hsz : (((w3.setCell ⟨R, 0, none⟩ (.int .i64 0)).setCell ⟨R, 1, none⟩ (.slice (some ⟨w3.heap.size, 0, none⟩) 1 1)).setCell ⟨R, 2, none⟩ (.int .u64 m.2)).heap.size = w3.heap.size := by simp
  generalize ((w3.setCell ⟨R, 0, none⟩ (.int .i64 0)).setCell ⟨R, 1, none⟩ (.slice (some ⟨w3.heap.size, 0, none⟩) 1 1)).setCell ⟨R, 2, none⟩ (.int .u64 m.2) = W9 at *
  have hbA : (W9.alloc (.cells #[.int .i64 m.1] 3)).drew.heap[R]? = _ := (Below.heap_alloc W9 (.cells #[.int .i64 m.1] 3) R (by omega)).trans hb9
  have hbF : (W9.alloc (.cells #[.int .i64 m.1] 3)).drew.heap[w3.heap.size]? = some (.cells #[.int .i64 m.1] 3 (0, 0)) := by
    rw [← hsz]; exact heap_alloc_new W9 _
  refine bodyPost_ret (v := .tuple #[.slice (some ⟨g, 0, none⟩) ts.length cp, .int .u64 now, .agg #[.int .i64 0, .slice (some ⟨w3.heap.size, 0, none⟩) 1 1, .int .u64 m.2]]) (by simp [results, Try.results19, go_sem, cell_of_row _ R 0 _ _ _ hbA, cell_of_row _ R 1 _ _ _ hbA, cell_of_row _ R 2 _ _ _ hbA]) rfl ?_
  have hs3 : B ≤ w3.heap.size := by have := HB3.out.size; omega
  have hR4 : RL (W9.alloc (.cells #[.int .i64 m.1] 3)).drew B (.slice (some ⟨g, 0, none⟩) ts.length cp) ts := (World.ownsRow.kept HS3.out hg9 (.inr (own_ne HS3.out LD3.out.res (by decide)))).alloc _
  have hB4 : Below w.heap.size w W9 := LD3.out.bel.grown hg9 LD3.out.bel.size (fun k e => by have := LD3.out.new; simp at e; omega)
  exact ⟨_, _, rfl, ⟨_, rfl, one_row _ _ hs3 hbF⟩, ⟨ts, hR4, h2, h3, h4⟩, (hB4.alloc (by have := LD3.out.bel.size; omega) _).drew⟩

end Go.Proofs.Ytbhakpkdkeacmaa.Tq
