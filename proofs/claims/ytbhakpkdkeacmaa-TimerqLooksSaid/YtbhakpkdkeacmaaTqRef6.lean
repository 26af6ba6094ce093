/-
  The contract of the reference's step: no room, cancel, next, and other kinds.
-/
import Derived.Test.YtbhakpkdkeacmaaTqRef3
namespace Go.Proofs.Ytbhakpkdkeacmaa.Tq
open Go.RowKit Go.Maps

set_option maxRecDepth 100000 in
set_option maxHeartbeats 2000000 in
theorem sfull_any {w : World} {B : Nat} {v : Value} {now : Int} {l : List Tm} (h : RH w B v l) (x t : Int) (hx : 0 ≤ x) (hm : mem l x = false) (hl : 256 ≤ l.length) (hB : B ≤ w.heap.size) :
    Calls Try.prog 19 #[v, .int .u64 now, .agg #[.int .i64 1, .int .i64 x, .int .u64 t]] w (StepPost w B now l ⟨1, [], 0⟩) := by
  obtain ⟨ts, h1, h2, h3, h4⟩ := h
  obtain ⟨A, cp, rfl⟩ := own_shape h1
  obtain ⟨W, hW⟩ : ∃ W, W = (w.alloc (.cells #[.int .i64 1, .int .i64 x, .int .u64 t] 33)).alloc zrep := ⟨_, rfl⟩
  obtain ⟨bx, hbx⟩ : ∃ bx, bx = w.heap.size := ⟨_, rfl⟩
  obtain ⟨R, hR⟩ : ∃ R, R = w.heap.size + 1 := ⟨_, rfl⟩
  have hL : Laid w W bx R 1 x t := by rw [hW, hbx, hR]; exact Laid.mk_ w 1 x t
  have hS : RL W B (.slice A ts.length cp) ts := own_below h1 (by rw [hW]; go_grown)
  have b0 := cell_of_row W bx 0 _ _ _ hL.box
  have b1 := cell_of_row W bx 1 _ _ _ hL.box
  have b2 := cell_of_row W bx 2 _ _ _ hL.box
  have r0 := cell_of_row W R 0 _ _ _ hL.res
  have r1 := cell_of_row W R 1 _ _ _ hL.res
  have r2 := cell_of_row W R 2 _ _ _ hL.res
  have z0 : W.frozen? ⟨R, 0, none⟩ = false := (by simp [World.frozen?, hL.res])
  have z1 : W.frozen? ⟨R, 1, none⟩ = false := (by simp [World.frozen?, hL.res])
  have z2 : W.frozen? ⟨R, 2, none⟩ = false := (by simp [World.frozen?, hL.res])
  have hbs := heap_lt hL.box
  have hrs := heap_lt hL.res
  have hBW : B ≤ W.heap.size := by have := hL.bel.size; omega
  obtain ⟨z, hz, hP⟩ := place_val (ts := ts) (by omega) h3 x
  have HP := Lib.hid (hP W B _ hS)
  have hz1 : z = -1 := by
    rcases hz with ⟨_, hz⟩ | ⟨i, _, _, hm', _⟩
    · exact hz
    · rw [mem_perm h2, hm] at hm'; cases hm'
  subst hz1
  have hlt : 256 ≤ ts.length := by have := h2.length_eq; omega
  have hlt' : (256 : Int) ≤ (ts.length : Int) := by omega
  clear hz
  have LD := Lib.hid hL
  have HS := Lib.hid hS
  have HW := Lib.hid hW
  have HX := Lib.hid hbx
  have HR := Lib.hid hR
  clear h1 hW hbx hR hL hS hP
  go_enter Try.func19, Try.ntmps19
  go_wp2_with (first
    | (go_at_call 24; rw [← HW.out, ← HR.out, ← HX.out]; ((with_reducible refine HP.out.mono ?_); rintro e w1 ⟨rfl, rfl⟩)))
  have hb9 := res_cells W R (.int .i64 1) (.slice none 0 0) (.int .u64 0) LD.out.res
  refine bodyPost_ret (v := .tuple #[.slice A ts.length cp, .int .u64 now, .agg #[.int .i64 1, .slice none 0 0, .int .u64 0]]) (by simp [results, Try.results19, go_sem, cell_of_row _ R 0 _ _ _ hb9, cell_of_row _ R 1 _ _ _ hb9, cell_of_row _ R 2 _ _ _ hb9]) rfl ?_
  exact step_done LD.out ⟨ts, HS.out, h2, h3, h4⟩ (RepAt.none_ _ _ _ _)

set_option maxRecDepth 100000 in
set_option maxHeartbeats 2000000 in
theorem cnone_any {w : World} {B : Nat} {v : Value} {now : Int} {l : List Tm} (h : RH w B v l) (x t : Int) (hm : mem l x = false) (hB : B ≤ w.heap.size) :
    Calls Try.prog 19 #[v, .int .u64 now, .agg #[.int .i64 2, .int .i64 x, .int .u64 t]] w (StepPost w B now l ⟨4, [], 0⟩) := by
  obtain ⟨ts, h1, h2, h3, h4⟩ := h
  obtain ⟨A, cp, rfl⟩ := own_shape h1
  obtain ⟨W, hW⟩ : ∃ W, W = (w.alloc (.cells #[.int .i64 2, .int .i64 x, .int .u64 t] 33)).alloc zrep := ⟨_, rfl⟩
  obtain ⟨bx, hbx⟩ : ∃ bx, bx = w.heap.size := ⟨_, rfl⟩
  obtain ⟨R, hR⟩ : ∃ R, R = w.heap.size + 1 := ⟨_, rfl⟩
  have hL : Laid w W bx R 2 x t := by rw [hW, hbx, hR]; exact Laid.mk_ w 2 x t
  have hS : RL W B (.slice A ts.length cp) ts := own_below h1 (by rw [hW]; go_grown)
  have b0 := cell_of_row W bx 0 _ _ _ hL.box
  have b1 := cell_of_row W bx 1 _ _ _ hL.box
  have b2 := cell_of_row W bx 2 _ _ _ hL.box
  have r0 := cell_of_row W R 0 _ _ _ hL.res
  have r1 := cell_of_row W R 1 _ _ _ hL.res
  have r2 := cell_of_row W R 2 _ _ _ hL.res
  have z0 : W.frozen? ⟨R, 0, none⟩ = false := (by simp [World.frozen?, hL.res])
  have z1 : W.frozen? ⟨R, 1, none⟩ = false := (by simp [World.frozen?, hL.res])
  have z2 : W.frozen? ⟨R, 2, none⟩ = false := (by simp [World.frozen?, hL.res])
  have hbs := heap_lt hL.box
  have hrs := heap_lt hL.res
  have hBW : B ≤ W.heap.size := by have := hL.bel.size; omega
  obtain ⟨z, hz, hP⟩ := place_val (ts := ts) (by omega) h3 x
  have HP := Lib.hid (hP W B _ hS)
  have hz1 : z = -1 := by
    rcases hz with ⟨_, hz⟩ | ⟨i, _, _, hm', _⟩
    · exact hz
    · rw [mem_perm h2, hm] at hm'; cases hm'
  subst hz1
  clear hz
  have LD := Lib.hid hL
  have HS := Lib.hid hS
  have HW := Lib.hid hW
  have HX := Lib.hid hbx
  have HR := Lib.hid hR
  clear h1 hW hbx hR hL hS hP
  go_enter Try.func19, Try.ntmps19
  go_wp2_with (first
    | (go_at_call 24; rw [← HW.out, ← HR.out, ← HX.out]; ((with_reducible refine HP.out.mono ?_); rintro e w1 ⟨rfl, rfl⟩)))
  have hb9 := res_cells W R (.int .i64 4) (.slice none 0 0) (.int .u64 0) LD.out.res
  refine bodyPost_ret (v := .tuple #[.slice A ts.length cp, .int .u64 now, .agg #[.int .i64 4, .slice none 0 0, .int .u64 0]]) (by simp [results, Try.results19, go_sem, cell_of_row _ R 0 _ _ _ hb9, cell_of_row _ R 1 _ _ _ hb9, cell_of_row _ R 2 _ _ _ hb9]) rfl ?_
  exact step_done LD.out ⟨ts, HS.out, h2, h3, h4⟩ (RepAt.none_ _ _ _ _)

set_option maxRecDepth 100000 in
set_option maxHeartbeats 2000000 in
theorem cone_any {w : World} {B : Nat} {v : Value} {now : Int} {l : List Tm} (h : RH w B v l) (x t : Int) (hm : mem l x = true) (hB : B ≤ w.heap.size) :
    Calls Try.prog 19 #[v, .int .u64 now, .agg #[.int .i64 2, .int .i64 x, .int .u64 t]] w (StepPost w B now (rem l x) ⟨0, [], 0⟩) := by
  obtain ⟨ts, h1, h2, h3, h4⟩ := h
  obtain ⟨A, cp, rfl⟩ := own_shape h1
  obtain ⟨W, hW⟩ : ∃ W, W = (w.alloc (.cells #[.int .i64 2, .int .i64 x, .int .u64 t] 33)).alloc zrep := ⟨_, rfl⟩
  obtain ⟨bx, hbx⟩ : ∃ bx, bx = w.heap.size := ⟨_, rfl⟩
  obtain ⟨R, hR⟩ : ∃ R, R = w.heap.size + 1 := ⟨_, rfl⟩
  have hL : Laid w W bx R 2 x t := by rw [hW, hbx, hR]; exact Laid.mk_ w 2 x t
  have hS : RL W B (.slice A ts.length cp) ts := own_below h1 (by rw [hW]; go_grown)
  have b0 := cell_of_row W bx 0 _ _ _ hL.box
  have b1 := cell_of_row W bx 1 _ _ _ hL.box
  have b2 := cell_of_row W bx 2 _ _ _ hL.box
  have r0 := cell_of_row W R 0 _ _ _ hL.res
  have r1 := cell_of_row W R 1 _ _ _ hL.res
  have r2 := cell_of_row W R 2 _ _ _ hL.res
  have z0 : W.frozen? ⟨R, 0, none⟩ = false := (by simp [World.frozen?, hL.res])
  have z1 : W.frozen? ⟨R, 1, none⟩ = false := (by simp [World.frozen?, hL.res])
  have z2 : W.frozen? ⟨R, 2, none⟩ = false := (by simp [World.frozen?, hL.res])
  have hbs := heap_lt hL.box
  have hrs := heap_lt hL.res
  have hBW : B ≤ W.heap.size := by have := hL.bel.size; omega
  obtain ⟨z, hz, hP⟩ := place_val (ts := ts) (by omega) h3 x
  have HP := Lib.hid (hP W B _ hS)
  obtain ⟨j, hjl, hjx, hzj⟩ : ∃ j : Nat, j < ts.length ∧ (at_ ts j).1 = x ∧ z = j := by
    rcases hz with ⟨hm', _⟩ | ⟨i, h5, h6, _, h7⟩
    · rw [mem_perm h2, hm] at hm'; cases hm'
    · exact ⟨i, h5, h6, h7⟩
  subst hzj
  have HT := Lib.hid (without_any hS (by omega) hjl)
  obtain ⟨e1, e2, e3⟩ := h3.erase hjl
  rw [hjx] at e1
  have hlen3 : (ts.eraseIdx j).length + 1 = ts.length := by rw [List.length_eraseIdx_of_lt hjl]; omega
  have PM := Lib.hid (e1.trans (h2.filter _))
  have ND := Lib.hid e2
  have hjz : (0 : Int) ≤ (j : Int) := by omega
  clear hz e1 e2 e3 hjx
  have LD := Lib.hid hL
  have HS := Lib.hid hS
  have HW := Lib.hid hW
  have HX := Lib.hid hbx
  have HR := Lib.hid hR
  clear h1 hW hbx hR hL hS hP
  go_enter Try.func19, Try.ntmps19
  go_wp2_with (first
    | (go_at_call 24; rw [← HW.out, ← HR.out, ← HX.out]; ((with_reducible refine HP.out.mono ?_); rintro e w1 ⟨rfl, rfl⟩))
    | (go_at_call 25; ((with_reducible refine HT.out.mono ?_); rintro e w3 ⟨v3, rfl, hr3, hb3⟩; have HS3 := Lib.hid hr3; have LD3 := Lib.hid (LD.out.step hb3); have s0 := cell_of_row w3 R 0 _ _ _ LD3.out.res; have s1 := cell_of_row w3 R 1 _ _ _ LD3.out.res; have s2 := cell_of_row w3 R 2 _ _ _ LD3.out.res; have y0 : w3.frozen? ⟨R, 0, none⟩ = false := (by simp [World.frozen?, LD3.out.res]); have y1 : w3.frozen? ⟨R, 1, none⟩ = false := (by simp [World.frozen?, LD3.out.res]); have y2 : w3.frozen? ⟨R, 2, none⟩ = false := (by simp [World.frozen?, LD3.out.res]); clear hr3 hb3)))
  have hb9 := res_cells w3 R (.int .i64 0) (.slice none 0 0) (.int .u64 0) LD3.out.res
  refine bodyPost_ret (v := .tuple #[v3, .int .u64 now, .agg #[.int .i64 0, .slice none 0 0, .int .u64 0]]) (by simp [results, Try.results19, go_sem, cell_of_row _ R 0 _ _ _ hb9, cell_of_row _ R 1 _ _ _ hb9, cell_of_row _ R 2 _ _ _ hb9]) rfl ?_
  exact step_done LD3.out ⟨_, HS3.out.mono hBW, PM.out, ND.out, by omega⟩ (RepAt.none_ _ _ _ _)

set_option maxRecDepth 100000 in
set_option maxHeartbeats 2000000 in
theorem sbad_any {w : World} {B : Nat} {v : Value} {now : Int} {l : List Tm} (h : RH w B v l) (k x t : Int) (k1 : k ≠ 1) (k2 : k ≠ 2) (k3 : k ≠ 3) (k4 : k ≠ 4) (hB : B ≤ w.heap.size) :
    Calls Try.prog 19 #[v, .int .u64 now, .agg #[.int .i64 k, .int .i64 x, .int .u64 t]] w (StepPost w B now l ⟨3, [], 0⟩) := by
  obtain ⟨ts, h1, h2, h3, h4⟩ := h
  obtain ⟨A, cp, rfl⟩ := own_shape h1
  obtain ⟨W, hW⟩ : ∃ W, W = (w.alloc (.cells #[.int .i64 k, .int .i64 x, .int .u64 t] 33)).alloc zrep := ⟨_, rfl⟩
  obtain ⟨bx, hbx⟩ : ∃ bx, bx = w.heap.size := ⟨_, rfl⟩
  obtain ⟨R, hR⟩ : ∃ R, R = w.heap.size + 1 := ⟨_, rfl⟩
  have hL : Laid w W bx R k x t := by rw [hW, hbx, hR]; exact Laid.mk_ w k x t
  have hS : RL W B (.slice A ts.length cp) ts := own_below h1 (by rw [hW]; go_grown)
  have b0 := cell_of_row W bx 0 _ _ _ hL.box
  have b1 := cell_of_row W bx 1 _ _ _ hL.box
  have b2 := cell_of_row W bx 2 _ _ _ hL.box
  have r0 := cell_of_row W R 0 _ _ _ hL.res
  have r1 := cell_of_row W R 1 _ _ _ hL.res
  have r2 := cell_of_row W R 2 _ _ _ hL.res
  have z0 : W.frozen? ⟨R, 0, none⟩ = false := (by simp [World.frozen?, hL.res])
  have z1 : W.frozen? ⟨R, 1, none⟩ = false := (by simp [World.frozen?, hL.res])
  have z2 : W.frozen? ⟨R, 2, none⟩ = false := (by simp [World.frozen?, hL.res])
  have hbs := heap_lt hL.box
  have hrs := heap_lt hL.res
  have hBW : B ≤ W.heap.size := by have := hL.bel.size; omega
  obtain ⟨z, hz, hP⟩ := place_val (ts := ts) (by omega) h3 x
  have HP := Lib.hid (hP W B _ hS)
  have e1 : (k == 1) = false := beq_eq_false_iff_ne.2 k1
  have e2 : (k == 2) = false := beq_eq_false_iff_ne.2 k2
  have e3 : (k == 3) = false := beq_eq_false_iff_ne.2 k3
  have e4 : (k == 4) = false := beq_eq_false_iff_ne.2 k4
  clear hz k1 k2 k3 k4
  have LD := Lib.hid hL
  have HS := Lib.hid hS
  have HW := Lib.hid hW
  have HX := Lib.hid hbx
  have HR := Lib.hid hR
  clear h1 hW hbx hR hL hS hP
  go_enter Try.func19, Try.ntmps19
  go_wp2_with (first
    | (go_at_call 24; rw [← HW.out, ← HR.out, ← HX.out]; ((with_reducible refine HP.out.mono ?_); rintro e w1 ⟨rfl, rfl⟩)))
  have hb9 := res_cells W R (.int .i64 3) (.slice none 0 0) (.int .u64 0) LD.out.res
  refine bodyPost_ret (v := .tuple #[.slice A ts.length cp, .int .u64 now, .agg #[.int .i64 3, .slice none 0 0, .int .u64 0]]) (by simp [results, Try.results19, go_sem, cell_of_row _ R 0 _ _ _ hb9, cell_of_row _ R 1 _ _ _ hb9, cell_of_row _ R 2 _ _ _ hb9]) rfl ?_
  exact step_done LD.out ⟨ts, HS.out, h2, h3, h4⟩ (RepAt.none_ _ _ _ _)

set_option maxRecDepth 100000 in
set_option maxHeartbeats 2000000 in
theorem nnone_any {w : World} {B : Nat} {v : Value} {now : Int} (h : RH w B v []) (x t : Int) (hB : B ≤ w.heap.size) :
    Calls Try.prog 19 #[v, .int .u64 now, .agg #[.int .i64 4, .int .i64 x, .int .u64 t]] w (StepPost w B now [] ⟨4, [], 0⟩) := by
  obtain ⟨ts, h1, h2, h3, h4⟩ := h
  obtain rfl : ts = [] := List.perm_nil.1 h2
  have hv := own_shape h1
  simp only [List.length_nil] at hv
  obtain ⟨A, cp, rfl⟩ := hv
  obtain ⟨W, hW⟩ : ∃ W, W = (w.alloc (.cells #[.int .i64 4, .int .i64 x, .int .u64 t] 33)).alloc zrep := ⟨_, rfl⟩
  obtain ⟨bx, hbx⟩ : ∃ bx, bx = w.heap.size := ⟨_, rfl⟩
  obtain ⟨R, hR⟩ : ∃ R, R = w.heap.size + 1 := ⟨_, rfl⟩
  have hL : Laid w W bx R 4 x t := by rw [hW, hbx, hR]; exact Laid.mk_ w 4 x t
  have hS : RL W B (.slice A 0 cp) [] := own_below h1 (by rw [hW]; go_grown)
  have b0 := cell_of_row W bx 0 _ _ _ hL.box
  have b1 := cell_of_row W bx 1 _ _ _ hL.box
  have b2 := cell_of_row W bx 2 _ _ _ hL.box
  have r0 := cell_of_row W R 0 _ _ _ hL.res
  have r1 := cell_of_row W R 1 _ _ _ hL.res
  have r2 := cell_of_row W R 2 _ _ _ hL.res
  have z0 : W.frozen? ⟨R, 0, none⟩ = false := (by simp [World.frozen?, hL.res])
  have z1 : W.frozen? ⟨R, 1, none⟩ = false := (by simp [World.frozen?, hL.res])
  have z2 : W.frozen? ⟨R, 2, none⟩ = false := (by simp [World.frozen?, hL.res])
  have hbs := heap_lt hL.box
  have hrs := heap_lt hL.res
  have hBW : B ≤ W.heap.size := by have := hL.bel.size; omega
  obtain ⟨z, hz, hP⟩ := place_val (ts := []) (by simp) h3 x
  have HP := Lib.hid (hP W B _ hS)
  have HF := Lib.hid (first_nil (w := W) A cp)
  clear hz
  have LD := Lib.hid hL
  have HS := Lib.hid hS
  have HW := Lib.hid hW
  have HX := Lib.hid hbx
  have HR := Lib.hid hR
  clear h1 hW hbx hR hL hS hP
  go_enter Try.func19, Try.ntmps19
  go_wp2_with (first
    | (go_at_call 24; rw [← HW.out, ← HR.out, ← HX.out]; ((with_reducible refine HP.out.mono ?_); rintro e w1 ⟨rfl, rfl⟩))
    | (go_at_call 26; ((with_reducible refine HF.out.mono ?_); rintro e w3 ⟨rfl, rfl⟩)))
  have hb9 := res_cells W R (.int .i64 4) (.slice none 0 0) (.int .u64 0) LD.out.res
  refine bodyPost_ret (v := .tuple #[.slice A 0 cp, .int .u64 now, .agg #[.int .i64 4, .slice none 0 0, .int .u64 0]]) (by simp [results, Try.results19, go_sem, cell_of_row _ R 0 _ _ _ hb9, cell_of_row _ R 1 _ _ _ hb9, cell_of_row _ R 2 _ _ _ hb9]) rfl ?_
  exact step_done LD.out ⟨[], HS.out, h2, h3, h4⟩ (RepAt.none_ _ _ _ _)

end Go.Proofs.Ytbhakpkdkeacmaa.Tq
