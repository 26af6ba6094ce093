/-
  The contract of carryOut: one operation.
-/
import Derived.Test.YtbhakpkdkeacmaaTqSet
namespace Go.Proofs.Ytbhakpkdkeacmaa.Tq
open Go.RowKit Go.Maps

theorem set_all {w : World} {B q mb : Nat} {now : Int} {l : List Tm} (h : QH w B q mb now l) (x t : Int) (wx : (Lit.int .i64 x).wf = true) :
    Calls Try.prog 20 #[.pointer (some ⟨q, 0, none⟩), .int .i64 x, .int .u64 t] w (OpPost w B q mb (stepN now ⟨1, x, t⟩) (stepL l now ⟨1, x, t⟩) (stepR l now ⟨1, x, t⟩)) := by
  have eN : stepN now ⟨1, x, t⟩ = now := rfl
  have eL : stepL l now ⟨1, x, t⟩ = (if x < 0 then l else if mem l x then rem l x ++ [(x, t)] else if 256 ≤ l.length then l else l ++ [(x, t)]) := rfl
  have eR : stepR l now ⟨1, x, t⟩ = (if x < 0 then ⟨2, [], 0⟩ else if mem l x then ⟨0, [], 0⟩ else if 256 ≤ l.length then ⟨1, [], 0⟩ else ⟨0, [], 0⟩) := rfl
  rw [eN, eL, eR]
  by_cases h1 : x < 0
  · rw [if_pos h1, if_pos h1]; exact set_neg h x t wx h1
  · rw [if_neg h1, if_neg h1]
    cases hm : mem l x with
    | true => exact set_old h x t wx (by omega) hm
    | false =>
      simp only [Bool.false_eq_true, if_false]
      by_cases h2 : 256 ≤ l.length
      · rw [if_pos h2, if_pos h2]; exact set_full h x t wx (by omega) hm h2
      · rw [if_neg h2, if_neg h2]; exact set_new h x t wx (by omega) hm h2
theorem cancel_all {w : World} {B q mb : Nat} {now : Int} {l : List Tm} (h : QH w B q mb now l) (x t : Int) (wx : (Lit.int .i64 x).wf = true) :
    Calls Try.prog 21 #[.pointer (some ⟨q, 0, none⟩), .int .i64 x] w (OpPost w B q mb (stepN now ⟨2, x, t⟩) (stepL l now ⟨2, x, t⟩) (stepR l now ⟨2, x, t⟩)) := by
  have eN : stepN now ⟨2, x, t⟩ = now := rfl
  have eL : stepL l now ⟨2, x, t⟩ = rem l x := rfl
  have eR : stepR l now ⟨2, x, t⟩ = (if mem l x then ⟨0, [], 0⟩ else ⟨4, [], 0⟩) := rfl
  rw [eN, eL, eR]
  cases hm : mem l x with
  | true => exact cancel_one h x wx hm
  | false => rw [rem_away hm]; exact cancel_none h x wx hm
theorem advance_all {w : World} {B q mb : Nat} {now : Int} {l : List Tm} (h : QH w B q mb now l) (x t : Int) :
    Calls Try.prog 22 #[.pointer (some ⟨q, 0, none⟩), .int .u64 t] w (OpPost w B q mb (stepN now ⟨3, x, t⟩) (stepL l now ⟨3, x, t⟩) (stepR l now ⟨3, x, t⟩)) := advance_any h t
theorem next_all {w : World} {B q mb : Nat} {now : Int} {l : List Tm} (h : QH w B q mb now l) (x t : Int) :
    Calls Try.prog 23 #[.pointer (some ⟨q, 0, none⟩)] w (OpPost w B q mb (stepN now ⟨4, x, t⟩) (stepL l now ⟨4, x, t⟩) (stepR l now ⟨4, x, t⟩)) := by
  have eN : stepN now ⟨4, x, t⟩ = now := rfl
  have eL : stepL l now ⟨4, x, t⟩ = l := rfl
  have eR : stepR l now ⟨4, x, t⟩ = (match ord l with | [] => ⟨4, [], 0⟩ | m :: _ => ⟨0, [m.1], m.2⟩) := rfl
  rw [eN, eL, eR]
  cases ho : ord l with
  | nil =>
    have : l = [] := by have := ord_perm l; rw [ho] at this; exact List.nil_perm.1 this
    subst this
    exact next_none h
  | cons m r => exact next_some h ho

theorem op_done2 {w w1 : World} {B q mb : Nat} {now : Int} {l' : List Tm} {R : Nat} {x y z f : Value} {c t : Int} {r : Rep} (hq : QH w1 B q mb now l') (hr : RepAt w1 B (.agg #[.int .i64 c, f, .int .u64 t]) r) (hf : Fr B w w1) (hlew : B ≤ w.heap.size) (hR : w.heap.size ≤ R)
    (hb : w1.heap[R]? = some (.cells #[x, y, z] 39 (0, 0))) :
    OpPost w B q mb now l' r (.returned (.agg #[.int .i64 c, f, .int .u64 t])) (((w1.setCell ⟨R, 0, none⟩ (.int .i64 c)).setCell ⟨R, 1, none⟩ f).setCell ⟨R, 2, none⟩ (.int .u64 t)) := by
  have hg9 := res_grown w1 R (.int .i64 c) f (.int .u64 t)
  have hfar : ∀ k, some R = some k → ∃ cs t f, w1.heap[k]? = some (.cells cs t f) ∧ t ≠ 49 ∧ t ≠ 68 := fun k e => by
    have e : R = k := by simpa using e
    subst e
    exact ⟨_, _, _, hb, by decide, by decide⟩
  exact ⟨_, rfl, hr.far hg9 (fun k e => by
    have e : R = k := by simpa using e
    subst e
    exact ⟨_, _, _, hb, by decide⟩), hq.far hg9 hfar, hf.late hg9 (fun k e => by simp at e; omega) hlew⟩

abbrev opv (o : TOp) : Value := .agg #[.int .i64 o.kind, .int .i64 o.id, .int .u64 o.time]
def OpWf (o : TOp) : Prop := (Lit.int .i64 o.kind).wf = true ∧ (Lit.int .i64 o.id).wf = true ∧ (Lit.int .u64 o.time).wf = true

set_option maxRecDepth 100000 in
set_option maxHeartbeats 1000000 in
theorem carry_set {w : World} {B q mb : Nat} {now : Int} {l : List Tm} (h : QH w B q mb now l) (x t : Int) (wx : (Lit.int .i64 x).wf = true) :
    Calls Try.prog 18 #[.pointer (some ⟨q, 0, none⟩), .agg #[.int .i64 1, .int .i64 x, .int .u64 t]] w (OpPost w B q mb (stepN now ⟨1, x, t⟩) (stepL l now ⟨1, x, t⟩) (stepR l now ⟨1, x, t⟩)) := by
  obtain ⟨W1, hW1⟩ : ∃ W1, W1 = (w.alloc (.cells #[.int .i64 1, .int .i64 x, .int .u64 t] 33)).alloc zrep := ⟨_, rfl⟩
  obtain ⟨R, hR⟩ : ∃ R, R = w.heap.size + 1 := ⟨_, rfl⟩
  have hbl : Below w.heap.size w W1 := by rw [hW1]; go_grown
  have hbR : W1.heap[R]? = some zrep := by
    rw [hW1, hR]
    have := heap_alloc_new (w.alloc (.cells #[.int .i64 1, .int .i64 x, .int .u64 t] 33)) zrep
    simpa using this
  have hlew := h.le
  have hF : Fr B w W1 := Fr.of_below hbl hlew
  have hRk : w.heap.size ≤ R := by omega
  have HC := Lib.hid (set_all (h.below hbl) x t wx)
  have HW := Lib.hid hW1
  have HR := Lib.hid hR
  have HF := Lib.hid hF
  have HB := Lib.hid hbR
  clear h hW1 hR hF hbR hbl
  generalize stepN now ⟨1, x, t⟩ = sN at *
  generalize stepL l now ⟨1, x, t⟩ = sL at *
  generalize stepR l now ⟨1, x, t⟩ = sR at *
  go_enter Try.func18, Try.ntmps18
  go_wp2_with (go_at_call 20; rw [← HW.out]; ((with_reducible refine HC.out.mono ?_); rintro e w1 ⟨v, rfl, hr1, hq1, hf1⟩; obtain ⟨f, rfl, hrow⟩ := hr1; obtain ⟨A, cp, rfl⟩ := own_shape hrow; have RP := Lib.hid (show RepAt w1 B _ _ from ⟨_, rfl, hrow⟩); have Q1 := Lib.hid hq1; have F1 := Lib.hid hf1; have hbR := hf1.keep R _ _ _ HB.out (by decide) (by decide); have r0 := cell_of_row w1 R 0 _ _ _ hbR; have r1 := cell_of_row w1 R 1 _ _ _ hbR; have r2 := cell_of_row w1 R 2 _ _ _ hbR; have z0 : w1.frozen? ⟨R, 0, none⟩ = false := (by simp [World.frozen?, hbR]); have z1 : w1.frozen? ⟨R, 1, none⟩ = false := (by simp [World.frozen?, hbR]); have z2 : w1.frozen? ⟨R, 2, none⟩ = false := (by simp [World.frozen?, hbR]); have BR := Lib.hid hbR; clear hbR hq1 hf1 hrow; rw [← HR.out]))
  have hb9 := res_cells w1 R (.int .i64 sR.code) (.slice A sR.fired.length cp) (.int .u64 sR.time) BR.out
  refine bodyPost_ret (v := .agg #[.int .i64 sR.code, .slice A sR.fired.length cp, .int .u64 sR.time]) (by simp [results, Try.results18, go_sem, cell_of_row _ R 0 _ _ _ hb9, cell_of_row _ R 1 _ _ _ hb9, cell_of_row _ R 2 _ _ _ hb9]) rfl ?_
  exact op_done2 Q1.out RP.out (HF.out.trans F1.out) hlew hRk BR.out

set_option maxRecDepth 100000 in
set_option maxHeartbeats 1000000 in
theorem carry_cancel {w : World} {B q mb : Nat} {now : Int} {l : List Tm} (h : QH w B q mb now l) (x t : Int) (wx : (Lit.int .i64 x).wf = true) :
    Calls Try.prog 18 #[.pointer (some ⟨q, 0, none⟩), .agg #[.int .i64 2, .int .i64 x, .int .u64 t]] w (OpPost w B q mb (stepN now ⟨2, x, t⟩) (stepL l now ⟨2, x, t⟩) (stepR l now ⟨2, x, t⟩)) := by
  obtain ⟨W1, hW1⟩ : ∃ W1, W1 = (w.alloc (.cells #[.int .i64 2, .int .i64 x, .int .u64 t] 33)).alloc zrep := ⟨_, rfl⟩
  obtain ⟨R, hR⟩ : ∃ R, R = w.heap.size + 1 := ⟨_, rfl⟩
  have hbl : Below w.heap.size w W1 := by rw [hW1]; go_grown
  have hbR : W1.heap[R]? = some zrep := by
    rw [hW1, hR]
    have := heap_alloc_new (w.alloc (.cells #[.int .i64 2, .int .i64 x, .int .u64 t] 33)) zrep
    simpa using this
  have hlew := h.le
  have hF : Fr B w W1 := Fr.of_below hbl hlew
  have hRk : w.heap.size ≤ R := by omega
  have HC := Lib.hid (cancel_all (h.below hbl) x t wx)
  have HW := Lib.hid hW1
  have HR := Lib.hid hR
  have HF := Lib.hid hF
  have HB := Lib.hid hbR
  clear h hW1 hR hF hbR hbl
  generalize stepN now ⟨2, x, t⟩ = sN at *
  generalize stepL l now ⟨2, x, t⟩ = sL at *
  generalize stepR l now ⟨2, x, t⟩ = sR at *
  go_enter Try.func18, Try.ntmps18
  go_wp2_with (go_at_call 21; rw [← HW.out]; ((with_reducible refine HC.out.mono ?_); rintro e w1 ⟨v, rfl, hr1, hq1, hf1⟩; obtain ⟨f, rfl, hrow⟩ := hr1; obtain ⟨A, cp, rfl⟩ := own_shape hrow; have RP := Lib.hid (show RepAt w1 B _ _ from ⟨_, rfl, hrow⟩); have Q1 := Lib.hid hq1; have F1 := Lib.hid hf1; have hbR := hf1.keep R _ _ _ HB.out (by decide) (by decide); have r0 := cell_of_row w1 R 0 _ _ _ hbR; have r1 := cell_of_row w1 R 1 _ _ _ hbR; have r2 := cell_of_row w1 R 2 _ _ _ hbR; have z0 : w1.frozen? ⟨R, 0, none⟩ = false := (by simp [World.frozen?, hbR]); have z1 : w1.frozen? ⟨R, 1, none⟩ = false := (by simp [World.frozen?, hbR]); have z2 : w1.frozen? ⟨R, 2, none⟩ = false := (by simp [World.frozen?, hbR]); have BR := Lib.hid hbR; clear hbR hq1 hf1 hrow; rw [← HR.out]))
  have hb9 := res_cells w1 R (.int .i64 sR.code) (.slice A sR.fired.length cp) (.int .u64 sR.time) BR.out
  refine bodyPost_ret (v := .agg #[.int .i64 sR.code, .slice A sR.fired.length cp, .int .u64 sR.time]) (by simp [results, Try.results18, go_sem, cell_of_row _ R 0 _ _ _ hb9, cell_of_row _ R 1 _ _ _ hb9, cell_of_row _ R 2 _ _ _ hb9]) rfl ?_
  exact op_done2 Q1.out RP.out (HF.out.trans F1.out) hlew hRk BR.out

set_option maxRecDepth 100000 in
set_option maxHeartbeats 1000000 in
theorem carry_advance {w : World} {B q mb : Nat} {now : Int} {l : List Tm} (h : QH w B q mb now l) (x t : Int) :
    Calls Try.prog 18 #[.pointer (some ⟨q, 0, none⟩), .agg #[.int .i64 3, .int .i64 x, .int .u64 t]] w (OpPost w B q mb (stepN now ⟨3, x, t⟩) (stepL l now ⟨3, x, t⟩) (stepR l now ⟨3, x, t⟩)) := by
  obtain ⟨W1, hW1⟩ : ∃ W1, W1 = (w.alloc (.cells #[.int .i64 3, .int .i64 x, .int .u64 t] 33)).alloc zrep := ⟨_, rfl⟩
  obtain ⟨R, hR⟩ : ∃ R, R = w.heap.size + 1 := ⟨_, rfl⟩
  have hbl : Below w.heap.size w W1 := by rw [hW1]; go_grown
  have hbR : W1.heap[R]? = some zrep := by
    rw [hW1, hR]
    have := heap_alloc_new (w.alloc (.cells #[.int .i64 3, .int .i64 x, .int .u64 t] 33)) zrep
    simpa using this
  have hlew := h.le
  have hF : Fr B w W1 := Fr.of_below hbl hlew
  have hRk : w.heap.size ≤ R := by omega
  have HC := Lib.hid (advance_all (h.below hbl) x t)
  have HW := Lib.hid hW1
  have HR := Lib.hid hR
  have HF := Lib.hid hF
  have HB := Lib.hid hbR
  clear h hW1 hR hF hbR hbl
  generalize stepN now ⟨3, x, t⟩ = sN at *
  generalize stepL l now ⟨3, x, t⟩ = sL at *
  generalize stepR l now ⟨3, x, t⟩ = sR at *
  go_enter Try.func18, Try.ntmps18
  go_wp2_with (go_at_call 22; rw [← HW.out]; ((with_reducible refine HC.out.mono ?_); rintro e w1 ⟨v, rfl, hr1, hq1, hf1⟩; obtain ⟨f, rfl, hrow⟩ := hr1; obtain ⟨A, cp, rfl⟩ := own_shape hrow; have RP := Lib.hid (show RepAt w1 B _ _ from ⟨_, rfl, hrow⟩); have Q1 := Lib.hid hq1; have F1 := Lib.hid hf1; have hbR := hf1.keep R _ _ _ HB.out (by decide) (by decide); have r0 := cell_of_row w1 R 0 _ _ _ hbR; have r1 := cell_of_row w1 R 1 _ _ _ hbR; have r2 := cell_of_row w1 R 2 _ _ _ hbR; have z0 : w1.frozen? ⟨R, 0, none⟩ = false := (by simp [World.frozen?, hbR]); have z1 : w1.frozen? ⟨R, 1, none⟩ = false := (by simp [World.frozen?, hbR]); have z2 : w1.frozen? ⟨R, 2, none⟩ = false := (by simp [World.frozen?, hbR]); have BR := Lib.hid hbR; clear hbR hq1 hf1 hrow; rw [← HR.out]))
  have hb9 := res_cells w1 R (.int .i64 sR.code) (.slice A sR.fired.length cp) (.int .u64 sR.time) BR.out
  refine bodyPost_ret (v := .agg #[.int .i64 sR.code, .slice A sR.fired.length cp, .int .u64 sR.time]) (by simp [results, Try.results18, go_sem, cell_of_row _ R 0 _ _ _ hb9, cell_of_row _ R 1 _ _ _ hb9, cell_of_row _ R 2 _ _ _ hb9]) rfl ?_
  exact op_done2 Q1.out RP.out (HF.out.trans F1.out) hlew hRk BR.out

set_option maxRecDepth 100000 in
set_option maxHeartbeats 1000000 in
theorem carry_next {w : World} {B q mb : Nat} {now : Int} {l : List Tm} (h : QH w B q mb now l) (x t : Int) :
    Calls Try.prog 18 #[.pointer (some ⟨q, 0, none⟩), .agg #[.int .i64 4, .int .i64 x, .int .u64 t]] w (OpPost w B q mb (stepN now ⟨4, x, t⟩) (stepL l now ⟨4, x, t⟩) (stepR l now ⟨4, x, t⟩)) := by
  obtain ⟨W1, hW1⟩ : ∃ W1, W1 = (w.alloc (.cells #[.int .i64 4, .int .i64 x, .int .u64 t] 33)).alloc zrep := ⟨_, rfl⟩
  obtain ⟨R, hR⟩ : ∃ R, R = w.heap.size + 1 := ⟨_, rfl⟩
  have hbl : Below w.heap.size w W1 := by rw [hW1]; go_grown
  have hbR : W1.heap[R]? = some zrep := by
    rw [hW1, hR]
    have := heap_alloc_new (w.alloc (.cells #[.int .i64 4, .int .i64 x, .int .u64 t] 33)) zrep
    simpa using this
  have hlew := h.le
  have hF : Fr B w W1 := Fr.of_below hbl hlew
  have hRk : w.heap.size ≤ R := by omega
  have HC := Lib.hid (next_all (h.below hbl) x t)
  have HW := Lib.hid hW1
  have HR := Lib.hid hR
  have HF := Lib.hid hF
  have HB := Lib.hid hbR
  clear h hW1 hR hF hbR hbl
  generalize stepN now ⟨4, x, t⟩ = sN at *
  generalize stepL l now ⟨4, x, t⟩ = sL at *
  generalize stepR l now ⟨4, x, t⟩ = sR at *
  go_enter Try.func18, Try.ntmps18
  go_wp2_with (go_at_call 23; rw [← HW.out]; ((with_reducible refine HC.out.mono ?_); rintro e w1 ⟨v, rfl, hr1, hq1, hf1⟩; obtain ⟨f, rfl, hrow⟩ := hr1; obtain ⟨A, cp, rfl⟩ := own_shape hrow; have RP := Lib.hid (show RepAt w1 B _ _ from ⟨_, rfl, hrow⟩); have Q1 := Lib.hid hq1; have F1 := Lib.hid hf1; have hbR := hf1.keep R _ _ _ HB.out (by decide) (by decide); have r0 := cell_of_row w1 R 0 _ _ _ hbR; have r1 := cell_of_row w1 R 1 _ _ _ hbR; have r2 := cell_of_row w1 R 2 _ _ _ hbR; have z0 : w1.frozen? ⟨R, 0, none⟩ = false := (by simp [World.frozen?, hbR]); have z1 : w1.frozen? ⟨R, 1, none⟩ = false := (by simp [World.frozen?, hbR]); have z2 : w1.frozen? ⟨R, 2, none⟩ = false := (by simp [World.frozen?, hbR]); have BR := Lib.hid hbR; clear hbR hq1 hf1 hrow; rw [← HR.out]))
  have hb9 := res_cells w1 R (.int .i64 sR.code) (.slice A sR.fired.length cp) (.int .u64 sR.time) BR.out
  refine bodyPost_ret (v := .agg #[.int .i64 sR.code, .slice A sR.fired.length cp, .int .u64 sR.time]) (by simp [results, Try.results18, go_sem, cell_of_row _ R 0 _ _ _ hb9, cell_of_row _ R 1 _ _ _ hb9, cell_of_row _ R 2 _ _ _ hb9]) rfl ?_
  exact op_done2 Q1.out RP.out (HF.out.trans F1.out) hlew hRk BR.out


set_option maxRecDepth 100000 in
set_option maxHeartbeats 1000000 in
theorem carry_bad {w : World} {B q mb : Nat} {now : Int} {l : List Tm} (h : QH w B q mb now l) (k x t : Int) (h1 : k ≠ 1) (h2 : k ≠ 2) (h3 : k ≠ 3) (h4 : k ≠ 4) :
    Calls Try.prog 18 #[.pointer (some ⟨q, 0, none⟩), .agg #[.int .i64 k, .int .i64 x, .int .u64 t]] w (OpPost w B q mb now l ⟨3, [], 0⟩) := by
  have e1 : (k == 1) = false := beq_eq_false_iff_ne.2 h1
  have e2 : (k == 2) = false := beq_eq_false_iff_ne.2 h2
  have e3 : (k == 3) = false := beq_eq_false_iff_ne.2 h3
  have e4 : (k == 4) = false := beq_eq_false_iff_ne.2 h4
  have H := Lib.hid h
  clear h h1 h2 h3 h4
  go_enter Try.func18, Try.ntmps18
  go_wp2_with fail
  go_returns
  have hb : ∀ o1 o2, Below w.heap.size w ((w.alloc o1).alloc o2) := fun o1 o2 => by go_grown
  exact ⟨_, rfl, RepAt.none_ _ _ _ _, H.out.below (hb _ _), Fr.of_below (hb _ _) H.out.le⟩

theorem carry_any {w : World} {B q mb : Nat} {now : Int} {l : List Tm} (h : QH w B q mb now l) (o : TOp) (wx : (Lit.int .i64 o.id).wf = true) :
    Calls Try.prog 18 #[.pointer (some ⟨q, 0, none⟩), .agg #[.int .i64 o.kind, .int .i64 o.id, .int .u64 o.time]] w (OpPost w B q mb (stepN now o) (stepL l now o) (stepR l now o)) := by
  obtain ⟨k, x, t⟩ := o
  by_cases h1 : k = 1
  · subst h1; exact carry_set h x t wx
  by_cases h2 : k = 2
  · subst h2; exact carry_cancel h x t wx
  by_cases h3 : k = 3
  · subst h3; exact carry_advance h x t
  by_cases h4 : k = 4
  · subst h4; exact carry_next h x t
  have eN : stepN now ⟨k, x, t⟩ = now := by simp [stepN, h3]
  have eL : stepL l now ⟨k, x, t⟩ = l := by simp [stepL, h1, h2, h3]
  have eR : stepR l now ⟨k, x, t⟩ = ⟨3, [], 0⟩ := by simp [stepR, h1, h2, h3, h4]
  rw [eN, eL, eR]
  exact carry_bad h k x t h1 h2 h3 h4

end Go.Proofs.Ytbhakpkdkeacmaa.Tq
