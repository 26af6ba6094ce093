/-
  The contracts of the queue's cancel and set.
-/
import Derived.Test.YtbhakpkdkeacmaaTqAdv
namespace Go.Proofs.Ytbhakpkdkeacmaa.Tq
open Go.RowKit Go.Maps

theorem Placed.has_mem {ts : List Tm} {D : DataW Unit} (h : Placed ts D) (x : Int) : has D (.int .i64 x) = mem ts x := by
  cases e : mem ts x with
  | false => exact h.away x (mem_false.1 e)
  | true =>
    obtain ⟨t, ht, rfl⟩ := mem_iff.1 e
    obtain ⟨k, hk⟩ := List.getElem?_of_mem ht
    exact (h.here k t hk).1
/-- Where a timer that waits is. -/
theorem Placed.spot {ts : List Tm} {D : DataW Unit} (h : Placed ts D) {x : Int} (hx : mem ts x = true) : ∃ i, i < ts.length ∧ (at_ ts i).1 = x ∧ ∀ z, D.atKey (.int .i64 x) z = .lit (.int .i64 i) := by
  obtain ⟨t, ht, rfl⟩ := mem_iff.1 hx
  obtain ⟨k, hk⟩ := List.getElem?_of_mem ht
  exact ⟨k, (List.getElem?_eq_some_iff.1 hk).1, by rw [at_of hk], (h.here k t hk).2⟩
abbrev zrep : Obj := .cells #[.int .i64 0, .slice none 0 0, .int .u64 0] 39
theorem take_post {ts l : List Tm} {i : Nat} (hp : ts.Perm l) (hn : Nd ts) {ts' : List Tm} (h : (ts' ++ [at_ ts i]).Perm ts) : ts'.Perm (rem l (at_ ts i).1) := by
  have h1 : ts.Perm (at_ ts i :: ts') := h.symm.trans (List.perm_append_comm (l₁ := ts') (l₂ := [at_ ts i]))
  exact (rem_perm hn h1).symm.trans (hp.filter _)

theorem cancel_none {w : World} {B q mb : Nat} {now : Int} {l : List Tm} (h : QH w B q mb now l) (x : Int) (wx : (Lit.int .i64 x).wf = true) (hm : mem l x = false) :
    Calls Try.prog 21 #[.pointer (some ⟨q, 0, none⟩), .int .i64 x] w (OpPost w B q mb now l ⟨4, [], 0⟩) := by
  obtain ⟨ts, ⟨V, D, h1, h2⟩, h3⟩ := h
  have hhas : has D (.int .i64 x) = false := by rw [h2.has_mem, mem_perm h3.2.1]; exact hm
  have hkey := keyOf_int_mk Try.underlying3 wx
  have hbl := (Below.refl w.heap.size w).alloc (Nat.le_refl _) zrep
  have q1 := h1.below hbl
  have c2 := h1.c2
  have hq := h1.lt
  have hle := h1.le
  have H2 := Lib.hid h2
  have H3 := Lib.hid h3
  have Q1 := Lib.hid q1
  have H1 := Lib.hid h1
  clear h1 h2 h3 hbl q1
  go_enter Try.func21, Try.ntmps21
  go_wp2_with (at_lookup; refine wpList_lookup_own_ok_int _ rfl _ _ 46 rfl 3 3 .i64 law3 Try.underlying46 Try.underlying3 (zero3 _) mb _ D rfl Q1.out.mp _ _ rfl hkey ?_; intro c hat hwc)
  go_returns
  have hb : ∀ o, Below w.heap.size w (w.alloc o) := fun o => (Below.refl _ _).alloc (Nat.le_refl _) _
  exact ⟨_, rfl, RepAt.none_ _ _ _ _, ⟨ts, ⟨V, D, H1.out.below (hb _), H2.out⟩, H3.out⟩, Fr.of_below (hb _) hle⟩

theorem op_done {w w1 : World} {B q mb : Nat} {now : Int} {ts' l' : List Tm} {R : Nat} {x y z : Value} (hq : QS w1 B q mb now ts') (hh : Heap ts') (hp : ts'.Perm l') (hl : ts'.length ≤ 256) (hf : Fr B w w1) (hlew : B ≤ w.heap.size) (hR : w.heap.size ≤ R)
    (hb : w1.heap[R]? = some (.cells #[x, y, z] 39 (0, 0))) (code : Int) :
    OpPost w B q mb now l' ⟨code, [], 0⟩ (.returned (.agg #[.int .i64 code, .slice none 0 0, .int .u64 0])) (((w1.setCell ⟨R, 0, none⟩ (.int .i64 code)).setCell ⟨R, 1, none⟩ (.slice none 0 0)).setCell ⟨R, 2, none⟩ (.int .u64 0)) := by
  have hg9 := res_grown w1 R (.int .i64 code) (.slice none 0 0) (.int .u64 0)
  have hfar : ∀ k, some R = some k → ∃ cs t f, w1.heap[k]? = some (.cells cs t f) ∧ t ≠ 49 ∧ t ≠ 68 := fun k e => by
    have e : R = k := by simpa using e
    subst e
    exact ⟨_, _, _, hb, by decide, by decide⟩
  exact ⟨_, rfl, RepAt.none_ _ _ _ _, ⟨ts', hq.far hg9 hfar, hh, hp, hl⟩, hf.late hg9 (fun k e => by simp at e; omega) hlew⟩

set_option maxHeartbeats 1000000 in
theorem cancel_one {w : World} {B q mb : Nat} {now : Int} {l : List Tm} (h : QH w B q mb now l) (x : Int) (wx : (Lit.int .i64 x).wf = true) (hm : mem l x = true) :
    Calls Try.prog 21 #[.pointer (some ⟨q, 0, none⟩), .int .i64 x] w (OpPost w B q mb now (rem l x) ⟨0, [], 0⟩) := by
  obtain ⟨ts, ⟨V, D, h1, h2⟩, hh, hpl, hln⟩ := h
  have hmt : mem ts x = true := by rw [mem_perm hpl]; exact hm
  obtain ⟨i, hi, rfl, hat0⟩ := h2.spot hmt
  have hhas : has D (.int .i64 (at_ ts i).1) = true := by rw [h2.has_mem]; exact hmt
  have hkey := keyOf_int_mk Try.underlying3 wx
  have hnd := h2.nd
  obtain ⟨W1, hW1⟩ : ∃ W1, W1 = w.alloc zrep := ⟨_, rfl⟩
  obtain ⟨R, hR⟩ : ∃ R, R = w.heap.size := ⟨_, rfl⟩
  have hbl : Below w.heap.size w W1 := by rw [hW1]; exact (Below.refl w.heap.size w).alloc (Nat.le_refl _) zrep
  have q1 := h1.below hbl
  have hF : Fr B w W1 := Fr.of_below hbl h1.le
  have hbR : W1.heap[R]? = some zrep := by rw [hW1, hR]; exact heap_alloc_new w _
  have hlew := h1.le
  have hRk : ∀ k, some R = some k → w.heap.size ≤ k := fun k e => by simp at e; omega
  have c2 := h1.c2
  have hq := h1.lt
  have AT := Lib.hid (hat0 (.lit (.int .i64 0)))
  have HW := Lib.hid hW1
  have HR := Lib.hid hR
  have HT := Lib.hid (take_any (i := i) (show QS W1 B q mb now ts from ⟨V, D, q1, h2⟩) hh (by omega) hi)
  have TP := Lib.hid (fun (ts' : List Tm) (hp : (ts' ++ [at_ ts i]).Perm ts) => take_post hpl hnd hp)
  have Q1 := Lib.hid q1
  have HF := Lib.hid hF
  have HB := Lib.hid hbR
  have HX := Lib.hid (rfl : (at_ ts i).1 = (at_ ts i).1)
  have LN := Lib.hid hln
  clear h1 h2 hh hpl hln hbl q1 hF hbR hmt hm hat0 hnd hW1 hR
  go_enter Try.func21, Try.ntmps21
  go_wp2_with (first
    | (at_lookup; rw [← HW.out, ← HR.out]; refine wpList_lookup_own_ok_int _ rfl _ _ 46 rfl 3 3 .i64 law3 Try.underlying46 Try.underlying3 (zero3 _) mb _ D rfl Q1.out.mp _ _ rfl hkey ?_; intro c hat hwc; have hci : c = (i : Int) := (by have := hat.symm.trans AT.out; injection this with this; injection this); clear hat; subst hci)
    | (go_at_call 30; ((with_reducible refine HT.out.mono ?_); rintro e w1 ⟨rfl, ts', hq1, hh1, hp1, hf1⟩; have Q2 := Lib.hid hq1; have H2 := Lib.hid hh1; have P1 := Lib.hid hp1; have F1 := Lib.hid hf1; have hbR := hf1.keep R _ _ _ HB.out (by decide) (by decide); have r0 := cell_of_row w1 R 0 _ _ _ hbR; have r1 := cell_of_row w1 R 1 _ _ _ hbR; have r2 := cell_of_row w1 R 2 _ _ _ hbR; have z0 : w1.frozen? ⟨R, 0, none⟩ = false := (by simp [World.frozen?, hbR]); have z1 : w1.frozen? ⟨R, 1, none⟩ = false := (by simp [World.frozen?, hbR]); have z2 : w1.frozen? ⟨R, 2, none⟩ = false := (by simp [World.frozen?, hbR]); have BR := Lib.hid hbR; clear hbR hq1 hh1 hp1 hf1)))
  have hb9 := res_cells w1 R (.int .i64 0) (.slice none 0 0) (.int .u64 0) BR.out
  refine bodyPost_ret (v := .agg #[.int .i64 0, .slice none 0 0, .int .u64 0]) (by simp [results, Try.results21, go_sem, cell_of_row _ R 0 _ _ _ hb9, cell_of_row _ R 1 _ _ _ hb9, cell_of_row _ R 2 _ _ _ hb9]) rfl ?_
  exact op_done Q2.out H2.out (TP.out _ P1.out) (by have h8 := P1.out.length_eq; have h9 := LN.out; simp at h8; omega) (HF.out.trans F1.out) hlew (hRk _ rfl) BR.out 0

theorem set_neg {w : World} {B q mb : Nat} {now : Int} {l : List Tm} (h : QH w B q mb now l) (x t : Int) (wx : (Lit.int .i64 x).wf = true) (hx : x < 0) :
    Calls Try.prog 20 #[.pointer (some ⟨q, 0, none⟩), .int .i64 x, .int .u64 t] w (OpPost w B q mb now l ⟨2, [], 0⟩) := by
  obtain ⟨ts, ⟨V, D, h1, h2⟩, h3⟩ := h
  have hkey := keyOf_int_mk Try.underlying3 wx
  have hbl := (Below.refl w.heap.size w).alloc (Nat.le_refl _) zrep
  have q1 := h1.below hbl
  have c2 := h1.c2
  have hq := h1.lt
  have hle := h1.le
  have H2 := Lib.hid h2
  have H3 := Lib.hid h3
  have Q1 := Lib.hid q1
  have H1 := Lib.hid h1
  clear h1 h2 h3 hbl q1
  obtain ⟨hh, hhas⟩ : ∃ b, has D (.int .i64 x) = b := ⟨_, rfl⟩
  go_enter Try.func20, Try.ntmps20
  go_wp2_with (at_lookup; refine wpList_lookup_own_ok_int _ rfl _ _ 46 rfl 3 3 .i64 law3 Try.underlying46 Try.underlying3 (zero3 _) mb _ D rfl Q1.out.mp _ _ rfl hkey ?_; intro c hat hwc)
  go_returns
  have hb : ∀ o, Below w.heap.size w (w.alloc o) := fun o => (Below.refl _ _).alloc (Nat.le_refl _) _
  exact ⟨_, rfl, RepAt.none_ _ _ _ _, ⟨ts, ⟨V, D, H1.out.below (hb _), H2.out⟩, H3.out⟩, Fr.of_below (hb _) hle⟩

theorem set_full {w : World} {B q mb : Nat} {now : Int} {l : List Tm} (h : QH w B q mb now l) (x t : Int) (wx : (Lit.int .i64 x).wf = true) (hx : 0 ≤ x) (hm : mem l x = false) (hl : 256 ≤ l.length) :
    Calls Try.prog 20 #[.pointer (some ⟨q, 0, none⟩), .int .i64 x, .int .u64 t] w (OpPost w B q mb now l ⟨1, [], 0⟩) := by
  obtain ⟨ts, ⟨V, D, h1, h2⟩, h3⟩ := h
  have hhas : has D (.int .i64 x) = false := by rw [h2.has_mem, mem_perm h3.2.1]; exact hm
  have hkey := keyOf_int_mk Try.underlying3 wx
  have hbl := (Below.refl w.heap.size w).alloc (Nat.le_refl _) zrep
  have q1 := h1.below hbl
  have c2 := h1.c2
  have hq := h1.lt
  have hle := h1.le
  have hlen : (256 : Int) ≤ (ts.length : Int) := by have := h3.2.1.length_eq; omega
  have HL := Lib.hid (len_any q1)
  have H2 := Lib.hid h2
  have H3 := Lib.hid h3
  have Q1 := Lib.hid q1
  have H1 := Lib.hid h1
  clear h1 h2 h3 hbl q1
  go_enter Try.func20, Try.ntmps20
  go_wp2_with (first
    | (at_lookup; refine wpList_lookup_own_ok_int _ rfl _ _ 46 rfl 3 3 .i64 law3 Try.underlying46 Try.underlying3 (zero3 _) mb _ D rfl Q1.out.mp _ _ rfl hkey ?_; intro c hat hwc)
    | (go_at_call 28; ((with_reducible refine HL.out.mono ?_); rintro e w' ⟨rfl, rfl⟩)))
  go_returns
  have hb : ∀ o, Below w.heap.size w (w.alloc o) := fun o => (Below.refl _ _).alloc (Nat.le_refl _) _
  exact ⟨_, rfl, RepAt.none_ _ _ _ _, ⟨ts, ⟨V, D, H1.out.below (hb _), H2.out⟩, H3.out⟩, Fr.of_below (hb _) hle⟩

set_option maxRecDepth 100000 in
set_option maxHeartbeats 1000000 in
theorem set_new {w : World} {B q mb : Nat} {now : Int} {l : List Tm} (h : QH w B q mb now l) (x t : Int) (wx : (Lit.int .i64 x).wf = true) (hx : 0 ≤ x) (hm : mem l x = false) (hl : ¬ 256 ≤ l.length) :
    Calls Try.prog 20 #[.pointer (some ⟨q, 0, none⟩), .int .i64 x, .int .u64 t] w (OpPost w B q mb now (l ++ [(x, t)]) ⟨0, [], 0⟩) := by
  obtain ⟨ts, ⟨V, D, h1, h2⟩, hh, hpl, hln⟩ := h
  have hhas : has D (.int .i64 x) = false := by rw [h2.has_mem, mem_perm hpl]; exact hm
  have hkey := keyOf_int_mk Try.underlying3 wx
  obtain ⟨W1, hW1⟩ : ∃ W1, W1 = w.alloc zrep := ⟨_, rfl⟩
  obtain ⟨R, hR⟩ : ∃ R, R = w.heap.size := ⟨_, rfl⟩
  have hbl : Below w.heap.size w W1 := by rw [hW1]; exact (Below.refl w.heap.size w).alloc (Nat.le_refl _) zrep
  have q1 := h1.below hbl
  have hF : Fr B w W1 := Fr.of_below hbl h1.le
  have hbR : W1.heap[R]? = some zrep := by rw [hW1, hR]; exact heap_alloc_new w _
  have hlew := h1.le
  have hRk : ∀ k, some R = some k → w.heap.size ≤ k := fun k e => by simp at e; omega
  have c2 := h1.c2
  have hq := h1.lt
  have hlt : ts.length < 256 := by have := hpl.length_eq; omega
  have hlen : (ts.length : Int) < 256 := by omega
  have HW := Lib.hid hW1
  have HR := Lib.hid hR
  have HL := Lib.hid (len_any q1)
  have HT := Lib.hid (hpush_any (x, t) (show QS W1 B q mb now ts from ⟨V, D, q1, h2⟩) hh (by omega) wx (by rw [← mem_false, mem_perm hpl]; exact hm))
  have TP := Lib.hid (hpl.append_right [(x, t)])
  have Q1 := Lib.hid q1
  have HF := Lib.hid hF
  have HB := Lib.hid hbR
  clear h1 h2 hh hpl hln hbl q1 hF hbR hm hW1 hR
  go_enter Try.func20, Try.ntmps20
  go_wp2_with (first
    | (at_lookup; rw [← HW.out, ← HR.out]; refine wpList_lookup_own_ok_int _ rfl _ _ 46 rfl 3 3 .i64 law3 Try.underlying46 Try.underlying3 (zero3 _) mb _ D rfl Q1.out.mp _ _ rfl hkey ?_; intro c hat hwc)
    | (go_at_call 28; ((with_reducible refine HL.out.mono ?_); rintro e w' ⟨rfl, rfl⟩))
    | (go_at_call 29; ((with_reducible refine HT.out.mono ?_); rintro e w1 ⟨rfl, ts', hq1, hp1, hh1, hf1⟩; have Q2 := Lib.hid hq1; have H2 := Lib.hid hh1; have P1 := Lib.hid hp1; have F1 := Lib.hid hf1; have hbR := hf1.keep R _ _ _ HB.out (by decide) (by decide); have r0 := cell_of_row w1 R 0 _ _ _ hbR; have r1 := cell_of_row w1 R 1 _ _ _ hbR; have r2 := cell_of_row w1 R 2 _ _ _ hbR; have z0 : w1.frozen? ⟨R, 0, none⟩ = false := (by simp [World.frozen?, hbR]); have z1 : w1.frozen? ⟨R, 1, none⟩ = false := (by simp [World.frozen?, hbR]); have z2 : w1.frozen? ⟨R, 2, none⟩ = false := (by simp [World.frozen?, hbR]); have BR := Lib.hid hbR; clear hbR; clear hq1 hh1 hp1 hf1)))
  have hb9 := res_cells w1 R (.int .i64 0) (.slice none 0 0) (.int .u64 0) BR.out
  refine bodyPost_ret (v := .agg #[.int .i64 0, .slice none 0 0, .int .u64 0]) (by simp [results, Try.results20, go_sem, cell_of_row _ R 0 _ _ _ hb9, cell_of_row _ R 1 _ _ _ hb9, cell_of_row _ R 2 _ _ _ hb9]) rfl ?_
  exact op_done Q2.out H2.out (P1.out.trans TP.out) (by have := P1.out.length_eq; simp at this; omega) (HF.out.trans F1.out) hlew (hRk _ rfl) BR.out 0

/-- The time of a timer in the row is set. -/
theorem flat_time {ts : List Tm} {i : Nat} (hi : i < ts.length) (y : Int) : (flat ts).set (i * 2 + 1) (.int .u64 y) = flat (ts.set i ((at_ ts i).1, y)) := by
  rw [flat_set]
  have h := (flat_at ts i _ (at_some hi)).1
  have e : (flat ts).set (i * 2) (.int .i64 (at_ ts i).1) = flat ts := by
    apply List.ext_getElem?
    intro k
    rw [List.getElem?_set]
    split
    · rename_i e; subst e; rw [h]; rw [if_pos (List.getElem?_eq_some_iff.1 h).1]
    · rfl
  rw [e]
theorem qm_time {w : World} {B q mb : Nat} {now : Int} {ts : List Tm} {D : DataW Unit} {g cap : Nat} (h : QM w B q mb now (.slice (some ⟨g, 0, none⟩) ts.length cap) ts D) {i : Nat} (hi : i < ts.length) (y : Int) :
    QM (w.setCell ⟨g, i * 2 + 1, none⟩ (.int .u64 y)) B q mb now (.slice (some ⟨g, 0, none⟩) ts.length cap) (ts.set i ((at_ ts i).1, y)) D ∧ Fr B w (w.setCell ⟨g, i * 2 + 1, none⟩ (.int .u64 y)) := by
  obtain ⟨n1, n2, n3⟩ := h.gne (by omega)
  have r1 := (h.row.stored (i * 2 + 1) (.int .u64 y)).1
  rw [flat_time hi] at r1
  obtain ⟨g', cap', hv, hb, _, _, _, cur, hg⟩ := h.form (by omega)
  simp only [Value.slice.injEq, Option.some.injEq, Addr.mk.injEq, and_true, true_and] at hv
  obtain ⟨rfl, rfl⟩ := hv
  refine ⟨⟨?_, by rw [List.length_set]; exact r1, h.mp.setCell (by simpa using Ne.symm n2) _, h.bq, h.bm, ?_⟩, Fr.of_setCell (p := ⟨g, i * 2 + 1, none⟩) hg hb (.inr rfl)⟩
  · rw [Below.heap_setCell _ _ _ _ (by simpa using Ne.symm n1)]; exact h.st
  · intro x hx
    rcases List.mem_or_eq_of_mem_set hx with hx | rfl
    · exact h.wf x hx
    · exact (h.wf (at_ ts i) (at_mem hi) :)

set_option maxRecDepth 100000 in
set_option maxHeartbeats 1000000 in
theorem set_old {w : World} {B q mb : Nat} {now : Int} {l : List Tm} (h : QH w B q mb now l) (x t : Int) (wx : (Lit.int .i64 x).wf = true) (hx : 0 ≤ x) (hm : mem l x = true) :
    Calls Try.prog 20 #[.pointer (some ⟨q, 0, none⟩), .int .i64 x, .int .u64 t] w (OpPost w B q mb now (rem l x ++ [(x, t)]) ⟨0, [], 0⟩) := by
  obtain ⟨ts, ⟨V, D, h1, h2⟩, hh, hpl, hln⟩ := h
  have hmt : mem ts x = true := by rw [mem_perm hpl]; exact hm
  obtain ⟨i, hi, rfl, hat0⟩ := h2.spot hmt
  have hhas : has D (.int .i64 (at_ ts i).1) = true := by rw [h2.has_mem]; exact hmt
  have hkey := keyOf_int_mk Try.underlying3 wx
  have hnd := h2.nd
  obtain ⟨W1, hW1⟩ : ∃ W1, W1 = w.alloc zrep := ⟨_, rfl⟩
  obtain ⟨R, hR⟩ : ∃ R, R = w.heap.size := ⟨_, rfl⟩
  have hbl : Below w.heap.size w W1 := by rw [hW1]; exact (Below.refl w.heap.size w).alloc (Nat.le_refl _) zrep
  have q1 := h1.below hbl
  have hF : Fr B w W1 := Fr.of_below hbl h1.le
  have hbR : W1.heap[R]? = some zrep := by rw [hW1, hR]; exact heap_alloc_new w _
  have hlew := h1.le
  have hRk : ∀ k, some R = some k → w.heap.size ≤ k := fun k e => by simp at e; omega
  obtain ⟨g, cap, rfl, hBg, hg, hc, hcm, _⟩ := h1.form (by omega)
  have hcm' : cap ≤ 9223372036854775807 := by unfold maxLen at hcm; omega
  have c2 := h1.c2
  have hq := h1.lt
  obtain ⟨W2, hW2⟩ : ∃ W2, W2 = W1.setCell ⟨g, i * 2 + 1, none⟩ (.int .u64 t) := ⟨_, rfl⟩
  obtain ⟨hq2, hf2⟩ := qm_time q1 hi t
  rw [← hW2] at hq2 hf2
  have d1 := q1.c1
  have d2 := (q1.at_ (at_some hi)).2
  have d3 := q1.fzr (i * 2 + 1)
  have AT := Lib.hid (hat0 (.lit (.int .i64 0)))
  have HW := Lib.hid hW1
  have HW2 := Lib.hid hW2
  have HR := Lib.hid hR
  have HT := Lib.hid (fix_any (i := i) (show QS W2 B q mb now (ts.set i ((at_ ts i).1, t)) from ⟨_, D, hq2, h2.time hi t⟩) (by simp; omega) (by simpa using hi) (hh.change hi _))
  have hset := Go.ChangeMaps.set_perm ts i hi ((at_ ts i).1, t)
  have hps : (ts.set i ((at_ ts i).1, t)).Perm (rem l (at_ ts i).1 ++ [((at_ ts i).1, t)]) := by
    have e2 : ts.Perm (at_ ts i :: ts.eraseIdx i) := by
      have := Go.ChangeMaps.set_perm ts i hi (at_ ts i)
      rwa [show ts.set i (at_ ts i) = ts from ?_] at this
      apply List.ext_getElem?
      intro k
      rw [List.getElem?_set]
      split
      · rename_i h; subst h; exact (at_some hi).symm
      · rfl
    have e3 := (rem_perm hnd e2).symm.trans (hpl.filter _)
    exact (hset.trans (e3.cons _)).trans (List.perm_append_comm (l₁ := [((at_ ts i).1, t)]) (l₂ := rem l (at_ ts i).1))
  have TP := Lib.hid hps
  have Q1 := Lib.hid q1
  have HF := Lib.hid (hF.trans hf2)
  have HB := Lib.hid (hf2.keep R _ _ _ hbR (by decide) (by decide))
  have LN := Lib.hid hln
  clear h1 h2 hh hpl hln hbl q1 hF hbR hmt hm hat0 hnd hW1 hR hW2 hq2 hf2 hset hps
  go_enter Try.func20, Try.ntmps20
  go_wp2_with (first
    | (at_lookup; rw [← HW.out, ← HR.out]; refine wpList_lookup_own_ok_int _ rfl _ _ 46 rfl 3 3 .i64 law3 Try.underlying46 Try.underlying3 (zero3 _) mb _ D rfl Q1.out.mp _ _ rfl hkey ?_; intro c hat hwc; have hci : c = (i : Int) := (by have := hat.symm.trans AT.out; injection this with this; injection this); clear hat; subst hci)
    | (go_at_call 27; rw [← HW2.out]; ((with_reducible refine HT.out.mono ?_); rintro e w1 ⟨rfl, ts', hq1, hp1, hh1, hf1⟩; have Q2 := Lib.hid hq1; have H2 := Lib.hid hh1; have P1 := Lib.hid hp1; have F1 := Lib.hid hf1; have hbR := hf1.keep R _ _ _ HB.out (by decide) (by decide); have r0 := cell_of_row w1 R 0 _ _ _ hbR; have r1 := cell_of_row w1 R 1 _ _ _ hbR; have r2 := cell_of_row w1 R 2 _ _ _ hbR; have z0 : w1.frozen? ⟨R, 0, none⟩ = false := (by simp [World.frozen?, hbR]); have z1 : w1.frozen? ⟨R, 1, none⟩ = false := (by simp [World.frozen?, hbR]); have z2 : w1.frozen? ⟨R, 2, none⟩ = false := (by simp [World.frozen?, hbR]); have BR := Lib.hid hbR; clear hbR; clear hq1 hh1 hp1 hf1)))
  have hb9 := res_cells w1 R (.int .i64 0) (.slice none 0 0) (.int .u64 0) BR.out
  refine bodyPost_ret (v := .agg #[.int .i64 0, .slice none 0 0, .int .u64 0]) (by simp [results, Try.results20, go_sem, cell_of_row _ R 0 _ _ _ hb9, cell_of_row _ R 1 _ _ _ hb9, cell_of_row _ R 2 _ _ _ hb9]) rfl ?_
  exact op_done Q2.out H2.out (P1.out.trans TP.out) (by have h8 := P1.out.length_eq; have h9 := LN.out; simp at h8; omega) (HF.out.trans F1.out) hlew (hRk _ rfl) BR.out 0

end Go.Proofs.Ytbhakpkdkeacmaa.Tq
