/-
  The contract of the queue's advance.
-/
import Derived.Test.YtbhakpkdkeacmaaTqOps
import Derived.Deep.QuietTactic
import Derived.Deep.Onto
namespace Go.Proofs.Ytbhakpkdkeacmaa.Tq
open Go.RowKit Go.Maps

theorem len_q' {w : World} {B q mb : Nat} {now : Int} {ts : List Tm} (h : QS w B q mb now ts) :
    Calls Try.prog 28 #[.pointer (some ⟨q, 0, none⟩)] w fun e w' => e = .returned (.int .i64 ts.length) ∧ w' = w :=
  (len_q h).mono fun _ _ ⟨he, hw⟩ => ⟨he, hw.symm⟩
theorem QS.clock {w : World} {B q mb : Nat} {now : Int} {ts : List Tm} (h : QS w B q mb now ts) (t : Int) : QS (w.setCell ⟨q, 0, none⟩ (.int .u64 t)) B q mb t ts ∧ Fr B w (w.setCell ⟨q, 0, none⟩ (.int .u64 t)) := by
  obtain ⟨V, D, h1, h2⟩ := h
  exact ⟨⟨V, D, (h1.clock t).1, h2⟩, (h1.clock t).2⟩
theorem QS.fz {w : World} {B q mb : Nat} {now : Int} {ts : List Tm} (h : QS w B q mb now ts) : w.frozen? ⟨q, 0, none⟩ = false ∧ q < w.heap.size := by obtain ⟨V, D, h1, h2⟩ := h; exact ⟨h1.fz 0, h1.lt⟩
theorem Try.info3 : (Try.prog.info? 3).map (fun i => (i.zero, i.size, i.bytes)) = some (some (.int .i64 0), 1, 8) := by kernel_rfl

/-- While timers are fired: out is what has been fired. -/
structure Firing (w : World) (B q mb : Nat) (now : Int) (l out ts : List Tm) (v : Value) : Prop where
  qs : QS w B q mb now ts
  hp : Heap ts
  row : w.ownsRow B 3 1 v out.length (out.map (fun t => Value.int .i64 t.1))
  perm : (out ++ ts).Perm l
  srt : Sorted out
  ord : ∀ x ∈ out, ∀ y ∈ ts, tle x y
  due : ∀ x ∈ out, x.2 ≤ now
  len : out.length + ts.length ≤ 256
theorem Firing.step {out ts ts' : List Tm} (hh : Heap ts) (hn : 0 < ts.length) (hs : Sorted out) (ho : ∀ x ∈ out, ∀ y ∈ ts, tle x y) (hp : (ts' ++ [at_ ts 0]).Perm ts) {l : List Tm} (hl : (out ++ ts).Perm l) :
    Sorted (out ++ [at_ ts 0]) ∧ (∀ x ∈ out ++ [at_ ts 0], ∀ y ∈ ts', tle x y) ∧ ((out ++ [at_ ts 0]) ++ ts').Perm l ∧ ts'.length + 1 = ts.length := by
  have hm : ∀ y ∈ ts', y ∈ ts := fun y hy => hp.mem_iff.1 (by simp [hy])
  refine ⟨?_, ?_, ?_, by have := hp.length_eq; simp at this; omega⟩
  · unfold Sorted
    rw [List.pairwise_append]
    exact ⟨hs, List.pairwise_singleton _ _, fun x hx y hy => by simp at hy; subst hy; exact ho x hx _ (at_mem hn)⟩
  · intro x hx y hy
    rcases List.mem_append.1 hx with hx | hx
    · exact ho x hx y (hm y hy)
    · simp at hx; subst hx
      obtain ⟨k, hk⟩ := List.getElem?_of_mem (hm y hy)
      have := hh.top k (List.getElem?_eq_some_iff.1 hk).1
      rwa [at_of hk] at this
  · rw [List.append_assoc]
    refine (List.Perm.append_left out ?_).trans hl
    exact (List.perm_append_comm (l₁ := [at_ ts 0]) (l₂ := ts')).trans hp

set_option maxHeartbeats 2000000 in
theorem advance_stay {w : World} {B q mb : Nat} {now : Int} {l : List Tm} (h : QH w B q mb now l) (t : Int) (hmx : t ≤ now) :
    Calls Try.prog 22 #[.pointer (some ⟨q, 0, none⟩), .int .u64 t] w (OpPost w B q mb now (notDue l now) ⟨0, (ord (due l now)).map (·.1), now⟩) := by
  obtain ⟨i0, hi, hz0, hz1, hz2⟩ := info_parts Try.info3
  obtain ⟨ts0, h1, h2, h3, h4⟩ := h
  have c0 := h1.c0
  obtain ⟨f0, hq⟩ := h1.fz
  obtain ⟨W1, hW1⟩ : ∃ W1, W1 = (w.setCell ⟨q, 0, none⟩ (.int .u64 now)).alloc (.cells #[.int .i64 0, .slice none 0 0, .int .u64 0] 39) := ⟨_, rfl⟩
  obtain ⟨R, hR⟩ : ∃ R, R = w.heap.size := ⟨_, rfl⟩
  have hbl := (Below.refl (w.setCell ⟨q, 0, none⟩ (.int .u64 now)).heap.size (w.setCell ⟨q, 0, none⟩ (.int .u64 now))).alloc (Nat.le_refl _) (.cells #[.int .i64 0, .slice none 0 0, .int .u64 0] 39)
  have q1 : QS W1 B q mb now ts0 := by rw [hW1]; exact (h1.clock now).1.below hbl
  have hF : Fr B w W1 := by rw [hW1]; exact (h1.clock now).2.trans (Fr.of_below hbl (h1.clock now).1.le)
  have hbR : W1.heap[R]? = some (.cells #[.int .i64 0, .slice none 0 0, .int .u64 0] 39 (0, 0)) := by
    rw [hW1, hR]
    have := heap_alloc_new (w.setCell ⟨q, 0, none⟩ (.int .u64 now)) (.cells #[.int .i64 0, .slice none 0 0, .int .u64 0] 39)
    simpa using this
  have HW := Lib.hid hW1
  have HRR := Lib.hid hR
  have H1 := Lib.hid q1
  have hle := q1.le
  have HF := Lib.hid hF
  have HB := Lib.hid hbR
  have P0 := Lib.hid h3
  have HH0 := Lib.hid h2
  have hlew := h1.le
  have hRk : ∀ k, some R = some k → w.heap.size ≤ k := fun k e => by simp at e; omega
  clear h1 hW1 hR q1 hF hbR hbl h2 h3
  go_enter Try.func22, Try.ntmps22
  go_wp2
  rw [← HW.out, ← HRR.out]
  go_loopg [5] (ts0.length + 1) (fun g v wr => ∃ out ts, ts.length + 1 ≤ g ∧ Firing wr B q mb now l out ts v ∧ wr.ownsRow W1.heap.size 3 1 v out.length (out.map (fun t => Value.int .i64 t.1)) ∧ Fr B W1 wr)
  case atStart => exact ⟨[], ts0, Nat.le_refl _, ⟨H1.out, HH0.out, World.ownsRow_nil _ _ _ _, P0.out, List.Pairwise.nil, fun x hx => (by simp at hx), fun x hx => (by simp at hx), by simpa using h4⟩, World.ownsRow_nil _ _ _ _, Fr.refl _ _⟩
  case round =>
    obtain ⟨out, ts, hg, hf, hrow, hFr⟩ := hrel
    obtain ⟨A, cp, rfl⟩ := own_shape hf.row
    have hlen := hf.len
    have c0' := hf.qs.c0
    have hqs := Lib.hid hf.qs
    have hbR : wr.heap[R]? = some (.cells #[.int .i64 0, .slice none 0 0, .int .u64 0] 39 (0, 0)) := hFr.keep R _ _ _ HB.out (by decide) (by decide)
    have r0 : wr.cell? ⟨R, 0, none⟩ = some (.int .i64 0) := cell_of_row wr R 0 _ _ _ hbR
    have r1 : wr.cell? ⟨R, 1, none⟩ = some (.slice none 0 0) := cell_of_row wr R 1 _ _ _ hbR
    have r2 : wr.cell? ⟨R, 2, none⟩ = some (.int .u64 0) := cell_of_row wr R 2 _ _ _ hbR
    have z0 : wr.frozen? ⟨R, 0, none⟩ = false := by simp [World.frozen?, hbR]
    have z1 : wr.frozen? ⟨R, 1, none⟩ = false := by simp [World.frozen?, hbR]
    have z2 : wr.frozen? ⟨R, 2, none⟩ = false := by simp [World.frozen?, hbR]
    have BR := Lib.hid hbR
    have FI := Lib.hid hf
    have RW := Lib.hid hrow
    have FR := Lib.hid hFr
    clear hf hrow hFr hbR
    by_cases hn : 0 < ts.length
    · obtain ⟨g, cap, c1, hBg, hgl, hc, hm, hq', a0, a1⟩ := hqs.out.down hn
      have hn' : (0 : Int) < (ts.length : Int) := by omega
      by_cases hd : (at_ ts 0).2 ≤ now
      · obtain ⟨a, ha⟩ : ∃ a, a = at_ ts 0 := ⟨_, rfl⟩
        have hT : ∀ n, Calls Try.prog 30 #[.pointer (some ⟨q, 0, none⟩), .int .i64 0] (wr.drewN n) fun e w' => e = .returned (.int .i64 a.1) ∧ ∃ ts', QS w' B q mb now ts' ∧ Heap ts' ∧ (ts' ++ [a]).Perm ts ∧ Fr B (wr.drewN n) w' := fun n => by
          rw [ha]; exact take_any (i := 0) (hqs.out.below (below_drewN wr n)) FI.out.hp (by omega) hn
        have HA := Lib.hid ha
        have HT := Lib.hid hT
        have HD := Lib.hid hd
        rw [← ha] at a0 a1 hd
        have hwl := Lib.hid hqs.out.le
        clear ha hT
        go_wp2_with fail
        go_quiet ((go_at_call 28; exact Calls.quiet_of_same (len_q' (hqs.out.below (below_drewN wr _)))))
        go_wp2_with (first
          | (go_at_call 30; ((with_reducible refine (HT.out _).mono ?_); rintro e w1 ⟨rfl, ts', hq1, hh1, hp1, hf1⟩; have Q1 := Lib.hid hq1; have H2 := Lib.hid hh1; have P1 := Lib.hid hp1; have F1 := Lib.hid ((Fr.of_below (below_drewN wr _) hwl.out).trans hf1); clear hq1 hh1 hp1 hf1))
          | (at_builtin; refine wpList_append_lies _ rfl (.tmp 32) (.tmp 35) 22 rfl W1.heap.size 3 i0 (.int .i64 0) 1 8 Try.underlying22 hi hz0 hz1 hz2 rfl (by decide) _ _ _ rfl ((own_fr RW.out F1.out (by decide) (by decide)).alloc _) ⟨w1.heap.size, 0, none⟩ 1 1 [.int .i64 a.1] rfl rfl (news_one w1 _ _) (by simp [Value.oneCell']) (by omega) (by unfold maxLen; omega) (by omega) (by have := FR.out.bel.size; have := F1.out.bel.size; simp; omega) _ rfl ?_; intro g' cap' w5 hown5 hgrow5 hat5 hlt5))
        have hb1 : Below w1.heap.size w1 (w1.alloc (.cells #[.int .i64 a.1] 3)) := (Below.refl _ _).alloc (Nat.le_refl _) _
        have hrow1 := (own_fr RW.out F1.out (by decide) (by decide)).alloc (.cells #[.int .i64 a.1] 3)
        have hfar : ∀ k, (Value.slice A out.length cp).ownBlock = some k → ∃ cs t f, (w1.alloc (.cells #[.int .i64 a.1] 3)).heap[k]? = some (.cells cs t f) ∧ t ≠ 49 ∧ t ≠ 68 := fun k e => by
          obtain ⟨_, cur, hc⟩ := own_type hrow1 k e
          exact ⟨_, _, _, hc, by decide, by decide⟩
        obtain ⟨s1, s2, s3, s4⟩ := Firing.step FI.out.hp hn FI.out.srt FI.out.ord (by rw [← HA.out]; exact P1.out) FI.out.perm
        rw [← HA.out] at s1 s2 s3
        have hown6 : w5.ownsRow W1.heap.size 3 1 (.slice (some ⟨g', 0, none⟩) (out.length + 1) cap') (out ++ [a]).length ((out ++ [a]).map (fun t => Value.int .i64 t.1)) := by
          rw [List.length_append, List.map_append]; exact hown5
        have hF5 : Fr B W1 w5 := ((FR.out.trans F1.out).trans (Fr.of_below hb1 Q1.out.le)).late hgrow5 (fun k e => (own_type hrow1 k e).1) hle
        have hq5 := (Q1.out.below hb1).far hgrow5 hfar
        go_roundg (ts'.length + 1)
        case measure => omega
        case rel =>
          refine ⟨out ++ [a], ts', Nat.le_refl _, ⟨hq5, H2.out, hown6.mono hle, s3, s1, s2, ?_, by simp; omega⟩, hown6, hF5⟩
          intro x hx
          rcases List.mem_append.1 hx with hx | hx
          · exact FI.out.due x hx
          · simp at hx; subst hx; rw [HA.out]; exact HD.out
      · have hd' : decide ((at_ ts 0).2 ≤ now) = false := by simpa using hd
        go_wp2_with fail
        go_quiet ((go_at_call 28; exact Calls.quiet_of_same (len_q' (hqs.out.below ⟨rfl, rfl, rfl, Nat.le_refl _, fun _ _ => rfl⟩))))
        go_wp2_with fail
        have REST : ∀ x ∈ ts, ¬ x.2 ≤ now := fun x ht => by
          obtain ⟨k, hk⟩ := List.getElem?_of_mem ht
          have h := FI.out.hp.top k (List.getElem?_eq_some_iff.1 hk).1
          rw [at_of hk, tle_iff] at h
          omega
        have e12 := fire_all FI.out.perm FI.out.srt FI.out.due REST
        have hb9 := res_cells (wr.drewN nq) R (.int .i64 0) (.slice A out.length cp) (.int .u64 now) BR.out
        have hg9 : wr.grownBy _ (some R) := grown_trans (grown_drewN wr nq _) (res_grown (wr.drewN nq) R (.int .i64 0) (.slice A out.length cp) (.int .u64 now))
        refine bodyPost_ret (v := .agg #[.int .i64 0, .slice A out.length cp, .int .u64 now]) (by simp [results, Try.results22, go_sem, cell_of_row _ R 0 _ _ _ hb9, cell_of_row _ R 1 _ _ _ hb9, cell_of_row _ R 2 _ _ _ hb9]) rfl ?_
        have hfar : ∀ k, some R = some k → ∃ cs t f, wr.heap[k]? = some (.cells cs t f) ∧ t ≠ 49 ∧ t ≠ 68 := fun k e => by
          have e : R = k := by simpa using e
          subst e
          exact ⟨_, _, _, BR.out, by decide, by decide⟩
        refine ⟨_, rfl, ⟨_, rfl, ?_⟩, ⟨ts, hqs.out.far hg9 hfar, FI.out.hp, e12.2, by omega⟩, (HF.out.trans FR.out).late hg9 (fun k e => hRk k e) hlew⟩
        have := FI.out.row.kept hg9 (.inr (own_ne FI.out.row BR.out (by decide)))
        rw [e12.1]
        simpa [List.map_map, Function.comp_def] using this
    · have hn' : decide ((0 : Int) < (ts.length : Int)) = false := decide_eq_false (by omega)
      go_wp2_with fail
      go_quiet ((go_at_call 28; exact Calls.quiet_of_same (len_q' (hqs.out.below ⟨rfl, rfl, rfl, Nat.le_refl _, fun _ _ => rfl⟩))))
      go_wp2_with fail
      have REST : ∀ x ∈ ts, ¬ x.2 ≤ now := fun x ht => by
        rw [List.length_eq_zero_iff.1 (show ts.length = 0 by omega)] at ht; simp at ht
      have e12 := fire_all FI.out.perm FI.out.srt FI.out.due REST
      have hb9 := res_cells (wr.drewN nq) R (.int .i64 0) (.slice A out.length cp) (.int .u64 now) BR.out
      have hg9 : wr.grownBy _ (some R) := grown_trans (grown_drewN wr nq _) (res_grown (wr.drewN nq) R (.int .i64 0) (.slice A out.length cp) (.int .u64 now))
      refine bodyPost_ret (v := .agg #[.int .i64 0, .slice A out.length cp, .int .u64 now]) (by simp [results, Try.results22, go_sem, cell_of_row _ R 0 _ _ _ hb9, cell_of_row _ R 1 _ _ _ hb9, cell_of_row _ R 2 _ _ _ hb9]) rfl ?_
      have hfar : ∀ k, some R = some k → ∃ cs t f, wr.heap[k]? = some (.cells cs t f) ∧ t ≠ 49 ∧ t ≠ 68 := fun k e => by
        have e : R = k := by simpa using e
        subst e
        exact ⟨_, _, _, BR.out, by decide, by decide⟩
      refine ⟨_, rfl, ⟨_, rfl, ?_⟩, ⟨ts, hqs.out.far hg9 hfar, FI.out.hp, e12.2, by omega⟩, (HF.out.trans FR.out).late hg9 (fun k e => hRk k e) hlew⟩
      have := FI.out.row.kept hg9 (.inr (own_ne FI.out.row BR.out (by decide)))
      rw [e12.1]
      simpa [List.map_map, Function.comp_def] using this

set_option maxHeartbeats 2000000 in
theorem advance_go {w : World} {B q mb : Nat} {now : Int} {l : List Tm} (h : QH w B q mb now l) (t : Int) (hmx : now < t) :
    Calls Try.prog 22 #[.pointer (some ⟨q, 0, none⟩), .int .u64 t] w (OpPost w B q mb t (notDue l t) ⟨0, (ord (due l t)).map (·.1), t⟩) := by
  obtain ⟨i0, hi, hz0, hz1, hz2⟩ := info_parts Try.info3
  obtain ⟨ts0, h1, h2, h3, h4⟩ := h
  have c0 := h1.c0
  obtain ⟨f0, hq⟩ := h1.fz
  obtain ⟨W1, hW1⟩ : ∃ W1, W1 = (w.setCell ⟨q, 0, none⟩ (.int .u64 t)).alloc (.cells #[.int .i64 0, .slice none 0 0, .int .u64 0] 39) := ⟨_, rfl⟩
  obtain ⟨R, hR⟩ : ∃ R, R = w.heap.size := ⟨_, rfl⟩
  have hbl := (Below.refl (w.setCell ⟨q, 0, none⟩ (.int .u64 t)).heap.size (w.setCell ⟨q, 0, none⟩ (.int .u64 t))).alloc (Nat.le_refl _) (.cells #[.int .i64 0, .slice none 0 0, .int .u64 0] 39)
  have q1 : QS W1 B q mb t ts0 := by rw [hW1]; exact (h1.clock t).1.below hbl
  have hF : Fr B w W1 := by rw [hW1]; exact (h1.clock t).2.trans (Fr.of_below hbl (h1.clock t).1.le)
  have hbR : W1.heap[R]? = some (.cells #[.int .i64 0, .slice none 0 0, .int .u64 0] 39 (0, 0)) := by
    rw [hW1, hR]
    have := heap_alloc_new (w.setCell ⟨q, 0, none⟩ (.int .u64 t)) (.cells #[.int .i64 0, .slice none 0 0, .int .u64 0] 39)
    simpa using this
  have HW := Lib.hid hW1
  have HRR := Lib.hid hR
  have H1 := Lib.hid q1
  have hle := q1.le
  have HF := Lib.hid hF
  have HB := Lib.hid hbR
  have P0 := Lib.hid h3
  have HH0 := Lib.hid h2
  have hlew := h1.le
  have hRk : ∀ k, some R = some k → w.heap.size ≤ k := fun k e => by simp at e; omega
  clear h1 hW1 hR q1 hF hbR hbl h2 h3
  go_enter Try.func22, Try.ntmps22
  go_wp2
  rw [← HW.out, ← HRR.out]
  go_loopg [5] (ts0.length + 1) (fun g v wr => ∃ out ts, ts.length + 1 ≤ g ∧ Firing wr B q mb t l out ts v ∧ wr.ownsRow W1.heap.size 3 1 v out.length (out.map (fun t => Value.int .i64 t.1)) ∧ Fr B W1 wr)
  case atStart => exact ⟨[], ts0, Nat.le_refl _, ⟨H1.out, HH0.out, World.ownsRow_nil _ _ _ _, P0.out, List.Pairwise.nil, fun x hx => (by simp at hx), fun x hx => (by simp at hx), by simpa using h4⟩, World.ownsRow_nil _ _ _ _, Fr.refl _ _⟩
  case round =>
    obtain ⟨out, ts, hg, hf, hrow, hFr⟩ := hrel
    obtain ⟨A, cp, rfl⟩ := own_shape hf.row
    have hlen := hf.len
    have c0' := hf.qs.c0
    have hqs := Lib.hid hf.qs
    have hbR : wr.heap[R]? = some (.cells #[.int .i64 0, .slice none 0 0, .int .u64 0] 39 (0, 0)) := hFr.keep R _ _ _ HB.out (by decide) (by decide)
    have r0 : wr.cell? ⟨R, 0, none⟩ = some (.int .i64 0) := cell_of_row wr R 0 _ _ _ hbR
    have r1 : wr.cell? ⟨R, 1, none⟩ = some (.slice none 0 0) := cell_of_row wr R 1 _ _ _ hbR
    have r2 : wr.cell? ⟨R, 2, none⟩ = some (.int .u64 0) := cell_of_row wr R 2 _ _ _ hbR
    have z0 : wr.frozen? ⟨R, 0, none⟩ = false := by simp [World.frozen?, hbR]
    have z1 : wr.frozen? ⟨R, 1, none⟩ = false := by simp [World.frozen?, hbR]
    have z2 : wr.frozen? ⟨R, 2, none⟩ = false := by simp [World.frozen?, hbR]
    have BR := Lib.hid hbR
    have FI := Lib.hid hf
    have RW := Lib.hid hrow
    have FR := Lib.hid hFr
    clear hf hrow hFr hbR
    by_cases hn : 0 < ts.length
    · obtain ⟨g, cap, c1, hBg, hgl, hc, hm, hq', a0, a1⟩ := hqs.out.down hn
      have hn' : (0 : Int) < (ts.length : Int) := by omega
      by_cases hd : (at_ ts 0).2 ≤ t
      · obtain ⟨a, ha⟩ : ∃ a, a = at_ ts 0 := ⟨_, rfl⟩
        have hT : ∀ n, Calls Try.prog 30 #[.pointer (some ⟨q, 0, none⟩), .int .i64 0] (wr.drewN n) fun e w' => e = .returned (.int .i64 a.1) ∧ ∃ ts', QS w' B q mb t ts' ∧ Heap ts' ∧ (ts' ++ [a]).Perm ts ∧ Fr B (wr.drewN n) w' := fun n => by
          rw [ha]; exact take_any (i := 0) (hqs.out.below (below_drewN wr n)) FI.out.hp (by omega) hn
        have HA := Lib.hid ha
        have HT := Lib.hid hT
        have HD := Lib.hid hd
        rw [← ha] at a0 a1 hd
        have hwl := Lib.hid hqs.out.le
        clear ha hT
        go_wp2_with fail
        go_quiet ((go_at_call 28; exact Calls.quiet_of_same (len_q' (hqs.out.below (below_drewN wr _)))))
        go_wp2_with (first
          | (go_at_call 30; ((with_reducible refine (HT.out _).mono ?_); rintro e w1 ⟨rfl, ts', hq1, hh1, hp1, hf1⟩; have Q1 := Lib.hid hq1; have H2 := Lib.hid hh1; have P1 := Lib.hid hp1; have F1 := Lib.hid ((Fr.of_below (below_drewN wr _) hwl.out).trans hf1); clear hq1 hh1 hp1 hf1))
          | (at_builtin; refine wpList_append_lies _ rfl (.tmp 32) (.tmp 35) 22 rfl W1.heap.size 3 i0 (.int .i64 0) 1 8 Try.underlying22 hi hz0 hz1 hz2 rfl (by decide) _ _ _ rfl ((own_fr RW.out F1.out (by decide) (by decide)).alloc _) ⟨w1.heap.size, 0, none⟩ 1 1 [.int .i64 a.1] rfl rfl (news_one w1 _ _) (by simp [Value.oneCell']) (by omega) (by unfold maxLen; omega) (by omega) (by have := FR.out.bel.size; have := F1.out.bel.size; simp; omega) _ rfl ?_; intro g' cap' w5 hown5 hgrow5 hat5 hlt5))
        have hb1 : Below w1.heap.size w1 (w1.alloc (.cells #[.int .i64 a.1] 3)) := (Below.refl _ _).alloc (Nat.le_refl _) _
        have hrow1 := (own_fr RW.out F1.out (by decide) (by decide)).alloc (.cells #[.int .i64 a.1] 3)
        have hfar : ∀ k, (Value.slice A out.length cp).ownBlock = some k → ∃ cs t f, (w1.alloc (.cells #[.int .i64 a.1] 3)).heap[k]? = some (.cells cs t f) ∧ t ≠ 49 ∧ t ≠ 68 := fun k e => by
          obtain ⟨_, cur, hc⟩ := own_type hrow1 k e
          exact ⟨_, _, _, hc, by decide, by decide⟩
        obtain ⟨s1, s2, s3, s4⟩ := Firing.step FI.out.hp hn FI.out.srt FI.out.ord (by rw [← HA.out]; exact P1.out) FI.out.perm
        rw [← HA.out] at s1 s2 s3
        have hown6 : w5.ownsRow W1.heap.size 3 1 (.slice (some ⟨g', 0, none⟩) (out.length + 1) cap') (out ++ [a]).length ((out ++ [a]).map (fun t => Value.int .i64 t.1)) := by
          rw [List.length_append, List.map_append]; exact hown5
        have hF5 : Fr B W1 w5 := ((FR.out.trans F1.out).trans (Fr.of_below hb1 Q1.out.le)).late hgrow5 (fun k e => (own_type hrow1 k e).1) hle
        have hq5 := (Q1.out.below hb1).far hgrow5 hfar
        go_roundg (ts'.length + 1)
        case measure => omega
        case rel =>
          refine ⟨out ++ [a], ts', Nat.le_refl _, ⟨hq5, H2.out, hown6.mono hle, s3, s1, s2, ?_, by simp; omega⟩, hown6, hF5⟩
          intro x hx
          rcases List.mem_append.1 hx with hx | hx
          · exact FI.out.due x hx
          · simp at hx; subst hx; rw [HA.out]; exact HD.out
      · have hd' : decide ((at_ ts 0).2 ≤ t) = false := by simpa using hd
        go_wp2_with fail
        go_quiet ((go_at_call 28; exact Calls.quiet_of_same (len_q' (hqs.out.below ⟨rfl, rfl, rfl, Nat.le_refl _, fun _ _ => rfl⟩))))
        go_wp2_with fail
        have REST : ∀ x ∈ ts, ¬ x.2 ≤ t := fun x ht => by
          obtain ⟨k, hk⟩ := List.getElem?_of_mem ht
          have h := FI.out.hp.top k (List.getElem?_eq_some_iff.1 hk).1
          rw [at_of hk, tle_iff] at h
          omega
        have e12 := fire_all FI.out.perm FI.out.srt FI.out.due REST
        have hb9 := res_cells (wr.drewN nq) R (.int .i64 0) (.slice A out.length cp) (.int .u64 t) BR.out
        have hg9 : wr.grownBy _ (some R) := grown_trans (grown_drewN wr nq _) (res_grown (wr.drewN nq) R (.int .i64 0) (.slice A out.length cp) (.int .u64 t))
        refine bodyPost_ret (v := .agg #[.int .i64 0, .slice A out.length cp, .int .u64 t]) (by simp [results, Try.results22, go_sem, cell_of_row _ R 0 _ _ _ hb9, cell_of_row _ R 1 _ _ _ hb9, cell_of_row _ R 2 _ _ _ hb9]) rfl ?_
        have hfar : ∀ k, some R = some k → ∃ cs t f, wr.heap[k]? = some (.cells cs t f) ∧ t ≠ 49 ∧ t ≠ 68 := fun k e => by
          have e : R = k := by simpa using e
          subst e
          exact ⟨_, _, _, BR.out, by decide, by decide⟩
        refine ⟨_, rfl, ⟨_, rfl, ?_⟩, ⟨ts, hqs.out.far hg9 hfar, FI.out.hp, e12.2, by omega⟩, (HF.out.trans FR.out).late hg9 (fun k e => hRk k e) hlew⟩
        have := FI.out.row.kept hg9 (.inr (own_ne FI.out.row BR.out (by decide)))
        rw [e12.1]
        simpa [List.map_map, Function.comp_def] using this
    · have hn' : decide ((0 : Int) < (ts.length : Int)) = false := decide_eq_false (by omega)
      go_wp2_with fail
      go_quiet ((go_at_call 28; exact Calls.quiet_of_same (len_q' (hqs.out.below ⟨rfl, rfl, rfl, Nat.le_refl _, fun _ _ => rfl⟩))))
      go_wp2_with fail
      have REST : ∀ x ∈ ts, ¬ x.2 ≤ t := fun x ht => by
        rw [List.length_eq_zero_iff.1 (show ts.length = 0 by omega)] at ht; simp at ht
      have e12 := fire_all FI.out.perm FI.out.srt FI.out.due REST
      have hb9 := res_cells (wr.drewN nq) R (.int .i64 0) (.slice A out.length cp) (.int .u64 t) BR.out
      have hg9 : wr.grownBy _ (some R) := grown_trans (grown_drewN wr nq _) (res_grown (wr.drewN nq) R (.int .i64 0) (.slice A out.length cp) (.int .u64 t))
      refine bodyPost_ret (v := .agg #[.int .i64 0, .slice A out.length cp, .int .u64 t]) (by simp [results, Try.results22, go_sem, cell_of_row _ R 0 _ _ _ hb9, cell_of_row _ R 1 _ _ _ hb9, cell_of_row _ R 2 _ _ _ hb9]) rfl ?_
      have hfar : ∀ k, some R = some k → ∃ cs t f, wr.heap[k]? = some (.cells cs t f) ∧ t ≠ 49 ∧ t ≠ 68 := fun k e => by
        have e : R = k := by simpa using e
        subst e
        exact ⟨_, _, _, BR.out, by decide, by decide⟩
      refine ⟨_, rfl, ⟨_, rfl, ?_⟩, ⟨ts, hqs.out.far hg9 hfar, FI.out.hp, e12.2, by omega⟩, (HF.out.trans FR.out).late hg9 (fun k e => hRk k e) hlew⟩
      have := FI.out.row.kept hg9 (.inr (own_ne FI.out.row BR.out (by decide)))
      rw [e12.1]
      simpa [List.map_map, Function.comp_def] using this

theorem advance_any {w : World} {B q mb : Nat} {now : Int} {l : List Tm} (h : QH w B q mb now l) (t : Int) :
    Calls Try.prog 22 #[.pointer (some ⟨q, 0, none⟩), .int .u64 t] w (OpPost w B q mb (max now t) (notDue l (max now t)) ⟨0, (ord (due l (max now t))).map (·.1), max now t⟩) := by
  by_cases hmx : t ≤ now
  · rw [show max now t = now by omega]; exact advance_stay h t hmx
  · rw [show max now t = t by omega]; exact advance_go h t (by omega)

end Go.Proofs.Ytbhakpkdkeacmaa.Tq
