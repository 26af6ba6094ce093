/-
  The contract of the reference's step: advance.
-/
import Derived.Test.YtbhakpkdkeacmaaTqRef7
import Derived.Deep.LoopGhost
namespace Go.Proofs.Ytbhakpkdkeacmaa.Tq
open Go.RowKit Go.Maps

/-- While the reference fires: ts is left, out has been fired; the reply is being made at block rb. -/
structure RF (w : World) (B S rb : Nat) (now : Int) (l out ts : List Tm) (v f : Value) : Prop where
  row : RL w B v ts
  blk : w.heap[rb]? = some (.cells #[.int .i64 0, f, .int .u64 now] 39 (0, 0))
  fir : w.ownsRow S 3 1 f out.length (out.map (fun t => Value.int .i64 t.1))
  perm : (out ++ ts).Perm l
  nd : Nd ts
  srt : Sorted out
  ord : ∀ x ∈ out, ∀ y ∈ ts, tle x y
  due : ∀ x ∈ out, x.2 ≤ now
  len : out.length + ts.length ≤ 256
theorem RF.below {w w' : World} {B S rb : Nat} {now : Int} {l out ts : List Tm} {v f : Value} (h : RF w B S rb now l out ts v f) (hb : Below w.heap.size w w') : RF w' B S rb now l out ts v f :=
  ⟨own_below h.row hb, (hb.block _ (heap_lt h.blk)).trans h.blk, own_below h.fir hb, h.perm, h.nd, h.srt, h.ord, h.due, h.len⟩
theorem fire_step {out ts : List Tm} {a : Nat} (hn : a < ts.length) (hmin : ∀ k, k < ts.length → tle (at_ ts a) (at_ ts k)) (hs : Sorted out) (ho : ∀ x ∈ out, ∀ y ∈ ts, tle x y) {l : List Tm} (hl : (out ++ ts).Perm l) (hnd : Nd ts) :
    Sorted (out ++ [at_ ts a]) ∧ (∀ x ∈ out ++ [at_ ts a], ∀ y ∈ ts.eraseIdx a, tle x y) ∧ ((out ++ [at_ ts a]) ++ ts.eraseIdx a).Perm l ∧ (ts.eraseIdx a).length + 1 = ts.length ∧ Nd (ts.eraseIdx a) := by
  obtain ⟨_, e2, _⟩ := hnd.erase hn
  have hm : ∀ y ∈ ts.eraseIdx a, y ∈ ts := fun y hy => List.mem_of_mem_eraseIdx hy
  have hp : ts.Perm (at_ ts a :: ts.eraseIdx a) := by
    have := Go.ChangeMaps.set_perm ts a hn (at_ ts a)
    rwa [show ts.set a (at_ ts a) = ts from ?_] at this
    apply List.ext_getElem?
    intro k
    rw [List.getElem?_set]
    split
    · rename_i h; subst h; exact (at_some hn).symm
    · rfl
  refine ⟨?_, ?_, ?_, by rw [List.length_eraseIdx_of_lt hn]; omega, e2⟩
  · unfold Sorted
    rw [List.pairwise_append]
    exact ⟨hs, List.pairwise_singleton _ _, fun x hx y hy => by simp at hy; subst hy; exact ho x hx _ (at_mem hn)⟩
  · intro x hx y hy
    rcases List.mem_append.1 hx with hx | hx
    · exact ho x hx y (hm y hy)
    · simp at hx; subst hx
      obtain ⟨k, hk⟩ := List.getElem?_of_mem (hm y hy)
      have := hmin k (List.getElem?_eq_some_iff.1 hk).1
      rwa [at_of hk] at this
  · rw [List.append_assoc]
    exact (List.Perm.append_left out hp.symm).trans hl

theorem StepPost.drew_ {w W : World} {B : Nat} {now : Int} {l : List Tm} {r : Rep} {e : Ending} (h : StepPost w B now l r e W) : StepPost w B now l r e W.drew := by
  obtain ⟨v, f, he, ⟨f', h1, h2⟩, ⟨ts, h3⟩, hb⟩ := h
  exact ⟨v, f, he, ⟨f', h1, h2⟩, ⟨ts, h3⟩, hb.drew⟩

set_option maxRecDepth 100000 in
set_option maxHeartbeats 4000000 in
theorem sadv_stay {w : World} {B : Nat} {v : Value} {now : Int} {l : List Tm} (h : RH w B v l) (x t : Int) (hB : B ≤ w.heap.size) (hmx : t ≤ now) :
    Calls Try.prog 19 #[v, .int .u64 now, .agg #[.int .i64 3, .int .i64 x, .int .u64 t]] w (StepPost w B now (notDue l now) ⟨0, (ord (due l now)).map (·.1), now⟩) := by
  obtain ⟨i0, hi0, hz0, hz1, hz2⟩ := info_parts Try.info3
  obtain ⟨ts, h1, h2, h3, h4⟩ := h
  obtain ⟨A, cp, rfl⟩ := own_shape h1
  obtain ⟨W, hW⟩ : ∃ W, W = (w.alloc (.cells #[.int .i64 3, .int .i64 x, .int .u64 t] 33)).alloc zrep := ⟨_, rfl⟩
  obtain ⟨bx, hbx⟩ : ∃ bx, bx = w.heap.size := ⟨_, rfl⟩
  obtain ⟨R, hR⟩ : ∃ R, R = w.heap.size + 1 := ⟨_, rfl⟩
  have hL : Laid w W bx R 3 x t := by rw [hW, hbx, hR]; exact Laid.mk_ w 3 x t
  have hS : RL W B (.slice A ts.length cp) ts := own_below h1 (by rw [hW]; go_grown)
  have b0 := cell_of_row W bx 0 _ _ _ hL.box
  have b1 := cell_of_row W bx 1 _ _ _ hL.box
  have b2 := cell_of_row W bx 2 _ _ _ hL.box
  have hbs := heap_lt hL.box
  have hrs := heap_lt hL.res
  have hBW : B ≤ W.heap.size := by have := hL.bel.size; omega
  obtain ⟨z, hz, hP⟩ := place_val (ts := ts) (by omega) h3 x
  have HP := Lib.hid (hP W B _ hS)
  obtain ⟨W1, hW1⟩ : ∃ W1, W1 = W.alloc (.cells #[.int .i64 0, .slice none 0 0, .int .u64 now] 39) := ⟨_, rfl⟩
  obtain ⟨rb, hrb⟩ : ∃ rb, rb = W.heap.size := ⟨_, rfl⟩
  have hb1 : Below W.heap.size W W1 := by rw [hW1]; go_grown
  have hblk : W1.heap[rb]? = some (.cells #[.int .i64 0, .slice none 0 0, .int .u64 now] 39 (0, 0)) := by rw [hW1, hrb]; exact heap_alloc_new W _
  have hRF : RF W1 B rb rb now l [] ts (.slice A ts.length cp) (.slice none 0 0) := ⟨own_below hS hb1, hblk, World.ownsRow_nil _ _ _ _, h2, h3, List.Pairwise.nil, fun x hx => by simp at hx, fun x hx => by simp at hx, by simpa using h4⟩
  have LD := Lib.hid hL
  have HS := Lib.hid hS
  have HW := Lib.hid hW
  have HX := Lib.hid hbx
  have HR := Lib.hid hR
  have HW1 := Lib.hid hW1
  have HRB := Lib.hid hrb
  have HB1 := Lib.hid hb1
  have HRF := Lib.hid hRF
  have HF := Lib.hid (first_any hRF.row (by omega))
  clear h1 hW hbx hR hL hS hP hz hW1 hrb hb1 hblk hRF h2 h3
  go_enter Try.func19, Try.ntmps19
  go_wp2_with (first
    | (go_at_call 24; rw [← HW.out, ← HR.out, ← HX.out]; ((with_reducible refine HP.out.mono ?_); rintro e w1 ⟨rfl, rfl⟩))
    | (go_at_call 26; rw [← HW1.out, ← HRB.out]; ((with_reducible refine HF.out.mono ?_); rintro e w3 ⟨kz, rfl, hbz, hb3⟩; have BZ := Lib.hid hbz; have RF3 := Lib.hid (HRF.out.below hb3); have HB3 := Lib.hid (HB1.out.trans (hb3.mono HB1.out.size)); clear hbz hb3)))
  go_loopg [0, 11] (ts.length + 1) (fun g v0 kz wr => ∃ out ts' f, ts'.length + 1 ≤ g ∧ RF wr B rb rb now l out ts' v0 f ∧ BestIx ts' kz ∧ Below W.heap.size W wr)
  case atStart => exact ⟨[], ts, .slice none 0 0, Nat.le_refl _, RF3.out, BZ.out, HB3.out⟩
  case round =>
    obtain ⟨out, ts', f, hg, hrf, hbest, hbl⟩ := hrel
    obtain ⟨A', cp', rfl⟩ := own_shape hrf.row
    obtain ⟨Af, cpf, rfl⟩ := own_shape hrf.fir
    have hln := hrf.len
    have hLr := LD.out.step hbl
    have r0 := cell_of_row wr R 0 _ _ _ hLr.res
    have r1 := cell_of_row wr R 1 _ _ _ hLr.res
    have r2 := cell_of_row wr R 2 _ _ _ hLr.res
    have z0 : wr.frozen? ⟨R, 0, none⟩ = false := (by simp [World.frozen?, hLr.res])
    have z1 : wr.frozen? ⟨R, 1, none⟩ = false := (by simp [World.frozen?, hLr.res])
    have z2 : wr.frozen? ⟨R, 2, none⟩ = false := (by simp [World.frozen?, hLr.res])
    have p0 := cell_of_row wr rb 0 _ _ _ hrf.blk
    have p1 := cell_of_row wr rb 1 _ _ _ hrf.blk
    have p2 := cell_of_row wr rb 2 _ _ _ hrf.blk
    have y0 : wr.frozen? ⟨rb, 1, none⟩ = false := (by simp [World.frozen?, hrf.blk])
    have hrl := heap_lt hrf.blk
    have hrR := heap_lt hLr.res
    have hRrb : R ≠ rb := (by have := HRB.out; omega)
    have LR := Lib.hid hLr
    have RFF := Lib.hid hrf
    have BL := Lib.hid hbl
    clear hrf hbl hLr
    rcases hbest with ⟨rfl, rfl⟩ | ⟨i, rfl, hi, hmin⟩
    · have REST : Hid (∀ u ∈ ([] : List Tm), ¬ u.2 ≤ now) := fun u hu => by simp at hu
      go_wp2_with fail
      go_region
      go_wp2_with fail
      have e12 := fire_all RFF.out.perm RFF.out.srt RFF.out.due (fun u hu => by have := REST.out u hu; omega)
      have hb9 := res_cells wr R (.int .i64 0) (.slice Af out.length cpf) (.int .u64 now) LR.out.res
      refine bodyPost_ret (v := .tuple #[.slice A' 0 cp', .int .u64 now, .agg #[.int .i64 0, .slice Af out.length cpf, .int .u64 now]]) (by simp [results, Try.results19, go_sem, cell_of_row _ R 0 _ _ _ hb9, cell_of_row _ R 1 _ _ _ hb9, cell_of_row _ R 2 _ _ _ hb9]) rfl ?_
      refine (step_done LR.out ⟨[], RFF.out.row, e12.2, RFF.out.nd, by have h9 := RFF.out.len; first | (simp; done) | omega⟩ ⟨_, rfl, ?_⟩).drew_
      have := RFF.out.fir.mono (base' := B) (by have := HRB.out; omega)
      rw [e12.1]
      simpa [List.map_map, Function.comp_def] using this
    · obtain ⟨g0, cap0, hv, hg0, hgl⟩ := World.ownsRow.form RFF.out.row (by omega)
      simp only [Value.slice.injEq] at hv
      obtain ⟨rfl, _, rfl⟩ := hv
      obtain ⟨cc0, cc1⟩ := RL.at_ RFF.out.row (at_some hi)
      have hi0' : (0 : Int) ≤ (i : Int) := by omega
      by_cases hd : (at_ ts' i).2 ≤ now
      · obtain ⟨a, ha⟩ : ∃ a, a = at_ ts' i := ⟨_, rfl⟩
        have HD := Lib.hid hd
        have hfs := fire_step hi hmin RFF.out.srt RFF.out.ord RFF.out.perm RFF.out.nd
        rw [← ha] at cc0 cc1 hd hfs
        have FS := Lib.hid hfs
        have HA := Lib.hid ha
        have hne := own_ne RFF.out.fir RFF.out.blk (by decide)
        clear hmin ha hfs
        go_wp2_with fail
        go_region_law (refine step_append_lies _ rfl (.tmp 86) (.tmp 92) 22 rfl rb 3 i0 (.int .i64 0) 1 8 Try.underlying22 hi0 hz0 hz1 hz2 rfl (by decide) (.slice Af out.length cpf) out.length _ rfl (RFF.out.fir.alloc _) ⟨wr.heap.size, 0, none⟩ 1 1 [.int .i64 a.1] rfl rfl (news_one wr _ _) (by simp [Value.oneCell']) (by omega) (by unfold maxLen; omega) (by omega) (by first | omega | (simp; omega)) _ rfl ?_; intro g' cap' w5 hown5 hgrow5 hat5 hlt5; have hbk5 := (hgrow5.block rb (by first | omega | (simp; omega)) (fun e => hne e.symm)).trans ((Below.heap_alloc wr _ rb hrl).trans RFF.out.blk); have q1 := cell_of_row w5 rb 1 _ _ _ hbk5; have y5 : w5.frozen? ⟨rb, 1, none⟩ = false := (by simp [World.frozen?, hbk5]); have O5 := Lib.hid hown5; have G5 := Lib.hid (show (wr.alloc (.cells #[.int .i64 a.1] 3)).grownBy w5 (Value.slice Af out.length cpf).ownBlock from ⟨hgrow5.os, hgrow5.tape, hgrow5.output, hgrow5.size, hgrow5.block⟩); have BK5 := Lib.hid hbk5; clear hown5 hgrow5 hat5 hlt5 hbk5)
        all_goals
          have hfir : (wr.alloc (.cells #[.int .i64 a.1] 3)).ownsRow rb 3 1 (.slice Af out.length cpf) out.length (out.map (fun t => Value.int .i64 t.1)) := RFF.out.fir.alloc _
          have hrow0 : RL (wr.alloc (.cells #[.int .i64 a.1] 3)) B (.slice (some ⟨g0, 0, none⟩) ts'.length cp') ts' := own_below RFF.out.row ((Below.refl _ _).alloc (Nat.le_refl _) _)
          have hrow5 : RL w5 B (.slice (some ⟨g0, 0, none⟩) ts'.length cp') ts' := by
            refine World.ownsRow.kept hrow0 G5.out ?_
            cases hvb : (Value.slice Af out.length cpf).ownBlock with
            | none => right; simp [Value.ownBlock]
            | some k' =>
              right
              intro e
              obtain ⟨_, cur, hk⟩ := own_type hfir k' hvb
              obtain ⟨_, cur', hk'⟩ := own_type hrow0 k' e
              rw [hk] at hk'; injection hk' with hk'; injection hk' with _ e'; simp at e'
          obtain ⟨w6, hw6⟩ : ∃ w6, w6 = w5.setCell ⟨rb, 1, none⟩ (.slice (some ⟨g', 0, none⟩) (out.length + 1) cap') := ⟨_, rfl⟩
          have hg6 : w5.grownBy w6 (some rb) := by rw [hw6]; exact grown_set w5 ⟨rb, 1, none⟩ _
          have hrow6 : RL w6 B (.slice (some ⟨g0, 0, none⟩) ts'.length cp') ts' := World.ownsRow.kept hrow5 hg6 (.inr (own_ne hrow5 BK5.out (by decide)))
          have hfir6 : w6.ownsRow rb 3 1 (.slice (some ⟨g', 0, none⟩) (out.length + 1) cap') (out ++ [a]).length ((out ++ [a]).map (fun t => Value.int .i64 t.1)) := by
            rw [List.length_append, List.map_append]
            exact World.ownsRow.kept O5.out hg6 (.inr (own_ne O5.out BK5.out (by decide)))
          have hblk6 : w6.heap[rb]? = some (.cells #[.int .i64 0, .slice (some ⟨g', 0, none⟩) (out.length + 1) cap', .int .u64 now] 39 (0, 0)) := by
            rw [hw6]
            have := BK5.out
            simp [World.setCell, Array.getElem?_modify, this]
          have hB6 : Below W.heap.size W w6 := by
            rw [hw6]
            refine (((BL.out.alloc BL.out.size _).grown G5.out (by have := BL.out.size; simp; omega) (fun k e => ?_))).setCell (by have := HRB.out; simp; omega) _
            have := (own_type hfir k e).1
            have := HRB.out
            omega
          have HT := Lib.hid (without_any hrow6 (by omega) hi)
          have HW6 := Lib.hid hw6
          have FI6 := Lib.hid hfir6
          have BK6 := Lib.hid hblk6
          have B6 := Lib.hid hB6
          clear hfir hrow0 hrow5 hg6 hrow6 hfir6 hblk6 hB6 hw6 q1 y5
          go_wp2_with (first
            | (go_at_call 25; rw [← HW6.out]; ((with_reducible refine HT.out.mono ?_); rintro e w7 ⟨v3, rfl, hr7, hb7⟩; have hB7 : B ≤ w6.heap.size := (by have := B6.out.size; omega); have RF7 := Lib.hid (show RF w7 B rb rb now l (out ++ [a]) (ts'.eraseIdx i) v3 _ from ⟨World.ownsRow.mono hr7 hB7, (hb7.block _ (heap_lt BK6.out)).trans BK6.out, own_below FI6.out hb7, FS.out.2.2.1, FS.out.2.2.2.2, FS.out.1, FS.out.2.1, fun x hx => (by rcases List.mem_append.1 hx with hx | hx; exact RFF.out.due x hx; simp at hx; subst hx; rw [HA.out]; exact HD.out), (by have := FS.out.2.2.2.1; simp; omega)⟩); have B7 := Lib.hid (B6.out.trans (hb7.mono B6.out.size)); clear hr7 hb7))
            | (go_at_call 26; ((with_reducible refine (first_any RF7.out.row (by have := RF7.out.len; omega)).mono ?_); rintro e w8 ⟨kz, rfl, hbz, hb8⟩; have BZ8 := Lib.hid hbz; have B8 := Lib.hid (B7.out.trans (hb8.mono B7.out.size)); have RF8 := Lib.hid (RF7.out.below hb8); clear hbz hb8)))
          have hms := FS.out.2.2.2.1
          go_roundg ((ts'.eraseIdx i).length + 1)
          case measure => omega
          case rel => exact ⟨out ++ [a], ts'.eraseIdx i, _, Nat.le_refl _, RF8.out, BZ8.out, B8.out⟩
      · have hd' : decide ((at_ ts' i).2 ≤ now) = false := decide_eq_false hd
        have REST : Hid (∀ u ∈ ts', ¬ u.2 ≤ now) := fun u hu => by
          obtain ⟨k, hk⟩ := List.getElem?_of_mem hu
          have h := hmin k (List.getElem?_eq_some_iff.1 hk).1
          rw [at_of hk, tle_iff] at h
          omega
        clear hmin hd
        go_wp2_with fail
        go_region
        go_wp2_with fail
        have e12 := fire_all RFF.out.perm RFF.out.srt RFF.out.due (fun u hu => by have := REST.out u hu; omega)
        have hb9 := res_cells wr R (.int .i64 0) (.slice Af out.length cpf) (.int .u64 now) LR.out.res
        refine bodyPost_ret (v := .tuple #[.slice (some ⟨g0, 0, none⟩) ts'.length cp', .int .u64 now, .agg #[.int .i64 0, .slice Af out.length cpf, .int .u64 now]]) (by simp [results, Try.results19, go_sem, cell_of_row _ R 0 _ _ _ hb9, cell_of_row _ R 1 _ _ _ hb9, cell_of_row _ R 2 _ _ _ hb9]) rfl ?_
        refine (step_done LR.out ⟨ts', RFF.out.row, e12.2, RFF.out.nd, by have h9 := RFF.out.len; first | (simp; done) | omega⟩ ⟨_, rfl, ?_⟩).drew_
        have := RFF.out.fir.mono (base' := B) (by have := HRB.out; omega)
        rw [e12.1]
        simpa [List.map_map, Function.comp_def] using this

set_option maxRecDepth 100000 in
set_option maxHeartbeats 4000000 in
theorem sadv_go {w : World} {B : Nat} {v : Value} {now : Int} {l : List Tm} (h : RH w B v l) (x t : Int) (hB : B ≤ w.heap.size) (hmx : now < t) :
    Calls Try.prog 19 #[v, .int .u64 now, .agg #[.int .i64 3, .int .i64 x, .int .u64 t]] w (StepPost w B t (notDue l t) ⟨0, (ord (due l t)).map (·.1), t⟩) := by
  obtain ⟨i0, hi0, hz0, hz1, hz2⟩ := info_parts Try.info3
  obtain ⟨ts, h1, h2, h3, h4⟩ := h
  obtain ⟨A, cp, rfl⟩ := own_shape h1
  obtain ⟨W, hW⟩ : ∃ W, W = (w.alloc (.cells #[.int .i64 3, .int .i64 x, .int .u64 t] 33)).alloc zrep := ⟨_, rfl⟩
  obtain ⟨bx, hbx⟩ : ∃ bx, bx = w.heap.size := ⟨_, rfl⟩
  obtain ⟨R, hR⟩ : ∃ R, R = w.heap.size + 1 := ⟨_, rfl⟩
  have hL : Laid w W bx R 3 x t := by rw [hW, hbx, hR]; exact Laid.mk_ w 3 x t
  have hS : RL W B (.slice A ts.length cp) ts := own_below h1 (by rw [hW]; go_grown)
  have b0 := cell_of_row W bx 0 _ _ _ hL.box
  have b1 := cell_of_row W bx 1 _ _ _ hL.box
  have b2 := cell_of_row W bx 2 _ _ _ hL.box
  have hbs := heap_lt hL.box
  have hrs := heap_lt hL.res
  have hBW : B ≤ W.heap.size := by have := hL.bel.size; omega
  obtain ⟨z, hz, hP⟩ := place_val (ts := ts) (by omega) h3 x
  have HP := Lib.hid (hP W B _ hS)
  obtain ⟨W1, hW1⟩ : ∃ W1, W1 = W.alloc (.cells #[.int .i64 0, .slice none 0 0, .int .u64 t] 39) := ⟨_, rfl⟩
  obtain ⟨rb, hrb⟩ : ∃ rb, rb = W.heap.size := ⟨_, rfl⟩
  have hb1 : Below W.heap.size W W1 := by rw [hW1]; go_grown
  have hblk : W1.heap[rb]? = some (.cells #[.int .i64 0, .slice none 0 0, .int .u64 t] 39 (0, 0)) := by rw [hW1, hrb]; exact heap_alloc_new W _
  have hRF : RF W1 B rb rb t l [] ts (.slice A ts.length cp) (.slice none 0 0) := ⟨own_below hS hb1, hblk, World.ownsRow_nil _ _ _ _, h2, h3, List.Pairwise.nil, fun x hx => by simp at hx, fun x hx => by simp at hx, by simpa using h4⟩
  have LD := Lib.hid hL
  have HS := Lib.hid hS
  have HW := Lib.hid hW
  have HX := Lib.hid hbx
  have HR := Lib.hid hR
  have HW1 := Lib.hid hW1
  have HRB := Lib.hid hrb
  have HB1 := Lib.hid hb1
  have HRF := Lib.hid hRF
  have HF := Lib.hid (first_any hRF.row (by omega))
  clear h1 hW hbx hR hL hS hP hz hW1 hrb hb1 hblk hRF h2 h3
  go_enter Try.func19, Try.ntmps19
  go_wp2_with (first
    | (go_at_call 24; rw [← HW.out, ← HR.out, ← HX.out]; ((with_reducible refine HP.out.mono ?_); rintro e w1 ⟨rfl, rfl⟩))
    | (go_at_call 26; rw [← HW1.out, ← HRB.out]; ((with_reducible refine HF.out.mono ?_); rintro e w3 ⟨kz, rfl, hbz, hb3⟩; have BZ := Lib.hid hbz; have RF3 := Lib.hid (HRF.out.below hb3); have HB3 := Lib.hid (HB1.out.trans (hb3.mono HB1.out.size)); clear hbz hb3)))
  go_loopg [0, 11] (ts.length + 1) (fun g v0 kz wr => ∃ out ts' f, ts'.length + 1 ≤ g ∧ RF wr B rb rb t l out ts' v0 f ∧ BestIx ts' kz ∧ Below W.heap.size W wr)
  case atStart => exact ⟨[], ts, .slice none 0 0, Nat.le_refl _, RF3.out, BZ.out, HB3.out⟩
  case round =>
    obtain ⟨out, ts', f, hg, hrf, hbest, hbl⟩ := hrel
    obtain ⟨A', cp', rfl⟩ := own_shape hrf.row
    obtain ⟨Af, cpf, rfl⟩ := own_shape hrf.fir
    have hln := hrf.len
    have hLr := LD.out.step hbl
    have r0 := cell_of_row wr R 0 _ _ _ hLr.res
    have r1 := cell_of_row wr R 1 _ _ _ hLr.res
    have r2 := cell_of_row wr R 2 _ _ _ hLr.res
    have z0 : wr.frozen? ⟨R, 0, none⟩ = false := (by simp [World.frozen?, hLr.res])
    have z1 : wr.frozen? ⟨R, 1, none⟩ = false := (by simp [World.frozen?, hLr.res])
    have z2 : wr.frozen? ⟨R, 2, none⟩ = false := (by simp [World.frozen?, hLr.res])
    have p0 := cell_of_row wr rb 0 _ _ _ hrf.blk
    have p1 := cell_of_row wr rb 1 _ _ _ hrf.blk
    have p2 := cell_of_row wr rb 2 _ _ _ hrf.blk
    have y0 : wr.frozen? ⟨rb, 1, none⟩ = false := (by simp [World.frozen?, hrf.blk])
    have hrl := heap_lt hrf.blk
    have hrR := heap_lt hLr.res
    have hRrb : R ≠ rb := (by have := HRB.out; omega)
    have LR := Lib.hid hLr
    have RFF := Lib.hid hrf
    have BL := Lib.hid hbl
    clear hrf hbl hLr
    rcases hbest with ⟨rfl, rfl⟩ | ⟨i, rfl, hi, hmin⟩
    · have REST : Hid (∀ u ∈ ([] : List Tm), ¬ u.2 ≤ t) := fun u hu => by simp at hu
      go_wp2_with fail
      go_region
      go_wp2_with fail
      have e12 := fire_all RFF.out.perm RFF.out.srt RFF.out.due (fun u hu => by have := REST.out u hu; omega)
      have hb9 := res_cells wr R (.int .i64 0) (.slice Af out.length cpf) (.int .u64 t) LR.out.res
      refine bodyPost_ret (v := .tuple #[.slice A' 0 cp', .int .u64 t, .agg #[.int .i64 0, .slice Af out.length cpf, .int .u64 t]]) (by simp [results, Try.results19, go_sem, cell_of_row _ R 0 _ _ _ hb9, cell_of_row _ R 1 _ _ _ hb9, cell_of_row _ R 2 _ _ _ hb9]) rfl ?_
      refine (step_done LR.out ⟨[], RFF.out.row, e12.2, RFF.out.nd, by have h9 := RFF.out.len; first | (simp; done) | omega⟩ ⟨_, rfl, ?_⟩).drew_
      have := RFF.out.fir.mono (base' := B) (by have := HRB.out; omega)
      rw [e12.1]
      simpa [List.map_map, Function.comp_def] using this
    · obtain ⟨g0, cap0, hv, hg0, hgl⟩ := World.ownsRow.form RFF.out.row (by omega)
      simp only [Value.slice.injEq] at hv
      obtain ⟨rfl, _, rfl⟩ := hv
      obtain ⟨cc0, cc1⟩ := RL.at_ RFF.out.row (at_some hi)
      have hi0' : (0 : Int) ≤ (i : Int) := by omega
      by_cases hd : (at_ ts' i).2 ≤ t
      · obtain ⟨a, ha⟩ : ∃ a, a = at_ ts' i := ⟨_, rfl⟩
        have HD := Lib.hid hd
        have hfs := fire_step hi hmin RFF.out.srt RFF.out.ord RFF.out.perm RFF.out.nd
        rw [← ha] at cc0 cc1 hd hfs
        have FS := Lib.hid hfs
        have HA := Lib.hid ha
        have hne := own_ne RFF.out.fir RFF.out.blk (by decide)
        clear hmin ha hfs
        go_wp2_with fail
        go_region_law (refine step_append_lies _ rfl (.tmp 86) (.tmp 92) 22 rfl rb 3 i0 (.int .i64 0) 1 8 Try.underlying22 hi0 hz0 hz1 hz2 rfl (by decide) (.slice Af out.length cpf) out.length _ rfl (RFF.out.fir.alloc _) ⟨wr.heap.size, 0, none⟩ 1 1 [.int .i64 a.1] rfl rfl (news_one wr _ _) (by simp [Value.oneCell']) (by omega) (by unfold maxLen; omega) (by omega) (by first | omega | (simp; omega)) _ rfl ?_; intro g' cap' w5 hown5 hgrow5 hat5 hlt5; have hbk5 := (hgrow5.block rb (by first | omega | (simp; omega)) (fun e => hne e.symm)).trans ((Below.heap_alloc wr _ rb hrl).trans RFF.out.blk); have q1 := cell_of_row w5 rb 1 _ _ _ hbk5; have y5 : w5.frozen? ⟨rb, 1, none⟩ = false := (by simp [World.frozen?, hbk5]); have O5 := Lib.hid hown5; have G5 := Lib.hid (show (wr.alloc (.cells #[.int .i64 a.1] 3)).grownBy w5 (Value.slice Af out.length cpf).ownBlock from ⟨hgrow5.os, hgrow5.tape, hgrow5.output, hgrow5.size, hgrow5.block⟩); have BK5 := Lib.hid hbk5; clear hown5 hgrow5 hat5 hlt5 hbk5)
        all_goals
          have hfir : (wr.alloc (.cells #[.int .i64 a.1] 3)).ownsRow rb 3 1 (.slice Af out.length cpf) out.length (out.map (fun u => Value.int .i64 u.1)) := RFF.out.fir.alloc _
          have hrow0 : RL (wr.alloc (.cells #[.int .i64 a.1] 3)) B (.slice (some ⟨g0, 0, none⟩) ts'.length cp') ts' := own_below RFF.out.row ((Below.refl _ _).alloc (Nat.le_refl _) _)
          have hrow5 : RL w5 B (.slice (some ⟨g0, 0, none⟩) ts'.length cp') ts' := by
            refine World.ownsRow.kept hrow0 G5.out ?_
            cases hvb : (Value.slice Af out.length cpf).ownBlock with
            | none => right; simp [Value.ownBlock]
            | some k' =>
              right
              intro e
              obtain ⟨_, cur, hk⟩ := own_type hfir k' hvb
              obtain ⟨_, cur', hk'⟩ := own_type hrow0 k' e
              rw [hk] at hk'; injection hk' with hk'; injection hk' with _ e'; simp at e'
          obtain ⟨w6, hw6⟩ : ∃ w6, w6 = w5.setCell ⟨rb, 1, none⟩ (.slice (some ⟨g', 0, none⟩) (out.length + 1) cap') := ⟨_, rfl⟩
          have hg6 : w5.grownBy w6 (some rb) := by rw [hw6]; exact grown_set w5 ⟨rb, 1, none⟩ _
          have hrow6 : RL w6 B (.slice (some ⟨g0, 0, none⟩) ts'.length cp') ts' := World.ownsRow.kept hrow5 hg6 (.inr (own_ne hrow5 BK5.out (by decide)))
          have hfir6 : w6.ownsRow rb 3 1 (.slice (some ⟨g', 0, none⟩) (out.length + 1) cap') (out ++ [a]).length ((out ++ [a]).map (fun u => Value.int .i64 u.1)) := by
            rw [List.length_append, List.map_append]
            exact World.ownsRow.kept O5.out hg6 (.inr (own_ne O5.out BK5.out (by decide)))
          have hblk6 : w6.heap[rb]? = some (.cells #[.int .i64 0, .slice (some ⟨g', 0, none⟩) (out.length + 1) cap', .int .u64 t] 39 (0, 0)) := by
            rw [hw6]
            have := BK5.out
            simp [World.setCell, Array.getElem?_modify, this]
          have hB6 : Below W.heap.size W w6 := by
            rw [hw6]
            refine (((BL.out.alloc BL.out.size _).grown G5.out (by have := BL.out.size; simp; omega) (fun k e => ?_))).setCell (by have := HRB.out; simp; omega) _
            have := (own_type hfir k e).1
            have := HRB.out
            omega
          have HT := Lib.hid (without_any hrow6 (by omega) hi)
          have HW6 := Lib.hid hw6
          have FI6 := Lib.hid hfir6
          have BK6 := Lib.hid hblk6
          have B6 := Lib.hid hB6
          clear hfir hrow0 hrow5 hg6 hrow6 hfir6 hblk6 hB6 hw6 q1 y5
          go_wp2_with (first
            | (go_at_call 25; rw [← HW6.out]; ((with_reducible refine HT.out.mono ?_); rintro e w7 ⟨v3, rfl, hr7, hb7⟩; have hB7 : B ≤ w6.heap.size := (by have := B6.out.size; omega); have RF7 := Lib.hid (show RF w7 B rb rb t l (out ++ [a]) (ts'.eraseIdx i) v3 _ from ⟨World.ownsRow.mono hr7 hB7, (hb7.block _ (heap_lt BK6.out)).trans BK6.out, own_below FI6.out hb7, FS.out.2.2.1, FS.out.2.2.2.2, FS.out.1, FS.out.2.1, fun x hx => (by rcases List.mem_append.1 hx with hx | hx; exact RFF.out.due x hx; simp at hx; subst hx; rw [HA.out]; exact HD.out), (by have := FS.out.2.2.2.1; simp; omega)⟩); have B7 := Lib.hid (B6.out.trans (hb7.mono B6.out.size)); clear hr7 hb7))
            | (go_at_call 26; ((with_reducible refine (first_any RF7.out.row (by have := RF7.out.len; omega)).mono ?_); rintro e w8 ⟨kz, rfl, hbz, hb8⟩; have BZ8 := Lib.hid hbz; have B8 := Lib.hid (B7.out.trans (hb8.mono B7.out.size)); have RF8 := Lib.hid (RF7.out.below hb8); clear hbz hb8)))
          have hms := FS.out.2.2.2.1
          go_roundg ((ts'.eraseIdx i).length + 1)
          case measure => omega
          case rel => exact ⟨out ++ [a], ts'.eraseIdx i, _, Nat.le_refl _, RF8.out, BZ8.out, B8.out⟩
      · have hd' : decide ((at_ ts' i).2 ≤ t) = false := decide_eq_false hd
        have REST : Hid (∀ u ∈ ts', ¬ u.2 ≤ t) := fun u hu => by
          obtain ⟨k, hk⟩ := List.getElem?_of_mem hu
          have h := hmin k (List.getElem?_eq_some_iff.1 hk).1
          rw [at_of hk, tle_iff] at h
          omega
        clear hmin hd
        go_wp2_with fail
        go_region
        go_wp2_with fail
        have e12 := fire_all RFF.out.perm RFF.out.srt RFF.out.due (fun u hu => by have := REST.out u hu; omega)
        have hb9 := res_cells wr R (.int .i64 0) (.slice Af out.length cpf) (.int .u64 t) LR.out.res
        refine bodyPost_ret (v := .tuple #[.slice (some ⟨g0, 0, none⟩) ts'.length cp', .int .u64 t, .agg #[.int .i64 0, .slice Af out.length cpf, .int .u64 t]]) (by simp [results, Try.results19, go_sem, cell_of_row _ R 0 _ _ _ hb9, cell_of_row _ R 1 _ _ _ hb9, cell_of_row _ R 2 _ _ _ hb9]) rfl ?_
        refine (step_done LR.out ⟨ts', RFF.out.row, e12.2, RFF.out.nd, by have h9 := RFF.out.len; first | (simp; done) | omega⟩ ⟨_, rfl, ?_⟩).drew_
        have := RFF.out.fir.mono (base' := B) (by have := HRB.out; omega)
        rw [e12.1]
        simpa [List.map_map, Function.comp_def] using this

theorem sadv_any {w : World} {B : Nat} {v : Value} {now : Int} {l : List Tm} (h : RH w B v l) (x t : Int) (hB : B ≤ w.heap.size) :
    Calls Try.prog 19 #[v, .int .u64 now, .agg #[.int .i64 3, .int .i64 x, .int .u64 t]] w (StepPost w B (max now t) (notDue l (max now t)) ⟨0, (ord (due l (max now t))).map (·.1), max now t⟩) := by
  by_cases hmx : t ≤ now
  · rw [show max now t = now by omega]; exact sadv_stay h x t hB hmx
  · rw [show max now t = t by omega]; exact sadv_go h x t hB (by omega)

end Go.Proofs.Ytbhakpkdkeacmaa.Tq
