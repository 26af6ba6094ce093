/-
  The walk of TimerqLooks.
-/
import Derived.Test.YtbhakpkdkeacmaaTqLooksMath
import Derived.BigQuiet
import Derived.Deep.RegionLaw
namespace Go.Proofs.Ytbhakpkdkeacmaa.Tq
open Go.RowKit Go.Maps

set_option maxRecDepth 100000 in
set_option maxHeartbeats 4000000 in
theorem TimerqLooks_walk (a0 : Option Addr) (len0 cap0 : Nat) (zs : List Int) (w : World) (h0 : IntsIn w a0 len0 zs) :
    Calls Try.prog 7 #[.slice a0 len0 cap0] w (BTrue w) := by
  have H0 := Lib.hid h0
  clear h0
  obtain ⟨i0, hi0, hz0, hz1, hz2⟩ := info_parts Try.info33
  go_enter Try.func7, Try.ntmps7
  go_wp2_with (go_at_call 8; ((with_reducible refine (sane_any _).mono ?_); rintro e w1 ⟨rfl, hb⟩; have B1 := Lib.hid hb; clear hb))
  have HM := Lib.hid (made_any (c := cap0) (H0.out.below B1.out (Nat.le_refl _)))
  go_wp2_with (go_at_call 9; ((with_reducible refine HM.out.mono ?_); rintro e w2 ⟨vx, xs, rfl, hx, hxl, hfine, hb⟩; obtain ⟨Ax, cx, rfl, hatx⟩ := hx.read; have X2 := Lib.hid hatx; have FN := Lib.hid hfine; have B2 := Lib.hid (B1.out.trans (hb.mono B1.out.size)); clear hx hb hatx hfine))
  obtain ⟨S, hSS⟩ : ∃ S, S = w2.heap.size := ⟨_, rfl⟩
  go_loopg [3, 4, 16] (xs.length + 1) (fun g vp vq i wr => ∃ (k : Nat) (ps : List TOp), i = .int .i64 k ∧ k ≤ xs.length ∧ xs.length - k + 1 ≤ g ∧ ps.length ≤ k ∧ (∀ o ∈ ps, o.kind ≠ 4) ∧ Two w2 wr S vp ps vq (inter ps))
  case atStart => exact ⟨0, [], rfl, Nat.zero_le _, by omega, Nat.le_refl _, fun o ho => by simp at ho, ⟨⟨World.ownsRow_nil _ _ _ _, fun o ho => by simp at ho⟩, ⟨World.ownsRow_nil _ _ _ _, fun o ho => by simp [inter] at ho⟩, .inl rfl, Below.refl _ _⟩⟩
  case round =>
    obtain ⟨k, ps, rfl, hk, hg, hpl, hp4, htwo⟩ := hrel
    obtain ⟨Ap, cp, rfl⟩ := htwo.p.shape
    obtain ⟨Aq, cq, rfl⟩ := htwo.q.shape
    have hwr := htwo.bel.size
    have hql := inter_length ps
    have HQL := Lib.hid hql
    by_cases hkn : k < xs.length
    · obtain ⟨o, hxo⟩ : ∃ o, xs[k]? = some o := ⟨xs[k], List.getElem?_eq_getElem _⟩
      obtain ⟨b, off, rfl, hbB, hcells⟩ := X2.out.at_ (by omega)
      obtain ⟨a0, a1, a2⟩ := hcells k o hxo
      have hbS : b < S := by omega
      have a0' := (htwo.bel.cell (p := ⟨b, off + k * 3, none⟩) hbS).trans a0
      have a1' := (htwo.bel.cell (p := ⟨b, off + k * 3 + 1, none⟩) hbS).trans a1
      have a2' := (htwo.bel.cell (p := ⟨b, off + k * 3 + 2, none⟩) hbS).trans a2
      have hki : (k : Int) < (xs.length : Int) := by omega
      have OW := Lib.hid (X2.out.wf o (List.mem_of_getElem? hxo))
      have TW := Lib.hid htwo
      have P4 := Lib.hid hp4
      clear a0 a1 a2 hcells hxo htwo hp4 hql
      obtain ⟨kd, x, t⟩ := o
      obtain ⟨W1, hW1⟩ : ∃ W1, W1 = wr.alloc (.cells #[.int .i64 kd, .int .i64 x, .int .u64 t] 33) := ⟨_, rfl⟩
      obtain ⟨bx, hbx⟩ : ∃ bx, bx = wr.heap.size := ⟨_, rfl⟩
      have hb1 : Below wr.heap.size wr W1 := by rw [hW1]; exact (Below.refl _ _).alloc (Nat.le_refl _) _
      have hblk : W1.heap[bx]? = some (.cells #[.int .i64 kd, .int .i64 x, .int .u64 t] 33 (0, 0)) := by rw [hW1, hbx]; exact heap_alloc_new wr _
      have htw1 := TW.out.step hb1 (by omega)
      have T1 := Lib.hid htw1
      have HW1 := Lib.hid hW1
      have HBX := Lib.hid hbx
      have q0 := cell_of_row W1 bx 0 _ _ _ hblk
      have q1 := cell_of_row W1 bx 1 _ _ _ hblk
      have q2 := cell_of_row W1 bx 2 _ _ _ hblk
      have hwS : S ≤ W1.heap.size := by have := hb1.size; omega
      have hbl := heap_lt hblk
      have BXL := Lib.hid hbl
      have BK := Lib.hid hblk
      have NEP := Lib.hid (show some bx ≠ (Value.slice Ap ps.length cp).ownBlock from fun e => by have := own_lt TW.out.p.1 e.symm; omega)
      have NEP0 := Lib.hid (show some W1.heap.size ≠ (Value.slice Ap ps.length cp).ownBlock from fun e => by have := own_lt T1.out.p.1 e.symm; omega)
      have NEP1 := Lib.hid (show some (W1.heap.size + 1) ≠ (Value.slice Ap ps.length cp).ownBlock from fun e => by have := own_lt T1.out.p.1 e.symm; omega)
      clear htw1 hW1 hbx hb1 hblk
      by_cases hk4 : kd = 4
      · subst hk4
        go_wp2_with fail
        rw [← HW1.out]
        go_roundg (xs.length - (k + 1) + 1)
        case measure => omega
        case rel => exact ⟨k + 1, ps, by go_num, by omega, Nat.le_refl _, by omega, P4.out, T1.out⟩
      · go_wp2_with fail
        rw [← HW1.out, ← HBX.out]
        go_region_law (first
          | (refine step_append_lies _ rfl (.tmp 23) (.tmp 25) 23 rfl S 33 i0 (.agg #[.int .i64 0, .int .i64 0, .int .u64 0]) 3 24 Try.underlying23 hi0 hz0 hz1 hz2 rfl (by decide) (.slice Ap ps.length cp) ps.length _ rfl (T1.out.p.1.alloc _) ⟨W1.heap.size, 0, none⟩ 1 1 [.int .i64 kd, .int .i64 x, .int .u64 t] rfl rfl (news_three W1 _ _ _ _) (by simp [Value.oneCell']) (by omega) (by unfold maxLen; omega) (by omega) (by simp; omega) _ rfl ?_; intro g5 cap5 w5 hown5 hgrow5 hat5 hlt5; have G5 : (W1.alloc (.cells #[.int .i64 kd, .int .i64 x, .int .u64 t] 33)).grownBy w5 (Value.slice Ap ps.length cp).ownBlock := ⟨hgrow5.os, hgrow5.tape, hgrow5.output, hgrow5.size, hgrow5.block⟩; have hm5 := Two.appP (o := ⟨kd, x, t⟩) (T1.out.step ((Below.refl W1.heap.size W1).alloc (Nat.le_refl _) _) hwS) (by simp; omega) OW.out hown5 G5 (app_at hat5 rfl (by simp)); have M5 := Lib.hid hm5; have hs5 := G5.size; have hbk5 := (G5.block bx (by simp; omega) NEP.out).trans ((Below.heap_alloc W1 _ bx BXL.out).trans BK.out); have r0 := cell_of_row w5 bx 0 _ _ _ hbk5; have r1 := cell_of_row w5 bx 1 _ _ _ hbk5; have r2 := cell_of_row w5 bx 2 _ _ _ hbk5; clear hown5 hgrow5 hat5 hlt5 hm5 G5 hbk5)
          | (refine step_append_lies _ rfl (.tmp 23) (.tmp 25) 23 rfl S 33 i0 (.agg #[.int .i64 0, .int .i64 0, .int .u64 0]) 3 24 Try.underlying23 hi0 hz0 hz1 hz2 rfl (by decide) (.slice Ap ps.length cp) ps.length _ rfl ((T1.out.p.1.alloc _).alloc _) ⟨W1.heap.size, 0, none⟩ 1 1 [.int .i64 kd, .int .i64 x, .int .u64 t] rfl rfl (news_step (news_three W1 _ _ _ _) (fun p u h => alloc_keeps h)) (by simp [Value.oneCell']) (by omega) (by unfold maxLen; omega) (by omega) (by simp; omega) _ rfl ?_; intro g5 cap5 w5 hown5 hgrow5 hat5 hlt5; have G5 : ((W1.alloc (.cells #[.int .i64 kd, .int .i64 x, .int .u64 t] 33)).alloc (.cells #[.int .i64 4, .int .i64 0, .int .u64 0, .int .i64 kd, .int .i64 x, .int .u64 t] 33)).grownBy w5 (Value.slice Ap ps.length cp).ownBlock := ⟨hgrow5.os, hgrow5.tape, hgrow5.output, hgrow5.size, hgrow5.block⟩; have hm5 := Two.appP (o := ⟨kd, x, t⟩) (T1.out.step (((Below.refl W1.heap.size W1).alloc (Nat.le_refl _) _).alloc (by simp) _) hwS) (by simp; omega) OW.out hown5 G5 (app_at hat5 rfl (by simp)); have M5 := Lib.hid hm5; have hs5 := G5.size; have hbk5 := (G5.block bx (by simp; omega) NEP.out).trans (((Below.heap_alloc (W1.alloc _) _ bx (by have := BXL.out; simp; omega)).trans (Below.heap_alloc W1 _ bx BXL.out)).trans BK.out); have r0 := cell_of_row w5 bx 0 _ _ _ hbk5; have r1 := cell_of_row w5 bx 1 _ _ _ hbk5; have r2 := cell_of_row w5 bx 2 _ _ _ hbk5; have N5B := Lib.hid (grown_keeps G5 NEP1.out (news_at6 (W := W1.alloc (.cells #[.int .i64 kd, .int .i64 x, .int .u64 t] 33)) (s := W1.heap.size + 1) (by simp) (.int .i64 4) (.int .i64 0) (.int .u64 0) (.int .i64 kd) (.int .i64 x) (.int .u64 t) 33)); clear hown5 hgrow5 hat5 hlt5 hm5 G5 hbk5)
          | (refine step_append_lies _ rfl (.tmp 23) (.tmp 25) 23 rfl S 33 i0 (.agg #[.int .i64 0, .int .i64 0, .int .u64 0]) 3 24 Try.underlying23 hi0 hz0 hz1 hz2 rfl (by decide) (.slice Ap ps.length cp) ps.length _ rfl ((T1.out.p.1.alloc _).alloc _) ⟨W1.heap.size + 1, 0, none⟩ 1 1 [.int .i64 kd, .int .i64 x, .int .u64 t] rfl rfl (news3_at (by simp) _ _ _ _) (by simp [Value.oneCell']) (by omega) (by unfold maxLen; omega) (by omega) (by simp; omega) _ rfl ?_; intro g5 cap5 w5 hown5 hgrow5 hat5 hlt5; have G5 : ((W1.alloc (.cells #[.int .i64 4, .int .i64 0, .int .u64 0, .int .i64 kd, .int .i64 x, .int .u64 t] 33)).alloc (.cells #[.int .i64 kd, .int .i64 x, .int .u64 t] 33)).grownBy w5 (Value.slice Ap ps.length cp).ownBlock := ⟨hgrow5.os, hgrow5.tape, hgrow5.output, hgrow5.size, hgrow5.block⟩; have hm5 := Two.appP (o := ⟨kd, x, t⟩) (T1.out.step (((Below.refl W1.heap.size W1).alloc (Nat.le_refl _) _).alloc (by simp) _) hwS) (by simp; omega) OW.out hown5 G5 (app_at hat5 rfl (by simp)); have M5 := Lib.hid hm5; have hs5 := G5.size; have hbk5 := (G5.block bx (by simp; omega) NEP.out).trans (((Below.heap_alloc (W1.alloc _) _ bx (by have := BXL.out; simp; omega)).trans (Below.heap_alloc W1 _ bx BXL.out)).trans BK.out); have r0 := cell_of_row w5 bx 0 _ _ _ hbk5; have r1 := cell_of_row w5 bx 1 _ _ _ hbk5; have r2 := cell_of_row w5 bx 2 _ _ _ hbk5; have N5C := Lib.hid (grown_keeps G5 NEP0.out (news_step (news_six W1 (.int .i64 4) (.int .i64 0) (.int .u64 0) (.int .i64 kd) (.int .i64 x) (.int .u64 t) 33) (fun p u h => alloc_keeps h))); clear hown5 hgrow5 hat5 hlt5 hm5 G5 hbk5)
          | (refine step_append_lies _ rfl (.tmp 27) (.tmp 30) 23 rfl S 33 i0 (.agg #[.int .i64 0, .int .i64 0, .int .u64 0]) 3 24 Try.underlying23 hi0 hz0 hz1 hz2 rfl (by decide) (.slice Aq (inter ps).length cq) (inter ps).length _ rfl (M5.out.q.1.alloc _) ⟨w5.heap.size, 0, none⟩ 2 2 [.int .i64 4, .int .i64 0, .int .u64 0, .int .i64 kd, .int .i64 x, .int .u64 t] rfl rfl (news_six w5 _ _ _ _ _ _ _) (by simp [Value.oneCell']) (by omega) (by have := HQL.out; unfold maxLen; omega) (by have := HQL.out; omega) (by simp at *; omega) _ rfl ?_; intro g7 cap7 w7 hown7 hgrow7 hat7 hlt7; have G7 : (w5.alloc (.cells #[.int .i64 4, .int .i64 0, .int .u64 0, .int .i64 kd, .int .i64 x, .int .u64 t] 33)).grownBy w7 (Value.slice Aq (inter ps).length cq).ownBlock := ⟨hgrow7.os, hgrow7.tape, hgrow7.output, hgrow7.size, hgrow7.block⟩; have M7 := Lib.hid (Two.appQ (o := nx) (o2 := ⟨kd, x, t⟩) (M5.out.step ((Below.refl w5.heap.size w5).alloc (Nat.le_refl _) _) (by simp at *; omega)) (by simp at *; omega) ⟨rfl, rfl, rfl⟩ OW.out hown7 G7 (app_at hat7 rfl (by simp))); clear hown7 hgrow7 hat7 hlt7 G7)
          | (refine step_append_lies _ rfl (.tmp 27) (.tmp 30) 23 rfl S 33 i0 (.agg #[.int .i64 0, .int .i64 0, .int .u64 0]) 3 24 Try.underlying23 hi0 hz0 hz1 hz2 rfl (by decide) (.slice Aq (inter ps).length cq) (inter ps).length _ rfl M5.out.q.1 ⟨W1.heap.size + 1, 0, none⟩ 2 2 [.int .i64 4, .int .i64 0, .int .u64 0, .int .i64 kd, .int .i64 x, .int .u64 t] rfl rfl N5B.out (by simp [Value.oneCell']) (by omega) (by have := HQL.out; unfold maxLen; omega) (by have := HQL.out; omega) (by simp at *; omega) _ rfl ?_; intro g7 cap7 w7 hown7 hgrow7 hat7 hlt7; have G7 : w5.grownBy w7 (Value.slice Aq (inter ps).length cq).ownBlock := ⟨hgrow7.os, hgrow7.tape, hgrow7.output, hgrow7.size, hgrow7.block⟩; have M7 := Lib.hid (Two.appQ (o := nx) (o2 := ⟨kd, x, t⟩) M5.out (by simp at *; omega) ⟨rfl, rfl, rfl⟩ OW.out hown7 G7 (app_at hat7 rfl (by simp))); clear hown7 hgrow7 hat7 hlt7 G7)
          | (refine step_append_lies _ rfl (.tmp 27) (.tmp 30) 23 rfl S 33 i0 (.agg #[.int .i64 0, .int .i64 0, .int .u64 0]) 3 24 Try.underlying23 hi0 hz0 hz1 hz2 rfl (by decide) (.slice Aq (inter ps).length cq) (inter ps).length _ rfl M5.out.q.1 ⟨W1.heap.size, 0, none⟩ 2 2 [.int .i64 4, .int .i64 0, .int .u64 0, .int .i64 kd, .int .i64 x, .int .u64 t] rfl rfl N5C.out (by simp [Value.oneCell']) (by omega) (by have := HQL.out; unfold maxLen; omega) (by have := HQL.out; omega) (by simp at *; omega) _ rfl ?_; intro g7 cap7 w7 hown7 hgrow7 hat7 hlt7; have G7 : w5.grownBy w7 (Value.slice Aq (inter ps).length cq).ownBlock := ⟨hgrow7.os, hgrow7.tape, hgrow7.output, hgrow7.size, hgrow7.block⟩; have M7 := Lib.hid (Two.appQ (o := nx) (o2 := ⟨kd, x, t⟩) M5.out (by simp at *; omega) ⟨rfl, rfl, rfl⟩ OW.out hown7 G7 (app_at hat7 rfl (by simp))); clear hown7 hgrow7 hat7 hlt7 G7))
        all_goals
          go_wp2_with fail
          go_roundg (xs.length - (k + 1) + 1)
          case measure => omega
          case rel =>
            refine ⟨k + 1, ps ++ [⟨kd, x, t⟩], by go_num, by omega, Nat.le_refl _, by simp; omega, fun o ho => ?_, by rw [inter_snoc]; exact M7.out⟩
            rcases List.mem_append.1 ho with ho | ho
            · exact P4.out o ho
            · simp at ho; subst ho; exact hk4
    · have hki : ¬ (k : Int) < (xs.length : Int) := by omega
      have TW := Lib.hid htwo
      have P4 := Lib.hid hp4
      have hMP := htwo.p.at_.2
      have hMQ := htwo.q.at_.2
      rw [hql] at hMQ ⊢
      have MP := Lib.hid hMP
      have MQ := Lib.hid hMQ
      have hn : ps.length ≤ 120 := by omega
      have B3 := Lib.hid (B2.out.trans (htwo.bel.mono (by have := B2.out.size; omega)))
      have hql2 : (play [] 0 (inter ps)).length = 2 * ps.length := by rw [play_length, hql]
      have QL2 := Lib.hid hql2
      clear htwo hp4 hMP hMQ hkn hk hg hpl hql hql2
      go_wp2_with (first
        | (go_at_call 11; ((with_reducible refine (play_any MP.out (by omega)).mono ?_); rintro e w6 ⟨v6, rfl, hr6, hb6⟩; obtain ⟨A6, c6, rfl⟩ := hr6.shape; rw [play_length]; rw [play_length] at hr6; have R6 := Lib.hid hr6; have B6 := Lib.hid hb6; have MQ6 := Lib.hid ((MQ.out.below hb6).mono hb6.size); clear hr6 hb6))
        | (go_at_call 11; ((with_reducible refine (play_any MQ6.out (by omega)).mono ?_); rintro e w7 ⟨v7, rfl, hr7, hb7⟩; obtain ⟨A7, c7, rfl⟩ := hr7.shape; rw [QL2.out]; rw [QL2.out] at hr7; have R7 := Lib.hid hr7; have S7 := Lib.hid (R6.out.below hb7); have B7 := Lib.hid ((B3.out.trans (B6.out.mono B3.out.size)).trans (hb7.mono (by have := B3.out.size; have := B6.out.size; omega))); clear hr7 hb7)))
      go_loopg [51] (ps.length + 1) (fun g i wr => ∃ j : Nat, i = .int .i64 j ∧ j ≤ ps.length ∧ ps.length - j + 1 ≤ g ∧ Below w7.heap.size w7 wr)
      case atStart => exact ⟨0, rfl, Nat.zero_le _, by omega, Below.refl _ _⟩
      case round =>
        obtain ⟨j, rfl, hj, hg, hbl⟩ := hrel
        have BL := Lib.hid hbl
        have hs7 := hbl.size
        clear hbl
        by_cases hjn : j < ps.length
        · have hji : (j : Int) < (ps.length : Int) := by omega
          obtain ⟨o, ho⟩ : ∃ o, ps[j]? = some o := ⟨ps[j], List.getElem?_eq_getElem _⟩
          have hpa := play_at [] 0 ps j o ho
          obtain ⟨hpn, hpb⟩ := inter_at [] 0 ps j o ho
          have h4 := P4.out o (List.mem_of_getElem? ho)
          have hlk := fun m r => look_first (l := runL [] 0 (ps.take j)) (now := runN 0 (ps.take j)) (m := m) (r := r) h4
          have hfl := play_fired [] 0 ps (by simp) _ (List.mem_of_getElem? hpa)
          generalize stepR (runL [] 0 (ps.take j)) (runN 0 (ps.take j)) o = ra at *
          generalize stepR (runL [] 0 (ps.take j)) (runN 0 (ps.take j)) nx = rn at *
          have h6 := S7.out.below BL.out
          have h7 := R7.out.below BL.out
          have hc6 := h6.cap (by rw [play_length]; omega)
          have hc7 := h7.cap (by rw [QL2.out]; omega)
          rw [play_length] at hc6
          rw [QL2.out] at hc7
          obtain ⟨g6, f6, rfl, _, hg6, a0, a1, a2, hf6⟩ := h6.get hpa
          obtain ⟨g7, f7, rfl, _, hg7, n0, n1, n2, hf7⟩ := h7.get hpn
          have ho6 := h6.one hpa hfl
          have ho7 := h7.one hpb hfl
          obtain ⟨F6, d6, rfl, hr6⟩ := FiredAt.rd hf6
          obtain ⟨F7, d7, rfl, hr7⟩ := FiredAt.rd hf7
          have HC := Lib.hid (fun (m' c1 c2 : Nat) => same_eq (w := wr.drewN m') (c1 := c1) (c2 := c2) ho6 ho7 (by omega))
          have hm6 : c6 ≤ 9223372036854775807 := by have := hc6.2; unfold maxLen at this; omega
          have hm7 : c7 ≤ 9223372036854775807 := by have := hc7.2; unfold maxLen at this; omega
          have hc61 := hc6.1
          have hc71 := hc7.1
          have LK := Lib.hid hlk
          clear hpa hpn hpb h4 hlk h6 h7 hc6 hc7 hf6 hf7 ho6 ho7 ho
          go_wp2_with fail
          go_quiet ((go_at_call 10; exact Calls.quiet_of (HC.out _ _ _)))
          clear HC
          generalize hWq : wr.drewN _ = Wq
          have hkq : ∀ p u, wr.cell? p = some u → Wq.cell? p = some u := fun p u h => by rw [← hWq]; exact h
          have hbq : Below wr.heap.size wr Wq := by rw [← hWq]; exact below_drewN _ _
          have BQ := Lib.hid (BL.out.trans (hbq.mono hs7))
          clear hWq hbq
          obtain ⟨W9, hW9⟩ : ∃ W9, W9 = Wq.alloc (.cells #[.int .i64 rn.code, .slice F7 rn.fired.length d7, .int .u64 rn.time] 39) := ⟨_, rfl⟩
          obtain ⟨b9, hb9⟩ : ∃ b9, b9 = Wq.heap.size := ⟨_, rfl⟩
          have hk9 : ∀ p u, wr.cell? p = some u → W9.cell? p = some u := fun p u h => by rw [hW9]; exact alloc_keeps (hkq p u h)
          have hbk9 : W9.heap[b9]? = some (.cells #[.int .i64 rn.code, .slice F7 rn.fired.length d7, .int .u64 rn.time] 39 (0, 0)) := by rw [hW9, hb9]; exact heap_alloc_new Wq _
          have z0 := cell_of_row W9 b9 0 _ _ _ hbk9
          have z1 := cell_of_row W9 b9 1 _ _ _ hbk9
          have z2 := cell_of_row W9 b9 2 _ _ _ hbk9
          have B9 : Hid (Below w7.heap.size w7 W9) := by rw [hW9]; exact BQ.out.alloc BQ.out.size _
          have HW9 := Lib.hid hW9
          have HB9 := Lib.hid hb9
          have n0q := hkq _ _ n0
          have n1q := hkq _ _ n1
          have n2q := hkq _ _ n2
          have a0q := hk9 _ _ a0
          have a1q := hk9 _ _ a1
          have a2q := hk9 _ _ a2
          clear hW9 hb9 hbk9 n0 n1 n2 a0 a1 a2
          cases hfr : ra.fired with
          | nil =>
            rw [hfr] at a1q
            simp only [List.length_nil] at a1q
            clear hk9 hkq
            go_wp2_with fail
            rw [← HW9.out, ← HB9.out]
            go_quiet (fail)
            go_wp2_with fail
            go_roundg (ps.length - (j + 1) + 1)
            case measure => omega
            case rel => exact ⟨j + 1, by go_num, by omega, Nat.le_refl _, B9.out.trans ((below_drewN _ _).mono B9.out.size)⟩
          | cons m r =>
            obtain ⟨t, hrn, htt⟩ := LK.out m r hfr
            obtain ⟨L, hL⟩ : ∃ L, L = ra.fired.length := ⟨_, rfl⟩
            have hL1 : 0 < L := by rw [hL, hfr]; simp
            have hL2 : (0 : Int) < (L : Int) := by omega
            rw [← hL] at a1q hr6
            subst hrn
            obtain ⟨gf6, rfl, hc6⟩ := hr6.2 hL1
            obtain ⟨gf7, rfl, hc7⟩ := hr7.2 (by simp)
            have e6 := hk9 _ _ (hc6 0 m (by rw [hfr]; rfl))
            have e7 := hk9 _ _ (hc7 0 m rfl)
            simp only [List.length_cons, List.length_nil, Nat.zero_add] at z1 n1q
            have htF : decide (t > ra.time) = false := decide_eq_false (by omega)
            have hLT : decide ((L : Int) > 0) = true := decide_eq_true (by omega)
            clear hk9 hkq hc6 hc7 hr6 hr7 hL
            have hW9' := HW9.out
            simp only [List.length_cons, List.length_nil, Nat.zero_add] at hW9'
            have HW9' := Lib.hid hW9'
            clear hW9'
            go_wp2_with fail
            rw [← HW9'.out, ← HB9.out]
            go_quiet (fail)
            go_wp2_with fail
            go_roundg (ps.length - (j + 1) + 1)
            case measure => omega
            case rel => exact ⟨j + 1, by go_num, by omega, Nat.le_refl _, B9.out.trans ((below_drewN _ _).mono B9.out.size)⟩
        · have hji : ¬ (j : Int) < (ps.length : Int) := by omega
          go_wp2_with fail
          go_ret
          exact ⟨rfl, B7.out.trans (BL.out.mono B7.out.size)⟩
end Go.Proofs.Ytbhakpkdkeacmaa.Tq
