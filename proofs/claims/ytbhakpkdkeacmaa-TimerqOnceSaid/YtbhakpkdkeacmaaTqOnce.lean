/-
  The walk of TimerqOnce.
-/
import Derived.Test.YtbhakpkdkeacmaaTqDivides
import Derived.Test.YtbhakpkdkeacmaaTqOnceMem
import Derived.BigQuiet
namespace Go.Proofs.Ytbhakpkdkeacmaa.Tq
open Go.RowKit Go.Maps

set_option maxRecDepth 100000 in
set_option maxHeartbeats 4000000 in
theorem TimerqOnce_walk (a0 : Option Addr) (len0 cap0 : Nat) (zs : List Int) (w : World) (h0 : IntsIn w a0 len0 zs) :
    Calls Try.prog 5 #[.slice a0 len0 cap0] w (BTrue w) := by
  have H0 := Lib.hid h0
  clear h0
  have hm5 : ∀ W : World, (Instr.makeSlice 35 (.int .i64 9) (.int .i64 9)).run Try.prog W = .ok (.slice (some ⟨W.heap.size, 0, none⟩) 9 9) (W.alloc (.cells (madeCells #[.int .u64 0] 9) 30)) := fun W => run_make_row' 35 30 (.int .u64 0) 8 Try.underlying35 Try.info30 rfl .i64 .i64 9 (by omega) (by omega) W
  have hm6 : ∀ W : World, (Instr.makeSlice 36 (.int .i64 9) (.int .i64 9)).run Try.prog W = .ok (.slice (some ⟨W.heap.size, 0, none⟩) 9 9) (W.alloc (.cells (madeCells #[.bool false] 9) 4)) := fun W => run_make_row' 36 4 (.bool false) 1 Try.underlying36 Try.info4 rfl .i64 .i64 9 (by omega) (by omega) W
  go_enter Try.func5, Try.ntmps5
  go_wp2_with (go_at_call 8; ((with_reducible refine (sane_any _).mono ?_); rintro e w1 ⟨rfl, hb⟩; have B1 := Lib.hid hb; clear hb))
  have HM := Lib.hid (made_any (c := cap0) (H0.out.below B1.out (Nat.le_refl _)))
  go_wp2_with (first
    | (go_at_call 9; ((with_reducible refine HM.out.mono ?_); rintro e w2 ⟨vx, xs, rfl, hx, hxl, hfine, hb⟩; obtain ⟨Ax, cx, rfl, hatx⟩ := hx.read; have X2 := Lib.hid hatx; have FN := Lib.hid hfine; have B2 := Lib.hid (B1.out.trans (hb.mono B1.out.size)); clear hx hb hatx hfine))
    | (go_at_call 11; ((with_reducible refine (play_any X2.out (by omega)).mono ?_); rintro e w6 ⟨v6, rfl, hr6, hb6⟩; obtain ⟨A6, c6, rfl⟩ := hr6.shape; rw [play_length]; rw [play_length] at hr6; have R6 := Lib.hid hr6; have B6 := Lib.hid hb6; clear hr6 hb6)))
  have hs6 := B6.out.size
  apply share (Made2 w6)
  · intro key
    have KEY := Lib.hid key
    clear key
    go_region
    · have hR := tab_made1 w6
      generalize (w6.alloc (.cells (madeCells #[.int .u64 0] 9) 30)).alloc (.cells (madeCells #[.bool false] 9) 4) = W at hR ⊢
      obtain ⟨P, hP⟩ : ∃ P, P = w6.heap.size := ⟨_, rfl⟩
      obtain ⟨Q, hQ⟩ : ∃ Q, Q = w6.heap.size + 1 := ⟨_, rfl⟩
      rw [← hQ, ← hP] at hR ⊢
      obtain ⟨W', hW'⟩ : ∃ W', W' = W.drew := ⟨_, rfl⟩
      rw [← hW'] at hR ⊢
      exact KEY.out P Q W' hR
    · have hR := tab_made2 w6
      generalize (w6.alloc (.cells (madeCells #[.bool false] 9) 4)).alloc (.cells (madeCells #[.int .u64 0] 9) 30) = W at hR ⊢
      obtain ⟨P, hP⟩ : ∃ P, P = w6.heap.size + 1 := ⟨_, rfl⟩
      obtain ⟨Q, hQ⟩ : ∃ Q, Q = w6.heap.size := ⟨_, rfl⟩
      rw [← hP, ← hQ] at hR ⊢
      obtain ⟨W', hW'⟩ : ∃ W', W' = W.drew := ⟨_, rfl⟩
      rw [← hW'] at hR ⊢
      exact KEY.out P Q W' hR
  · intro P Q W ⟨hT, hB, hP, hQ⟩
    have T0 := Lib.hid hT
    have BW := Lib.hid hB
    have hPQ := hT.ne
    have hQP := hT.ne.symm
    clear hT hB
    go_wp2_with fail
    go_loopg [7, 29] (xs.length + 1) (fun g vn i wr => ∃ (k : Nat) (A : Nat → Int) (S : Nat → Bool), vn = .int .u64 (runN 0 (xs.take k)) ∧ i = .int .i64 k ∧ k ≤ xs.length ∧ xs.length - k + 1 ≤ g ∧ Tab wr P Q A S ∧ Tr (runL [] 0 (xs.take k)) A S ∧ Below w6.heap.size w6 wr)
    case atStart => exact ⟨0, _, _, rfl, rfl, Nat.zero_le _, by omega, T0.out, Tr.nil _, BW.out⟩
    case round =>
      obtain ⟨k, A, S, rfl, rfl, hk, hg, htab, htr, hbl⟩ := hrel
      by_cases hkn : k < xs.length
      · have hki : (k : Int) < (xs.length : Int) := by omega
        obtain ⟨o, hxo⟩ : ∃ o, xs[k]? = some o := ⟨xs[k], List.getElem?_eq_getElem _⟩
        have hfo := FN.out o (List.mem_of_getElem? hxo)
        have hpa := play_at [] 0 xs k o hxo
        have hln : runL [] 0 (xs.take (k + 1)) = stepL (runL [] 0 (xs.take k)) (runN 0 (xs.take k)) o := by rw [take_snoc' hxo, runL_snoc]
        have hnn : runN 0 (xs.take (k + 1)) = stepN (runN 0 (xs.take k)) o := by rw [take_snoc' hxo, runN_snoc]
        have hlen := runL_le [] 0 (xs.take k)
        have hll : (runL [] 0 (xs.take k)).length < 256 := by rw [List.length_take] at hlen; simp at hlen; omega
        clear hlen
        obtain ⟨b, off, rfl, hbB, hcells⟩ := X2.out.at_ (by omega)
        obtain ⟨a0, a1, a2⟩ := hcells k o hxo
        have hBB := B6.out.trans (hbl.mono hs6)
        have a0' := (hBB.cell (p := ⟨b, off + k * 3, none⟩) hbB).trans a0
        have a1' := (hBB.cell (p := ⟨b, off + k * 3 + 1, none⟩) hbB).trans a1
        have a2' := (hBB.cell (p := ⟨b, off + k * 3 + 2, none⟩) hbB).trans a2
        clear a0 a1 a2 hcells hxo hBB
        generalize runL [] 0 (xs.take k) = l at *
        generalize runN 0 (xs.take k) = now at *
        obtain ⟨kd, x, t⟩ := o
        obtain ⟨hkd, hx0, hx9, ht0, ht1⟩ := hfo
        obtain ⟨n, rfl⟩ := Int.eq_ofNat_of_zero_le hx0
        have hni : (n : Int) < 9 := hx9
        have hn9 : n < 9 := by omega
        obtain ⟨bx, hbx⟩ : ∃ bx, bx = wr.heap.size := ⟨_, rfl⟩
        obtain ⟨W1, hW1⟩ : ∃ W1, W1 = wr.alloc (.cells #[.int .i64 kd, .int .i64 (n : Nat), .int .u64 t] 33) := ⟨_, rfl⟩
        have hb1 : Below wr.heap.size wr W1 := by rw [hW1]; exact (Below.refl _ _).alloc (Nat.le_refl _) _
        have hblk : W1.heap[bx]? = some (.cells #[.int .i64 kd, .int .i64 (n : Nat), .int .u64 t] 33 (0, 0)) := by rw [hW1, hbx]; exact heap_alloc_new wr _
        have htab1 := htab.below hb1
        have hbP : bx ≠ P := by have := htab.lt.1; omega
        have hbQ : bx ≠ Q := by have := htab.lt.2; omega
        have hPb : P ≠ bx := hbP.symm
        have hQb : Q ≠ bx := hbQ.symm
        have hbl1 := hbl.trans (hb1.mono hbl.size)
        have T1 := Lib.hid htab1
        have TR := Lib.hid htr
        have BL1 := Lib.hid hbl1
        have HW1 := Lib.hid hW1
        have HBX := Lib.hid hbx
        have LN := Lib.hid hln
        have NN := Lib.hid hnn
        have PA := Lib.hid hpa
        have q0 := cell_of_row W1 bx 0 _ _ _ hblk
        have q1 := cell_of_row W1 bx 1 _ _ _ hblk
        have q2 := cell_of_row W1 bx 2 _ _ _ hblk
        have BK := Lib.hid hblk
        obtain ⟨cA, fA⟩ := htab1.atA hn9
        obtain ⟨cS, fS⟩ := htab1.atS hn9
        clear htab htr hbl hW1 hbx hln hnn hpa hb1 hblk htab1 hbl1
        have hkd' : kd = 1 ∨ kd = 2 ∨ kd = 3 ∨ kd = 4 := hkd
        clear hkd
        rcases hkd' with rfl | rfl | rfl | rfl
        · go_wp2_with fail
          rw [← HW1.out, ← HBX.out]
          go_region
          all_goals
            go_wp2_with fail
            go_roundg (xs.length - (k + 1) + 1)
            case measure => omega
            case rel =>
              refine ⟨k + 1, up A n t, up S n true, by rw [NN.out]; simp [stepN], by go_num, by omega, Nat.le_refl _, ?_, by rw [LN.out]; exact TR.out.put hll now n hn9 t, ?_⟩
              · exact ((T1.out.setA n t).setS n true).drew
              · exact ((BL1.out.setCell hP _).setCell hQ _).drew
        · have hset := TR.out.set n hn9
          have hcode := cut_code l now n t
          obtain ⟨gr, f, rfl, _, hgr, c0, _, _, _⟩ := (R6.out.below BL1.out).get PA.out
          cases hm : mem l n with
          | true =>
            rw [hm] at hset hcode
            rw [hset] at cS
            rw [hcode, if_pos rfl] at c0
            clear hset hcode hm
            go_wp2_with fail
            rw [← HW1.out, ← HBX.out]
            go_quiet (fail)
            go_wp2_with fail
            go_roundg (xs.length - (k + 1) + 1)
            case measure => omega
            case rel =>
              refine ⟨k + 1, A, up S n false, by rw [NN.out]; simp [stepN], by go_num, by omega, Nat.le_refl _, ?_, by rw [LN.out]; exact TR.out.cut now n t, ?_⟩
              · exact (T1.out.drewN _).setS n false
              · exact (BL1.out.trans ((below_drewN _ _).mono BL1.out.size)).setCell hQ _
          | false =>
            rw [hm] at hset hcode
            rw [hset] at cS
            rw [hcode, if_neg (by simp)] at c0
            clear hset hcode hm
            go_wp2_with fail
            rw [← HW1.out, ← HBX.out]
            go_quiet (fail)
            go_wp2_with fail
            go_roundg (xs.length - (k + 1) + 1)
            case measure => omega
            case rel =>
              refine ⟨k + 1, A, up S n false, by rw [NN.out]; simp [stepN], by go_num, by omega, Nat.le_refl _, ?_, by rw [LN.out]; exact TR.out.cut now n t, ?_⟩
              · exact (T1.out.drewN _).setS n false
              · exact (BL1.out.trans ((below_drewN _ _).mono BL1.out.size)).setCell hQ _
        · obtain ⟨M, hM⟩ : ∃ M, M = max now t := ⟨_, rfl⟩
          have hrep : stepR l now ⟨3, (n : Nat), t⟩ = ⟨0, (ord (due l M)).map (·.1), M⟩ := by rw [hM]; simp [stepR]
          have hstl : stepL l now ⟨3, (n : Nat), t⟩ = notDue l M := by rw [hM]; simp [stepL]
          have hstn : stepN now ⟨3, (n : Nat), t⟩ = M := by rw [hM]; simp [stepN]
          have hpa := PA.out
          have hln := LN.out
          have hnn := NN.out
          rw [hrep] at hpa
          rw [hstl] at hln
          rw [hstn] at hnn
          have hadv := fun S' hS => TR.out.adv_ (S' := S') M hS
          have hfi := fires l A M TR.out.nd
          obtain ⟨F, hF⟩ : ∃ F, F = ord (due l M) := ⟨_, rfl⟩
          rw [← hF] at hpa hfi hadv
          have hFl : F.length < 256 := by
            have : (ord (due l M)).length ≤ l.length := by rw [(ord_perm _).length_eq]; exact List.length_filter_le _ _
            rw [hF]; omega
          obtain ⟨gr, f, rfl, _, hgr, _, c1, _, hfr⟩ := R6.out.get hpa
          obtain ⟨Af, cf, rfl⟩ := own_shape hfr
          rw [List.length_map] at c1
          have c1' := (BL1.out.cell (p := ⟨gr, k * 3 + 1, none⟩) hgr).trans c1
          have PA3 := Lib.hid hpa
          have LN3 := Lib.hid hln
          have NN3 := Lib.hid hnn
          have AD := Lib.hid hadv
          have FI := Lib.hid hfi
          have FR := Lib.hid hfr
          have C1 := Lib.hid c1
          have HMX := Lib.hid hM
          clear hM hrep hstl hstn hpa hln hnn hadv hfi hfr c1 hF
          go_wp2_with (refine wpList_max _ rfl (.tmp 68) (.tmp 70) 30 rfl now t rfl rfl ?_; rw [← HMX.out, ← HW1.out, ← HBX.out])
          go_loopg [78] (F.length + 1) (fun g i wr2 => ∃ (j : Nat) (S' : Nat → Bool), i = .int .i64 j ∧ j ≤ F.length ∧ F.length - j + 1 ≤ g ∧ Tab wr2 P Q A S' ∧ (∀ x : Nat, x < 9 → S' x = (mem l x && !mem (F.take j) x)) ∧ Below w6.heap.size w6 wr2)
          case atStart => exact ⟨0, S, rfl, Nat.zero_le _, by omega, T1.out, fun x hx => by rw [TR.out.set x hx]; simp [mem], BL1.out⟩
          case round =>
            obtain ⟨j, S', rfl, hj, hgj, htab2, hS', hbl2⟩ := hrel
            have T2 := Lib.hid htab2
            have BL2 := Lib.hid hbl2
            have SS := Lib.hid hS'
            have LTS := Lib.hid htab2.lt
            clear htab2 hS' hbl2 q0 q1 q2 cA fA cS fS a0' a1' a2' c1'
            have c1 := (BL2.out.cell (p := ⟨gr, k * 3 + 1, none⟩) hgr).trans C1.out
            obtain ⟨Af', cf', hv, hrd⟩ := FiredAt.rd (own_below FR.out BL2.out)
            rw [List.length_map] at hv hrd
            simp only [Value.slice.injEq] at hv
            obtain ⟨rfl, _, rfl⟩ := hv
            by_cases hjn : j < F.length
            · have hji : (j : Int) < (F.length : Int) := by omega
              obtain ⟨tj, htj⟩ : ∃ tj, F[j]? = some tj := ⟨F[j], List.getElem?_eq_getElem _⟩
              obtain ⟨hjl, hjM⟩ := FI.out.of tj (List.mem_of_getElem? htj)
              obtain ⟨m, hm⟩ := Int.eq_ofNat_of_zero_le (TR.out.ids tj hjl).1
              have hm9 : (m : Int) < 9 := by have := (TR.out.ids tj hjl).2; omega
              have hm9' : m < 9 := by omega
              have hset : S' m = true := by
                rw [SS.out m hm9', ← hm, not_yet FI.out.nd htj]
                have : mem l tj.1 = true := mem_iff.2 ⟨tj, hjl, rfl⟩
                rw [this]; rfl
              have hAm : A m = tj.2 := by have := TR.out.at_ tj hjl; rw [hm] at this; simpa using this
              obtain ⟨gf, rfl, hcf⟩ := hrd.2 (by omega)
              have ci := hcf j tj.1 (by rw [List.getElem?_map, htj]; rfl)
              rw [hm] at ci
              obtain ⟨dA, gA⟩ := T2.out.atA hm9'
              obtain ⟨dS, gS⟩ := T2.out.atS hm9'
              rw [hset] at dS
              rw [hAm] at dA
              have hnext := left_snoc htj m hm SS.out
              have NX := Lib.hid hnext
              clear hset hAm hnext
              rcases Nat.eq_zero_or_pos j with rfl | hjp
              · clear hcf hrd
                have TJ := Lib.hid htj
                clear htj
                go_wp2_with fail
                go_roundg (F.length - (0 + 1) + 1)
                case measure => omega
                case rel => exact ⟨0 + 1, up S' m false, by go_num, by omega, Nat.le_refl _, T2.out.setS m false, NX.out, BL2.out.setCell hQ _⟩
              · obtain ⟨jp, rfl⟩ : ∃ jp, j = jp + 1 := ⟨j - 1, by omega⟩
                obtain ⟨tp, htp⟩ : ∃ tp, F[jp]? = some tp := ⟨F[jp]'(by omega), List.getElem?_eq_getElem _⟩
                obtain ⟨hpl, hpM⟩ := FI.out.of tp (List.mem_of_getElem? htp)
                obtain ⟨p, hp⟩ := Int.eq_ofNat_of_zero_le (TR.out.ids tp hpl).1
                have hp9 : (p : Int) < 9 := by have := (TR.out.ids tp hpl).2; omega
                have hp9' : p < 9 := by omega
                have hAp : A p = tp.2 := by have := TR.out.at_ tp hpl; rw [hp] at this; simpa using this
                have hne : tp.1 ≠ tj.1 := nd_ne FI.out.nd htp htj (by omega)
                have hle := (tle_iff _ _).1 (sorted_at FI.out.srt htp htj (by omega))
                rw [hp, hm] at hne hle
                have cp := hcf jp tp.1 (by rw [List.getElem?_map, htp]; rfl)
                rw [hp] at cp
                obtain ⟨eA, _⟩ := T2.out.atA hp9'
                rw [hAp] at eA
                obtain ⟨am, ham⟩ : ∃ am, am = tj.2 := ⟨_, rfl⟩
                obtain ⟨ap, hap⟩ : ∃ ap, ap = tp.2 := ⟨_, rfl⟩
                rw [← hap] at eA hle
                rw [← ham] at dA hle hjM
                have hjp1 : (jp : Int) < (F.length : Int) := by omega
                have hjb : (jp : Int) < 256 := by omega
                have hcast : ((jp + 1 : Nat) : Int) - 1 = (jp : Int) := by omega
                have hpos : (0 : Int) < ((jp + 1 : Nat) : Int) := by omega
                have HT := Lib.hid htj
                have HP := Lib.hid htp
                clear hcf hrd htj htp hap ham hAp hpM hpl hjl hm hp
                have hgtF : decide (ap > am) = false := decide_eq_false (by omega)
                by_cases hlt : ap = am
                · subst hlt
                  have hge : decide ((p : Int) ≥ (m : Int)) = false := decide_eq_false (by omega)
                  go_wp2_with fail
                  go_quiet (fail)
                  go_wp2_with fail
                  go_roundg (F.length - (jp + 1 + 1) + 1)
                  case measure => omega
                  case rel => exact ⟨jp + 1 + 1, up S' m false, by go_num, by omega, Nat.le_refl _, (T2.out.drewN _).setS m false, NX.out, (BL2.out.trans ((below_drewN _ _).mono BL2.out.size)).setCell hQ _⟩
                · have heq : decide (ap = am) = false := decide_eq_false hlt
                  have hlt2 : ap < am := by omega
                  go_wp2_with fail
                  go_quiet (fail)
                  go_wp2_with fail
                  go_roundg (F.length - (jp + 1 + 1) + 1)
                  case measure => omega
                  case rel => exact ⟨jp + 1 + 1, up S' m false, by go_num, by omega, Nat.le_refl _, (T2.out.drewN _).setS m false, NX.out, (BL2.out.trans ((below_drewN _ _).mono BL2.out.size)).setCell hQ _⟩
            · have hji : ¬ (j : Int) < (F.length : Int) := by omega
              have e1 : F.take j = F := by rw [show j = F.length from by omega]; exact List.take_length
              have hS2 := SS.out
              rw [e1] at hS2
              have htr3 := AD.out S' hS2
              have TR3 := Lib.hid htr3
              clear hS2 e1 htr3 hrd
              go_wp2_with fail
              go_loopg [146] (9 + 1) (fun g i wr3 => ∃ q : Nat, i = .int .i64 q ∧ q ≤ 9 ∧ 9 - q + 1 ≤ g ∧ Tab wr3 P Q A S' ∧ Below w6.heap.size w6 wr3)
              case atStart => exact ⟨0, rfl, Nat.zero_le _, by omega, T2.out, BL2.out⟩
              case round =>
                obtain ⟨q, rfl, hq, hgq, htab3, hbl3⟩ := hrel
                by_cases hq9 : q < 9
                · have hqi : (q : Int) < 9 := by omega
                  obtain ⟨dA, _⟩ := htab3.atA hq9
                  obtain ⟨dS, _⟩ := htab3.atS hq9
                  have T3 := Lib.hid htab3
                  have BL3 := Lib.hid hbl3
                  clear htab3 hbl3
                  cases hsq : S' q with
                  | true =>
                    have hmem := TR3.out.set q hq9
                    rw [hsq] at hmem
                    obtain ⟨u, hu, hu1⟩ := mem_iff.1 hmem.symm
                    have hau := TR3.out.at_ u hu
                    rw [hu1, show ((q : Int)).toNat = q from by omega] at hau
                    have hu2 : ¬ u.2 ≤ M := by unfold notDue at hu; simp at hu; omega
                    obtain ⟨aq, haq⟩ : ∃ aq, aq = u.2 := ⟨_, rfl⟩
                    rw [hau, ← haq] at dA
                    rw [hsq] at dS
                    have hle : ¬ aq ≤ M := by omega
                    have hleF : decide (aq ≤ M) = false := decide_eq_false hle
                    clear hmem hu hu1 hau haq hu2 hsq
                    go_wp2_with fail
                    go_roundg (9 - (q + 1) + 1)
                    case measure => omega
                    case rel => exact ⟨q + 1, by go_num, by omega, Nat.le_refl _, T3.out, BL3.out⟩
                  | false =>
                    rw [hsq] at dS
                    clear hsq
                    go_wp2_with fail
                    go_roundg (9 - (q + 1) + 1)
                    case measure => omega
                    case rel => exact ⟨q + 1, by go_num, by omega, Nat.le_refl _, T3.out, BL3.out⟩
                · have hqi : ¬ (q : Int) < 9 := by omega
                  have T3 := Lib.hid htab3
                  have BL3 := Lib.hid hbl3
                  clear htab3 hbl3
                  go_wp2_with fail
                  go_roundg (xs.length - (k + 1) + 1)
                  case measure => omega
                  case rel => exact ⟨k + 1, A, S', by rw [NN3.out], by go_num, by omega, Nat.le_refl _, T3.out, by rw [LN3.out]; exact TR3.out, BL3.out⟩
        · go_wp2_with fail
          rw [← HW1.out]
          go_roundg (xs.length - (k + 1) + 1)
          case measure => omega
          case rel => exact ⟨k + 1, A, S, by rw [NN.out]; simp [stepN], by go_num, by omega, Nat.le_refl _, T1.out, by rw [LN.out]; simpa [stepL] using TR.out, BL1.out⟩
      · have hki : ¬ (k : Int) < (xs.length : Int) := by omega
        have hB := hbl
        have BL := Lib.hid hbl
        clear htab htr hbl hB hkn hk hg
        go_wp2_with fail
        go_ret
        exact ⟨rfl, (B2.out.trans (B6.out.mono B2.out.size)).trans (BL.out.mono (by have := B2.out.size; omega))⟩
end Go.Proofs.Ytbhakpkdkeacmaa.Tq
