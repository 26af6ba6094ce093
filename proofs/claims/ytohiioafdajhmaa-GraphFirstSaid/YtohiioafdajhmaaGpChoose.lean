/-
  Layer 7, the program: jobs chosen one after the other. Written by wip/tools/gen_gpchoose.py.
-/
import Derived.Test.YtohiioafdajhmaaGpCl
import Derived.WalkMore
namespace Go.Proofs.Ytohiioafdajhmaa.Gp
open Go.RowKit

theorem lst_one_set {k : IntKind} (w : World) (p : Addr) (u : Value) (x : Int) (t : TypeId) : Lst k ((w.setCell p u).alloc (.cells #[.int k x] t)) (.slice (some ⟨w.heap.size, 0, none⟩) 1 1) [x] := by
  have h := lst_one (k := k) (w.setCell p u) x t
  rw [show (w.setCell p u).heap.size = w.heap.size by simp] at h
  exact h
/-- An own row stays where a row of another type is written. -/
theorem own_set_other {e e' : TypeId} {k : IntKind} {w : World} {B R : Nat} {v : Value} {l : List Int} {cs : Array Value} {fr : Nat × Nat} (h : Own e k w B v l) (hr : w.heap[R]? = some (.cells cs e' fr)) (hne : e ≠ e') (i : Nat) (u : Value) : Own e k (w.setCell ⟨R, i, none⟩ u) B v l := by
  refine ⟨h.1, ?_⟩
  rcases h.2 with h | ⟨g, cap, cur, h1, h2, h3, h4⟩
  · exact .inl h
  · refine .inr ⟨g, cap, cur, h1, h2, (Below.heap_setCell _ _ _ _ ?_).trans h3, h4⟩
    intro e2
    have e2 : g = R := e2
    subst e2
    rw [hr] at h3
    injection h3 with h3
    injection h3 with _ h3
    exact hne h3.symm
set_option maxHeartbeats 4000000 in
set_option maxRecDepth 100000 in
theorem gchooseO_ex {w : World} {v : Value} {nn : List (List Nat)} (h : LL w v nn) (hlt : ∀ i, ∀ k ∈ nn.getD i [], k < nn.length) (hfew : nn.length ≤ 12) :
    Calls Try.prog 41 #[v, .func (.func 48) #[] #[]] w fun e w' => ∃ v', e = .returned v' ∧ Own 3 .i64 w' w.heap.size v' (ints (chooseN nn fitsO)) ∧ Below w.heap.size w w' := by
  have HX := Lib.hid h
  obtain ⟨A, c, rfl, _⟩ := h
  have HLT := Lib.hid hlt
  obtain ⟨n, hn⟩ : ∃ n, n = nn.length := ⟨_, rfl⟩
  rw [← hn] at hfew HLT HX ⊢
  have hmk := mk_bools n hfew
  have HN := Lib.hid hn
  obtain ⟨R, hR⟩ : ∃ R, R = w.heap.size := ⟨_, rfl⟩
  have k0 : (w.alloc (.cells (bo n []) 4)).heap[R]? = some (.cells (bo n []) 4 (0, 0)) := by rw [hR]; exact heap_alloc_new w _
  have K0 := Lib.hid k0
  have B0 := Lib.hid (balloc w (.cells (bo n []) 4))
  have HR := Lib.hid hR
  obtain ⟨fin, hfin⟩ : ∃ fin, fin = chooseN nn fitsO := ⟨_, rfl⟩
  rw [← hfin]
  have FIN := Lib.hid hfin
  clear hn k0 hlt hfin
  go_enter Try.func41, Try.ntmps41
  go_wp2_with fail
  go_step3
  go_wp2_with fail
  go_step3
  go_wp2_with fail
  rw [← hR]
  clear hR hmk
  go_loopg [5] (n + 2) (fun g' v5 wr => ∃ out, Own 3 .i64 wr R v5 (ints out) ∧ wr.heap[R]? = some (.cells (bo n out) 4 (0, 0)) ∧ Run nn fitsO out ∧ restN nn fitsO out = fin ∧ lack n out + 1 ≤ g' ∧ Below R w wr)
  case atStart => exact ⟨[], Own.nil _ _ _ _, K0.out, Run.nil _ _, by rw [restN_nil, FIN.out], by rw [lack_nil]; omega, by rw [HR.out]; exact B0.out⟩
  case round =>
    obtain ⟨out, ho, hrow, hrun, hrest, hg, hbr⟩ := hrel
    obtain ⟨wo, rfl⟩ : ∃ wo : World, wo = wr := ⟨_, rfl⟩
    obtain ⟨A5, c5, hv5⟩ := own_formN ho
    subst hv5
    have hol : out.length ≤ 12 := by have := hrun.cnt; rw [← HN.out] at this; omega
    have BR := Lib.hid hbr
    have ROW := Lib.hid hrow
    have RUN := Lib.hid hrun
    have REST := Lib.hid hrest
    have O := Lib.hid ho
    have hRw := heap_lt hrow
    have RW := Lib.hid hRw
    clear ho hrow hrun hrest hbr hRw
    go_wp2_with fail
    go_loopg [5, 13] (n + 1) (fun g2 v5 i w2 => ∃ (k : Nat), v5 = .slice A5 out.length c5 ∧ i = .int .i64 k ∧ k ≤ n ∧ (∀ m, m < k → fitB nn fitsO out m = false) ∧ n - k + 1 ≤ g2 ∧ Below wo.heap.size wo w2)
    case atStart => exact ⟨0, rfl, rfl, by omega, fun m hm => by omega, by omega, Below.refl _ _⟩
    case round =>
      obtain ⟨k, rfl, rfl, hk, hno, hg2, hb2⟩ := hrel
      obtain ⟨w2, rfl⟩ : ∃ w2 : World, w2 = wr := ⟨_, rfl⟩
      have NO := Lib.hid hno
      have B2 := Lib.hid hb2
      have BW := Lib.hid (BR.out.trans (hb2.mono (Nat.le_of_lt RW.out)))
      have row2 := (hb2.block R RW.out).trans ROW.out
      clear hno hb2
      by_cases hkn : k < n
      · have hki : (k : Int) < (n : Int) := by omega
        have ck := cell_of_row w2 R k _ _ _ row2
        rw [bo_at _ hkn] at ck
        have f1 : w2.frozen? ⟨R, k, none⟩ = false := by simp [World.frozen?, row2]
        have R2 := Lib.hid row2
        clear row2
        by_cases hm : k ∈ out
        · rw [decide_eq_true hm] at ck
          have M := Lib.hid hm
          clear hm f1
          go_wp2_with fail
          go_roundg (n - (k + 1) + 1)
          case measure => omega
          case rel =>
            refine ⟨k + 1, rfl, by go_num, by omega, fun m hm2 => ?_, Nat.le_refl _, B2.out⟩
            rcases Nat.lt_or_ge m k with h | h
            · exact NO.out m h
            · obtain rfl : m = k := by omega
              unfold fitB; rw [decide_eq_false (not_not_intro M.out)]; rfl
        · rw [decide_eq_false hm] at ck
          have M := Lib.hid hm
          clear hm
          obtain ⟨_, _, e1, hcells⟩ := HX.out.below (by rw [← HR.out]; exact BW.out)
          injection e1 with e1 e2 e3
          subst e1
          have hkl : k < nn.length := by rw [← HN.out]; exact hkn
          obtain ⟨g, off, u, rfl, hu, hul⟩ := hcells k _ (List.getElem?_eq_getElem hkl)
          have hgd : nn.getD k [] = nn[k]'hkl := by rw [List.getD_eq_getElem?_getD, List.getElem?_eq_getElem hkl]; rfl
          have hlt2 := HLT.out k
          obtain ⟨need, hneed⟩ : ∃ need, need = nn.getD k [] := ⟨_, rfl⟩
          rw [← hgd, ← hneed] at hul
          rw [← hneed] at hlt2
          have ND := Lib.hid hneed
          obtain ⟨Au, cu, rfl⟩ := lst_formN hul
          have row2b := R2.out
          have HF := Lib.hid (gfitO_ex hul hlt2 (bl_row row2b n))
          clear hcells hul hgd e2 e3 row2b hlt2 hneed
          cases hf : fitsO need out with
          | false =>
            rw [hf] at HF
            have FB := Lib.hid hf
            clear hf f1
            go_wp2_with (go_at_call 48; ((with_reducible refine HF.out.mono ?_); rintro e w3 ⟨rfl, hb3⟩; have B3 := Lib.hid (B2.out.trans (hb3.mono B2.out.size)); clear hb3))
            go_roundg (n - (k + 1) + 1)
            case measure => omega
            case rel =>
              refine ⟨k + 1, rfl, by go_num, by omega, fun m hm2 => ?_, Nat.le_refl _, B3.out⟩
              rcases Nat.lt_or_ge m k with h | h
              · exact NO.out m h
              · obtain rfl : m = k := by omega
                unfold fitB; rw [← ND.out, FB.out, Bool.and_false]
          | true =>
            rw [hf] at HF
            have hnext : nextF nn fitsO out = some k := by
              unfold nextF
              rw [← HN.out, firstF_skip (b := k) (Nat.zero_le _) (by omega) (fun m _ hm => NO.out m hm), show 0 + n - k = n - k - 1 + 1 by omega]
              exact firstF_yes (by unfold fitB; rw [decide_eq_true M.out, ← ND.out, hf]; rfl)
            have NX := Lib.hid hnext
            clear hf hnext
            go_wp2_with (first
              | (go_at_call 48; ((with_reducible refine HF.out.mono ?_); rintro e w3 ⟨rfl, hb3⟩; have r3 := (hb3.block R (heap_lt R2.out)).trans R2.out; have ck3 : w3.cell? ⟨R, k, none⟩ = some (.bool false) := cell_up hb3 ck; have f3 : w3.frozen? ⟨R, k, none⟩ = false := (by simp [World.frozen?, r3]); have R3 := Lib.hid r3; have O3 := Lib.hid ((O.out.below B2.out).below (hb3)); have BW3 := Lib.hid (BW.out.trans (hb3.mono (Nat.le_of_lt (heap_lt R2.out)))); clear hb3 r3 ck f1))
              | (at_builtin; refine wpList_app (m := [(k : Int)]) rfl _ _ rfl elInt rfl ((own_set_other O3.out R3.out (by decide) k (.bool true)).below (balloc _ _)) rfl (lst_one_set _ _ _ (k : Int) 3) (by simp; omega) (by have := heap_lt R3.out; simp; omega) ?_; intro v5 w5 hO5 hF5; obtain ⟨A6, c6, hv5, hO6⟩ := own_snocN hO5; subst hv5; have B5 := Lib.hid (((BW3.out.setCell (p := ⟨R, k, none⟩) (Nat.le_refl _) (.bool true)).alloc (by have := heap_lt R3.out; simp; omega) _).trans hF5.bel); have r4 := row_set R3.out k (.bool true); rw [bo_set hkn] at r4; have R5 := Lib.hid (hF5.keep R _ _ _ ((Below.heap_alloc _ _ _ (heap_lt r4)).trans r4) (by decide)); have O5 := Lib.hid hO6; clear hO5 hF5 hO6 r4))
            go_roundg (lack n (out ++ [k]) + 1)
            case measure => have := lack_snoc hkn M.out; omega
            case rel => exact ⟨out ++ [k], O5.out, R5.out, RUN.out.snoc NX.out, by rw [restN_some NX.out]; exact REST.out, Nat.le_refl _, B5.out⟩
      · obtain rfl : k = n := by omega
        have hnext : nextF nn fitsO out = none := by
          unfold nextF
          rw [← HN.out, firstF_skip (b := k) (Nat.zero_le _) (by omega) (fun m _ hm => NO.out m hm), show 0 + k - k = 0 by omega]
          rfl
        have hfo : fin = out := by rw [← REST.out]; exact restN_none hnext
        have FO := Lib.hid hfo
        have O2 := Lib.hid (O.out.below B2.out)
        clear hnext hfo row2
        go_wp2_with fail
        rw [Exit.noGoto_ret]
        go_ret
        exact ⟨_, rfl, by rw [FO.out, ← HR.out]; exact O2.out, by rw [← HR.out]; exact BW.out⟩
set_option maxHeartbeats 4000000 in
set_option maxRecDepth 100000 in
theorem gchooseD_ex {w : World} {v : Value} {nn : List (List Nat)} (h : LL w v nn) (hlt : ∀ i, ∀ k ∈ nn.getD i [], k < nn.length) (hfew : nn.length ≤ 12) {ib : Nat} {i0 : Int} (hi : w.cell? ⟨ib, 0, none⟩ = some (.int .i64 i0)) :
    Calls Try.prog 41 #[v, .func (.func 42) #[] #[.pointer (some ⟨ib, 0, none⟩)]] w fun e w' => ∃ v', e = .returned v' ∧ Own 3 .i64 w' w.heap.size v' (ints (chooseN nn (fitsD i0))) ∧ Below w.heap.size w w' := by
  have HX := Lib.hid h
  obtain ⟨A, c, rfl, _⟩ := h
  have HLT := Lib.hid hlt
  obtain ⟨n, hn⟩ : ∃ n, n = nn.length := ⟨_, rfl⟩
  rw [← hn] at hfew HLT HX ⊢
  have hmk := mk_bools n hfew
  have HN := Lib.hid hn
  obtain ⟨R, hR⟩ : ∃ R, R = w.heap.size := ⟨_, rfl⟩
  have k0 : (w.alloc (.cells (bo n []) 4)).heap[R]? = some (.cells (bo n []) 4 (0, 0)) := by rw [hR]; exact heap_alloc_new w _
  have K0 := Lib.hid k0
  have B0 := Lib.hid (balloc w (.cells (bo n []) 4))
  have HR := Lib.hid hR
  obtain ⟨fin, hfin⟩ : ∃ fin, fin = chooseN nn (fitsD i0) := ⟨_, rfl⟩
  rw [← hfin]
  have FIN := Lib.hid hfin
  have HI0 := Lib.hid hi
  clear hi
  clear hn k0 hlt hfin
  go_enter Try.func41, Try.ntmps41
  go_wp2_with fail
  go_step3
  go_wp2_with fail
  go_step3
  go_wp2_with fail
  rw [← hR]
  clear hR hmk
  go_loopg [5] (n + 2) (fun g' v5 wr => ∃ out, Own 3 .i64 wr R v5 (ints out) ∧ wr.heap[R]? = some (.cells (bo n out) 4 (0, 0)) ∧ Run nn (fitsD i0) out ∧ restN nn (fitsD i0) out = fin ∧ lack n out + 1 ≤ g' ∧ Below R w wr)
  case atStart => exact ⟨[], Own.nil _ _ _ _, K0.out, Run.nil _ _, by rw [restN_nil, FIN.out], by rw [lack_nil]; omega, by rw [HR.out]; exact B0.out⟩
  case round =>
    obtain ⟨out, ho, hrow, hrun, hrest, hg, hbr⟩ := hrel
    obtain ⟨wo, rfl⟩ : ∃ wo : World, wo = wr := ⟨_, rfl⟩
    obtain ⟨A5, c5, hv5⟩ := own_formN ho
    subst hv5
    have hol : out.length ≤ 12 := by have := hrun.cnt; rw [← HN.out] at this; omega
    have BR := Lib.hid hbr
    have ROW := Lib.hid hrow
    have RUN := Lib.hid hrun
    have REST := Lib.hid hrest
    have O := Lib.hid ho
    have hRw := heap_lt hrow
    have RW := Lib.hid hRw
    clear ho hrow hrun hrest hbr hRw
    go_wp2_with fail
    go_loopg [5, 13] (n + 1) (fun g2 v5 i w2 => ∃ (k : Nat), v5 = .slice A5 out.length c5 ∧ i = .int .i64 k ∧ k ≤ n ∧ (∀ m, m < k → fitB nn (fitsD i0) out m = false) ∧ n - k + 1 ≤ g2 ∧ Below wo.heap.size wo w2)
    case atStart => exact ⟨0, rfl, rfl, by omega, fun m hm => by omega, by omega, Below.refl _ _⟩
    case round =>
      obtain ⟨k, rfl, rfl, hk, hno, hg2, hb2⟩ := hrel
      obtain ⟨w2, rfl⟩ : ∃ w2 : World, w2 = wr := ⟨_, rfl⟩
      have NO := Lib.hid hno
      have B2 := Lib.hid hb2
      have BW := Lib.hid (BR.out.trans (hb2.mono (Nat.le_of_lt RW.out)))
      have row2 := (hb2.block R RW.out).trans ROW.out
      clear hno hb2
      by_cases hkn : k < n
      · have hki : (k : Int) < (n : Int) := by omega
        have ck := cell_of_row w2 R k _ _ _ row2
        rw [bo_at _ hkn] at ck
        have f1 : w2.frozen? ⟨R, k, none⟩ = false := by simp [World.frozen?, row2]
        have R2 := Lib.hid row2
        clear row2
        by_cases hm : k ∈ out
        · rw [decide_eq_true hm] at ck
          have M := Lib.hid hm
          clear hm f1
          go_wp2_with fail
          go_roundg (n - (k + 1) + 1)
          case measure => omega
          case rel =>
            refine ⟨k + 1, rfl, by go_num, by omega, fun m hm2 => ?_, Nat.le_refl _, B2.out⟩
            rcases Nat.lt_or_ge m k with h | h
            · exact NO.out m h
            · obtain rfl : m = k := by omega
              unfold fitB; rw [decide_eq_false (not_not_intro M.out)]; rfl
        · rw [decide_eq_false hm] at ck
          have M := Lib.hid hm
          clear hm
          obtain ⟨_, _, e1, hcells⟩ := HX.out.below (by rw [← HR.out]; exact BW.out)
          injection e1 with e1 e2 e3
          subst e1
          have hkl : k < nn.length := by rw [← HN.out]; exact hkn
          obtain ⟨g, off, u, rfl, hu, hul⟩ := hcells k _ (List.getElem?_eq_getElem hkl)
          have hgd : nn.getD k [] = nn[k]'hkl := by rw [List.getD_eq_getElem?_getD, List.getElem?_eq_getElem hkl]; rfl
          have hlt2 := HLT.out k
          obtain ⟨need, hneed⟩ : ∃ need, need = nn.getD k [] := ⟨_, rfl⟩
          rw [← hgd, ← hneed] at hul
          rw [← hneed] at hlt2
          have ND := Lib.hid hneed
          obtain ⟨Au, cu, rfl⟩ := lst_formN hul
          have row2b := R2.out
          have HF := Lib.hid (gfitD_ex hul hlt2 (bl_row row2b n) (cell_up (by rw [← HR.out]; exact BW.out) HI0.out))
          clear hcells hul hgd e2 e3 row2b hlt2 hneed
          cases hf : (fitsD i0) need out with
          | false =>
            rw [hf] at HF
            have FB := Lib.hid hf
            clear hf f1
            go_wp2_with (go_at_call 42; ((with_reducible refine HF.out.mono ?_); rintro e w3 ⟨rfl, hb3⟩; have B3 := Lib.hid (B2.out.trans (hb3.mono B2.out.size)); clear hb3))
            go_roundg (n - (k + 1) + 1)
            case measure => omega
            case rel =>
              refine ⟨k + 1, rfl, by go_num, by omega, fun m hm2 => ?_, Nat.le_refl _, B3.out⟩
              rcases Nat.lt_or_ge m k with h | h
              · exact NO.out m h
              · obtain rfl : m = k := by omega
                unfold fitB; rw [← ND.out, FB.out, Bool.and_false]
          | true =>
            rw [hf] at HF
            have hnext : nextF nn (fitsD i0) out = some k := by
              unfold nextF
              rw [← HN.out, firstF_skip (b := k) (Nat.zero_le _) (by omega) (fun m _ hm => NO.out m hm), show 0 + n - k = n - k - 1 + 1 by omega]
              exact firstF_yes (by unfold fitB; rw [decide_eq_true M.out, ← ND.out, hf]; rfl)
            have NX := Lib.hid hnext
            clear hf hnext
            go_wp2_with (first
              | (go_at_call 42; ((with_reducible refine HF.out.mono ?_); rintro e w3 ⟨rfl, hb3⟩; have r3 := (hb3.block R (heap_lt R2.out)).trans R2.out; have ck3 : w3.cell? ⟨R, k, none⟩ = some (.bool false) := cell_up hb3 ck; have f3 : w3.frozen? ⟨R, k, none⟩ = false := (by simp [World.frozen?, r3]); have R3 := Lib.hid r3; have O3 := Lib.hid ((O.out.below B2.out).below (hb3)); have BW3 := Lib.hid (BW.out.trans (hb3.mono (Nat.le_of_lt (heap_lt R2.out)))); clear hb3 r3 ck f1))
              | (at_builtin; refine wpList_app (m := [(k : Int)]) rfl _ _ rfl elInt rfl ((own_set_other O3.out R3.out (by decide) k (.bool true)).below (balloc _ _)) rfl (lst_one_set _ _ _ (k : Int) 3) (by simp; omega) (by have := heap_lt R3.out; simp; omega) ?_; intro v5 w5 hO5 hF5; obtain ⟨A6, c6, hv5, hO6⟩ := own_snocN hO5; subst hv5; have B5 := Lib.hid (((BW3.out.setCell (p := ⟨R, k, none⟩) (Nat.le_refl _) (.bool true)).alloc (by have := heap_lt R3.out; simp; omega) _).trans hF5.bel); have r4 := row_set R3.out k (.bool true); rw [bo_set hkn] at r4; have R5 := Lib.hid (hF5.keep R _ _ _ ((Below.heap_alloc _ _ _ (heap_lt r4)).trans r4) (by decide)); have O5 := Lib.hid hO6; clear hO5 hF5 hO6 r4))
            go_roundg (lack n (out ++ [k]) + 1)
            case measure => have := lack_snoc hkn M.out; omega
            case rel => exact ⟨out ++ [k], O5.out, R5.out, RUN.out.snoc NX.out, by rw [restN_some NX.out]; exact REST.out, Nat.le_refl _, B5.out⟩
      · obtain rfl : k = n := by omega
        have hnext : nextF nn (fitsD i0) out = none := by
          unfold nextF
          rw [← HN.out, firstF_skip (b := k) (Nat.zero_le _) (by omega) (fun m _ hm => NO.out m hm), show 0 + k - k = 0 by omega]
          rfl
        have hfo : fin = out := by rw [← REST.out]; exact restN_none hnext
        have FO := Lib.hid hfo
        have O2 := Lib.hid (O.out.below B2.out)
        clear hnext hfo row2
        go_wp2_with fail
        rw [Exit.noGoto_ret]
        go_ret
        exact ⟨_, rfl, by rw [FO.out, ← HR.out]; exact O2.out, by rw [← HR.out]; exact BW.out⟩
end Go.Proofs.Ytohiioafdajhmaa.Gp
