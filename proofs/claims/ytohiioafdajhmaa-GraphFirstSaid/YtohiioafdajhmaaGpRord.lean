/-
  Layer 7, the reference: free, Order, left.
-/
import Derived.Test.YtohiioafdajhmaaGpCyc
namespace Go.Proofs.Ytohiioafdajhmaa.Gp
open Go.RowKit

set_option maxHeartbeats 1000000 in
set_option maxRecDepth 100000 in
theorem rfree_ex {w : World} {v tv : Value} {js : List GJ} (h : JL w v js) {taken : List Nat} (ht : Lst .i64 w tv (ints taken)) (i : Nat) :
    Calls Try.prog 31 #[v, tv, .int .i64 i] w (BPost w (fitsO ((nnOf js).getD i []) taken)) := by
  have HN := Lib.hid (rneeds_ex h i)
  rw [needsI_nat] at HN
  obtain ⟨A, c, rfl⟩ := h.form
  obtain ⟨At, ct, rfl⟩ := lst_formN ht
  have HT := Lib.hid ht
  obtain ⟨need, hneed⟩ : ∃ need, need = (nnOf js).getD i [] := ⟨_, rfl⟩
  rw [← hneed] at HN ⊢
  clear h ht hneed
  go_enter Try.func31, Try.ntmps31
  go_wp2_with (go_at_call 18; ((with_reducible refine HN.out.mono ?_); rintro e w1 ⟨v1, rfl, hl1, hb1⟩; obtain ⟨A1, c1, rfl⟩ := lst_formN hl1; have L1 := Lib.hid hl1; have B1 := Lib.hid hb1; have T1 := Lib.hid (HT.out.below hb1); clear hl1 hb1))
  obtain ⟨m, hm⟩ : ∃ m, m = need.length := ⟨_, rfl⟩
  rw [← hm]
  have hmb : m ≤ 9223372036854775807 := by have := lst_bd L1.out; rw [ints_length, ← hm] at this; exact this
  have M := Lib.hid hm
  clear hm
  go_loopg [8] (m + 1) (fun g' i wr => ∃ (k : Nat), i = .int .i64 k ∧ k ≤ m ∧ (∀ x ∈ need.take k, x ∈ taken) ∧ m - k + 1 ≤ g' ∧ ∃ d, wr = w1.drewN d)
  case atStart => exact ⟨0, rfl, by omega, by simp, by omega, 0, rfl⟩
  case round =>
    obtain ⟨k, rfl, hk, hno, hg, d, rfl⟩ := hrel
    have NO := Lib.hid hno
    clear hno
    by_cases hkm : k < m
    · have hki : (k : Int) < (m : Int) := by omega
      have hkl : k < need.length := by rw [← M.out]; exact hkm
      obtain ⟨g, off, rfl, hc⟩ := lst_cells (L1.out.drewN d) (by rw [ints_length]; omega)
      have h0 := hc k (by rw [ints_length]; exact hkl)
      rw [getD_ints (by rw [ints_length]; exact hkl)] at h0
      have htk : need.take (k + 1) = need.take k ++ [need[k]'hkl] := List.take_succ_eq_append_getElem hkl
      have hmem : need[k]'hkl ∈ need := List.getElem_mem hkl
      generalize need[k]'hkl = y at *
      have TK := Lib.hid htk
      have ME := Lib.hid hmem
      have HH := Lib.hid (rhas_ex (T1.out.drewN d) (y : Int))
      clear hc htk hmem
      by_cases hy : y ∈ taken
      · rw [decide_eq_true (mem_ints.2 hy)] at HH
        have Y := Lib.hid hy
        clear hy
        go_wp2_with (go_at_call 24; ((with_reducible refine HH.out.mono ?_); rintro e w4 ⟨rfl, d1, rfl⟩))
        go_roundg (m - (k + 1) + 1)
        case measure => omega
        case rel =>
          refine ⟨k + 1, by go_num, by omega, fun x hx => ?_, Nat.le_refl _, d + d1, rfl⟩
          rw [TK.out, List.mem_append] at hx
          rcases hx with hx | hx
          · exact NO.out x hx
          · simp at hx; rw [hx]; exact Y.out
      · rw [decide_eq_false (fun e => hy (mem_ints.1 e))] at HH
        have Y := Lib.hid hy
        clear hy
        go_wp2_with (go_at_call 24; ((with_reducible refine HH.out.mono ?_); rintro e w4 ⟨rfl, d1, rfl⟩))
        go_ret
        refine ⟨ret_b ?_, B1.out.trans ((below_drewN w1 (d + d1)).mono B1.out.size)⟩
        exact (Bool.eq_false_iff.2 fun e => Y.out (fitsO_iff.1 e y ME.out)).symm
    · obtain rfl : k = m := by omega
      have hno := NO.out
      rw [List.take_of_length_le (by rw [M.out]; exact Nat.le_refl _)] at hno
      have NO2 := Lib.hid hno
      clear hno
      go_wp2_with fail
      go_ret
      exact ⟨ret_b (fitsO_iff.2 NO2.out).symm, B1.out.trans ((below_drewN w1 d).mono B1.out.size)⟩
set_option maxHeartbeats 2000000 in
set_option maxRecDepth 100000 in
theorem rorder_ex {w : World} {v : Value} {js : List GJ} (h : JL w v js) :
    Calls Try.prog 14 #[v] w fun e w' => ∃ v', e = .returned v' ∧ Own 3 .i64 w' w.heap.size v' (ints (orderN (nnOf js))) ∧ Below w.heap.size w w' := by
  have hfew := nnOf_few h
  have HF := Lib.hid (fun (W : World) (tv : Value) (taken : List Nat) (i : Nat) (hb : Below w.heap.size w W) (ht : Lst .i64 W tv (ints taken)) => rfree_ex (h.below hb) ht i)
  obtain ⟨A, c, rfl⟩ := h.form
  obtain ⟨nn, hnn⟩ : ∃ nn, nn = nnOf js := ⟨_, rfl⟩
  have hjl : js.length = nn.length := by rw [hnn, nnOf_length]
  rw [← hnn] at HF hfew ⊢
  rw [hjl] at HF ⊢
  obtain ⟨n, hn⟩ : ∃ n, n = nn.length := ⟨_, rfl⟩
  rw [← hn] at HF hfew ⊢
  have HN := Lib.hid hn
  obtain ⟨fin, hfin⟩ : ∃ fin, fin = orderN nn := ⟨_, rfl⟩
  rw [← hfin]
  have FIN := Lib.hid (show fin = chooseN nn fitsO from hfin)
  clear h hnn hjl hn hfin
  go_enter Try.func14, Try.ntmps14
  go_wp2_with fail
  go_loopg [3, 4] 400 (fun g' v3 i wr => ∃ (out : List Nat) (k : Nat), i = .int .i64 k ∧ k ≤ n ∧ Own 3 .i64 wr w.heap.size v3 (ints out) ∧ Run nn fitsO out ∧ restN nn fitsO out = fin ∧ (∀ m, m < k → fitB nn fitsO out m = false) ∧ lack n out * 14 + (n - k) + 1 ≤ g' ∧ Below w.heap.size w wr)
  case atStart => exact ⟨[], 0, rfl, by omega, Own.nil _ _ _ _, Run.nil _ _, by rw [restN_nil, FIN.out], fun m hm => by omega, by rw [lack_nil]; omega, Below.refl _ _⟩
  case round =>
    obtain ⟨out, k, rfl, hk, ho, hrun, hrest, hno, hg, hbr⟩ := hrel
    obtain ⟨wo, rfl⟩ : ∃ wo : World, wo = wr := ⟨_, rfl⟩
    obtain ⟨A5, c5, hv5⟩ := own_formN ho
    subst hv5
    have hol : out.length ≤ 12 := by have := hrun.cnt; rw [← HN.out] at this; omega
    have O := Lib.hid ho
    have RUN := Lib.hid hrun
    have REST := Lib.hid hrest
    have NO := Lib.hid hno
    have BR := Lib.hid hbr
    have HH := Lib.hid (rhas_ex ho.lst (k : Int))
    clear ho hrun hrest hno hbr
    by_cases hkn : k < n
    · have hki : (k : Int) < (n : Int) := by omega
      by_cases hm : k ∈ out
      · rw [decide_eq_true (mem_ints.2 hm)] at HH
        have M := Lib.hid hm
        clear hm
        go_wp2_with (go_at_call 24; ((with_reducible refine HH.out.mono ?_); rintro e w4 ⟨rfl, d1, rfl⟩))
        go_roundg (lack n out * 14 + (n - (k + 1)) + 1)
        case measure => omega
        case rel =>
          refine ⟨out, k + 1, by go_num, by omega, O.out.below (below_drewN _ _), RUN.out, REST.out, fun m hm2 => ?_, Nat.le_refl _, BR.out.trans ((below_drewN _ _).mono BR.out.size)⟩
          rcases Nat.lt_or_ge m k with h | h
          · exact NO.out m h
          · obtain rfl : m = k := by omega
            unfold fitB; rw [decide_eq_false (not_not_intro M.out)]; rfl
      · rw [decide_eq_false (fun e => hm (mem_ints.1 e))] at HH
        have M := Lib.hid hm
        have HFR := Lib.hid (fun d => HF.out (wo.drewN d) _ out k (BR.out.trans ((below_drewN wo d).mono BR.out.size)) (O.out.lst.drewN d))
        clear hm
        cases hf : fitsO (nn.getD k []) out with
        | false =>
          rw [hf] at HFR
          have FB := Lib.hid hf
          clear hf
          go_wp2_with (first
            | (go_at_call 24; ((with_reducible refine HH.out.mono ?_); rintro e w4 ⟨rfl, d1, rfl⟩))
            | (go_at_call 31; ((with_reducible refine (HFR.out _).mono ?_); rintro e w5 ⟨rfl, hb5⟩; have B5 := Lib.hid ((below_drewN wo d1).trans (hb5.mono (below_drewN wo d1).size)); clear hb5)))
          go_roundg (lack n out * 14 + (n - (k + 1)) + 1)
          case measure => omega
          case rel =>
            refine ⟨out, k + 1, by go_num, by omega, O.out.below B5.out, RUN.out, REST.out, fun m hm2 => ?_, Nat.le_refl _, BR.out.trans (B5.out.mono BR.out.size)⟩
            rcases Nat.lt_or_ge m k with h | h
            · exact NO.out m h
            · obtain rfl : m = k := by omega
              unfold fitB; rw [FB.out, Bool.and_false]
        | true =>
          rw [hf] at HFR
          have hnext : nextF nn fitsO out = some k := by
            unfold nextF
            rw [← HN.out, firstF_skip (b := k) (Nat.zero_le _) (by omega) (fun m _ hm => NO.out m hm), show 0 + n - k = n - k - 1 + 1 by omega]
            exact firstF_yes (by unfold fitB; rw [decide_eq_true M.out, hf]; rfl)
          have NX := Lib.hid hnext
          clear hf hnext
          go_wp2_with (first
            | (go_at_call 24; ((with_reducible refine HH.out.mono ?_); rintro e w4 ⟨rfl, d1, rfl⟩))
            | (go_at_call 31; ((with_reducible refine (HFR.out _).mono ?_); rintro e w5 ⟨rfl, hb5⟩; have hb5' := (below_drewN wo d1).trans (hb5.mono (below_drewN wo d1).size); have O5 := Lib.hid (O.out.below hb5'); have B5 := Lib.hid (BR.out.trans (hb5'.mono BR.out.size)); clear hb5 hb5'))
            | (at_builtin; refine wpList_app (m := [(k : Int)]) rfl _ _ rfl elInt rfl (O5.out.below (balloc _ _)) rfl (lst_one _ (k : Int) 3) (by simp; omega) (by have := B5.out.size; simp; omega) ?_; intro v6 w6 hO6 hF6; obtain ⟨A6, c6, hv6, hO7⟩ := own_snocN hO6; subst hv6; have B6 := Lib.hid ((B5.out.alloc B5.out.size _).trans hF6.bel); have O6 := Lib.hid hO7; clear hO6 hF6 hO7))
          go_roundg (lack n (out ++ [k]) * 14 + (n - 0) + 1)
          case measure => have := lack_snoc hkn M.out; omega
          case rel => exact ⟨out ++ [k], 0, by go_num, by omega, O6.out, RUN.out.snoc NX.out, by rw [restN_some NX.out]; exact REST.out, fun m hm => by omega, Nat.le_refl _, B6.out⟩
    · obtain rfl : k = n := by omega
      have hnext : nextF nn fitsO out = none := by
        unfold nextF
        rw [← HN.out, firstF_skip (b := k) (Nat.zero_le _) (by omega) (fun m _ hm => NO.out m hm), show 0 + k - k = 0 by omega]
        rfl
      have hfo : fin = out := by rw [← REST.out]; exact restN_none hnext
      have FO := Lib.hid hfo
      clear hnext hfo
      go_wp2_with fail
      go_ret
      exact ⟨_, rfl, by rw [FO.out]; exact O.out, BR.out⟩
theorem find_none_snoc {p : Nat → Bool} {l : List Nat} {y : Nat} (h : l.find? p = none) (hy : p y = false) : (l ++ [y]).find? p = none := by
  rw [List.find?_append, h]
  simp [hy]
set_option maxRecDepth 100000 in
theorem rleft_ex {w : World} {lv tv : Value} {l taken : List Nat} (hl : Lst .i64 w lv (ints l)) (ht : Lst .i64 w tv (ints taken)) :
    Calls Try.prog 37 #[lv, tv] w fun e w' => e = .returned (.int .i64 (optI (leftF taken l))) ∧ ∃ d, w' = w.drewN d := by
  have hbd := lst_bd hl
  rw [ints_length] at hbd
  obtain ⟨A, c, rfl⟩ := lst_formN hl
  obtain ⟨At, ct, rfl⟩ := lst_formN ht
  have L := Lib.hid hl
  have T := Lib.hid ht
  obtain ⟨m, hm⟩ : ∃ m, m = l.length := ⟨_, rfl⟩
  rw [← hm] at hbd ⊢
  have M := Lib.hid hm
  clear hl ht hm
  go_enter Try.func37, Try.ntmps37
  go_wp2_with fail
  go_loopg [5] (m + 1) (fun g' i wr => ∃ (k : Nat), i = .int .i64 k ∧ k ≤ m ∧ (l.take k).find? (fun k => decide (k ∉ taken)) = none ∧ m - k + 1 ≤ g' ∧ ∃ d, wr = w.drewN d)
  case atStart => exact ⟨0, rfl, by omega, by simp, by omega, 0, rfl⟩
  case round =>
    obtain ⟨k, rfl, hk, hno, hg, d, rfl⟩ := hrel
    have NO := Lib.hid hno
    clear hno
    by_cases hkm : k < m
    · have hki : (k : Int) < (m : Int) := by omega
      have hkl : k < l.length := by rw [← M.out]; exact hkm
      obtain ⟨g, off, rfl, hc⟩ := lst_cells L.out (by rw [ints_length]; omega)
      have h0 := hc k (by rw [ints_length]; exact hkl)
      rw [getD_ints (by rw [ints_length]; exact hkl)] at h0
      have htk : l.take (k + 1) = l.take k ++ [l[k]'hkl] := List.take_succ_eq_append_getElem hkl
      have hsp : l = l.take k ++ l[k]'hkl :: l.drop (k + 1) := by rw [← List.drop_eq_getElem_cons hkl, List.take_append_drop]
      generalize l[k]'hkl = y at *
      have TK := Lib.hid htk
      have SP := Lib.hid hsp
      have HH := Lib.hid (rhas_ex (T.out.drewN d) (y : Int))
      clear hc htk hsp
      by_cases hy : y ∈ taken
      · rw [decide_eq_true (mem_ints.2 hy)] at HH
        have Y := Lib.hid hy
        clear hy
        go_wp2_with (go_at_call 24; ((with_reducible refine HH.out.mono ?_); rintro e w4 ⟨rfl, d1, rfl⟩))
        go_roundg (m - (k + 1) + 1)
        case measure => omega
        case rel => exact ⟨k + 1, by go_num, by omega, by rw [TK.out]; exact find_none_snoc NO.out (decide_eq_false (not_not_intro Y.out)), Nat.le_refl _, d + d1, rfl⟩
      · rw [decide_eq_false (fun e => hy (mem_ints.1 e))] at HH
        have hr : optI (leftF taken l) = y := by
          unfold leftF
          rw [SP.out, List.find?_append, NO.out, List.find?_cons_of_pos (by simpa using hy)]
          rfl
        have R := Lib.hid hr
        clear hy hr
        go_wp2_with (go_at_call 24; ((with_reducible refine HH.out.mono ?_); rintro e w4 ⟨rfl, d1, rfl⟩))
        go_ret
        exact ⟨ret_i R.out.symm, d + d1, rfl⟩
    · obtain rfl : k = m := by omega
      have hno := NO.out
      rw [List.take_of_length_le (by rw [M.out]; exact Nat.le_refl _)] at hno
      have hr : optI (leftF taken l) = -1 := by unfold leftF; rw [hno]; rfl
      have R := Lib.hid hr
      clear hno hr
      go_wp2_with fail
      go_ret
      exact ⟨ret_i R.out.symm, d, rfl⟩
end Go.Proofs.Ytohiioafdajhmaa.Gp
