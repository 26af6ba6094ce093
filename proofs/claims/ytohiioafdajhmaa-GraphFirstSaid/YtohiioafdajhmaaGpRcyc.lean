/-
  Layer 7, the reference: Cycle.
-/
import Derived.Test.YtohiioafdajhmaaGpRord
namespace Go.Proofs.Ytohiioafdajhmaa.Gp
open Go.RowKit

theorem dropWhile_first {i : Nat} : ∀ {l : List Nat} {k : Nat}, l[k]? = some i → (∀ m, m < k → l[m]? ≠ some i) → l.dropWhile (fun y => decide (y ≠ i)) = l.drop k
  | [], k, h, _ => by simp at h
  | a :: l, 0, h, _ => by
    simp at h; subst h
    rw [List.dropWhile_cons_of_neg (by simp)]; rfl
  | a :: l, k + 1, h, hm => by
    have ha : a ≠ i := fun e => hm 0 (by omega) (by simp [e])
    rw [List.dropWhile_cons_of_pos (by simpa using ha), List.drop_succ_cons]
    exact dropWhile_first (by simpa using h) fun m hk => by have := hm (m + 1) (by omega); simpa using this
set_option maxHeartbeats 4000000 in
set_option maxRecDepth 100000 in
theorem rcycle_ex {w : World} {v : Value} {js : List GJ} (h : JL w v js) :
    Calls Try.prog 16 #[v] w (LPost .i64 w (ints (cycleN (nnOf js)))) := by
  have HO := Lib.hid (rorder_ex h)
  have hfew := nnOf_few h
  have HX := Lib.hid (fun (W : World) (i : Nat) (hb : Below w.heap.size w W) => (by have := rneeds_ex (h.below hb) i; rw [needsI_nat] at this; exact this))
  obtain ⟨nn, hnn⟩ : ∃ nn, nn = nnOf js := ⟨_, rfl⟩
  have hbd := nnOf_bd js
  have hjl : js.length = nn.length := by rw [hnn, nnOf_length]
  obtain ⟨A, c, rfl⟩ := h.form
  rw [← hnn] at HO HX hfew hbd ⊢
  rw [hjl] at *
  have BD := Lib.hid hbd
  obtain ⟨n, hn⟩ : ∃ n, n = nn.length := ⟨_, rfl⟩
  rw [← hn] at HO HX BD hfew ⊢
  have HN := Lib.hid hn
  obtain ⟨ord, hord⟩ : ∃ ord, ord = orderN nn := ⟨_, rfl⟩
  rw [← hord] at HO
  have ORD := Lib.hid hord
  clear h hnn hjl hbd hn hord
  go_enter Try.func16, Try.ntmps16
  go_wp2_with (go_at_call 14; ((with_reducible refine HO.out.mono ?_); rintro e w1 ⟨v1, rfl, ho1, hb1⟩; obtain ⟨A1, c1, rfl⟩ := own_formN ho1; have O1 := Lib.hid ho1.lst; have B1 := Lib.hid hb1; clear ho1 hb1))
  clear HO
  go_loopg [5, 6] (n + 1) (fun g' v5 i wr => ∃ (k : Nat), i = .int .i64 k ∧ k ≤ n ∧ Own 3 .i64 wr w1.heap.size v5 (ints (List.range k)) ∧ n - k + 1 ≤ g' ∧ Below w1.heap.size w1 wr)
  case atStart => exact ⟨0, rfl, by omega, Own.nil _ _ _ _, by omega, Below.refl _ _⟩
  case round =>
    obtain ⟨k, rfl, hk, ho, hg, hbr⟩ := hrel
    obtain ⟨wo, rfl⟩ : ∃ wo : World, wo = wr := ⟨_, rfl⟩
    obtain ⟨A5, c5, hv5⟩ := own_formN ho
    rw [List.length_range] at hv5
    subst hv5
    have O := Lib.hid ho
    have BR := Lib.hid hbr
    by_cases hkn : k < n
    · have hki : (k : Int) < (n : Int) := by omega
      clear ho hbr
      go_wp2_with (at_builtin; refine wpList_app (m := [(k : Int)]) rfl _ _ rfl elInt rfl (O.out.below (balloc _ _)) rfl (lst_one _ (k : Int) 3) (by simp; omega) (by have := BR.out.size; simp; omega) ?_; intro v6 w6 hO6 hF6; obtain ⟨A6, c6, hv6, hO7⟩ := own_snocN hO6; subst hv6; have B6 := Lib.hid ((BR.out.alloc BR.out.size _).trans hF6.bel); have O6 := Lib.hid hO7; clear hO6 hF6 hO7)
      go_roundg (n - (k + 1) + 1)
      case measure => omega
      case rel => exact ⟨k + 1, by go_num, by omega, by rw [List.range_succ]; have := O6.out; rwa [List.length_range] at this, Nat.le_refl _, B6.out⟩
    · obtain rfl : k = n := by omega
      have HL := Lib.hid (rleft_ex ho.lst (O1.out.below hbr))
      have BW := Lib.hid (B1.out.trans (hbr.mono B1.out.size))
      clear ho hbr
      cases hfl : leftF ord (List.range k) with
      | none =>
        rw [hfl] at HL
        have hcy : cycleN nn = [] := (missI_none HN.out (by rw [← ORD.out]; exact hfl)).2
        have CY := Lib.hid hcy
        clear hfl hcy
        go_wp2_with (go_at_call 37; ((with_reducible refine HL.out.mono ?_); rintro e w3 ⟨rfl, d, hw3⟩; have hb3 : Below wo.heap.size wo w3 := (by rw [hw3]; exact below_drewN _ _); have B3 := Lib.hid hb3; clear hb3 hw3))
        go_loopg [4, 7] 1 (fun g' v4 v7 wr => v4 = .slice none 0 0 ∧ v7 = .int .i64 (-1) ∧ wr = w3 ∧ 1 ≤ g')
        case atStart => exact ⟨rfl, rfl, rfl, by omega⟩
        case round =>
          obtain ⟨rfl, rfl, rfl, hg3⟩ := hrel
          go_wp2_with fail
          go_ret
          exact ⟨_, rfl, by rw [CY.out]; exact Lst.nil _ _, BW.out.trans (B3.out.mono BW.out.size)⟩
      | some i0 =>
        rw [hfl] at HL
        obtain ⟨c1e, c2p⟩ := cycleN_some (by rw [← HN.out]; exact BD.out) (i := i0) (by rw [← ORD.out, ← HN.out]; exact hfl)
        obtain ⟨fin, hfin⟩ : ∃ fin, fin = cycleN nn := ⟨_, rfl⟩
        rw [← hfin] at c1e
        have FIN := Lib.hid hfin
        have CY := Lib.hid c1e
        have PA := Lib.hid c2p
        have O2 := Lib.hid (O1.out.below BR.out)
        clear hfl c1e c2p hfin
        go_wp2_with (go_at_call 37; ((with_reducible refine HL.out.mono ?_); rintro e w3 ⟨rfl, d, hw3⟩; have hb3 : Below wo.heap.size wo w3 := (by rw [hw3]; exact below_drewN _ _); have B3 := Lib.hid hb3; clear hb3 hw3))
        have O3 := Lib.hid (O2.out.below B3.out)
        have BW3 := Lib.hid (BW.out.trans (B3.out.mono BW.out.size))
        go_loopg [4, 7] (k + 2) (fun g' v9 v8 wr => ∃ (path : List Nat) (i : Nat), v8 = .int .i64 i ∧ Own 3 .i64 wr w3.heap.size v9 (ints path) ∧ Path nn path i ∧ cycN nn path i = fin ∧ lack k path + 1 ≤ g' ∧ Below w3.heap.size w3 wr)
        case atStart => exact ⟨[], i0, rfl, Own.nil _ _ _ _, PA.out, CY.out.symm, by rw [lack_nil]; omega, Below.refl _ _⟩
        case round =>
          obtain ⟨path, i, rfl, ho, hpa, hcy, hg, hbr⟩ := hrel
          obtain ⟨wp, rfl⟩ : ∃ wp : World, wp = wr := ⟨_, rfl⟩
          obtain ⟨A9, c9, hv9⟩ := own_formN ho
          subst hv9
          have hpl : path.length ≤ 12 := by have := hpa.cnt; rw [← HN.out] at this; omega
          have hc9 : path.length ≤ c9 := by obtain ⟨_, c', e, _, _, h, _⟩ := ho.lst; injection e with _ _ e; rw [ints_length] at h; omega
          have hig : decide ((0 : Int) ≤ (i : Int)) = true := decide_eq_true (by omega)
          have O9 := Lib.hid ho
          have PATH := Lib.hid hpa
          have CYC := Lib.hid hcy
          have BR9 := Lib.hid hbr
          clear ho hpa hcy hbr
          obtain ⟨m, hm⟩ : ∃ m, m = path.length := ⟨_, rfl⟩
          rw [← hm] at hpl hc9 ⊢
          have M := Lib.hid hm
          clear hm
          go_wp2_with fail
          go_loopg [8] (m + 1) (fun g2 q w2 => ∃ (j : Nat), q = .int .i64 j ∧ j ≤ m ∧ (∀ x, x < j → path[x]? ≠ some i) ∧ m - j + 1 ≤ g2 ∧ w2 = wp)
          case atStart => exact ⟨0, rfl, by omega, fun x hx => by omega, by omega, rfl⟩
          case round =>
            obtain ⟨j, rfl, hj, hno, hg2, rfl⟩ := hrel
            have NO := Lib.hid hno
            clear hno
            by_cases hjm : j < m
            · have hji : (j : Int) < (m : Int) := by omega
              have hjl : j < path.length := by rw [← M.out]; exact hjm
              have lst9 := O9.out.lst
              rw [show path.length = m from M.out.symm] at lst9
              obtain ⟨g, off, rfl, hc⟩ := lst_cells lst9 (by rw [ints_length]; omega)
              have h0 := hc j (by rw [ints_length]; exact hjl)
              rw [getD_ints (by rw [ints_length]; exact hjl)] at h0
              have hpj : path[j]? = some (path[j]'hjl) := List.getElem?_eq_getElem hjl
              generalize path[j]'hjl = y at *
              have PJ := Lib.hid hpj
              have L9 := Lib.hid lst9
              clear hc hpj lst9
              by_cases hy : y = i
              · subst hy
                have hjc : (j : Int) ≤ (m : Int) := by omega
                have hmc : (m : Int) ≤ (c9 : Int) := by omega
                go_wp2_with fail
                go_ret
                obtain ⟨g8, off8, e8, _, hsl⟩ := lst_slice L9.out hjl
                injection e8 with e8
                injection e8 with e8 e8' _
                subst e8; subst e8'
                exact ⟨_, rfl, by rw [← FIN.out, ← CYC.out, cycN_in (List.mem_of_getElem? PJ.out), dropWhile_first PJ.out NO.out]; exact hsl, BW3.out.trans (BR9.out.mono BW3.out.size)⟩
              · have hyb : ((y : Int) == (i : Int)) = false := beq_eq_false_iff_ne.2 (by omega)
                have NY := Lib.hid hy
                clear hy
                go_wp2_with fail
                go_roundg (m - (j + 1) + 1)
                case measure => omega
                case rel =>
                  refine ⟨j + 1, by go_num, by omega, fun x hx => ?_, Nat.le_refl _, rfl⟩
                  rcases Nat.lt_or_ge x j with h | h
                  · exact NO.out x h
                  · obtain rfl : x = j := by omega
                    rw [PJ.out]; intro e; injection e with e; exact NY.out e
            · obtain rfl : j = m := by omega
              have hip : i ∉ path := by
                intro hmem
                obtain ⟨x, hx, e⟩ := List.getElem_of_mem hmem
                exact NO.out x (by rw [M.out]; exact hx) (by rw [List.getElem?_eq_getElem hx, e])
              have IP := Lib.hid hip
              have O9 := Lib.hid (by have := O9.out; rw [← M.out] at this; exact this)
              have hil : i < nn.length := PATH.out.ilt.1
              obtain ⟨y, hy⟩ := left_some PATH.out.ilt
              have HY := Lib.hid hy
              clear hip hy
              have HXX := Lib.hid (fun (W : World) (hb : Below w3.heap.size w3 W) => HX.out W i (BW3.out.trans (hb.mono BW3.out.size)))
              obtain ⟨need, hneed⟩ : ∃ need, need = nn.getD i [] := ⟨_, rfl⟩
              rw [← hneed] at HXX
              have ND := Lib.hid hneed
              clear hneed
              go_wp2_with (first
                | (at_builtin; refine wpList_app (m := [(i : Int)]) rfl _ _ rfl elInt rfl (O9.out.below (balloc _ _)) rfl (lst_one _ (i : Int) 3) (by simp; have := M.out; omega) (by have := BR9.out.size; simp; omega) ?_; intro v5 w5 hO5 hF5; obtain ⟨A6, c6, hv5, hO6⟩ := own_snocN hO5; subst hv5; have hb5 := ((BR9.out.alloc BR9.out.size _).trans hF5.bel); have B5 := Lib.hid hb5; have O5 := Lib.hid hO6; have HN5 := Lib.hid (HXX.out _ hb5); clear hO5 hF5 hO6 hb5)
                | (go_at_call 18; ((with_reducible refine HN5.out.mono ?_); rintro e w6 ⟨v6, rfl, hl6, hb6⟩; obtain ⟨A7, c7, rfl⟩ := lst_formN hl6; have B6 := Lib.hid (B5.out.trans (hb6.mono B5.out.size)); have O6 := Lib.hid (O5.out.below hb6); have HL6 := Lib.hid (rleft_ex hl6 (O3.out.below B6.out)); clear hl6 hb6))
                | (go_at_call 37; ((with_reducible refine HL6.out.mono ?_); rintro e w7 ⟨rfl, d7, rfl⟩)))
              go_roundg (lack k (path ++ [i]) + 1)
              case measure => have := lack_snoc hil IP.out; rw [← HN.out] at this; omega
              case rel => exact ⟨path ++ [i], y, by rw [ORD.out, ND.out, HY.out]; rfl, O6.out.below (below_drewN _ _), PATH.out.step (by rw [← HN.out]; exact BD.out) IP.out HY.out, by rw [cycN_step hil IP.out HY.out]; exact CYC.out, Nat.le_refl _, B6.out.trans ((below_drewN _ _).mono B6.out.size)⟩
end Go.Proofs.Ytohiioafdajhmaa.Gp
