/-
  Layer 7, the program: Cycle.
-/
import Derived.Test.YtohiioafdajhmaaGpOrd
namespace Go.Proofs.Ytohiioafdajhmaa.Gp
open Go.RowKit

theorem getD_ints {l : List Nat} {j : Nat} (hj : j < (ints l).length) : (ints l).getD j 0 = (l[j]'(by simpa using hj) : Int) := by
  rw [List.getD_eq_getElem?_getD, List.getElem?_eq_getElem hj]
  simp
theorem lst_cells {w : World} {A : Option Addr} {n c : Nat} {l : List Int} (h : Lst .i64 w (.slice A n c) l) (h0 : 0 < l.length) : ∃ g off, A = some ⟨g, off, none⟩ ∧ ∀ j, j < l.length → w.cell? ⟨g, off + j, none⟩ = some (.int .i64 (l.getD j 0)) := by
  obtain ⟨A', c', e, hr, _⟩ := h
  injection e with e1 e2 e3
  subst e1
  obtain ⟨g, off, hA, hc⟩ := hr h0
  exact ⟨g, off, hA, fun j hj => hc j _ (by rw [List.getD_eq_getElem?_getD, List.getElem?_eq_getElem hj]; rfl)⟩
theorem lst_bd {k : IntKind} {w : World} {v : Value} {l : List Int} (h : Lst k w v l) : l.length ≤ 9223372036854775807 := by
  obtain ⟨_, c, _, _, _, h1, h2⟩ := h
  unfold maxLen at h2; omega
theorem gcont_ex {w : World} {v : Value} {l : List Nat} (h : Lst .i64 w v (ints l)) (x : Nat) :
    Calls Try.prog 34 #[v, .int .i64 x] w fun e w' => e = .returned (.bool (decide (x ∈ l))) ∧ w' = w := by
  have hbd := lst_bd h
  obtain ⟨A, c, rfl⟩ := lst_formN h
  rcases Nat.eq_zero_or_pos l.length with h0 | h0
  · have : l = [] := List.eq_nil_of_length_eq_zero h0
    subst this
    exact Try.slices_Contains_int_empty A c x w
  · obtain ⟨g, off, rfl, hc⟩ := lst_cells h (by rw [ints_length]; exact h0)
    refine (Try.slices_Contains_int g off l.length c (ints l) x w (by rw [ints_length]; exact Nat.le_refl _) (by rw [ints_length] at hbd; exact hbd) hc).mono ?_
    rintro e w' ⟨he, hw⟩
    refine ⟨?_, hw⟩
    rw [he, List.take_of_length_le (by rw [ints_length]; exact Nat.le_refl _)]
    refine ret_b ?_
    rw [Bool.eq_iff_iff, List.contains_iff_mem, decide_eq_true_eq]
    exact mem_ints
theorem idxFrom_spec (x : Nat) : ∀ (l : List Nat) (i : Nat), x ∈ l → ∃ k, Lib.idxFrom (ints l) (x : Int) i = ((i + k : Nat) : Int) ∧ k < l.length ∧ l.drop k = l.dropWhile (fun y => decide (y ≠ x))
  | a :: l, i, h => by
    by_cases e : a = x
    · subst e
      refine ⟨0, ?_, by simp, ?_⟩
      · show (if (a : Int) = (a : Int) then (i : Int) else _) = _
        rw [if_pos rfl]; rfl
      · rw [List.dropWhile_cons_of_neg (by simp)]; rfl
    · obtain ⟨k, h1, h2, h3⟩ := idxFrom_spec x l (i + 1) (by simpa [Ne.symm e] using h)
      refine ⟨k + 1, ?_, by simpa using h2, ?_⟩
      · show (if (a : Int) = (x : Int) then (i : Int) else Lib.idxFrom (ints l) (x : Int) (i + 1)) = _
        rw [if_neg (by omega), h1]
        congr 1; omega
      · rw [List.dropWhile_cons_of_pos (by simpa using e), List.drop_succ_cons, h3]
theorem gindx_ex {w : World} {v : Value} {l : List Nat} (h : Lst .i64 w v (ints l)) {x : Nat} (hx : x ∈ l) :
    Calls Try.prog 36 #[v, .int .i64 x] w fun e w' => (∃ k : Nat, e = .returned (.int .i64 k) ∧ k < l.length ∧ l.drop k = l.dropWhile (fun y => decide (y ≠ x))) ∧ w' = w := by
  have hbd := lst_bd h
  obtain ⟨A, c, rfl⟩ := lst_formN h
  have h0 : 0 < l.length := List.length_pos_of_mem hx
  obtain ⟨g, off, rfl, hc⟩ := lst_cells h (by rw [ints_length]; exact h0)
  refine (Try.slices_Index_int g off l.length c (ints l) x w (by rw [ints_length]; exact Nat.le_refl _) (by rw [ints_length] at hbd; exact hbd) hc).mono ?_
  rintro e w' ⟨he, hw⟩
  obtain ⟨k, h1, h2, h3⟩ := idxFrom_spec x l 0 hx
  refine ⟨⟨k, ?_, h2, h3⟩, hw⟩
  rw [he, List.take_of_length_le (by rw [ints_length]; exact Nat.le_refl _)]
  exact ret_i (by unfold Lib.idxOf; rw [h1]; omega)
/-- The first place that bools lack. -/
def missI (n : Nat) (out : List Nat) : Int := optI (leftF out (List.range n))
theorem find_range_hit {p : Nat → Bool} {n k : Nat} (hk : k < n) (hp : p k = true) (hlo : ∀ m, m < k → p m = false) : (List.range n).find? p = some k := by
  rw [List.find?_range_eq_some]
  exact ⟨hp, by simpa using hk, fun m hm => by rw [hlo m hm]; rfl⟩
set_option maxRecDepth 100000 in
theorem gmiss_ex {w : World} {v : Value} {n : Nat} {out : List Nat} (h : BL w v n out) (hn : n ≤ 12) :
    Calls Try.prog 33 #[v, .bool false] w fun e w' => e = .returned (.int .i64 (missI n out)) ∧ ∃ d, w' = w.drewN d := by
  obtain ⟨A, c, rfl, hc⟩ := h
  have H := Lib.hid hc
  clear hc
  go_enter Try.func33, Try.ntmps33
  go_wp2_with fail
  go_loopg [8] (n + 1) (fun g' i wr => ∃ (k : Nat), i = .int .i64 k ∧ k ≤ n ∧ (∀ m, m < k → m ∈ out) ∧ n - k + 1 ≤ g' ∧ ∃ d, wr = w.drewN d)
  case atStart => exact ⟨0, rfl, by omega, fun m hm => by omega, by omega, 0, rfl⟩
  case round =>
    obtain ⟨k, rfl, hk, hno, hg, d, rfl⟩ := hrel
    have NO := Lib.hid hno
    clear hno
    by_cases hkn : k < n
    · have hki : (k : Int) < (n : Int) := by omega
      obtain ⟨g, off, rfl, h0⟩ := H.out k hkn
      by_cases hm : k ∈ out
      · rw [decide_eq_true hm] at h0
        have M := Lib.hid hm
        clear hm
        go_wp2_with fail
        go_roundg (n - (k + 1) + 1)
        case measure => omega
        case rel =>
          refine ⟨k + 1, by go_num, by omega, fun m hm2 => ?_, Nat.le_refl _, d, rfl⟩
          rcases Nat.lt_or_ge m k with h | h
          · exact NO.out m h
          · obtain rfl : m = k := by omega
            exact M.out
      · rw [decide_eq_false hm] at h0
        have hr : missI n out = k := by
          unfold missI leftF
          rw [find_range_hit hkn (by simpa using hm) (fun m hm2 => by simpa using NO.out m hm2)]
          rfl
        have R := Lib.hid hr
        clear hm hr
        go_wp2_with fail
        go_ret
        exact ⟨ret_i R.out.symm, d, rfl⟩
    · obtain rfl : k = n := by omega
      have hr : missI k out = -1 := by
        unfold missI leftF
        rw [List.find?_eq_none.2 (fun m hm2 => by simpa using NO.out m (List.mem_range.1 hm2))]
        rfl
      have R := Lib.hid hr
      clear hr
      go_wp2_with fail
      go_ret
      exact ⟨ret_i R.out.symm, d, rfl⟩
theorem lst_grown {k : IntKind} {w w' : World} {v : Value} {l : List Int} {R : Nat} (h : Lst k w v l) (hg : w.grownBy w' (some R)) (hne : ∀ g, v.ownBlock = some g → g ≠ R) : Lst k w' v l := by
  obtain ⟨A, c, rfl, hr, h3⟩ := h
  refine ⟨A, c, rfl, fun hn => ?_, h3⟩
  obtain ⟨g, off, rfl, hc⟩ := hr hn
  exact ⟨g, off, rfl, fun j x hx => (World.cell?_of_block (a := ⟨g, _, none⟩) (hg.block g (World.block_lt_of_cell? w _ (hc j x hx)) (by have := hne g rfl; simpa using this))).trans (hc j x hx)⟩
theorem own_ne {e e' : TypeId} {k : IntKind} {w : World} {B R : Nat} {v : Value} {l : List Int} {cs : Array Value} {fr : Nat × Nat} (h : Own e k w B v l) (hr : w.heap[R]? = some (.cells cs e' fr)) (hne : e ≠ e') : ∀ g, v.ownBlock = some g → g ≠ R := by
  intro g hg e2
  subst e2
  exact hne ((h.block g hg).2 _ _ _ hr).symm
theorem lst_slice {w : World} {A : Option Addr} {n c : Nat} {l : List Nat} (h : Lst .i64 w (.slice A n c) (ints l)) {k : Nat} (hk : k < l.length) : ∃ g off, A = some ⟨g, off, none⟩ ∧ n = l.length ∧ Lst .i64 w (.slice (some ⟨g, off + k, none⟩) (n - k) (c - k)) (ints (l.drop k)) := by
  obtain ⟨A', c', e, hr, hA, hlc, hcm⟩ := h
  injection e with e1 e2 e3
  subst e1; subst e3
  rw [ints_length] at e2 hlc
  obtain ⟨g, off, rfl, hc⟩ := hr (by rw [ints_length]; omega)
  refine ⟨g, off, rfl, e2, _, _, by rw [ints_length, List.length_drop, ← e2], fun hn => ⟨g, off + k, rfl, fun j x hx => ?_⟩, fun e => by simp at e, by rw [ints_length, List.length_drop]; omega, by omega⟩
  rw [show off + k + j = off + (k + j) by omega]
  refine hc _ x ?_
  rw [← hx]
  simp [ints, List.getElem?_drop]
theorem leftF_eq (out l : List Nat) : leftF out l = l.find? fun k => decide (k ∉ out) := rfl
theorem missI_none {nn : List (List Nat)} {n : Nat} (hn : n = nn.length) (h : leftF (orderN nn) (List.range n) = none) : missI n (orderN nn) = -1 ∧ cycleN nn = [] := by
  subst hn
  exact ⟨by unfold missI; rw [h]; rfl, by unfold cycleN; rw [h]⟩
theorem missI_some {nn : List (List Nat)} {n i : Nat} (hn : n = nn.length) (h : leftF (orderN nn) (List.range n) = some i) : missI n (orderN nn) = i := by
  subst hn
  unfold missI; rw [h]; rfl
set_option maxHeartbeats 4000000 in
set_option maxRecDepth 100000 in
theorem gcycle_ex {w : World} {v : Value} {js : List GJ} (h : JL w v js) :
    Calls Try.prog 15 #[v] w (LPost .i64 w (ints (cycleN (nnOf js)))) := by
  have hmf : ∀ (fn : Fn) (first cap : Array Value) (w : World), (Instr.makeFunc fn first cap).run Try.prog w = .ok (.func fn first cap) w := fun _ _ _ _ => rfl
  have HA := Lib.hid (gall_ex h)
  have hfew := nnOf_few h
  obtain ⟨nn, hnn⟩ : ∃ nn, nn = nnOf js := ⟨_, rfl⟩
  have hbd := nnOf_bd js
  have hjl : js.length = nn.length := by rw [hnn, nnOf_length]
  rw [← hnn] at HA hfew hbd ⊢
  have HO := Lib.hid (fun (W : World) (u : Value) (hu : LL W u nn) => gord_ex hu hbd hfew)
  obtain ⟨A, c, rfl⟩ := h.form
  rw [hjl] at *
  have BD := Lib.hid hbd
  obtain ⟨n, hn⟩ : ∃ n, n = nn.length := ⟨_, rfl⟩
  rw [← hn] at HA BD hfew ⊢
  have HN := Lib.hid hn
  have hmk := mk_bools n hfew
  clear h hnn hjl hbd hn
  go_enter Try.func15, Try.ntmps15
  go_wp2_with (first
    | (go_at_call 30; ((with_reducible refine HA.out.mono ?_); rintro e w1 ⟨v1, rfl, hl1, hb1⟩; obtain ⟨A1, c1, hv1, _⟩ := id hl1; rw [← HN.out] at hv1; subst hv1; have L1 := Lib.hid hl1; have B1 := Lib.hid hb1; have BA := Lib.hid ((balloc w1 (.cells (bo n []) 4)).trans ((balloc (w1.alloc (.cells (bo n []) 4)) (.cells #[.slice (some ⟨w1.heap.size, 0, none⟩) n n] 54)).mono (by simp))); have k1 := (Below.heap_alloc (w1.alloc (.cells (bo n []) 4)) (.cells #[.slice (some ⟨w1.heap.size, 0, none⟩) n n] 54) w1.heap.size (by simp)).trans (heap_alloc_new w1 (.cells (bo n []) 4)); have k2 := heap_alloc_new (w1.alloc (.cells (bo n []) 4)) (.cells #[.slice (some ⟨w1.heap.size, 0, none⟩) n n] 54); rw [World.size_alloc] at k2; have K1 := Lib.hid k1; have K2 := Lib.hid k2; have LO := Lib.hid (HO.out _ _ (hl1.below BA.out)); clear hb1 hl1 k1 k2))
    | (go_at_call 29; ((with_reducible refine LO.out.mono ?_); rintro e w2 ⟨v2, rfl, ho2, hb2⟩; have O2 := Lib.hid ho2; have B2 := Lib.hid hb2; obtain ⟨A2, c2, rfl⟩ := own_formN ho2; clear ho2 hb2)))
  obtain ⟨ord, hord⟩ : ∃ ord, ord = orderN nn := ⟨_, rfl⟩
  have hordl : ord.length ≤ 12 := by have := (order_len (nn := nn)).1; rw [← hord, ← HN.out] at this; omega
  have hordlt : ∀ k ∈ ord, k < n := by rw [hord, HN.out]; exact (chooseN_run nn fitsO).1.lt
  have o2 := O2.out
  rw [← hord] at o2 ⊢
  obtain ⟨m, hm⟩ : ∃ m, m = ord.length := ⟨_, rfl⟩
  rw [← hm] at o2 hordl ⊢
  have hR2 : w2.heap[w1.heap.size]? = some (.cells (bo n []) 4 (0, 0)) := (B2.out.block _ (heap_lt K1.out)).trans K1.out
  have hP2 : w2.heap[w1.heap.size + 1]? = some (.cells #[.slice (some ⟨w1.heap.size, 0, none⟩) n n] 54 (0, 0)) := (B2.out.block _ (heap_lt K2.out)).trans K2.out
  obtain ⟨R, hR⟩ : ∃ R, R = w1.heap.size := ⟨_, rfl⟩
  rw [← hR] at hR2 hP2 ⊢
  have NE := Lib.hid (own_ne o2 hR2 (by decide))
  have V2 := Lib.hid o2.lst
  have ROW := Lib.hid hR2
  have PTR := Lib.hid hP2
  have M := Lib.hid hm
  have ORD := Lib.hid hord
  have LT := Lib.hid hordlt
  have HR := Lib.hid hR
  have BX := Lib.hid (BA.out.trans (B2.out.mono BA.out.size))
  have BW := Lib.hid ((B1.out.trans (BA.out.mono B1.out.size)).trans (B2.out.mono (Nat.le_trans B1.out.size BA.out.size)))
  clear o2 hR2 hP2 hm hord hordlt O2 LO K1 K2 hR hmk HA HO
  go_loopg [18] (m + 1) (fun g' i wr => ∃ (k : Nat), i = .int .i64 k ∧ k ≤ m ∧ wr.heap[R]? = some (.cells (bo n (ord.take k)) 4 (0, 0)) ∧ w2.grownBy wr (some R) ∧ m - k + 1 ≤ g')
  case atStart => exact ⟨0, rfl, by omega, ROW.out, grown_below (Below.refl _ _) _, by omega⟩
  case round =>
    obtain ⟨k, rfl, hk, hrow, hgr, hg⟩ := hrel
    obtain ⟨wo, rfl⟩ : ∃ wo : World, wo = wr := ⟨_, rfl⟩
    have RR := Lib.hid hrow
    have GR := Lib.hid hgr
    have hptr := (hgr.block (R + 1) (heap_lt PTR.out) (by simp)).trans PTR.out
    have p0 := cell_of_row wo (R + 1) 0 _ _ _ hptr
    have V3 := Lib.hid (lst_grown V2.out hgr NE.out)
    have PT := Lib.hid hptr
    have BC := Lib.hid (BX.out.grown hgr (Nat.le_trans (Nat.le_of_eq HR.out.symm) (Nat.le_of_lt (heap_lt ROW.out))) (fun k e => by injection e with e; have := HR.out; omega))
    have BWO := Lib.hid (BW.out.grown hgr BW.out.size (fun k e => by injection e with e; have := HR.out; have := B1.out.size; omega))
    have L3 := Lib.hid (L1.out.below BC.out)
    by_cases hkm : k < m
    · have hki : (k : Int) < (m : Int) := by omega
      have hkl : k < ord.length := by rw [← M.out]; exact hkm
      obtain ⟨g, off, rfl, hc⟩ := lst_cells V3.out (by rw [ints_length]; omega)
      have h0 := hc k (by rw [ints_length]; exact hkl)
      rw [getD_ints (by rw [ints_length]; exact hkl)] at h0
      have htk : ord.take (k + 1) = ord.take k ++ [ord[k]'hkl] := List.take_succ_eq_append_getElem hkl
      have hyn : ord[k]'hkl < n := LT.out _ (List.getElem_mem _)
      generalize ord[k]'hkl = y at *
      have hyi : (y : Int) < (n : Int) := by omega
      have cy := cell_of_row wo R y _ _ _ hrow
      rw [bo_at _ hyn] at cy
      have f1 : wo.frozen? ⟨R, y, none⟩ = false := by simp [World.frozen?, hrow]
      have TK := Lib.hid htk
      clear hc htk hrow hgr hptr
      go_wp2_with fail
      go_roundg (m - (k + 1) + 1)
      case measure => omega
      case rel => exact ⟨k + 1, by go_num, by omega, by rw [TK.out, ← bo_set hyn]; exact row_set RR.out y _, grown_trans GR.out (grown_set wo ⟨R, y, none⟩ _), Nat.le_refl _⟩
    · obtain rfl : k = m := by omega
      have e1 : ord.take k = ord := List.take_of_length_le (by rw [M.out]; exact Nat.le_refl _)
      rw [e1] at hrow
      have hBL : BL wo (.slice (some ⟨R, 0, none⟩) n n) n ord := bl_row hrow n
      have HM := Lib.hid (gmiss_ex hBL hfew)
      have LF := Lib.hid hBL
      clear hgr e1 hrow hptr hBL
      cases hfl : leftF ord (List.range n) with
      | none =>
        obtain ⟨m1, m2⟩ := missI_none HN.out (by rw [← ORD.out]; exact hfl)
        rw [← ORD.out] at m1
        rw [m1] at HM
        have CY := Lib.hid m2
        clear m1 m2 hfl
        go_wp2_with (go_at_call 33; ((with_reducible refine HM.out.mono ?_); rintro e w3 ⟨rfl, d, rfl⟩))
        go_ret
        exact ⟨_, rfl, by rw [CY.out]; exact Lst.nil _ _, BWO.out.trans ((below_drewN wo d).mono BWO.out.size)⟩
      | some i0 =>
        have m1 := missI_some HN.out (by rw [← ORD.out]; exact hfl)
        rw [← ORD.out] at m1
        rw [m1] at HM
        obtain ⟨c1e, c2p⟩ := cycleN_some (by rw [← HN.out]; exact BD.out) (i := i0) (by rw [← ORD.out, ← HN.out]; exact hfl)
        have hi0 : decide ((i0 : Int) < 0) = false := decide_eq_false (by omega)
        have CY := Lib.hid c1e
        have PA := Lib.hid c2p
        clear m1 c1e c2p hfl
        go_wp2_with (go_at_call 33; ((with_reducible refine HM.out.mono ?_); rintro e w3 ⟨rfl, d, hw3⟩; have hb3 : Below wo.heap.size wo w3 := (by rw [hw3]; exact below_drewN _ _); have B3 := Lib.hid hb3; clear hb3 hw3))
        obtain ⟨fin, hfin⟩ : ∃ fin, fin = cycleN nn := ⟨_, rfl⟩
        rw [← hfin] at CY
        have FIN := Lib.hid hfin
        have LF3 := Lib.hid (LF.out.below B3.out)
        have P3 := Lib.hid (cell_of_row w3 (R + 1) 0 _ _ _ ((B3.out.block _ (heap_lt PT.out)).trans PT.out))
        have L4 := Lib.hid (L3.out.below B3.out)
        have BW3 := Lib.hid (BWO.out.trans (B3.out.mono BWO.out.size))
        clear hfin hi0 p0
        go_loopg [8, 9] (n + 2) (fun g' v8 v9 wr => ∃ (path : List Nat) (i : Nat), v8 = .int .i64 i ∧ Own 3 .i64 wr w3.heap.size v9 (ints path) ∧ Path nn path i ∧ cycN nn path i = fin ∧ lack n path + 1 ≤ g' ∧ Below w3.heap.size w3 wr)
        case atStart => exact ⟨[], i0, rfl, Own.nil _ _ _ _, PA.out, CY.out.symm, by rw [lack_nil]; omega, Below.refl _ _⟩
        case round =>
          obtain ⟨path, i, rfl, ho, hpa, hcy, hg, hbr⟩ := hrel
          obtain ⟨wp, rfl⟩ : ∃ wp : World, wp = wr := ⟨_, rfl⟩
          obtain ⟨A9, c9, hv9⟩ := own_formN ho
          subst hv9
          have hpl : path.length ≤ 12 := by have := hpa.cnt; rw [← HN.out] at this; omega
          have O9 := Lib.hid ho
          have PATH := Lib.hid hpa
          have CYC := Lib.hid hcy
          have BR := Lib.hid hbr
          have HC := Lib.hid (gcont_ex ho.lst i)
          clear ho hpa hcy hbr
          by_cases hip : i ∈ path
          · rw [decide_eq_true hip] at HC
            have IP := Lib.hid hip
            clear hip
            have hidx := gindx_ex O9.out.lst IP.out
            obtain ⟨g9, off9, rfl, _, _⟩ := lst_slice O9.out.lst (List.length_pos_of_mem IP.out)
            have hc9 : path.length ≤ c9 := by obtain ⟨_, c', e, _, _, h, _⟩ := O9.out.lst; injection e with _ _ e; rw [ints_length] at h; omega
            have HX := Lib.hid hidx
            clear hidx
            go_wp2_with (first
              | (go_at_call 34; ((with_reducible refine HC.out.mono ?_); rintro e w4 ⟨rfl, rfl⟩))
              | (go_at_call 36; ((with_reducible refine HX.out.mono ?_); rintro e w4 ⟨⟨k9, rfl, hk9, hdr⟩, rfl⟩; have DR := Lib.hid hdr; have hk9i : (k9 : Int) ≤ (path.length : Int) := (by omega); have hlc9 : (path.length : Int) ≤ (c9 : Int) := (by omega); clear hdr)))
            go_ret
            obtain ⟨g8, off8, e8, _, hsl⟩ := lst_slice O9.out.lst hk9
            injection e8 with e8
            injection e8 with e8 e8' _
            subst e8; subst e8'
            exact ⟨_, rfl, by rw [← FIN.out, ← CYC.out, cycN_in IP.out, ← DR.out]; exact hsl, BW3.out.trans (BR.out.mono BW3.out.size)⟩
          · rw [decide_eq_false hip] at HC
            have IP := Lib.hid hip
            clear hip
            have hil : i < nn.length := PATH.out.ilt.1
            have hin : (i : Int) < (n : Int) := by have := HN.out; omega
            obtain ⟨y, hy⟩ := left_some PATH.out.ilt
            obtain ⟨need, hneed⟩ : ∃ need, need = nn.getD i [] := ⟨_, rfl⟩
            have hnlt : ∀ x ∈ need, x < n := by rw [hneed]; exact BD.out i
            have hgd : nn[i]? = some need := by rw [hneed, List.getD_eq_getElem?_getD, List.getElem?_eq_getElem hil]; rfl
            obtain ⟨_, _, e1, hcells⟩ := L4.out
            injection e1 with e1 e2 e3
            subst e1
            obtain ⟨g, off, u, rfl, hu, hul⟩ := hcells i _ hgd
            obtain ⟨Au, cu, rfl⟩ := lst_formN hul
            have hy2 : need.find? (fun k => decide (k ∉ ord)) = some y := by rw [hneed, ORD.out]; exact hy
            obtain ⟨q, hq⟩ : ∃ q, q = need.findIdx (fun k => decide (k ∉ ord)) := ⟨_, rfl⟩
            have hqy := find_at need hy2
            rw [← hq] at hqy
            have hql : q < need.length := (List.getElem?_eq_some_iff.1 hqy).1
            have hqi : (q : Int) < (need.length : Int) := by omega
            obtain ⟨gu, offu, rfl, hcu⟩ := lst_cells hul (by rw [ints_length]; omega)
            have hyc := hcu q (by rw [ints_length]; exact hql)
            rw [getD_ints (by rw [ints_length]; exact hql), show need[q]'hql = y from (List.getElem?_eq_some_iff.1 hqy).2] at hyc
            have HI := Lib.hid (fun (W : World) (hb : Below w3.heap.size w3 W) => if_ex (enters_of Try.func32 (by kernel_rfl) rfl) (hul.below hb) hnlt (gleft_ex (LF3.out.below hb) (cell_up hb P3.out)) hy2)
            rw [← hq] at HI
            have ND := Lib.hid hneed
            have HY := Lib.hid hy
            have HU := Lib.hid hu
            have HYC := Lib.hid hyc
            clear hul hcu hcells hgd hneed hq hqy hy hy2 e2 e3 hu hyc
            go_wp2_with (first
              | (go_at_call 34; ((with_reducible refine HC.out.mono ?_); rintro e w4 ⟨rfl, rfl⟩))
              | (at_builtin; refine wpList_app (m := [(i : Int)]) rfl _ _ rfl elInt rfl (O9.out.below (balloc _ _)) rfl (lst_one _ (i : Int) 3) (by simp; omega) (by have := BR.out.size; simp; omega) ?_; intro v5 w5 hO5 hF5; obtain ⟨A6, c6, hv5, hO6⟩ := own_snocN hO5; subst hv5; have B5 := Lib.hid ((BR.out.alloc BR.out.size _).trans hF5.bel); have O5 := Lib.hid hO6; clear hO5 hF5 hO6))
            have u5 := cell_up B5.out HU.out
            have y5 := cell_up B5.out HYC.out
            have HI5 := Lib.hid (fun d => HI.out (w5.drewN d) (B5.out.trans ((below_drewN w5 d).mono B5.out.size)))
            clear HI HU HYC
            go_quiet ((go_at_call 35; exact Calls.quiet_of (HI5.out _)))
            go_wp2_with fail
            go_roundg (lack n (path ++ [i]) + 1)
            case measure => have := lack_snoc hil IP.out; rw [← HN.out] at this; omega
            case rel => exact ⟨path ++ [i], y, rfl, O5.out.below (below_drewN w5 _), PATH.out.step (by rw [← HN.out]; exact BD.out) IP.out HY.out, by rw [cycN_step hil IP.out HY.out]; exact CYC.out, Nat.le_refl _, B5.out.trans ((below_drewN w5 _).mono B5.out.size)⟩
end Go.Proofs.Ytohiioafdajhmaa.Gp
