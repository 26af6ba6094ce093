/-
  Layer 7, the reference: Dependents.
-/
import Derived.Test.YtohiioafdajhmaaGpRcyc
namespace Go.Proofs.Ytohiioafdajhmaa.Gp
open Go.RowKit

theorem reach_none {nn : List (List Nat)} (hb : ∀ i, ∀ k ∈ nn.getD i [], k < nn.length) {i : Int} (hi : i < 0 ∨ (nn.length : Int) ≤ i) (n : Nat) : ascN n (reachN nn i) = [] := by
  have h := reach_least (nn := nn) (i := i) (fun _ => False) (fun k _ ⟨x, h1, h2⟩ => by
    rcases h2 with h2 | h2
    · have := hb k x h1; omega
    · exact h2)
  unfold ascN
  rw [List.filter_eq_nil_iff]
  intro x _ hx
  exact h x (by simpa using hx)
theorem ascN_congr {n : Nat} {l m : List Nat} (h : ∀ x, x < n → (x ∈ l ↔ x ∈ m)) : ascN n l = ascN n m := by
  unfold ascN
  refine List.filter_congr fun x hx => ?_
  have := h x (List.mem_range.1 hx)
  simp [this]
theorem rdep_out {w : World} {v : Value} {js : List GJ} (h : JL w v js) {i : Int} (hi : i < 0 ∨ (js.length : Int) ≤ i) :
    Calls Try.prog 20 #[v, .int .i64 i] w (LPost .i64 w (ints (ascN js.length (reachN (nnOf js) i)))) := by
  rw [reach_none (nnOf_bd js) (by rw [nnOf_length]; exact hi)]
  obtain ⟨A, c, rfl⟩ := h.form
  by_cases h0 : i < 0
  · clear h hi
    go_enter Try.func20, Try.ntmps20
    go_wp2_with fail
    go_ret
    exact ⟨_, rfl, Lst.nil _ _, Below.refl _ _⟩
  · have h1 : (js.length : Int) ≤ i := hi.resolve_left h0
    clear h hi
    go_enter Try.func20, Try.ntmps20
    go_wp2_with fail
    go_ret
    exact ⟨_, rfl, Lst.nil _ _, Below.refl _ _⟩
theorem lst_mark {w : World} {v : Value} {l : List Nat} (h : Lst .i64 w v (ints l)) {R n : Nat} {out : List Nat} {t : TypeId} {fr : Nat × Nat} (hr : w.heap[R]? = some (.cells (bo n out) t fr)) (i : Nat) (u : Value) : Lst .i64 (w.setCell ⟨R, i, none⟩ u) v (ints l) := by
  obtain ⟨A, c, rfl, hc, h3⟩ := h
  refine ⟨A, c, rfl, fun hn => ?_, h3⟩
  obtain ⟨g, off, rfl, hcells⟩ := hc hn
  refine ⟨g, off, rfl, fun j x hx => ?_⟩
  have h0 := hcells j x hx
  refine (World.cell?_of_block (a := ⟨g, _, none⟩) (Below.heap_setCell _ _ _ _ ?_)).trans h0
  intro e
  have e : g = R := e
  subst e
  rw [cell_of_row w g _ _ _ _ hr] at h0
  have hlt : off + j < n := by have := (Array.getElem?_eq_some_iff.1 h0).1; rw [bo_size] at this; exact this
  rw [bo_at _ hlt] at h0
  injection h0 with h0
  cases h0
theorem not_take_snoc {need M : List Nat} {i : Int} {q y : Nat} (hq : need.take (q + 1) = need.take q ++ [y]) (h : ∀ x ∈ need.take q, ¬ ((x : Int) = i ∨ x ∈ M)) (hy : ¬ ((y : Int) = i ∨ y ∈ M)) : ∀ x ∈ need.take (q + 1), ¬ ((x : Int) = i ∨ x ∈ M) := by
  intro x hx
  rw [hq, List.mem_append] at hx
  rcases hx with hx | hx
  · exact h x hx
  · simp at hx; rw [hx]; exact hy
def bI (b : Bool) : Nat := if b then 1 else 0
/-- A set of marks that lies within what is reached. -/
structure Mk (nn : List (List Nat)) (i : Int) (M : List Nat) : Prop where
  sub : ∀ x ∈ M, x ∈ reachN nn i
  lt : ∀ x ∈ M, x < nn.length
theorem Mk.snoc {nn : List (List Nat)} {i : Int} {M : List Nat} (h : Mk nn i M) {k x : Nat} (hk : k < nn.length) (hx : x ∈ nn.getD k []) (hc : (x : Int) = i ∨ x ∈ M) : Mk nn i (M ++ [k]) := by
  refine ⟨fun y hy => ?_, fun y hy => ?_⟩
  · rw [List.mem_append] at hy
    rcases hy with hy | hy
    · exact h.sub y hy
    · simp at hy; subst hy
      exact (reach_iff hk).2 ⟨x, hx, hc.imp id (h.sub x)⟩
  · rw [List.mem_append] at hy
    rcases hy with hy | hy
    · exact h.lt y hy
    · simp at hy; subst hy; exact hk
theorem Mk.closed {nn : List (List Nat)} {i : Int} {M : List Nat} (h : Mk nn i M) (hc : ∀ k, k < nn.length → k ∉ M → ∀ x ∈ nn.getD k [], ¬ ((x : Int) = i ∨ x ∈ M)) : ∀ x, x < nn.length → (x ∈ reachN nn i ↔ x ∈ M) := by
  intro x hx
  refine ⟨fun hr => ?_, h.sub x⟩
  refine reach_least (nn := nn) (i := i) (fun y => y ∈ M) (fun k hk ⟨z, h1, h2⟩ => ?_) x hr
  by_cases hm : k ∈ M
  · exact hm
  · exact absurd h2 (hc k hk hm z h1)
set_option maxHeartbeats 4000000 in
set_option maxRecDepth 100000 in
theorem rdep_in {w : World} {v : Value} {js : List GJ} (h : JL w v js) {i : Int} (hi0 : 0 ≤ i) (hi1 : i < (js.length : Int)) :
    Calls Try.prog 20 #[v, .int .i64 i] w (LPost .i64 w (ints (ascN js.length (reachN (nnOf js) i)))) := by
  have hfew := nnOf_few h
  have HX := Lib.hid (fun (W : World) (i : Nat) (hb : Below w.heap.size w W) => (by have := rneeds_ex (h.below hb) i; rw [needsI_nat] at this; exact this))
  obtain ⟨nn, hnn⟩ : ∃ nn, nn = nnOf js := ⟨_, rfl⟩
  have hbd := nnOf_bd js
  have hjl : js.length = nn.length := by rw [hnn, nnOf_length]
  obtain ⟨A, c, rfl⟩ := h.form
  rw [← hnn] at HX hfew hbd ⊢
  rw [hjl] at hi1 HX ⊢
  have BD := Lib.hid hbd
  obtain ⟨n, hn⟩ : ∃ n, n = nn.length := ⟨_, rfl⟩
  rw [← hn] at hi1 HX BD hfew ⊢
  have HN := Lib.hid hn
  have hmk := mk_bools n hfew
  obtain ⟨R, hR⟩ : ∃ R, R = w.heap.size := ⟨_, rfl⟩
  have k0 : (w.alloc (.cells (bo n []) 4)).heap[R]? = some (.cells (bo n []) 4 (0, 0)) := by rw [hR]; exact heap_alloc_new w _
  have K0 := Lib.hid k0
  have B0 := Lib.hid (balloc w (.cells (bo n []) 4))
  have HR := Lib.hid hR
  have hneg : decide (i < 0) = false := decide_eq_false (by omega)
  have hbig : decide ((n : Int) ≤ i) = false := decide_eq_false (by omega)
  clear h hnn hjl hbd hn k0
  go_enter Try.func20, Try.ntmps20
  go_wp2_with fail
  rw [← hR]
  clear hR hmk hneg hbig
  go_loopg [6] 100 (fun g1 v6 w1 => ∃ (M : List Nat) (b : Bool), v6 = .bool b ∧ w1.heap[R]? = some (.cells (bo n M) 4 (0, 0)) ∧ Mk nn i M ∧ (b = false → ∀ k, k < n → k ∉ M → ∀ x ∈ nn.getD k [], ¬ ((x : Int) = i ∨ x ∈ M)) ∧ lack n M * 2 + bI b + 1 ≤ g1 ∧ Below R w w1)
  case atStart => exact ⟨[], true, rfl, K0.out, ⟨by simp, by simp⟩, fun e => (by cases e), by rw [lack_nil]; unfold bI; simp; omega, by rw [HR.out]; exact B0.out⟩
  case round =>
    obtain ⟨M, b, rfl, hrow, hmk, hcl, hg1, hb1⟩ := hrel
    obtain ⟨w1, rfl⟩ : ∃ w1 : World, w1 = wr := ⟨_, rfl⟩
    have ROW := Lib.hid hrow
    have MK := Lib.hid hmk
    have CL := Lib.hid hcl
    have B1 := Lib.hid hb1
    clear hrow hmk hcl hb1
    cases b with
    | true =>
      have G1 := Lib.hid hg1
      clear hg1
      go_wp2_with fail
      go_loopg [6, 7] (n + 1) (fun g2 v6 v7 w2 => ∃ (M2 : List Nat) (b : Bool) (k : Nat), v6 = .bool b ∧ v7 = .int .i64 k ∧ k ≤ n ∧ w2.heap[R]? = some (.cells (bo n M2) 4 (0, 0)) ∧ Mk nn i M2 ∧ (b = false → M2 = M ∧ ∀ j, j < k → j ∉ M → ∀ x ∈ nn.getD j [], ¬ ((x : Int) = i ∨ x ∈ M)) ∧ (b = true → lack n M2 < lack n M) ∧ n - k + 1 ≤ g2 ∧ Below R w w2)
      case atStart => exact ⟨M, false, 0, rfl, rfl, by omega, ROW.out, MK.out, fun _ => ⟨rfl, fun j hj => by omega⟩, fun e => (by cases e), by omega, B1.out⟩
      case round =>
        obtain ⟨M2, b, k, rfl, rfl, hk, hrow, hmk, hf, ht, hg2, hb2⟩ := hrel
        obtain ⟨w2, rfl⟩ : ∃ w2 : World, w2 = wr := ⟨_, rfl⟩
        have ROW2 := Lib.hid hrow
        have MK2 := Lib.hid hmk
        have F2 := Lib.hid hf
        have T2 := Lib.hid ht
        have B2 := Lib.hid hb2
        clear hrow hmk hf ht hb2
        by_cases hkn : k < n
        · have hki : (k : Int) < (n : Int) := by omega
          have hkl : k < nn.length := by rw [← HN.out]; exact hkn
          have HI := Lib.hid (HX.out w2 k (by rw [← HR.out]; exact B2.out))
          obtain ⟨need, hneed⟩ : ∃ need, need = nn.getD k [] := ⟨_, rfl⟩
          rw [← hneed] at HI
          have hnlt : ∀ x ∈ need, x < n := by rw [hneed]; exact BD.out k
          have NL := Lib.hid hnlt
          have ND := Lib.hid hneed
          clear hneed hnlt
          go_wp2_with (go_at_call 18; ((with_reducible refine HI.out.mono ?_); rintro e w3 ⟨v3, rfl, hl3, hb3⟩; obtain ⟨A3, c3, rfl⟩ := lst_formN hl3; have L3 := Lib.hid hl3; have R3 := Lib.hid ((hb3.block R (heap_lt ROW2.out)).trans ROW2.out); have B3 := Lib.hid (B2.out.trans (hb3.mono (Nat.le_of_lt (heap_lt ROW2.out)))); clear hl3 hb3))
          obtain ⟨m, hm⟩ : ∃ m, m = need.length := ⟨_, rfl⟩
          rw [← hm]
          have hmn : m ≤ 9223372036854775807 := by have := lst_bd L3.out; rw [ints_length, ← hm] at this; exact this
          have HM := Lib.hid hm
          clear hm
          go_loopg [6, 9] (m + 2) (fun g3 v6 v9 w4 => ∃ (M4 : List Nat) (b4 : Bool) (q : Nat), v6 = .bool b4 ∧ v9 = .int .i64 q ∧ q ≤ m ∧ w4.heap[R]? = some (.cells (bo n M4) 4 (0, 0)) ∧ Mk nn i M4 ∧ ((M4 = M2 ∧ b4 = b ∧ (k ∉ M2 → ∀ x ∈ need.take q, ¬ ((x : Int) = i ∨ x ∈ M2))) ∨ (k ∉ M2 ∧ M4 = M2 ++ [k] ∧ b4 = true)) ∧ m - q + 1 ≤ g3 ∧ Below R w w4 ∧ Lst .i64 w4 (.slice A3 m c3) (ints need))
          case atStart => exact ⟨M2, b, 0, rfl, rfl, by omega, R3.out, MK2.out, .inl ⟨rfl, rfl, fun _ => by simp⟩, by omega, B3.out, by have := L3.out; rw [← HM.out] at this; exact this⟩
          case round =>
            obtain ⟨M4, b4, q, rfl, rfl, hq, hrow, hmk, hst, hg3, hb4, hl4⟩ := hrel
            obtain ⟨w4, rfl⟩ : ∃ w4 : World, w4 = wr := ⟨_, rfl⟩
            have ROW4 := Lib.hid hrow
            have MK4 := Lib.hid hmk
            have ST := Lib.hid hst
            have B4 := Lib.hid hb4
            have L4 := Lib.hid hl4
            have ck := cell_of_row w4 R k _ _ _ hrow
            rw [bo_at _ hkn] at ck
            have f1 : w4.frozen? ⟨R, k, none⟩ = false := by simp [World.frozen?, hrow]
            clear hrow hmk hst hb4 hl4
            by_cases hdone : k ∈ M4 ∨ q = m
            · have hrel2 : Mk nn i M4 ∧ (b4 = false → M4 = M ∧ ∀ j, j < k + 1 → j ∉ M → ∀ x ∈ nn.getD j [], ¬ ((x : Int) = i ∨ x ∈ M)) ∧ (b4 = true → lack n M4 < lack n M) := by
                refine ⟨MK4.out, ?_, ?_⟩
                · intro hb
                  rcases ST.out with ⟨h1, h2, h3⟩ | ⟨h1, h2, h3⟩
                  · subst h2
                    obtain ⟨q1, q2⟩ := F2.out hb
                    refine ⟨by rw [h1, q1], fun j hj hjm => ?_⟩
                    rcases Nat.lt_or_ge j k with hjk | hjk
                    · exact q2 j hjk hjm
                    · obtain rfl : j = k := by omega
                      rw [← q1] at hjm ⊢
                      rw [← ND.out]
                      have hqm : q = m := hdone.resolve_left (by rw [h1]; exact hjm)
                      have := h3 hjm
                      rw [hqm, List.take_of_length_le (by rw [HM.out]; exact Nat.le_refl _)] at this
                      exact this
                  · rw [h3] at hb; cases hb
                · intro hb
                  rcases ST.out with ⟨h1, h2, h3⟩ | ⟨h1, h2, h3⟩
                  · subst h2; rw [h1]; exact T2.out hb
                  · have hs := lack_snoc hkn h1
                    rw [h2]
                    cases b with
                    | true => have := T2.out rfl; omega
                    | false => have e1 := (F2.out rfl).1; rw [e1] at hs ⊢; omega
              have RL := Lib.hid hrel2
              clear hrel2
              by_cases hqm : q = m
              · subst hqm
                have L5 := L4.out
                clear hdone
                go_wp2_with fail
                go_roundg (n - (k + 1) + 1)
                case measure => omega
                case rel => exact ⟨M4, b4, k + 1, rfl, by go_num, by omega, ROW4.out, RL.out.1, RL.out.2.1, RL.out.2.2, Nat.le_refl _, B4.out⟩
              · have hqi : (q : Int) < (m : Int) := by omega
                have hkM : k ∈ M4 := hdone.resolve_right hqm
                rw [decide_eq_true hkM] at ck
                clear hdone hkM f1
                go_wp2_with fail
                go_roundg (n - (k + 1) + 1)
                case measure => omega
                case rel => exact ⟨M4, b4, k + 1, rfl, by go_num, by omega, ROW4.out, RL.out.1, RL.out.2.1, RL.out.2.2, Nat.le_refl _, B4.out⟩
            · have hqm : q < m := by omega
              have hqi : (q : Int) < (m : Int) := by omega
              have hkM : k ∉ M4 := fun e => hdone (.inl e)
              have hst1 : M4 = M2 ∧ b4 = b ∧ (∀ x ∈ need.take q, ¬ ((x : Int) = i ∨ x ∈ M2)) := by
                rcases ST.out with ⟨h1, h2, h3⟩ | ⟨h1, h2, h3⟩
                · exact ⟨h1, h2, h3 (by rw [← h1]; exact hkM)⟩
                · exact absurd (by rw [h2]; simp) hkM
              obtain ⟨rfl, rfl, hno⟩ := hst1
              have NO := Lib.hid hno
              rw [decide_eq_false hkM] at ck
              have KM := Lib.hid hkM
              have hql : q < need.length := by rw [← HM.out]; exact hqm
              obtain ⟨g, off, hA3, hc⟩ := lst_cells L4.out (by rw [ints_length]; omega)
              subst hA3
              have h0 := hc q (by rw [ints_length]; exact hql)
              rw [getD_ints (by rw [ints_length]; exact hql)] at h0
              have htk : need.take (q + 1) = need.take q ++ [need[q]'hql] := List.take_succ_eq_append_getElem hql
              have hmem : need[q]'hql ∈ need := List.getElem_mem hql
              generalize need[q]'hql = y at *
              have hyn : y < n := NL.out y hmem
              have hyi : (y : Int) < (n : Int) := by omega
              have cy := cell_of_row w4 R y _ _ _ ROW4.out
              rw [bo_at _ hyn] at cy
              have TK := Lib.hid htk
              have ME := Lib.hid (show y ∈ nn.getD k [] by rw [← ND.out]; exact hmem)
              clear hc htk hmem hdone hkM hno
              by_cases he : (y : Int) = i
              · have hyb : ((y : Int) == i) = true := by rw [he]; exact beq_self_eq_true _
                have HE := Lib.hid he
                clear he cy
                go_wp2_with fail
                go_roundg (m - (q + 1) + 1)
                case measure => omega
                case rel => exact ⟨_, true, q + 1, rfl, by go_num, by omega, by rw [← bo_set hkn]; exact row_set ROW4.out k _, MK4.out.snoc hkl ME.out (.inl HE.out), .inr ⟨KM.out, rfl, rfl⟩, Nat.le_refl _, B4.out.setCell (p := ⟨R, k, none⟩) (Nat.le_refl _) _, lst_mark L4.out ROW4.out k _⟩
              · have hyb : ((y : Int) == i) = false := beq_eq_false_iff_ne.2 he
                have HE := Lib.hid he
                clear he
                by_cases hy : y ∈ M4
                · rw [decide_eq_true hy] at cy
                  have Y := Lib.hid hy
                  clear hy
                  go_wp2_with fail
                  go_roundg (m - (q + 1) + 1)
                  case measure => omega
                  case rel => exact ⟨_, true, q + 1, rfl, by go_num, by omega, by rw [← bo_set hkn]; exact row_set ROW4.out k _, MK4.out.snoc hkl ME.out (.inr Y.out), .inr ⟨KM.out, rfl, rfl⟩, Nat.le_refl _, B4.out.setCell (p := ⟨R, k, none⟩) (Nat.le_refl _) _, lst_mark L4.out ROW4.out k _⟩
                · rw [decide_eq_false hy] at cy
                  have Y := Lib.hid hy
                  clear hy f1
                  go_wp2_with fail
                  go_roundg (m - (q + 1) + 1)
                  case measure => omega
                  case rel => exact ⟨M4, b4, q + 1, rfl, by go_num, by omega, ROW4.out, MK4.out, .inl ⟨rfl, rfl, fun _ => not_take_snoc TK.out NO.out (fun e => e.elim HE.out Y.out)⟩, Nat.le_refl _, B4.out, L4.out⟩
        · obtain rfl : k = n := by omega
          go_wp2_with fail
          go_roundg (lack k M2 * 2 + bI b + 1)
          case measure =>
            have := G1.out
            cases b with
            | true => have := T2.out rfl; unfold bI at *; simp at *; omega
            | false => have := (F2.out rfl).1; rw [this]; unfold bI at *; simp at *; omega
          case rel => exact ⟨M2, b, rfl, ROW2.out, MK2.out, fun hb => by obtain ⟨e1, e2⟩ := F2.out hb; rw [e1]; exact e2, Nat.le_refl _, B2.out⟩
    | false =>
      have hcl := MK.out.closed (by rw [← HN.out]; exact CL.out rfl)
      have CC := Lib.hid (ascN_congr (n := n) (l := reachN nn i) (m := M) (fun x hx => hcl x (by rw [← HN.out]; exact hx)))
      clear hcl hg1
      go_wp2_with fail
      go_loopg [10, 11] (n + 1) (fun g4 v10 i4 w4 => ∃ (k : Nat), i4 = .int .i64 k ∧ k ≤ n ∧ Own 3 .i64 w4 w1.heap.size v10 (ints (ascN k M)) ∧ n - k + 1 ≤ g4 ∧ Below w1.heap.size w1 w4)
      case atStart => exact ⟨0, rfl, by omega, Own.nil _ _ _ _, by omega, Below.refl _ _⟩
      case round =>
        obtain ⟨k, rfl, hk, ho, hg4, hb4⟩ := hrel
        obtain ⟨w4, rfl⟩ : ∃ w4 : World, w4 = wr := ⟨_, rfl⟩
        obtain ⟨A5, c5, hv5⟩ := own_formN ho
        have hal := ascN_len k M
        have O := Lib.hid ho
        have B4 := Lib.hid hb4
        have row4 := (hb4.block R (heap_lt ROW.out)).trans ROW.out
        clear ho hb4
        by_cases hkn : k < n
        · have hki : (k : Int) < (n : Int) := by omega
          have ck := cell_of_row w4 R k _ _ _ row4
          rw [bo_at _ hkn] at ck
          clear row4
          by_cases hm : k ∈ M
          · rw [decide_eq_true hm] at ck
            have Q := Lib.hid hm
            obtain ⟨out, hout⟩ : ∃ out, out = ascN k M := ⟨_, rfl⟩
            rw [← hout] at O hv5 hal
            subst hv5
            have HO := Lib.hid hout
            clear hm hout
            go_wp2_with (at_builtin; refine wpList_app (m := [(k : Int)]) rfl _ _ rfl elInt rfl (O.out.below (balloc _ _)) rfl (lst_one _ (k : Int) 3) (by simp; omega) (by have := B4.out.size; simp; omega) ?_; intro v5 w5 hO5 hF5; obtain ⟨A5, c5, hv5, hO6⟩ := own_snocN hO5; subst hv5; have B5 := Lib.hid ((B4.out.alloc B4.out.size _).trans hF5.bel); have O5 := Lib.hid hO6; clear hO5 hF5 hO6)
            go_roundg (n - (k + 1) + 1)
            case measure => omega
            case rel => exact ⟨k + 1, by go_num, by omega, by rw [ascN_succ_in Q.out, ← HO.out]; exact O5.out, Nat.le_refl _, B5.out⟩
          · rw [decide_eq_false hm] at ck
            have Q := Lib.hid hm
            subst hv5
            clear hm
            go_wp2_with fail
            go_roundg (n - (k + 1) + 1)
            case measure => omega
            case rel => exact ⟨k + 1, by go_num, by omega, by rw [ascN_succ_out Q.out]; exact O.out, Nat.le_refl _, B4.out⟩
        · obtain rfl : k = n := by omega
          subst hv5
          clear row4
          go_wp2_with fail
          go_ret
          exact ⟨_, rfl, by rw [CC.out]; exact O.out.lst, by rw [← HR.out]; exact B1.out.trans (B4.out.mono (Nat.le_of_lt (heap_lt ROW.out)))⟩
theorem rdep_ex {w : World} {v : Value} {js : List GJ} (h : JL w v js) (i : Int) :
    Calls Try.prog 20 #[v, .int .i64 i] w (LPost .i64 w (ints (ascN js.length (reachN (nnOf js) i)))) := by
  by_cases hi : i < 0 ∨ (js.length : Int) ≤ i
  · exact rdep_out h hi
  · exact rdep_in h (by omega) (by omega)
end Go.Proofs.Ytohiioafdajhmaa.Gp
