/-
  The walk of BurstPlays.
-/
import Derived.Test.YtkabhpmnhdhodaaBuForgets
namespace Go.Proofs.Ytkabhpmnhdhodaa.Bu
open Go.RowKit Go.Shelf

/-- The two lists over which the laws range, in a block of their own. -/
structure Pair (w : World) (b : Nat) : Prop where
  at_ : ∀ k : Nat, k < 2 → ∃ A n c l, w.cell? ⟨b, k, none⟩ = some (.slice A n c) ∧ Lst w (.slice A n c) l ∧ U l ∧ l.length ≤ 60
theorem Pair.below {w w' : World} {b : Nat} (h : Pair w b) (hb : Below w.heap.size w w') : Pair w' b :=
  ⟨fun k hk => by
    obtain ⟨A, n, c, l, h1, h2, h3⟩ := h.at_ k hk
    exact ⟨A, n, c, l, (hb.cell (World.block_lt_of_cell? w _ h1)).trans h1, h2.below hb, h3⟩⟩
theorem pair_made {w : World} {A1 A2 : Option Addr} {n1 n2 c1 c2 : Nat} {l1 l2 : List Int} (h1 : Lst w (.slice A1 n1 c1) l1) (u1 : U l1) (e1 : l1.length ≤ 60) (h2 : Lst w (.slice A2 n2 c2) l2) (u2 : U l2) (e2 : l2.length ≤ 60) :
    Pair (w.alloc (.cells #[.slice A1 n1 c1, .slice A2 n2 c2] 22)) w.heap.size ∧ Below w.heap.size w (w.alloc (.cells #[.slice A1 n1 c1, .slice A2 n2 c2] 22)) := by
  have h := heap_alloc_new w (.cells #[.slice A1 n1 c1, .slice A2 n2 c2] 22)
  have hb : Below w.heap.size w (w.alloc (.cells #[.slice A1 n1 c1, .slice A2 n2 c2] 22)) := (Below.refl _ _).alloc (Nat.le_refl _) _
  refine ⟨⟨fun k hk => ?_⟩, hb⟩
  match k, hk with
  | 0, _ => exact ⟨A1, n1, c1, l1, cell_of_row _ _ 0 _ _ _ h, h1.below hb, u1, e1⟩
  | 1, _ => exact ⟨A2, n2, c2, l2, cell_of_row _ _ 1 _ _ _ h, h2.below hb, u2, e2⟩

set_option maxRecDepth 100000 in
set_option maxHeartbeats 2000000 in
theorem BurstPlays_walk {w : World} {v : Value} {l : List Int} {a0 a1 : Int} (h : Lst w v l) (hU : U l) (hl : l.length ≤ 9223372036854775807) (w0 : (Lit.int .i64 a0).wf = true) (w1 : (Lit.int .u64 a1).wf = true) :
    Calls Try.prog 4 #[.int .i64 a0, .int .u64 a1, v] w (BTrue w) := by
  obtain ⟨b0, c0⟩ := i64_bd w0
  obtain ⟨b1, c1⟩ := u64_bd w1
  clear w0 w1
  have hv := h
  obtain ⟨A0, k0, rfl, _⟩ := hv
  by_cases h60 : 60 < l.length
  · have h60' : (60 : Int) < (l.length : Int) := by omega
    clear h hU
    go_enter Try.func4, Try.ntmps4
    go_wp2_with (go_at_call 7; ((with_reducible refine (sane_any _).mono ?_); rintro e w1 ⟨rfl, hb⟩; have B0 := Lib.hid hb; clear hb))
    go_ret
    exact ⟨rfl, B0.out⟩
  · have h60' : (l.length : Int) ≤ 60 := by omega
    have hx : ∀ W, Lst W (.slice A0 l.length k0) l → Calls Try.prog 8 #[.slice A0 l.length k0, .int .u64 80] W (SegPost W (l.map (· % 80))) := fun W hW => small_any hW hU (by omega) (by omega) (by omega)
    have hxU : U (l.map (· % 80)) := U.mods (by omega) (by omega)
    have hxl : (l.map (· % 80)).length ≤ 60 := by rw [List.length_map]; omega
    generalize l.map (· % 80) = xs at hx hxU hxl
    have HX := Lib.hid hx
    have HU := Lib.hid hU
    have XU := Lib.hid hxU
    have XL := Lib.hid hxl
    have HL := Lib.hid h
    clear hx hxU hxl h hU
    go_enter Try.func4, Try.ntmps4
    go_wp2_with (go_at_call 7; ((with_reducible refine (sane_any _).mono ?_); rintro e w1 ⟨rfl, hb⟩; have B1 := Lib.hid hb; have L1 := Lib.hid (HL.out.below hb); clear hb))
    go_wp2_with (go_at_call 8; ((with_reducible refine (HX.out _ L1.out).mono ?_); rintro e w2 ⟨v2, rfl, hs, hb⟩; obtain ⟨A2, n2, c2, rfl⟩ := hs.form; have X2 := Lib.hid hs.lst; have L2 := Lib.hid (L1.out.below hb); have B2 := Lib.hid (B1.out.trans (hb.mono B1.out.size)); clear hs hb))
    obtain ⟨P3, B3⟩ := pair_made L2.out HU.out (by omega) X2.out XU.out XL.out
    obtain ⟨W, hW⟩ : ∃ W, W = w2.alloc (.cells #[.slice A0 l.length k0, .slice A2 n2 c2] 22) := ⟨_, rfl⟩
    rw [← hW] at P3 B3 ⊢
    have hz : w2.heap.size < W.heap.size := by rw [hW]; simp
    have BW := Lib.hid (B2.out.trans (B3.mono B2.out.size))
    have PW := Lib.hid P3
    clear P3 B3 hW
    generalize w2.heap.size = b at *
    go_loopg [8, 9, 10, 11, 22, 45] 3 (fun g _ _ _ _ i _ wr => ∃ k : Nat, i = .int .i64 k ∧ k ≤ 2 ∧ 2 - k + 1 ≤ g ∧ Below W.heap.size W wr)
    case atStart => exact ⟨0, rfl, by omega, by omega, Below.refl _ _⟩
    case round =>
      obtain ⟨k, rfl, hk, hg, hb⟩ := hrel
      obtain ⟨wo, rfl⟩ : ∃ wo : World, wo = wr := ⟨_, rfl⟩
      by_cases hk2 : k < 2
      · obtain ⟨A3, n3, c3, ls, d3, q3, u3, e3⟩ := (PW.out.below hb).at_ k hk2
        have HP := Lib.hid (play_any (most := a0.tmod 7) (win := a1 % 40) q3 u3 (by omega))
        have HQ : Hid (∀ W', Lst W' (.slice A3 n3 c3) ls → Calls Try.prog 15 #[.int .i64 (a0.tmod 7), .int .u64 (a1 % 40), .slice A3 n3 c3] W' (PlayPost W' (play (a0.tmod 7) (a1 % 40) [] 0 ls))) := Lib.hid (fun W' hW' => refplay_any hW' u3 (by omega))
        have el := play_length (a0.tmod 7) (a1 % 40) [] 0 ls
        generalize play (a0.tmod 7) (a1 % 40) [] 0 ls = bs at *
        have e3' : bs.length ≤ 60 := by omega
        have Q3 := Lib.hid q3
        have HB := Lib.hid hb
        have hki : (k : Int) < 2 := by omega
        clear q3 u3 hb e3 el
        go_wp2_with (first
          | (go_at_call 14; ((with_reducible refine HP.out.mono ?_); rintro e w4 ⟨v4, rfl, hr, hb4⟩; have R4 := Lib.hid hr; have Q4 := Lib.hid (Q3.out.below hb4); have B4 := Lib.hid (HB.out.trans (hb4.mono HB.out.size)); clear hr hb4))
          | (go_at_call 15; ((with_reducible refine (HQ.out _ Q4.out).mono ?_); rintro e w5 ⟨v5, rfl, hr, hb5⟩; obtain ⟨A5, c5, rfl, hr5⟩ := hr; obtain ⟨A4, c4, hv4, hr4⟩ := R4.out.below hb5; subst hv4; have R5 := Lib.hid hr5; have R4' := Lib.hid hr4; have B5 := Lib.hid (B4.out.trans (hb5.mono B4.out.size)); clear hr5 hr4 hb5)))
        go_loopg [11, 45] (bs.length + 1) (fun g _ s wr => ∃ j m : Nat, s = .int .i64 j ∧ j ≤ bs.length ∧ bs.length - j + 1 ≤ g ∧ wr = w5.drewN m)
        case atStart => exact ⟨0, 0, rfl, Nat.zero_le _, by omega, rfl⟩
        case round =>
          obtain ⟨j, m, rfl, hj, hgj, rfl⟩ := hrel
          by_cases hjn : j < bs.length
          · obtain ⟨x, hx⟩ : ∃ x, bs[j]? = some x := ⟨bs[j], List.getElem?_eq_getElem hjn⟩
            obtain ⟨g1, o1, e1, k1⟩ := R4'.out (by omega)
            obtain ⟨g2, o2, e2, k2⟩ := R5.out (by omega)
            have dx1 : w5.cell? ⟨g1, o1 + j, none⟩ = some (.bool x) := k1 j x hx
            have dx2 : w5.cell? ⟨g2, o2 + j, none⟩ = some (.bool x) := k2 j x hx
            have hij : (j : Int) < (bs.length : Int) := by omega
            subst e1
            subst e2
            clear k1 k2 hx
            go_wp2_with fail
            go_quiet (fail)
            go_wp2_with fail
            go_roundg (bs.length - (j + 1) + 1)
            case measure => omega
            case rel => exact ⟨j + 1, _, by go_num, by omega, Nat.le_refl _, rfl⟩
          · have hb6 := Lib.hid (B5.out.trans ((below_drewN w5 m).mono B5.out.size))
            go_wp2_with fail
            go_roundg (2 - (k + 1) + 1)
            case measure => omega
            case rel => exact ⟨k + 1, by go_num, by omega, Nat.le_refl _, hb6.out⟩
      · have hki : ¬ (k : Int) < 2 := by omega
        have HB := Lib.hid (BW.out.trans (hb.mono BW.out.size))
        clear hb
        go_wp2_with fail
        go_ret
        exact ⟨rfl, HB.out⟩
theorem BurstPlays_law (a0 a1 : Int) (a2 : Option Addr) (len2 cap2 : Nat) (z2 : List Int) (w : World) (w0 : (Lit.int .i64 a0).wf = true) (w1 : (Lit.int .u64 a1).wf = true) (w2 : (a2 = none ∧ len2 = 0 ∧ cap2 = 0 ∧ z2 = []) ∨
    ∃ x, a2 = some x ∧ len2 ≤ cap2 ∧ cap2 ≤ maxLen ∧ z2.length = cap2 ∧ (∀ i, i < z2.length → w.cell? (x.add i) = some (.int .u64 (z2.getD i 0))) ∧ ∀ n ∈ z2, (Lit.int .u64 n).wf = true) :
    Calls Try.prog 4 #[.int .i64 a0, .int .u64 a1, .slice a2 len2 cap2] w (BTrue w) := by
  obtain ⟨l, rfl, hL, hU, hle⟩ := lst_of_row w2
  exact BurstPlays_walk hL hU hle w0 w1
end Go.Proofs.Ytkabhpmnhdhodaa.Bu
