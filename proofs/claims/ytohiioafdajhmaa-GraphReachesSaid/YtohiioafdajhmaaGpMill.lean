/-
  Layer 7: the numbers that the statements draw from; lists compared.
-/
import Derived.Test.YtohiioafdajhmaaGpRdep
namespace Go.Proofs.Ytohiioafdajhmaa.Gp
open Go.RowKit

theorem tmod_cases (v n : Int) (h0 : 1 ≤ n) : (v.tmod n = v % n ∧ 0 ≤ v.tmod n) ∨ (v.tmod n + n = v % n ∧ v.tmod n < 0 ∧ -n < v.tmod n) := by
  have e0 := Int.emod_nonneg v (show n ≠ 0 by omega)
  have e1 := Int.emod_lt_of_pos v (show 0 < n by omega)
  have e2 := Int.tmod_eq_emod (a := v) (b := n)
  have e3 : (n.natAbs : Int) = n := Int.natAbs_of_nonneg (by omega)
  split at e2
  · left; constructor
    · omega
    · omega
  · rename_i h
    right
    have hne : v % n ≠ 0 := fun e => h (.inr (Int.dvd_of_emod_eq_zero e))
    rw [e3] at e2
    exact ⟨by omega, by omega, by omega⟩
theorem mod_any (v n : Int) (h0 : 1 ≤ n) (h1 : n ≤ 2000000) (hv0 : -9223372036854775808 ≤ v) (hv1 : v ≤ 9223372036854775807) (w : World) :
    Calls Try.prog 21 #[.int .i64 v, .int .i64 n] w fun e w' => e = .returned (.int .i64 (v % n)) ∧ w = w' := by
  have hn0 : (n == 0) = false := beq_eq_false_iff_ne.2 (by omega)
  by_cases hv : 0 ≤ v
  · have e0 := Int.emod_nonneg v (show n ≠ 0 by omega)
    have hd : decide (v % n < 0) = false := decide_eq_false (by omega)
    go_enter Try.func21, Try.ntmps21
    go_wp2
    go_ret
    exact ⟨rfl, rfl⟩
  · rcases tmod_cases v n h0 with ⟨e1, e2⟩ | ⟨e1, e2, e3⟩
    · have hd : decide (v.tmod n < 0) = false := decide_eq_false (by omega)
      have E1 := Lib.hid e1
      clear e1
      go_enter Try.func21, Try.ntmps21
      go_wp2
      go_ret
      exact ⟨ret_i E1.out, rfl⟩
    · have hd : decide (v.tmod n < 0) = true := decide_eq_true e2
      have E1 := Lib.hid e1
      clear e1
      go_enter Try.func21, Try.ntmps21
      go_wp2
      go_ret
      exact ⟨ret_i E1.out, rfl⟩
/-- A deck at block d: its numbers, and how many have been taken. -/
structure Deck (w : World) (d : Nat) (A : Option Addr) (n c : Nat) (zs : List Int) (k : Nat) : Prop where
  blk : w.heap[d]? = some (.cells #[.slice A n c, .int .i64 k] 49 (0, 0))
  le : k ≤ n
  bd : n ≤ 9223372036854775807
  wf : ∀ z ∈ zs, -9223372036854775808 ≤ z ∧ z ≤ 9223372036854775807
  len : zs.length = n
  rd : 0 < n → ∃ b off, A = some ⟨b, off, none⟩ ∧ b ≠ d ∧ b < w.heap.size ∧ ∀ i z, zs[i]? = some z → w.cell? ⟨b, off + i, none⟩ = some (.int .i64 z)

theorem left_any {w : World} {d n c k : Nat} {A : Option Addr} {zs : List Int} (h : Deck w d A n c zs k) :
    Calls Try.prog 25 #[.pointer (some ⟨d, 0, none⟩)] w fun e w' => e = .returned (.bool (decide (k < n))) ∧ ∃ m, w' = w.drewN m := by
  have c0 := cell_of_row w d 0 _ _ _ h.blk
  have c1 := cell_of_row w d 1 _ _ _ h.blk
  clear h
  go_enter Try.func25, Try.ntmps25
  go_wp2
  go_quiet (fail)
  go_wp2
  go_ret
  exact ⟨rfl, _, rfl⟩

/-- Behind a number taken. -/
def NextPost (w : World) (d : Nat) (A : Option Addr) (n c : Nat) (zs : List Int) (k : Nat) (m : Int) (e : Ending) (w' : World) : Prop :=
  ∃ (r : Int) (k' : Nat), e = .returned (.int .i64 r) ∧ 0 ≤ r ∧ r < m ∧ k ≤ k' ∧ (k < n → k' = k + 1) ∧ Deck w' d A n c zs k' ∧ w.grownBy w' (some d)

theorem next_end {w : World} {d n c k : Nat} {A : Option Addr} {zs : List Int} (h : Deck w d A n c zs k) (hk : ¬ k < n) (m : Int) (h0 : 1 ≤ m) :
    Calls Try.prog 26 #[.pointer (some ⟨d, 0, none⟩), .int .i64 m] w (NextPost w d A n c zs k m) := by
  have hL := left_any h
  rw [decide_eq_false hk] at hL
  have HL := Lib.hid hL
  have H := Lib.hid h
  clear h hL
  go_enter Try.func26, Try.ntmps26
  go_wp2_with (go_at_call 25; ((with_reducible refine HL.out.mono ?_); rintro e w' ⟨rfl, q, rfl⟩))
  go_ret
  exact ⟨0, k, rfl, by omega, by omega, Nat.le_refl _, fun h => absurd h hk, ⟨H.out.blk, H.out.le, H.out.bd, H.out.wf, H.out.len, H.out.rd⟩, ⟨rfl, rfl, rfl, Nat.le_refl _, fun _ _ _ => rfl⟩⟩

set_option maxHeartbeats 1000000 in
theorem next_more {w : World} {d n c k : Nat} {A : Option Addr} {zs : List Int} (h : Deck w d A n c zs k) (hk : k < n) (m : Int) (h0 : 1 ≤ m) (h1 : m ≤ 1000000) :
    Calls Try.prog 26 #[.pointer (some ⟨d, 0, none⟩), .int .i64 m] w (NextPost w d A n c zs k m) := by
  have hL := left_any h
  rw [decide_eq_true hk] at hL
  obtain ⟨b, off, rfl, hbd, hbw, hcells⟩ := h.rd (by omega)
  obtain ⟨x, hx⟩ : ∃ x, zs[k]? = some x := ⟨zs[k]'(by have := h.len; omega), List.getElem?_eq_getElem _⟩
  have hxc := hcells k x hx
  obtain ⟨x0, x1⟩ := h.wf x (List.mem_of_getElem? hx)
  have c0 := cell_of_row w d 0 _ _ _ h.blk
  have c1 := cell_of_row w d 1 _ _ _ h.blk
  have f1 : w.frozen? ⟨d, 1, none⟩ = false := by simp [World.frozen?, h.blk]
  have hkb : (k : Int) + 1 ≤ 9223372036854775807 := by have := h.bd; omega
  have hkn : (k : Int) < (n : Int) := by omega
  -- behind the count
  obtain ⟨W1, hW1⟩ : ∃ W1, W1 = w.setCell ⟨d, 1, none⟩ (.int .i64 ((k : Int) + 1)) := ⟨_, rfl⟩
  have hblk1 : W1.heap[d]? = some (.cells #[.slice (some ⟨b, off, none⟩) n c, .int .i64 ((k : Int) + 1)] 49 (0, 0)) := by
    rw [hW1]
    have := h.blk
    simp [World.setCell, Array.getElem?_modify, this]
  have hg1 : w.grownBy W1 (some d) := by rw [hW1]; exact grown_set w ⟨d, 1, none⟩ _
  have hD : Deck W1 d (some ⟨b, off, none⟩) n c zs (k + 1) := ⟨hblk1, by omega, h.bd, h.wf, h.len, fun _ => ⟨b, off, rfl, hbd, by have := hg1.size; omega, fun i z hz => (World.cell?_of_block (hg1.block b hbw (by simpa using hbd))).trans (hcells i z hz)⟩⟩
  have d0 := cell_of_row W1 d 0 _ _ _ hblk1
  have d1 := cell_of_row W1 d 1 _ _ _ hblk1
  have dx := (World.cell?_of_block (a := ⟨b, off + k, none⟩) (hg1.block b hbw (by simpa using hbd))).trans hxc
  have e0 := Int.emod_nonneg x (show m ≠ 0 by omega)
  have e1 := Int.emod_lt_of_pos x (show 0 < m by omega)
  have HM := Lib.hid (fun W => (mod_any x m h0 (by omega) x0 x1 W).mono fun _ _ ⟨he, hw⟩ => (⟨he, hw.symm⟩ : _ ∧ _ = W))
  have HL := Lib.hid hL
  have HW := Lib.hid hW1
  have HD := Lib.hid hD
  have HG := Lib.hid hg1
  have E0 := Lib.hid e0
  have E1 := Lib.hid e1
  clear h hL hcells hx hxc hW1 hblk1 hg1 hD e0 e1
  go_enter Try.func26, Try.ntmps26
  go_wp2_with (go_at_call 25; ((with_reducible refine HL.out.mono ?_); rintro e w' ⟨rfl, q, rfl⟩))
  have hWq : (w.drewN q).setCell ⟨d, 1, none⟩ (.int .i64 ((k : Int) + 1)) = W1.drewN q := by rw [HW.out]; rfl
  rw [hWq]
  have hD2 : Deck (W1.drewN q) d (some ⟨b, off, none⟩) n c zs (k + 1) := ⟨HD.out.blk, HD.out.le, HD.out.bd, HD.out.wf, HD.out.len, HD.out.rd⟩
  have hG2 : w.grownBy (W1.drewN q) (some d) := grown_trans HG.out (grown_drewN W1 q _)
  have d0' : (W1.drewN q).cell? ⟨d, 0, none⟩ = _ := d0
  have d1' : (W1.drewN q).cell? ⟨d, 1, none⟩ = _ := d1
  have dx' : (W1.drewN q).cell? ⟨b, off + k, none⟩ = _ := dx
  clear d0 d1 dx hWq HW HD HG c0 c1
  generalize W1.drewN q = W2 at *
  have HD := Lib.hid hD2
  have HG := Lib.hid hG2
  clear hD2 hG2
  go_quiet ((go_at_call 21; exact Calls.quiet_of_same (HM.out _)))
  go_wp2_with fail
  go_ret
  exact ⟨x % m, k + 1, rfl, E0.out, E1.out, by omega, fun _ => rfl, ⟨HD.out.blk, HD.out.le, HD.out.bd, HD.out.wf, HD.out.len, HD.out.rd⟩, grown_trans HG.out (grown_drewN W2 _ _)⟩

theorem next_any {w : World} {d n c k : Nat} {A : Option Addr} {zs : List Int} (h : Deck w d A n c zs k) (m : Int) (h0 : 1 ≤ m) (h1 : m ≤ 1000000) :
    Calls Try.prog 26 #[.pointer (some ⟨d, 0, none⟩), .int .i64 m] w (NextPost w d A n c zs k m) := by
  by_cases hk : k < n
  · exact next_more h hk m h0 h1
  · exact next_end h hk m h0

/-- Ints that came in. -/
structure IntsIn (w : World) (A : Option Addr) (n : Nat) (zs : List Int) : Prop where
  bd : n ≤ 9223372036854775807
  wf : ∀ z ∈ zs, -9223372036854775808 ≤ z ∧ z ≤ 9223372036854775807
  len : zs.length = n
  rd : 0 < n → ∃ b off, A = some ⟨b, off, none⟩ ∧ b < w.heap.size ∧ ∀ i z, zs[i]? = some z → w.cell? ⟨b, off + i, none⟩ = some (.int .i64 z)

theorem IntsIn.below {w w' : World} {A : Option Addr} {n : Nat} {zs : List Int} (h : IntsIn w A n zs) (hb : Below w.heap.size w w') : IntsIn w' A n zs :=
  ⟨h.bd, h.wf, h.len, fun hn => by
    obtain ⟨b, off, h1, h2, h3⟩ := h.rd hn
    exact ⟨b, off, h1, Nat.lt_of_lt_of_le h2 hb.size, fun i z hz => (hb.cell (p := ⟨b, off + i, none⟩) h2).trans (h3 i z hz)⟩⟩
theorem new_any {w : World} {A : Option Addr} {n c : Nat} {zs : List Int} (h : IntsIn w A n zs) :
    Calls Try.prog 11 #[.slice A n c] w fun e w' => e = .returned (.pointer (some ⟨w.heap.size, 0, none⟩)) ∧ Deck w' w.heap.size A n c zs 0 ∧ Below w.heap.size w w' ∧ w'.heap.size = w.heap.size + 1 := by
  have H := Lib.hid h
  clear h
  go_enter Try.func11, Try.ntmps11
  go_wp2
  go_ret
  refine ⟨rfl, ⟨heap_alloc_new w _, Nat.zero_le _, H.out.bd, H.out.wf, H.out.len, fun hn => ?_⟩, (Below.refl _ _).alloc (Nat.le_refl _) _, by simp⟩
  obtain ⟨b, off, hA, hb, hc⟩ := H.out.rd hn
  exact ⟨b, off, hA, by omega, by simp; omega, fun i z hz => (World.cell?_alloc_lt w _ _ hb).trans (hc i z hz)⟩
theorem Deck.keep {w w' : World} {d n c k : Nat} {A : Option Addr} {zs : List Int} (h : Deck w d A n c zs k) (hb : Below w.heap.size w w') : Deck w' d A n c zs k :=
  ⟨(hb.block d (heap_lt h.blk)).trans h.blk, h.le, h.bd, h.wf, h.len, fun hn => by
    obtain ⟨b, off, h1, h2, h3, h4⟩ := h.rd hn
    exact ⟨b, off, h1, h2, Nat.lt_of_lt_of_le h3 hb.size, fun i z hz => (hb.cell (p := ⟨b, off + i, none⟩) h3).trans (h4 i z hz)⟩⟩

/-- A number from low to high. -/
theorem range_any {w : World} {d n c k : Nat} {A : Option Addr} {zs : List Int} (h : Deck w d A n c zs k) (low high : Int) (h0 : low ≤ high) (h1 : -1000 ≤ low) (h2 : high ≤ 1000) :
    Calls Try.prog 27 #[.pointer (some ⟨d, 0, none⟩), .int .i64 low, .int .i64 high] w fun e w' => ∃ (r : Int) (k' : Nat), e = .returned (.int .i64 r) ∧ low ≤ r ∧ r ≤ high ∧ Deck w' d A n c zs k' ∧ w.grownBy w' (some d) := by
  have HN := Lib.hid (next_any h (high - low + 1) (by omega) (by omega))
  clear h
  go_enter Try.func27, Try.ntmps27
  go_wp2_with (go_at_call 26; ((with_reducible refine HN.out.mono ?_); rintro e w1 ⟨r, k1, rfl, hr0, hr1, _, _, hD, hG⟩; have hr2 : -1000 ≤ low + r := (by omega); have hr3 : low + r ≤ 1000 := (by omega); have D1 := Lib.hid hD; have G1 := Lib.hid hG; have R0 := Lib.hid hr0; have R1 := Lib.hid hr1; clear hD hG hr0 hr1))
  go_ret
  have q0 := R0.out
  have q1 := R1.out
  exact ⟨low + r, k1, rfl, by omega, by omega, D1.out, G1.out⟩

set_option maxRecDepth 100000 in
theorem same_ex {w : World} {va vb : Value} {a b : List Nat} (ha : Lst .i64 w va (ints a)) (hb : Lst .i64 w vb (ints b)) :
    Calls Try.prog 12 #[va, vb] w fun e w' => e = .returned (.bool (decide (a = b))) ∧ ∃ d, w' = w.drewN d := by
  obtain ⟨A, c, rfl⟩ := lst_formN ha
  obtain ⟨B, c2, rfl⟩ := lst_formN hb
  have hbd := lst_bd ha
  rw [ints_length] at hbd
  by_cases hl : a.length = b.length
  · rw [← hl] at hb ⊢
    have HA := Lib.hid ha
    have HB := Lib.hid hb
    obtain ⟨m, hm⟩ : ∃ m, m = a.length := ⟨_, rfl⟩
    rw [← hm] at hbd ⊢
    have M := Lib.hid hm
    have HL := Lib.hid hl
    clear ha hb hm hl
    go_enter Try.func12, Try.ntmps12
    go_wp2_with fail
    go_loopg [13] (m + 1) (fun g' i wr => ∃ (k : Nat), i = .int .i64 k ∧ k ≤ m ∧ a.take k = b.take k ∧ m - k + 1 ≤ g' ∧ ∃ d, wr = w.drewN d)
    case atStart => exact ⟨0, rfl, by omega, rfl, by omega, 0, rfl⟩
    case round =>
      obtain ⟨k, rfl, hk, hno, hg, d, rfl⟩ := hrel
      have NO := Lib.hid hno
      clear hno
      by_cases hkm : k < m
      · have hki : (k : Int) < (m : Int) := by omega
        have hka : k < a.length := by rw [← M.out]; exact hkm
        have hkb : k < b.length := by rw [← HL.out]; exact hka
        obtain ⟨g, off, rfl, hc⟩ := lst_cells HA.out (by rw [ints_length]; omega)
        have hb0 := HB.out
        rw [show a.length = m from M.out.symm] at hb0
        obtain ⟨g2, off2, rfl, hc2⟩ := lst_cells hb0 (by rw [ints_length]; omega)
        have h0 := hc k (by rw [ints_length]; exact hka)
        have h2 := hc2 k (by rw [ints_length]; exact hkb)
        rw [getD_ints (by rw [ints_length]; exact hka)] at h0
        rw [getD_ints (by rw [ints_length]; exact hkb)] at h2
        have e1 : a.take (k + 1) = a.take k ++ [a[k]'hka] := List.take_succ_eq_append_getElem hka
        have e2 : b.take (k + 1) = b.take k ++ [b[k]'hkb] := List.take_succ_eq_append_getElem hkb
        have e3 : a[k]? = some (a[k]'hka) := List.getElem?_eq_getElem hka
        have e4 : b[k]? = some (b[k]'hkb) := List.getElem?_eq_getElem hkb
        generalize a[k]'hka = x at *
        generalize b[k]'hkb = y at *
        have E1 := Lib.hid e1
        have E2 := Lib.hid e2
        have E3 := Lib.hid e3
        have E4 := Lib.hid e4
        clear hc hc2 e1 e2 e3 e4 hb0
        by_cases hxy : x = y
        · subst hxy
          go_wp2_with fail
          go_quiet (fail)
          go_wp2_with fail
          go_roundg (m - (k + 1) + 1)
          case measure => omega
          case rel => exact ⟨k + 1, by go_num, by omega, by rw [E1.out, E2.out, NO.out], Nat.le_refl _, _, rfl⟩
        · have hxi : ((x : Int) == (y : Int)) = false := beq_eq_false_iff_ne.2 (by omega)
          have NE := Lib.hid hxy
          clear hxy
          go_wp2_with fail
          go_quiet (fail)
          go_wp2_with fail
          go_ret
          exact ⟨ret_b (decide_eq_false fun e => by
            have h1 := E3.out
            rw [e, E4.out] at h1
            injection h1 with h1
            exact NE.out h1.symm).symm, d + nq, World.drewN_drewN w d nq⟩
      · obtain rfl : k = m := by omega
        have hno := NO.out
        rw [List.take_of_length_le (by rw [M.out]; exact Nat.le_refl _), List.take_of_length_le (by rw [M.out, HL.out]; exact Nat.le_refl _)] at hno
        have NO2 := Lib.hid hno
        clear hno
        go_wp2_with fail
        go_ret
        exact ⟨ret_b (decide_eq_true NO2.out).symm, d, rfl⟩
  · have hli : ((a.length : Int) == (b.length : Int)) = false := beq_eq_false_iff_ne.2 (by omega)
    have HL := Lib.hid hl
    clear ha hb hl
    go_enter Try.func12, Try.ntmps12
    go_wp2_with fail
    go_ret
    exact ⟨ret_b (decide_eq_false fun e => HL.out (by rw [e])).symm, 0, rfl⟩
end Go.Proofs.Ytohiioafdajhmaa.Gp
