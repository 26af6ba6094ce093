/-
  Layer 4: the numbers that the statements draw from, the odd bytes; comparisons.
-/
import Derived.Test.YtjcgcloanamabaaRuRDec
namespace Go.Proofs.Ytjcgcloanamabaa.Ru
open Go.RowKit

theorem grown_set (w : World) (p : Addr) (u : Value) : w.grownBy (w.setCell p u) (some p.block) := ⟨rfl, rfl, rfl, by simp, fun k _ hk => Below.heap_setCell _ _ _ _ (by simpa using hk)⟩
theorem grown_trans {w0 w w' : World} {row : Option Nat} (h : w0.grownBy w row) (k : w.grownBy w' row) : w0.grownBy w' row :=
  ⟨k.os.trans h.os, k.tape.trans h.tape, k.output.trans h.output, Nat.le_trans h.size k.size, fun i hi hne => (k.block i (Nat.lt_of_lt_of_le hi h.size) hne).trans (h.block i hi hne)⟩
theorem grown_drewN (w : World) (n : Nat) (row : Option Nat) : w.grownBy (w.drewN n) row := ⟨rfl, rfl, rfl, Nat.le_refl _, fun _ _ _ => rfl⟩
theorem tmod_cases (v n : Int) (h0 : 1 ≤ n) : (v.tmod n = v % n ∧ 0 ≤ v.tmod n) ∨ (v.tmod n + n = v % n ∧ v.tmod n < 0 ∧ -n < v.tmod n) := by
  have e0 := Int.emod_nonneg v (show n ≠ 0 by omega)
  have e1 := Int.emod_lt_of_pos v (show 0 < n by omega)
  have e2 := Int.tmod_eq_emod (a := v) (b := n)
  have e3 : (n.natAbs : Int) = n := Int.natAbs_of_nonneg (by omega)
  split at e2
  · left; constructor
    · omega
    · omega
  · rename_i h
    right
    have hne : v % n ≠ 0 := fun e => h (.inr (Int.dvd_of_emod_eq_zero e))
    rw [e3] at e2
    exact ⟨by omega, by omega, by omega⟩
theorem mod_any (v n : Int) (h0 : 1 ≤ n) (h1 : n ≤ 2000000) (hv0 : -9223372036854775808 ≤ v) (hv1 : v ≤ 9223372036854775807) (w : World) :
    Calls Try.prog 8 #[.int .i64 v, .int .i64 n] w fun e w' => e = .returned (.int .i64 (v % n)) ∧ w = w' := by
  have hn0 : (n == 0) = false := beq_eq_false_iff_ne.2 (by omega)
  by_cases hv : 0 ≤ v
  · have e0 := Int.emod_nonneg v (show n ≠ 0 by omega)
    have hd : decide (v % n < 0) = false := decide_eq_false (by omega)
    go_enter Try.func8, Try.ntmps8
    go_wp2
    go_ret
    exact ⟨rfl, rfl⟩
  · rcases tmod_cases v n h0 with ⟨e1, e2⟩ | ⟨e1, e2, e3⟩
    · have hd : decide (v.tmod n < 0) = false := decide_eq_false (by omega)
      have E1 := Lib.hid e1
      clear e1
      go_enter Try.func8, Try.ntmps8
      go_wp2
      go_ret
      exact ⟨ret_i E1.out, rfl⟩
    · have hd : decide (v.tmod n < 0) = true := decide_eq_true e2
      have E1 := Lib.hid e1
      clear e1
      go_enter Try.func8, Try.ntmps8
      go_wp2
      go_ret
      exact ⟨ret_i E1.out, rfl⟩

/-- A deck at block d: its numbers, and how many have been taken. -/
structure Deck (w : World) (d : Nat) (A : Option Addr) (n c : Nat) (zs : List Int) (k : Nat) : Prop where
  blk : w.heap[d]? = some (.cells #[.slice A n c, .int .i64 k] 54 (0, 0))
  le : k ≤ n
  bd : n ≤ 9223372036854775807
  wf : ∀ z ∈ zs, -9223372036854775808 ≤ z ∧ z ≤ 9223372036854775807
  len : zs.length = n
  rd : 0 < n → ∃ b off, A = some ⟨b, off, none⟩ ∧ b ≠ d ∧ b < w.heap.size ∧ ∀ i z, zs[i]? = some z → w.cell? ⟨b, off + i, none⟩ = some (.int .i64 z)

theorem left_any {w : World} {d n c k : Nat} {A : Option Addr} {zs : List Int} (h : Deck w d A n c zs k) :
    Calls Try.prog 25 #[.pointer (some ⟨d, 0, none⟩)] w fun e w' => e = .returned (.bool (decide (k < n))) ∧ ∃ m, w' = w.drewN m := by
  have c0 := cell_of_row w d 0 _ _ _ h.blk
  have c1 := cell_of_row w d 1 _ _ _ h.blk
  clear h
  go_enter Try.func25, Try.ntmps25
  go_wp2
  go_quiet (fail)
  go_wp2
  go_ret
  exact ⟨rfl, _, rfl⟩

/-- Behind a number taken. -/
def NextPost (w : World) (d : Nat) (A : Option Addr) (n c : Nat) (zs : List Int) (k : Nat) (m : Int) (e : Ending) (w' : World) : Prop :=
  ∃ (r : Int) (k' : Nat), e = .returned (.int .i64 r) ∧ 0 ≤ r ∧ r < m ∧ k ≤ k' ∧ (k < n → k' = k + 1) ∧ Deck w' d A n c zs k' ∧ w.grownBy w' (some d)

theorem next_end {w : World} {d n c k : Nat} {A : Option Addr} {zs : List Int} (h : Deck w d A n c zs k) (hk : ¬ k < n) (m : Int) (h0 : 1 ≤ m) :
    Calls Try.prog 26 #[.pointer (some ⟨d, 0, none⟩), .int .i64 m] w (NextPost w d A n c zs k m) := by
  have hL := left_any h
  rw [decide_eq_false hk] at hL
  have HL := Lib.hid hL
  have H := Lib.hid h
  clear h hL
  go_enter Try.func26, Try.ntmps26
  go_wp2_with (go_at_call 25; ((with_reducible refine HL.out.mono ?_); rintro e w' ⟨rfl, q, rfl⟩))
  go_ret
  exact ⟨0, k, rfl, by omega, by omega, Nat.le_refl _, fun h => absurd h hk, ⟨H.out.blk, H.out.le, H.out.bd, H.out.wf, H.out.len, H.out.rd⟩, ⟨rfl, rfl, rfl, Nat.le_refl _, fun _ _ _ => rfl⟩⟩

set_option maxHeartbeats 1000000 in
theorem next_more {w : World} {d n c k : Nat} {A : Option Addr} {zs : List Int} (h : Deck w d A n c zs k) (hk : k < n) (m : Int) (h0 : 1 ≤ m) (h1 : m ≤ 1000000) :
    Calls Try.prog 26 #[.pointer (some ⟨d, 0, none⟩), .int .i64 m] w (NextPost w d A n c zs k m) := by
  have hL := left_any h
  rw [decide_eq_true hk] at hL
  obtain ⟨b, off, rfl, hbd, hbw, hcells⟩ := h.rd (by omega)
  obtain ⟨x, hx⟩ : ∃ x, zs[k]? = some x := ⟨zs[k]'(by have := h.len; omega), List.getElem?_eq_getElem _⟩
  have hxc := hcells k x hx
  obtain ⟨x0, x1⟩ := h.wf x (List.mem_of_getElem? hx)
  have c0 := cell_of_row w d 0 _ _ _ h.blk
  have c1 := cell_of_row w d 1 _ _ _ h.blk
  have f1 : w.frozen? ⟨d, 1, none⟩ = false := by simp [World.frozen?, h.blk]
  have hkb : (k : Int) + 1 ≤ 9223372036854775807 := by have := h.bd; omega
  have hkn : (k : Int) < (n : Int) := by omega
  -- behind the count
  obtain ⟨W1, hW1⟩ : ∃ W1, W1 = w.setCell ⟨d, 1, none⟩ (.int .i64 ((k : Int) + 1)) := ⟨_, rfl⟩
  have hblk1 : W1.heap[d]? = some (.cells #[.slice (some ⟨b, off, none⟩) n c, .int .i64 ((k : Int) + 1)] 54 (0, 0)) := by
    rw [hW1]
    have := h.blk
    simp [World.setCell, Array.getElem?_modify, this]
  have hg1 : w.grownBy W1 (some d) := by rw [hW1]; exact grown_set w ⟨d, 1, none⟩ _
  have hD : Deck W1 d (some ⟨b, off, none⟩) n c zs (k + 1) := ⟨hblk1, by omega, h.bd, h.wf, h.len, fun _ => ⟨b, off, rfl, hbd, by have := hg1.size; omega, fun i z hz => (World.cell?_of_block (hg1.block b hbw (by simpa using hbd))).trans (hcells i z hz)⟩⟩
  have d0 := cell_of_row W1 d 0 _ _ _ hblk1
  have d1 := cell_of_row W1 d 1 _ _ _ hblk1
  have dx := (World.cell?_of_block (a := ⟨b, off + k, none⟩) (hg1.block b hbw (by simpa using hbd))).trans hxc
  have e0 := Int.emod_nonneg x (show m ≠ 0 by omega)
  have e1 := Int.emod_lt_of_pos x (show 0 < m by omega)
  have HM := Lib.hid (fun W => (mod_any x m h0 (by omega) x0 x1 W).mono fun _ _ ⟨he, hw⟩ => (⟨he, hw.symm⟩ : _ ∧ _ = W))
  have HL := Lib.hid hL
  have HW := Lib.hid hW1
  have HD := Lib.hid hD
  have HG := Lib.hid hg1
  have E0 := Lib.hid e0
  have E1 := Lib.hid e1
  clear h hL hcells hx hxc hW1 hblk1 hg1 hD e0 e1
  go_enter Try.func26, Try.ntmps26
  go_wp2_with (go_at_call 25; ((with_reducible refine HL.out.mono ?_); rintro e w' ⟨rfl, q, rfl⟩))
  have hWq : (w.drewN q).setCell ⟨d, 1, none⟩ (.int .i64 ((k : Int) + 1)) = W1.drewN q := by rw [HW.out]; rfl
  rw [hWq]
  have hD2 : Deck (W1.drewN q) d (some ⟨b, off, none⟩) n c zs (k + 1) := ⟨HD.out.blk, HD.out.le, HD.out.bd, HD.out.wf, HD.out.len, HD.out.rd⟩
  have hG2 : w.grownBy (W1.drewN q) (some d) := grown_trans HG.out (grown_drewN W1 q _)
  have d0' : (W1.drewN q).cell? ⟨d, 0, none⟩ = _ := d0
  have d1' : (W1.drewN q).cell? ⟨d, 1, none⟩ = _ := d1
  have dx' : (W1.drewN q).cell? ⟨b, off + k, none⟩ = _ := dx
  clear d0 d1 dx hWq HW HD HG c0 c1
  generalize W1.drewN q = W2 at *
  have HD := Lib.hid hD2
  have HG := Lib.hid hG2
  clear hD2 hG2
  go_quiet ((go_at_call 8; exact Calls.quiet_of_same (HM.out _)))
  go_wp2_with fail
  go_ret
  exact ⟨x % m, k + 1, rfl, E0.out, E1.out, by omega, fun _ => rfl, ⟨HD.out.blk, HD.out.le, HD.out.bd, HD.out.wf, HD.out.len, HD.out.rd⟩, grown_trans HG.out (grown_drewN W2 _ _)⟩

theorem next_any {w : World} {d n c k : Nat} {A : Option Addr} {zs : List Int} (h : Deck w d A n c zs k) (m : Int) (h0 : 1 ≤ m) (h1 : m ≤ 1000000) :
    Calls Try.prog 26 #[.pointer (some ⟨d, 0, none⟩), .int .i64 m] w (NextPost w d A n c zs k m) := by
  by_cases hk : k < n
  · exact next_more h hk m h0 h1
  · exact next_end h hk m h0

/-- Ints that came in. -/
structure IntsIn (w : World) (A : Option Addr) (n : Nat) (zs : List Int) : Prop where
  bd : n ≤ 9223372036854775807
  wf : ∀ z ∈ zs, -9223372036854775808 ≤ z ∧ z ≤ 9223372036854775807
  len : zs.length = n
  rd : 0 < n → ∃ b off, A = some ⟨b, off, none⟩ ∧ b < w.heap.size ∧ ∀ i z, zs[i]? = some z → w.cell? ⟨b, off + i, none⟩ = some (.int .i64 z)

theorem new_any {w : World} {A : Option Addr} {n c : Nat} {zs : List Int} (h : IntsIn w A n zs) :
    Calls Try.prog 24 #[.slice A n c] w fun e w' => e = .returned (.pointer (some ⟨w.heap.size, 0, none⟩)) ∧ Deck w' w.heap.size A n c zs 0 ∧ Below w.heap.size w w' ∧ w'.heap.size = w.heap.size + 1 := by
  have H := Lib.hid h
  clear h
  go_enter Try.func24, Try.ntmps24
  go_wp2
  go_ret
  refine ⟨rfl, ⟨heap_alloc_new w _, Nat.zero_le _, H.out.bd, H.out.wf, H.out.len, fun hn => ?_⟩, (Below.refl _ _).alloc (Nat.le_refl _) _, by simp⟩
  obtain ⟨b, off, hA, hb, hc⟩ := H.out.rd hn
  exact ⟨b, off, hA, by omega, by simp; omega, fun i z hz => (World.cell?_alloc_lt w _ _ hb).trans (hc i z hz)⟩
theorem Deck.keep {w w' : World} {d n c k : Nat} {A : Option Addr} {zs : List Int} (h : Deck w d A n c zs k) (hb : Below w.heap.size w w') : Deck w' d A n c zs k :=
  ⟨(hb.block d (heap_lt h.blk)).trans h.blk, h.le, h.bd, h.wf, h.len, fun hn => by
    obtain ⟨b, off, h1, h2, h3, h4⟩ := h.rd hn
    exact ⟨b, off, h1, h2, Nat.lt_of_lt_of_le h3 hb.size, fun i z hz => (hb.cell (p := ⟨b, off + i, none⟩) h3).trans (h4 i z hz)⟩⟩


/-! ### comparisons -/
theorem refsame_any {w : World} {v1 v2 : Value} {l : List Int} (h1 : Lst .u8 w v1 l) (h2 : Lst .u8 w v2 l) (hb : By l) : Calls Try.prog 14 #[.agg #[v1], .agg #[v2]] w (BPost w true) := by
  have hA : Below w.heap.size w ((w.alloc (.cells #[v1] 30)).alloc (.cells #[v2] 30)) := ((Below.refl w.heap.size w).alloc (Nat.le_refl _) _).alloc (by simp) _
  have c1 := conv_lst (h1.below hA) hb
  have c2 := conv_lst (h2.below hA) hb
  have HA := Lib.hid hA
  obtain ⟨A1, k1, rfl, _⟩ := h1
  obtain ⟨A2, k2, rfl, _⟩ := h2
  clear hA hb
  generalize bytesOf l = s at *
  go_enter Try.func14, Try.ntmps14
  go_wp2_with fail
  go_ret
  exact ⟨ret_b (by simp), HA.out⟩

set_option maxRecDepth 100000 in
theorem same_any {w : World} {v1 v2 : Value} {l : List Int} (h1 : Lst .i64 w v1 l) (h2 : Lst .i64 w v2 l) : Calls Try.prog 15 #[v1, v2] w (QPost w (.bool true)) := by
  obtain ⟨A1, k1, rfl, r1, _, m1, m2⟩ := h1
  obtain ⟨A2, k2, rfl, r2, _⟩ := h2
  have hm : l.length ≤ 9223372036854775807 := by unfold maxLen at m2; omega
  clear m1 m2
  have R1 := Lib.hid r1
  have R2 := Lib.hid r2
  clear r1 r2
  go_enter Try.func15, Try.ntmps15
  go_wp2_with fail
  go_loopg [5, 13] (l.length + 1) (fun g' _ i wr => ∃ (k m : Nat), i = .int .i64 k ∧ k ≤ l.length ∧ l.length - k + 1 ≤ g' ∧ wr = w.drewN m)
  case atStart => exact ⟨0, 0, rfl, Nat.zero_le _, by omega, rfl⟩
  case round =>
    obtain ⟨k, m, rfl, hk, hg, rfl⟩ := hrel
    by_cases hkn : k < l.length
    · obtain ⟨x, hx⟩ : ∃ x, l[k]? = some x := ⟨l[k], List.getElem?_eq_getElem hkn⟩
      have hki : (k : Int) < (l.length : Int) := by omega
      obtain ⟨g1, o1, rfl, e1⟩ := R1.out (by omega)
      obtain ⟨g2, o2, rfl, e2⟩ := R2.out (by omega)
      have d1 := e1 k x hx
      have d2 := e2 k x hx
      clear hx e1 e2
      go_wp2_with fail
      go_quiet (fail)
      go_wp2_with fail
      go_roundg (l.length - (k + 1) + 1)
      case measure => omega
      case rel => exact ⟨k + 1, _, by go_num, by omega, Nat.le_refl _, rfl⟩
    · obtain rfl : k = l.length := by omega
      go_wp2_with fail
      go_ret
      exact ⟨rfl, m, rfl⟩

/-! ### the odd bytes -/
def tbl : List Int := [65, 127, 128, 143, 144, 159, 160, 191, 192, 193, 194, 223, 224, 226, 237, 239, 240, 241, 244, 245, 255]
theorem tbl_By : By tbl := by intro x hx; simp [tbl] at hx; omega
abbrev TBL : Obj := .cells #[.int .u8 65, .int .u8 127, .int .u8 128, .int .u8 143, .int .u8 144, .int .u8 159, .int .u8 160, .int .u8 191, .int .u8 192, .int .u8 193, .int .u8 194, .int .u8 223, .int .u8 224, .int .u8 226, .int .u8 237, .int .u8 239, .int .u8 240, .int .u8 241, .int .u8 244, .int .u8 245, .int .u8 255] 5
theorem tbl_cell {r : Nat} {y : Int} (h : tbl[r]? = some y) : (#[.int .u8 65, .int .u8 127, .int .u8 128, .int .u8 143, .int .u8 144, .int .u8 159, .int .u8 160, .int .u8 191, .int .u8 192, .int .u8 193, .int .u8 194, .int .u8 223, .int .u8 224, .int .u8 226, .int .u8 237, .int .u8 239, .int .u8 240, .int .u8 241, .int .u8 244, .int .u8 245, .int .u8 255] : Array Value)[r]? = some (.int .u8 y) := by
  show ((tbl.map (Value.int .u8)).toArray)[r]? = _
  simp [List.getElem?_map, h]
/-- Ints that are read. -/
def Ints (l : List Int) : Prop := ∀ z ∈ l, -9223372036854775808 ≤ z ∧ z ≤ 9223372036854775807
structure Od (w0 w : World) (A : Option Addr) (n c k : Nat) (v : Value) (l : List Int) : Prop where
  bel : Below w0.heap.size w0 w
  blk : w.heap[w0.heap.size]? = some (.cells #[.slice A n c, .int .i64 k] 54 (0, 0))
  out : Own 5 .u8 w w0.heap.size v l
theorem Od.deck {w0 w : World} {A : Option Addr} {n c k : Nat} {v : Value} {l zs : List Int} (h : Od w0 w A n c k v l) (hi : IntsIn w0 A n zs) (hk : k ≤ n) : Deck w w0.heap.size A n c zs k :=
  ⟨h.blk, hk, hi.bd, hi.wf, hi.len, fun hn => by
    obtain ⟨b, off, h1, h2, h3⟩ := hi.rd hn
    exact ⟨b, off, h1, by omega, Nat.lt_of_lt_of_le h2 h.bel.size, fun i z hz => (h.bel.cell (p := ⟨b, off + i, none⟩) h2).trans (h3 i z hz)⟩⟩
theorem Od.below {w0 w w' : World} {A : Option Addr} {n c k : Nat} {v : Value} {l : List Int} (h : Od w0 w A n c k v l) (hb : Below w.heap.size w w') : Od w0 w' A n c k v l :=
  ⟨h.bel.trans (hb.mono h.bel.size), (hb.block _ (heap_lt h.blk)).trans h.blk, h.out.below hb⟩
theorem Od.draw {w0 w w' : World} {A : Option Addr} {n c k : Nat} {v : Value} {l : List Int} (h : Od w0 w A n c k v l) {m : Nat} (hw : w' = w.drewN m) : Od w0 w' A n c k v l := by subst hw; exact h.below (below_drewN w m)
theorem Od.next {w0 w w' : World} {A : Option Addr} {n c k k' : Nat} {v : Value} {l zs : List Int} (h : Od w0 w A n c k v l) (hD : Deck w' w0.heap.size A n c zs k') (hg : w.grownBy w' (some w0.heap.size)) : Od w0 w' A n c k' v l := by
  refine ⟨h.bel.grown hg h.bel.size (fun k e => by simp at e; omega), hD.blk, ?_⟩
  refine ⟨h.out.1, ?_⟩
  rcases h.out.2 with h1 | ⟨g, cap, cur, h1, h2, h3, h4⟩
  · exact .inl h1
  · refine .inr ⟨g, cap, cur, h1, h2, (hg.block g (heap_lt h3) (fun e => ?_)).trans h3, h4⟩
    simp at e
    subst e
    have hb := h.blk
    rw [h3] at hb
    injection hb with hb
    injection hb with _ e2
    exact absurd e2 (by decide)
theorem Od.app {w0 w w' : World} {A : Option Addr} {n c k : Nat} {v v' : Value} {l l' : List Int} (h : Od w0 w A n c k v l) (hf : Fr 5 w0.heap.size w w') (ho : Own 5 .u8 w' w0.heap.size v' l') : Od w0 w' A n c k v' l' :=
  ⟨h.bel.trans hf.bel, hf.keep _ _ _ _ h.blk (by decide), ho⟩
theorem ints_in {w : World} {A : Option Addr} {c : Nat} {zs : List Int} (h : Lst .i64 w (.slice A zs.length c) zs) (hz : Ints zs) : IntsIn w A zs.length zs := by
  obtain ⟨A', c', h1, h2, _, h4, h5⟩ := h
  simp only [Value.slice.injEq] at h1
  obtain ⟨rfl, _, rfl⟩ := h1
  refine ⟨by unfold maxLen at h5; omega, hz, rfl, fun hn => ?_⟩
  obtain ⟨g, off, e1, e2⟩ := h2 hn
  exact ⟨g, off, e1, World.block_lt_of_cell? w _ (e2 0 zs[0] (List.getElem?_eq_getElem hn)), e2⟩
def OddPost (w : World) (e : Ending) (w' : World) : Prop := ∃ v' l, e = .returned v' ∧ Lst .u8 w' v' l ∧ By l ∧ l.length ≤ 60 ∧ Below w.heap.size w w'

set_option maxRecDepth 100000 in
set_option maxHeartbeats 2000000 in
theorem odd_any {w : World} {v : Value} {zs : List Int} (h : Lst .i64 w v zs) (hz : Ints zs) : Calls Try.prog 11 #[v] w (OddPost w) := by
  obtain ⟨A, c, rfl, hr⟩ := h
  have hi := ints_in ⟨A, c, rfl, hr⟩ hz
  have HN := Lib.hid (new_any (c := c) hi)
  have HI := Lib.hid hi
  generalize zs.length = n at *
  clear hr hz hi
  go_enter Try.func11, Try.ntmps11
  go_wp2_with (go_at_call 24; ((with_reducible refine HN.out.mono ?_); rintro e w1 ⟨rfl, hD1, hb1, _⟩; have S1 := Lib.hid (show Od w w1 A n c 0 (.slice none 0 0) [] from ⟨hb1, hD1.blk, Own.nil _ _ _ _⟩); clear hD1 hb1))
  go_loopg [4] (n + 1) (fun g' out wr => ∃ (k : Nat) (l : List Int), k ≤ n ∧ n - k + 1 ≤ g' ∧ l.length ≤ 60 ∧ By l ∧ Od w wr A n c k out l)
  case atStart => exact ⟨0, [], Nat.zero_le _, by omega, by simp, By.nil, S1.out⟩
  case round =>
    obtain ⟨k, l, hk, hg, hl, hby, hod⟩ := hrel
    obtain ⟨wo, rfl⟩ : ∃ wo : World, wo = wr := ⟨_, rfl⟩
    have hL := left_any (hod.deck HI.out hk)
    have S0 := Lib.hid hod
    have HB := Lib.hid hby
    obtain ⟨Ao, co, rfl⟩ := hod.out.form
    clear hod hby
    by_cases hkn : k < n
    · rw [decide_eq_true hkn] at hL
      have HL := Lib.hid hL
      clear hL
      by_cases h60 : l.length < 60
      · have hl' : (l.length : Int) < 60 := by omega
        go_wp2_with (first
          | (go_at_call 25; ((with_reducible refine HL.out.mono ?_); rintro e w2 ⟨rfl, q, hw⟩; have S2 := Lib.hid (S0.out.draw hw); have HX := Lib.hid (next_any ((S2.out.below (balloc w2 TBL)).deck HI.out hk) 21 (by omega) (by omega)); clear hw))
          | (go_at_call 26; ((with_reducible refine HX.out.mono ?_); rintro e w3 ⟨r0, k', rfl, hr0, hr1, hkk, hkx, hD3, hg3⟩; obtain ⟨r, rfl⟩ := Int.eq_ofNat_of_zero_le hr0; have hrt : r < tbl.length := (by have : tbl.length = 21 := rfl; omega); have hk' := hkx hkn; subst hk'; obtain ⟨y, hy⟩ : ∃ y, tbl[r]? = some y := ⟨tbl[r], List.getElem?_eq_getElem hrt⟩; have hty := (hg3.block w2.heap.size (heap_lt (heap_alloc_new w2 TBL)) (by have := heap_lt S2.out.blk; simp; omega)).trans (heap_alloc_new w2 TBL); have hcy : w3.cell? ⟨w2.heap.size, r, none⟩ = some (.int .u8 y) := (cell_of_row w3 w2.heap.size r _ _ _ hty).trans (tbl_cell hy); have HY := Lib.hid (tbl_By y (List.mem_of_getElem? hy)); have S3 := Lib.hid ((S2.out.below (balloc w2 TBL)).next hD3 hg3); have hk3 := hD3.le; have hr2 : (r : Int) < 21 := hr1; clear hkx hD3 hg3 hty hy hrt hr0 hr1))
          | (at_builtin; refine wpList_app rfl _ _ rfl elByte rfl (S3.out.out.below (balloc w3 _)) rfl (lst_one w3 y 5) (by simp; omega) (by have := S3.out.bel.size; simp; omega) ?_; intro v5 w5 hO hF; obtain ⟨A5, c5, hv5⟩ := own_snoc hO; subst hv5; have S5 := Lib.hid ((S3.out.below (balloc w3 _)).app hF hO); clear hO hF))
        go_roundg (n - (k + 1) + 1)
        case measure => omega
        case rel => exact ⟨k + 1, l ++ [y], by omega, Nat.le_refl _, by simp; omega, HB.out.append (By.one HY.out), by have := S5.out; simpa using this⟩
      · have hl' : decide ((l.length : Int) < 60) = false := decide_eq_false (by omega)
        go_wp2_with (go_at_call 25; ((with_reducible refine HL.out.mono ?_); rintro e w2 ⟨rfl, q, hw⟩; have S2 := Lib.hid (S0.out.draw hw); clear hw))
        go_ret
        exact ⟨_, l, rfl, S2.out.out.lst, HB.out, hl, S2.out.bel⟩
    · rw [decide_eq_false hkn] at hL
      have HL := Lib.hid hL
      clear hL
      go_wp2_with (go_at_call 25; ((with_reducible refine HL.out.mono ?_); rintro e w2 ⟨rfl, q, hw⟩; have S2 := Lib.hid (S0.out.draw hw); clear hw))
      go_ret
      exact ⟨_, l, rfl, S2.out.out.lst, HB.out, hl, S2.out.bel⟩
end Go.Proofs.Ytjcgcloanamabaa.Ru
