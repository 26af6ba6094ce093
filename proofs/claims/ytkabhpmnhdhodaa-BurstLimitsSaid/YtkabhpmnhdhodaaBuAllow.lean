/-
  The contracts of Trim and Allow, the program's and the reference's; of the comparison and of the law's small.
-/
import Derived.Test.YtkabhpmnhdhodaaBuTrim
namespace Go.Proofs.Ytkabhpmnhdhodaa.Bu
open Go.RowKit Go.Shelf

/-- A slice value that reads as a list. -/
def Lst (w : World) (v : Value) (l : List Int) : Prop := ∃ A c, v = .slice A l.length c ∧ Rd w A l.length l ∧ (A = none → c = 0)
theorem Seg.lst {w : World} {B : Nat} {v : Value} {l : List Int} (h : Seg w B v l) : Lst w v l := by
  obtain ⟨A, c, hv, hr⟩ := h.shape
  refine ⟨A, c, hv, hr, fun e => ?_⟩
  subst e
  rcases h with ⟨h1, _⟩ | ⟨g, off, cap, cur, h1, _⟩
  · rw [h1] at hv; simp at hv; exact hv.2.symm
  · rw [h1] at hv; simp at hv
theorem Lst.below {w w' : World} {v : Value} {l : List Int} (h : Lst w v l) (hb : Below w.heap.size w w') : Lst w' v l := by
  obtain ⟨A, c, h1, h2, h3⟩ := h; exact ⟨A, c, h1, h2.below hb, h3⟩
theorem Lst.drewN {w : World} {v : Value} {l : List Int} (h : Lst w v l) (m : Nat) : Lst (w.drewN m) v l := h

/-- A list of the call's own comes back. -/
def SegPost (w : World) (l : List Int) (e : Ending) (w' : World) : Prop := ∃ v', e = .returned v' ∧ Seg w' w.heap.size v' l ∧ Below w.heap.size w w'
def AllowPost (w : World) (l : List Int) (b : Bool) (e : Ending) (w' : World) : Prop := ∃ v', e = .returned (.tuple #[v', .bool b]) ∧ Seg w' w.heap.size v' l ∧ Below w.heap.size w w'

theorem Seg.lt {w : World} {B g off n c : Nat} {l : List Int} (h : Seg w B (.slice (some ⟨g, off, none⟩) n c) l) : g < w.heap.size := by
  rcases h with ⟨h1, _⟩ | ⟨g', off', cap, cur, h1, _, h3, _⟩
  · simp at h1
  · simp at h1; rw [h1.1.1]; exact heap_lt h3
theorem boxes (w : World) (now win : Int) : ((w.alloc (.cells #[.int .u64 now] 23)).alloc (.cells #[.int .u64 win] 23)).cell? ⟨w.heap.size, 0, none⟩ = some (.int .u64 now) ∧
    ((w.alloc (.cells #[.int .u64 now] 23)).alloc (.cells #[.int .u64 win] 23)).cell? ⟨w.heap.size + 1, 0, none⟩ = some (.int .u64 win) ∧
    Below w.heap.size w ((w.alloc (.cells #[.int .u64 now] 23)).alloc (.cells #[.int .u64 win] 23)) := by
  have h1 := heap_alloc_new w (.cells #[.int .u64 now] 23)
  have h2 := heap_alloc_new (w.alloc (.cells #[.int .u64 now] 23)) (.cells #[.int .u64 win] 23)
  rw [World.size_alloc] at h2
  have h1' := (Below.heap_alloc (w.alloc (.cells #[.int .u64 now] 23)) (.cells #[.int .u64 win] 23) w.heap.size (by simp)).trans h1
  exact ⟨cell_of_row _ _ 0 _ _ _ h1', cell_of_row _ _ 0 _ _ _ h2, ((Below.refl _ _).alloc (Nat.le_refl _) _).alloc (by simp) _⟩

theorem trim_any {w : World} {v : Value} {l : List Int} {now : Int} (win : Int) (h : Lst w v l) (hU : U l) (hn : l.length ≤ 1000) (h0 : 0 ≤ now) (h1 : now ≤ mx) :
    Calls Try.prog 12 #[v, .int .u64 now, .int .u64 win] w (SegPost w (trim l now win)) := by
  obtain ⟨A, c, rfl, hr, hA⟩ := h
  cases A with
  | none =>
    obtain rfl := hA rfl
    have hl : l = [] := by
      rcases Nat.eq_zero_or_pos l.length with e | e
      · exact List.eq_nil_of_length_eq_zero e
      · obtain ⟨_, _, e', _⟩ := hr.2 e; simp at e'
    subst hl
    clear hr hA hU
    go_enter Try.func12, Try.ntmps12
    go_wp2_with (first
      | (go_at_call 18; ((with_reducible refine (clone_nil _).mono ?_); rintro e w' ⟨rfl, rfl⟩))
      | (go_at_call 19; ((with_reducible refine (outside_any _ _ _).mono ?_); rintro e w' ⟨rfl, rfl⟩))
      | (go_at_call 17; ((with_reducible refine (del_nil _ _).mono ?_); rintro e w' ⟨rfl, rfl⟩)))
    go_ret
    exact ⟨_, rfl, Seg.nil _ _, (boxes w now win).2.2⟩
  | some a =>
    have HC := Lib.hid (clone_some (c := c) hr hn)
    have HU := Lib.hid hU
    clear hr hA hU
    go_enter Try.func12, Try.ntmps12
    go_wp2_with (first
      | (go_at_call 18; ((with_reducible refine HC.out.mono ?_); rintro e w1 ⟨g, cap, rfl, hs1, hb1⟩; have hg1 := hs1.lt; have S1 := Lib.hid hs1; have B1 := Lib.hid hb1; clear hs1 hb1))
      | (go_at_call 19; ((with_reducible refine (outside_any _ _ _).mono ?_); rintro e w2 ⟨rfl, hw2⟩; have W2 := Lib.hid hw2; clear hw2))
      | (go_at_call 17; ((with_reducible refine (del_some (B := w.heap.size) (by rw [W2.out]; exact S1.out.below ((boxes w1 now win).2.2)) HU.out (by rw [W2.out]; exact (boxes w1 now win).1) (by rw [W2.out]; exact (boxes w1 now win).2.1) (by omega) (by omega) h0 h1).mono ?_); rintro e w3 ⟨v3, rfl, hs3, hb3⟩; have S3 := Lib.hid hs3; have B3 := Lib.hid hb3; clear hs3 hb3)))
    go_ret
    exact ⟨_, rfl, S3.out, (B1.out.trans ((W2.out ▸ (boxes w1 now win).2.2).mono B1.out.size)).trans B3.out⟩

theorem allow_any {w : World} {v : Value} {l : List Int} {now : Int} (most win : Int) (h : Lst w v l) (hU : U l) (hn : l.length ≤ 1000) (h0 : 0 ≤ now) (h1 : now ≤ mx) :
    Calls Try.prog 9 #[v, .int .i64 most, .int .u64 now, .int .u64 win] w (AllowPost w (allowL l most now win) (allowB l most now win)) := by
  have HT := Lib.hid (trim_any win h hU hn h0 h1)
  have hl := trim_le l now win
  have HL := Lib.hid (show (trim l now win).length ≤ 1000 by omega)
  obtain ⟨A, c, rfl, _⟩ := h
  by_cases hm : ((trim l now win).length : Int) < most
  · have e1 : allowL l most now win = trim l now win ++ [now] := by unfold allowL; rw [if_pos hm]
    have e2 : allowB l most now win = true := by unfold allowB; exact decide_eq_true hm
    rw [e1, e2]
    generalize trim l now win = t at HT HL hm
    have HM := Lib.hid hm
    clear hU hn h0 h1 hl hm e1 e2
    go_enter Try.func9, Try.ntmps9
    go_wp2_with (first
      | (go_at_call 12; ((with_reducible refine HT.out.mono ?_); rintro e w1 ⟨v1, rfl, hs1, hb1⟩; have S1 := Lib.hid hs1; have B1 := Lib.hid hb1; clear hs1 hb1))
      | (go_at_call 16; ((with_reducible refine (decide_yes now S1.out HL.out B1.out.size HM.out).mono ?_); rintro e w2 ⟨v2, rfl, hs2, hf2⟩; have S2 := Lib.hid hs2; have F2 := Lib.hid hf2; clear hs2 hf2)))
    go_ret2
    exact ⟨_, rfl, S2.out, B1.out.trans F2.out.bel⟩
  · have e1 : allowL l most now win = trim l now win := by unfold allowL; rw [if_neg hm]
    have e2 : allowB l most now win = false := by unfold allowB; exact decide_eq_false hm
    rw [e1, e2]
    generalize trim l now win = t at HT HL hm
    have HM := Lib.hid hm
    clear hU hn h0 h1 hl hm e1 e2
    go_enter Try.func9, Try.ntmps9
    go_wp2_with (first
      | (go_at_call 12; ((with_reducible refine HT.out.mono ?_); rintro e w1 ⟨v1, rfl, hs1, hb1⟩; obtain ⟨A1, c1, rfl, _⟩ := hs1.shape; have S1 := Lib.hid hs1; have B1 := Lib.hid hb1; clear hs1 hb1))
      | (go_at_call 16; ((with_reducible refine (decide_no now (Int.not_lt.2 HM.out)).mono ?_); rintro e w2 ⟨rfl, rfl⟩)))
    go_ret2
    exact ⟨_, rfl, S1.out, B1.out⟩

/-! ### the reference -/
theorem take_snoc' {α : Type} {l : List α} {k : Nat} {x : α} (h : l[k]? = some x) : l.take (k + 1) = l.take k ++ [x] := by
  rw [List.take_add_one, h]; rfl
theorem trim_snoc (l : List Int) (x now win : Int) : trim (l ++ [x]) now win = trim l now win ++ if young now win x = true then [x] else [] := by
  unfold trim
  rw [List.filter_append]
  congr 1
  by_cases h : young now win x = true <;> simp [h]

set_option maxHeartbeats 1000000 in
theorem reftrim_any {w : World} {v : Value} {l : List Int} {now : Int} (win : Int) (h : Lst w v l) (hU : U l) (hn : l.length ≤ 1000) (h0 : 0 ≤ now) (h1 : now ≤ mx) :
    Calls Try.prog 13 #[v, .int .u64 now, .int .u64 win] w (SegPost w (trim l now win)) := by
  obtain ⟨A, c, rfl, hr, _⟩ := h
  have HR := Lib.hid hr
  have HU := Lib.hid hU
  clear hr hU
  go_enter Try.func13, Try.ntmps13
  go_wp2
  go_loopg [7, 8] (l.length + 1) (fun g o i wr => ∃ k : Nat, i = .int .i64 k ∧ k ≤ l.length ∧ l.length - k + 1 ≤ g ∧ Seg wr w.heap.size o (trim (l.take k) now win) ∧ Below w.heap.size w wr)
  case atStart => exact ⟨0, rfl, Nat.zero_le _, by omega, Seg.nil _ _, Below.refl _ _⟩
  case round =>
    obtain ⟨k, rfl, hk, hg, hs, hb⟩ := hrel
    obtain ⟨A1, n1', c1, rfl⟩ := hs.form
    have SS := Lib.hid hs
    have BB := Lib.hid hb
    have hwr := hb.size
    clear hs hb
    by_cases hkn : k < l.length
    · obtain ⟨x, hx⟩ : ∃ x, l[k]? = some x := ⟨l[k], List.getElem?_eq_getElem hkn⟩
      obtain ⟨g1, o1, e1, k1⟩ := (HR.out.below BB.out).2 (by omega)
      have d1 := k1 k x hx
      obtain ⟨x0, x1⟩ := HU.out x (List.mem_of_getElem? hx)
      have hlt : g1 < wr.heap.size := World.block_lt_of_cell? wr _ d1
      have hi1 : (k : Int) < (l.length : Int) := by omega
      have HT := Lib.hid ((congrArg (fun l => trim l now win) (take_snoc' hx)).trans (trim_snoc _ x now win))
      have hle := trim_le (l.take k) now win
      rw [List.length_take] at hle
      have HLE := Lib.hid (show (trim (l.take k) now win).length ≤ 1000000 by omega)
      have HS := Lib.hid (fun W => refsub_any now x h0 h1 x0 x1 W)
      have HY : Hid (young now win x = decide (subS now x < win)) := Lib.hid rfl
      subst e1
      clear k1 hx hle x0 x1
      generalize subS now x = s at HS HY
      generalize trim (l.take k) now win = t at SS HT HLE
      by_cases hy : s < win
      · have hyy := HY.out
        rw [decide_eq_true hy] at hyy
        have ht := HT.out
        rw [if_pos hyy] at ht
        have HT2 := Lib.hid ht
        clear ht hyy HT
        go_wp2_with (first
          | (go_at_call 20; ((with_reducible refine (HS.out _).mono ?_); rintro e w' ⟨rfl, rfl⟩))
          | (at_builtin; refine wpList_append_seg rfl _ _ rfl x rfl (SS.out.below ((Below.refl _ _).alloc (Nat.le_refl _) _)) HLE.out (by simp; omega) ⟨wr.heap.size, 0, none⟩ 1 rfl (by simp) ?_; intro v' w2 hS hF; have S2 := Lib.hid hS; have F2 := Lib.hid hF; clear hS hF))
        go_roundg (l.length - (k + 1) + 1)
        case measure => omega
        case rel => exact ⟨k + 1, by go_num, by omega, Nat.le_refl _, by rw [HT2.out]; exact S2.out, (BB.out.alloc hwr _).trans F2.out.bel⟩
      · have hyy := HY.out
        rw [decide_eq_false hy] at hyy
        have ht := HT.out
        rw [if_neg (by rw [hyy]; simp), List.append_nil] at ht
        have HT2 := Lib.hid ht
        clear ht hyy HT
        go_wp2_with (go_at_call 20; ((with_reducible refine (HS.out _).mono ?_); rintro e w' ⟨rfl, rfl⟩))
        go_roundg (l.length - (k + 1) + 1)
        case measure => omega
        case rel => exact ⟨k + 1, by go_num, by omega, Nat.le_refl _, by rw [HT2.out]; exact SS.out, BB.out⟩
    · obtain rfl : k = l.length := by omega
      have HT := Lib.hid (List.take_length (l := l))
      go_wp2_with fail
      go_ret
      exact ⟨_, rfl, by have := SS.out; rwa [HT.out] at this, BB.out⟩

theorem refallow_any {w : World} {v : Value} {l : List Int} {now : Int} (most win : Int) (h : Lst w v l) (hU : U l) (hn : l.length ≤ 1000) (h0 : 0 ≤ now) (h1 : now ≤ mx) :
    Calls Try.prog 10 #[v, .int .i64 most, .int .u64 now, .int .u64 win] w (AllowPost w (allowL l most now win) (allowB l most now win)) := by
  have HT := Lib.hid (reftrim_any win h hU hn h0 h1)
  have hl := trim_le l now win
  have HL := Lib.hid (show (trim l now win).length ≤ 1000000 by omega)
  obtain ⟨A, c, rfl, _⟩ := h
  by_cases hm : ((trim l now win).length : Int) < most
  · have e1 : allowL l most now win = trim l now win ++ [now] := by unfold allowL; rw [if_pos hm]
    have e2 : allowB l most now win = true := by unfold allowB; exact decide_eq_true hm
    rw [e1, e2]
    generalize trim l now win = t at HT HL hm
    clear hU hn h0 h1 hl e1 e2
    go_enter Try.func10, Try.ntmps10
    go_wp2_with (first
      | (go_at_call 13; ((with_reducible refine HT.out.mono ?_); rintro e w1 ⟨v1, rfl, hs1, hb1⟩; obtain ⟨A1, c1, rfl, _⟩ := hs1.shape; have S1 := Lib.hid hs1; have B1 := Lib.hid hb1; have z1 := hb1.size; clear hs1 hb1))
      | (at_builtin; refine wpList_append_seg rfl _ _ rfl now rfl (S1.out.below ((Below.refl _ _).alloc (Nat.le_refl _) _)) HL.out (by simp; omega) ⟨w1.heap.size, 0, none⟩ 1 rfl (by simp) ?_; intro v' w2 hS hF; have S2 := Lib.hid hS; have F2 := Lib.hid hF; clear hS hF))
    go_ret2
    exact ⟨_, rfl, S2.out, (B1.out.alloc z1 _).trans F2.out.bel⟩
  · have e1 : allowL l most now win = trim l now win := by unfold allowL; rw [if_neg hm]
    have e2 : allowB l most now win = false := by unfold allowB; exact decide_eq_false hm
    have hm' : most ≤ ((trim l now win).length : Int) := by omega
    rw [e1, e2]
    generalize trim l now win = t at HT HL hm hm'
    clear hU hn h0 h1 hl e1 e2
    go_enter Try.func10, Try.ntmps10
    go_wp2_with (go_at_call 13; ((with_reducible refine HT.out.mono ?_); rintro e w1 ⟨v1, rfl, hs1, hb1⟩; obtain ⟨A1, c1, rfl, _⟩ := hs1.shape; have S1 := Lib.hid hs1; have B1 := Lib.hid hb1; clear hs1 hb1))
    go_ret2
    exact ⟨_, rfl, S1.out, B1.out⟩

/-! ### the comparison, at lists that are equal -/
set_option maxHeartbeats 1000000 in
theorem same_any {w : World} {v1 v2 : Value} {l : List Int} (h1 : Lst w v1 l) (h2 : Lst w v2 l) (hn : l.length ≤ 1000000) :
    Calls Try.prog 11 #[v1, v2] w (QTrue w) := by
  obtain ⟨A1, c1, rfl, h1, _⟩ := h1
  obtain ⟨A2, c2, rfl, h2, _⟩ := h2
  have H1 := Lib.hid h1
  have H2 := Lib.hid h2
  clear h1 h2
  go_enter Try.func11, Try.ntmps11
  go_wp2
  go_loopg [5] (l.length + 1) (fun g s wr => ∃ k m : Nat, s = .int .i64 k ∧ k ≤ l.length ∧ l.length - k + 1 ≤ g ∧ wr = w.drewN m)
  case atStart => exact ⟨0, 0, rfl, Nat.zero_le _, by omega, rfl⟩
  case round =>
    obtain ⟨k, m, rfl, hk, hg, rfl⟩ := hrel
    by_cases hkn : k < l.length
    · obtain ⟨x, hx⟩ : ∃ x, l[k]? = some x := ⟨l[k], List.getElem?_eq_getElem hkn⟩
      obtain ⟨g1, o1, e1, k1⟩ := H1.out.2 (by omega)
      obtain ⟨g2, o2, e2, k2⟩ := H2.out.2 (by omega)
      have d1 := k1 k x hx
      have d2 := k2 k x hx
      have hi1 : (k : Int) < (l.length : Int) := by omega
      subst e1
      subst e2
      clear k1 k2 hx
      go_wp2_with fail
      go_quiet (fail)
      go_wp2_with fail
      go_roundg (l.length - (k + 1) + 1)
      case measure => omega
      case rel => exact ⟨k + 1, _, by go_num, by omega, Nat.le_refl _, rfl⟩
    · go_wp2_with fail
      go_ret
      exact ⟨rfl, m, rfl⟩

/-! ### small -/
theorem U.mods {l : List Int} {n : Int} (h0 : 1 ≤ n) (h1 : n ≤ 1000) : U (l.map (· % n)) := fun x hx => by
  obtain ⟨y, _, rfl⟩ := List.mem_map.1 hx
  have := Int.emod_nonneg y (show n ≠ 0 by omega)
  have := Int.emod_lt_of_pos y (show 0 < n by omega)
  unfold mx; exact ⟨by omega, by omega⟩
set_option maxHeartbeats 1000000 in
theorem small_any {w : World} {v : Value} {l : List Int} {n : Int} (h : Lst w v l) (hU : U l) (hn : l.length ≤ 1000) (n0 : 1 ≤ n) (n1 : n ≤ 1000) :
    Calls Try.prog 8 #[v, .int .u64 n] w (SegPost w (l.map (· % n))) := by
  obtain ⟨A, c, rfl, hr, _⟩ := h
  have HR := Lib.hid hr
  have HU := Lib.hid hU
  have hn0 : (n == 0) = false := beq_eq_false_iff_ne.2 (by omega)
  clear hr hU
  go_enter Try.func8, Try.ntmps8
  go_wp2
  go_loopg [5, 7, 10] (l.length + 1) (fun g o _ i wr => ∃ k : Nat, i = .int .i64 k ∧ k ≤ l.length ∧ l.length - k + 1 ≤ g ∧ Seg wr w.heap.size o ((l.take k).map (· % n)) ∧ Below w.heap.size w wr)
  case atStart => exact ⟨0, rfl, Nat.zero_le _, by omega, Seg.nil _ _, Below.refl _ _⟩
  case round =>
    obtain ⟨k, rfl, hk, hg, hs, hb⟩ := hrel
    obtain ⟨A1, n1', c1, rfl⟩ := hs.form
    have SS := Lib.hid hs
    have BB := Lib.hid hb
    have hwr := hb.size
    clear hs hb
    by_cases hkn : k < l.length
    · obtain ⟨x, hx⟩ : ∃ x, l[k]? = some x := ⟨l[k], List.getElem?_eq_getElem hkn⟩
      obtain ⟨g1, o1, e1, k1⟩ := (HR.out.below BB.out).2 (by omega)
      have d1 := k1 k x hx
      obtain ⟨x0, x1⟩ := HU.out x (List.mem_of_getElem? hx)
      have hlt : g1 < wr.heap.size := World.block_lt_of_cell? wr _ d1
      have hi1 : (k : Int) < (l.length : Int) := by omega
      have HT := Lib.hid (show (l.take (k + 1)).map (· % n) = (l.take k).map (· % n) ++ [x % n] by rw [take_snoc' hx, List.map_append]; rfl)
      have HLE := Lib.hid (show ((l.take k).map (· % n)).length ≤ 1000000 by rw [List.length_map, List.length_take]; omega)
      unfold mx at x1
      subst e1
      clear k1 hx
      generalize (l.take k).map (· % n) = t at SS HT HLE
      go_wp2_with (at_builtin; refine wpList_append_seg rfl _ _ rfl (x % n) rfl (SS.out.below ((Below.refl _ _).alloc (Nat.le_refl _) _)) HLE.out (by simp; omega) ⟨wr.heap.size, 0, none⟩ 1 rfl (by simp) ?_; intro v' w2 hS hF; have S2 := Lib.hid hS; have F2 := Lib.hid hF; clear hS hF)
      go_roundg (l.length - (k + 1) + 1)
      case measure => omega
      case rel => exact ⟨k + 1, by go_num, by omega, Nat.le_refl _, by rw [HT.out]; exact S2.out, (BB.out.alloc hwr _).trans F2.out.bel⟩
    · obtain rfl : k = l.length := by omega
      have HT := Lib.hid (List.take_length (l := l))
      go_wp2_with fail
      go_ret
      exact ⟨_, rfl, by have := SS.out; rwa [HT.out] at this, BB.out⟩
end Go.Proofs.Ytkabhpmnhdhodaa.Bu
