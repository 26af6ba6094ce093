/-
  Layer 7, the program: what each job needs, as rows; bools.
-/
import Derived.Test.YtohiioafdajhmaaGpRefs
import Derived.Laws.MakeOwn
import Derived.Shelf.SlicesE.IndexFunc
namespace Go.Proofs.Ytohiioafdajhmaa.Gp
open Go.RowKit

/-- A slice of slices of places. -/
def LL (w : World) (v : Value) (nn : List (List Nat)) : Prop := ∃ A c, v = .slice A nn.length c ∧ ∀ k l, nn[k]? = some l → ∃ g off u, A = some ⟨g, off, none⟩ ∧ w.cell? ⟨g, off + k, none⟩ = some u ∧ Lst .i64 w u (ints l)
theorem LL.below {w w' : World} {v : Value} {nn : List (List Nat)} (h : LL w v nn) (hb : Below w.heap.size w w') : LL w' v nn := by
  obtain ⟨A, c, h1, h2⟩ := h
  refine ⟨A, c, h1, fun k l hk => ?_⟩
  obtain ⟨g, off, u, h3, h4, h5⟩ := h2 k l hk
  exact ⟨g, off, u, h3, cell_up hb h4, h5.below hb⟩
/-- A slice of n bools: which places are in a list. -/
def BL (w : World) (v : Value) (n : Nat) (out : List Nat) : Prop := ∃ A c, v = .slice A n c ∧ ∀ k, k < n → ∃ g off, A = some ⟨g, off, none⟩ ∧ w.cell? ⟨g, off + k, none⟩ = some (.bool (decide (k ∈ out)))
theorem BL.below {w w' : World} {v : Value} {n : Nat} {out : List Nat} (h : BL w v n out) (hb : Below w.heap.size w w') : BL w' v n out := by
  obtain ⟨A, c, h1, h2⟩ := h
  refine ⟨A, c, h1, fun k hk => ?_⟩
  obtain ⟨g, off, h3, h4⟩ := h2 k hk
  exact ⟨g, off, h3, cell_up hb h4⟩
def bo (n : Nat) (out : List Nat) : Array Value := ((List.range n).map fun k => Value.bool (decide (k ∈ out))).toArray
theorem bo_size (n : Nat) (out : List Nat) : (bo n out).size = n := by simp [bo]
theorem bo_at {n k : Nat} (out : List Nat) (hk : k < n) : (bo n out)[k]? = some (.bool (decide (k ∈ out))) := by simp [bo, hk]
theorem bo_set {n i : Nat} {out : List Nat} (hi : i < n) : (bo n out).setIfInBounds i (.bool true) = bo n (out ++ [i]) := by
  apply Array.ext_getElem?
  intro k
  by_cases hk : k < n
  · rw [Array.getElem?_setIfInBounds, bo_at _ hk, bo_at _ hk, bo_size]
    by_cases e : i = k
    · subst e; simp [hi]
    · simp [e, Ne.symm e]
  · rw [Array.getElem?_eq_none (by simp [bo_size]; omega), Array.getElem?_eq_none (by rw [bo_size]; omega)]
theorem bo_nil (n : Nat) : bo n [] = Array.replicate n (.bool false) := by
  apply Array.ext_getElem?
  intro k
  by_cases hk : k < n
  · rw [bo_at _ hk, Array.getElem?_replicate, if_pos hk]; simp
  · rw [Array.getElem?_eq_none (by rw [bo_size]; omega), Array.getElem?_eq_none (by simp; omega)]
theorem bl_row {w : World} {g n : Nat} {out : List Nat} {t : TypeId} {fr : Nat × Nat} (h : w.heap[g]? = some (.cells (bo n out) t fr)) (c : Nat) : BL w (.slice (some ⟨g, 0, none⟩) n c) n out :=
  ⟨_, _, rfl, fun k hk => ⟨g, 0, rfl, by rw [cell_of_row w g _ _ _ _ h, Nat.zero_add, bo_at _ hk]⟩⟩
theorem madeOne (z : Value) (n : Nat) : madeCells #[z] n = Array.replicate n z := by
  apply Array.ext_getElem?
  intro k
  by_cases hk : k < n
  · simp [madeCells, hk, Nat.mod_one]
  · rw [Array.getElem?_eq_none (by simp [madeCells]; omega), Array.getElem?_eq_none (by simp; omega)]
theorem Try.info22 : (Try.prog.info? 22).map (fun i => (i.zero, i.size, i.bytes)) = some (some (.slice none 0 0), 1, 24) := by kernel_rfl
theorem Try.info4 : (Try.prog.info? 4).map (fun i => (i.zero, i.size, i.bytes)) = some (some (.bool false), 1, 1) := by kernel_rfl
theorem mk_rows (n : Nat) (hn : n ≤ 12) (w : World) : (Instr.makeSlice 51 (.int .i64 n) (.int .i64 n)).run Try.prog w = .ok (.slice (some ⟨w.heap.size, 0, none⟩) n n) (w.alloc (.cells (Array.replicate n (.slice none 0 0)) 22)) := by
  obtain ⟨i, h1, h2, h3, h4⟩ := info_parts Try.info22
  have := run_make w 51 22 i _ Try.underlying51 h1 h2 .i64 .i64 (n : Int) (n : Int) (by omega) (by omega) (by rw [h4]; omega) (by omega)
  rw [this, h3]
  simp only [Int.toNat_natCast, Nat.mul_one]
  rw [show (Value.slice none 0 0).cells = #[.slice none 0 0] from rfl, madeOne]
theorem mk_bools (n : Nat) (hn : n ≤ 12) (w : World) : (Instr.makeSlice 54 (.int .i64 n) (.int .i64 n)).run Try.prog w = .ok (.slice (some ⟨w.heap.size, 0, none⟩) n n) (w.alloc (.cells (bo n []) 4)) := by
  obtain ⟨i, h1, h2, h3, h4⟩ := info_parts Try.info4
  have := run_make w 54 4 i _ Try.underlying54 h1 h2 .i64 .i64 (n : Int) (n : Int) (by omega) (by omega) (by rw [h4]; omega) (by omega)
  rw [this, h3]
  simp only [Int.toNat_natCast, Nat.mul_one]
  rw [show (Value.bool false).cells = #[.bool false] from rfl, madeOne, bo_nil]
theorem row_set {w : World} {j : Nat} {cs : Array Value} {t : TypeId} {f : Nat × Nat} (h : w.heap[j]? = some (.cells cs t f)) (i : Nat) (v : Value) : (w.setCell ⟨j, i, none⟩ v).heap[j]? = some (.cells (cs.setIfInBounds i v) t f) := by
  simp [World.setCell, Array.getElem?_modify, h]
theorem lst_set {k : IntKind} {w : World} {v : Value} {l : List Int} (h : Lst k w v l) {R i : Nat} {u : Value} (hne : ∀ g, v.ownBlock = some g → g ≠ R) : Lst k (w.setCell ⟨R, i, none⟩ u) v l := by
  obtain ⟨A, c, rfl, hr, h3⟩ := h
  refine ⟨A, c, rfl, fun hn => ?_, h3⟩
  obtain ⟨g, off, rfl, hc⟩ := hr hn
  exact ⟨g, off, rfl, fun j x hx => (World.cell?_of_block (a := ⟨g, _, none⟩) (Below.heap_setCell _ _ _ _ (hne g rfl))).trans (hc j x hx)⟩

set_option maxHeartbeats 2000000 in
set_option maxRecDepth 100000 in
theorem gall_ex {w : World} {v : Value} {js : List GJ} (h : JL w v js) :
    Calls Try.prog 30 #[v] w fun e w' => ∃ v', e = .returned v' ∧ LL w' v' (nnOf js) ∧ Below w.heap.size w w' := by
  have hfew := h.few
  have HX := Lib.hid (fun (W : World) (k : Nat) (hb : Below w.heap.size w W) => gneeds_ex (h.below hb) k)
  obtain ⟨A, c, rfl⟩ := h.form
  obtain ⟨n, hn⟩ : ∃ n, n = js.length := ⟨_, rfl⟩
  rw [← hn] at HX hfew ⊢
  have hmk := mk_rows n hfew
  have HN := Lib.hid hn
  obtain ⟨R, hR⟩ : ∃ R, R = w.heap.size := ⟨_, rfl⟩
  have k0 : (w.alloc (.cells (Array.replicate n (.slice none 0 0)) 22)).heap[R]? = some (.cells (Array.replicate n (.slice none 0 0)) 22 (0, 0)) := by rw [hR]; exact heap_alloc_new w _
  have K0 := Lib.hid k0
  have B0 := Lib.hid (balloc w (.cells (Array.replicate n (.slice none 0 0)) 22))
  have HR := Lib.hid hR
  clear h hn k0
  go_enter Try.func30, Try.ntmps30
  go_wp2_with fail
  rw [← hR]
  clear hR hmk
  go_loopg [10] (n + 1) (fun g' i wr => ∃ (k : Nat) (cs : Array Value), i = .int .i64 k ∧ k ≤ n ∧ wr.heap[R]? = some (.cells cs 22 (0, 0)) ∧ cs.size = n ∧ (∀ j, j < k → ∃ u, cs[j]? = some u ∧ Lst .i64 wr u (ints (needsI js j)) ∧ ∀ q, u.ownBlock = some q → q ≠ R) ∧ n - k + 1 ≤ g' ∧ Below R w wr)
  case atStart => exact ⟨0, _, rfl, by omega, K0.out, by simp, fun j hj => by omega, by omega, by rw [HR.out]; exact B0.out⟩
  case round =>
    obtain ⟨k, cs, rfl, hk, hrow, hcs, hall, hg, hbr⟩ := hrel
    obtain ⟨wo, rfl⟩ : ∃ wo : World, wo = wr := ⟨_, rfl⟩
    have BR := Lib.hid hbr
    have ROW := Lib.hid hrow
    have ALL := Lib.hid hall
    have CS := Lib.hid hcs
    by_cases hkn : k < n
    · have hki : (k : Int) < (n : Int) := by omega
      have HI := Lib.hid (HX.out wo k (by rw [← HR.out]; exact hbr))
      clear hbr hall hrow hcs
      go_wp2_with (go_at_call 17; ((with_reducible refine HI.out.mono ?_); rintro e w1 ⟨v1, rfl, hv1, hf1, hb1⟩; obtain ⟨A1, c1', rfl⟩ := lst_formN hv1; have F1 := Lib.hid hf1; clear hf1; have r1 := (hb1.block R (heap_lt ROW.out)).trans ROW.out; have c1 := cell_of_row w1 R k _ _ _ r1; have f1 : w1.frozen? ⟨R, k, none⟩ = false := (by simp [World.frozen?, r1]); have c2 : w1.cell? ⟨R, k, none⟩ = some (cs[k]'(by rw [CS.out]; omega)) := c1.trans (Array.getElem?_eq_getElem _); have B1 := Lib.hid hb1; have R1 := Lib.hid r1; have V1 := Lib.hid hv1; clear hv1 hb1 r1 c1))
      have r2 := row_set R1.out k (.slice A1 (needsI js (k : Int)).length c1')
      go_roundg (n - (k + 1) + 1)
      case measure => omega
      case rel =>
        have hRw : R < w1.heap.size := heap_lt R1.out
        refine ⟨k + 1, _, by go_num, by omega, r2, by rw [Array.size_setIfInBounds]; exact CS.out, fun j hj => ?_, Nat.le_refl _, (BR.out.trans (B1.out.mono (Nat.le_of_lt (heap_lt ROW.out)))).setCell (Nat.le_refl _) _⟩
        have hne : ∀ q, (Value.slice A1 (needsI js (k : Int)).length c1').ownBlock = some q → q ≠ R := fun q hq => by have := F1.out q hq; have := heap_lt ROW.out; omega
        rcases Nat.lt_or_ge j k with hjk | hjk
        · obtain ⟨u, h1, h2, h3⟩ := ALL.out j hjk
          exact ⟨u, by rw [Array.getElem?_setIfInBounds_ne (by omega)]; exact h1, lst_set (h2.below B1.out) h3, h3⟩
        · obtain rfl : j = k := by omega
          exact ⟨_, by rw [Array.getElem?_setIfInBounds_self_of_lt (by rw [CS.out]; exact hkn)], lst_set V1.out hne, hne⟩
    · obtain rfl : k = n := by omega
      clear hbr hall hrow hcs
      go_wp2_with fail
      go_ret
      refine ⟨_, rfl, ⟨_, _, by rw [nnOf_length, ← HN.out]; exact rfl, fun j l hj => ?_⟩, by rw [← HR.out]; exact BR.out⟩
      have hjn : j < k := by have := (List.getElem?_eq_some_iff.1 hj).1; rw [nnOf_length, ← HN.out] at this; exact this
      obtain ⟨u, h1, h2, _⟩ := ALL.out j hjn
      refine ⟨R, 0, u, rfl, by rw [cell_of_row _ _ _ _ _ _ ROW.out, Nat.zero_add]; exact h1, ?_⟩
      rw [needsI_nat, List.getD_eq_getElem?_getD, hj] at h2
      exact h2
end Go.Proofs.Ytohiioafdajhmaa.Gp
