/-
  The sanity check, and what every law does: both Plays, and the comparison.
-/
import Derived.Test.YtbhakpkdkeacmaaTqMade
import Derived.Test.YtbhakpkdkeacmaaTqRef9
namespace Go.Proofs.Ytbhakpkdkeacmaa.Tq
open Go.RowKit Go.Maps

/-- True, and nothing that was there has turned. -/
def BTrue (w : World) (e : Ending) (w' : World) : Prop := e = .returned (.bool true) ∧ Below w.heap.size w w'

theorem rem_lt {l : List Tm} {x : Int} (h : mem l x = true) : (rem l x).length < l.length := by
  obtain ⟨t, ht, e⟩ := mem_iff.1 h
  unfold rem
  rcases Nat.lt_or_ge (l.filter (fun t => t.1 != x)).length l.length with h | h
  · exact h
  · have := List.length_filter_eq_length_iff.1 (Nat.le_antisymm (List.length_filter_le _ _) h) t ht
    simp [e] at this
theorem stepL_le {l : List Tm} (h : l.length ≤ 256) (now : Int) (o : TOp) : (stepL l now o).length ≤ 256 := by
  unfold stepL
  split
  · split
    · exact h
    · split
      · rename_i hm; have := rem_lt hm; simp; omega
      · split
        · exact h
        · simp; omega
  · split
    · exact Nat.le_trans (List.length_filter_le _ _) h
    · split
      · exact Nat.le_trans (List.length_filter_le _ _) h
      · exact h
theorem stepR_le {l : List Tm} (h : l.length ≤ 256) (now : Int) (o : TOp) : (stepR l now o).fired.length ≤ 1000 := by
  have hd : ∀ t, (ord (due l t)).length ≤ 256 := fun t => by
    rw [(ord_perm _).length_eq]; exact Nat.le_trans (List.length_filter_le _ _) h
  unfold stepR
  split
  · split
    · simp
    · split
      · simp
      · split <;> simp
  · split
    · split <;> simp
    · split
      · have := hd (max now o.time); simp; omega
      · split
        · split <;> simp
        · simp
theorem play_fired (l : List Tm) (now : Int) (os : List TOp) (h : l.length ≤ 256) : ∀ r ∈ play l now os, r.fired.length ≤ 1000 := by
  induction os generalizing l now with
  | nil => intro r hr; simp [play] at hr
  | cons o os ih =>
    intro r hr
    simp only [play, List.mem_cons] at hr
    rcases hr with rfl | hr
    · exact stepR_le h now o
    · exact ih _ _ (stepL_le h now o) r hr

theorem IntsRd.below {w w' : World} {A : Option Addr} {n : Nat} {l : List Int} (h : IntsRd w A n l) (hb : Below w.heap.size w w') : IntsRd w' A n l :=
  ⟨h.1, fun hn => by obtain ⟨g, hA, hk⟩ := h.2 hn; exact ⟨g, hA, fun k x hx => (hb.cell (World.block_lt_of_cell? w _ (hk k x hx))).trans (hk k x hx)⟩⟩

set_option maxRecDepth 100000 in
set_option maxHeartbeats 1000000 in
theorem sane_any (w : World) : Calls Try.prog 8 #[] w (BTrue w) := by
  obtain ⟨W1, hW1⟩ : ∃ W1, W1 = w.alloc (.cells #[.int .i64 1, .int .i64 2, .int .u64 9, .int .i64 1, .int .i64 1, .int .u64 9, .int .i64 1, .int .i64 3, .int .u64 4, .int .i64 3, .int .i64 0, .int .u64 9] 33) := ⟨_, rfl⟩
  have hb1 : Below w.heap.size w W1 := by rw [hW1]; exact (Below.refl _ _).alloc (Nat.le_refl _) _
  have hown : OpsOwn W1 w.heap.size (.slice (some ⟨w.heap.size, 0, none⟩) 4 4) [⟨1, 2, 9⟩, ⟨1, 1, 9⟩, ⟨1, 3, 4⟩, ⟨3, 0, 9⟩] := by
    rw [hW1]
    refine ⟨World.ownsRow_lit w _ 4 (Nat.le_refl _) (by unfold maxLen; omega) rfl, fun o ho => ?_⟩
    simp at ho
    rcases ho with rfl | rfl | rfl | rfl <;> exact ⟨rfl, rfl, rfl⟩
  obtain ⟨A, c, hv, hat⟩ := hown.read
  simp only [Value.slice.injEq] at hv
  obtain ⟨rfl, _, rfl⟩ := hv
  have hp : Calls Try.prog 11 #[.slice (some ⟨w.heap.size, 0, none⟩) 4 4] W1 (PlayPost W1 [⟨1, 2, 9⟩, ⟨1, 1, 9⟩, ⟨1, 3, 4⟩, ⟨3, 0, 9⟩]) := play_any (c := 4) hat (by simp)
  have hpl : play [] 0 [⟨1, 2, 9⟩, ⟨1, 1, 9⟩, ⟨1, 3, 4⟩, ⟨3, 0, 9⟩] = [⟨0, [], 0⟩, ⟨0, [], 0⟩, ⟨0, [], 0⟩, ⟨0, [3, 1, 2], 9⟩] := by rfl
  unfold PlayPost at hp
  rw [hpl] at hp
  have HP := Lib.hid hp
  have HW := Lib.hid hW1
  have HB := Lib.hid hb1
  clear hp hW1 hb1 hown hat hpl
  go_enter Try.func8, Try.ntmps8
  go_wp2_with (first
    | (go_at_call 11; rw [← HW.out]; ((with_reducible refine HP.out.mono ?_); rintro e w1 ⟨v, rfl, hr, hb⟩; have hs := hr.shape; simp only [List.length_cons, List.length_nil, Nat.zero_add, Nat.reduceAdd] at hs; obtain ⟨A2, c2, rfl⟩ := hs; obtain ⟨g, f, rfl, hBg, hgl, c0, c1, c3, hf⟩ := hr.get (k := 3) (r := ⟨0, [3, 1, 2], 9⟩) rfl; obtain ⟨Af, cf, rfl, hrd⟩ := FiredAt.rd hf; have RD := Lib.hid hrd; have B1 := Lib.hid hb; clear hr hb hf hrd c0))
    | (go_at_call 14; ((refine (sameInts_eq (l := [3, 1, 2]) (n := 3) (RD.out.below ((Below.refl _ _).alloc (Nat.le_refl _) _)) ⟨rfl, fun _ => ⟨w1.heap.size, rfl, fun k x hx => (cell_of_row _ _ k _ _ _ (heap_alloc_new w1 _)).trans (by match k, hx with | 0, hx => simpa using hx | 1, hx => simpa using hx | 2, hx => simpa using hx)⟩⟩ (by omega)).mono ?_); rintro e w2 ⟨rfl, q, rfl⟩)))
  go_ret
  refine ⟨rfl, ?_⟩
  have h1 := HB.out.trans (B1.out.mono HB.out.size)
  exact (h1.alloc h1.size _).trans ((below_drewN _ _).mono (by have := h1.size; simp; omega))
end Go.Proofs.Ytbhakpkdkeacmaa.Tq
