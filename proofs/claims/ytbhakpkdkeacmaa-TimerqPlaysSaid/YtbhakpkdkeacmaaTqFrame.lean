/-
  A slice of operations among the arguments: what the frame's reading of it says of its cells.
-/
import Derived.Test.YtbhakpkdkeacmaaTqPlays
import Derived.Deep.Slices
import Derived.ChangeSame
import Derived.KernelRfl
namespace Go.Proofs.Ytbhakpkdkeacmaa.Tq
open Go.RowKit Go.Maps Go.ChangeShapes Go.WideShapes Go.Deep

theorem cells_3 : Try.prog.cellsOf 3 = 1 := by kernel_rfl
theorem cells_30 : Try.prog.cellsOf 30 = 1 := by kernel_rfl
theorem cells_33 : Try.prog.cellsOf 33 = 3 := by kernel_rfl

theorem op_in {H : Type} {enc : TypeId × Value → H} {W : World} {n : Nat} {cs : List Value} {x : DataW H × List MemPlace} (h : DataW.trod enc Try.prog W 0 (fun _ => true) true n 33 cs = some x) :
    ∃ o : TOp, OpWf o ∧ cs = [.int .i64 o.kind, .int .i64 o.id, .int .u64 o.time] := by
  obtain ⟨xs, n', _, _, hlen, hxl, hf⟩ := DataW.trod_struct Try.underlying33 h
  rw [cells_33] at hlen
  match cs, hlen with
  | [c0, c1, c2], _ =>
    have g0 := hf 0 _ rfl
    have g1 := hf 1 _ rfl
    have g2 := hf 2 _ rfl
    have hxl' : xs.length = 3 := hxl
    rw [List.getElem?_eq_getElem (show 0 < xs.length by omega)] at g0
    rw [List.getElem?_eq_getElem (show 1 < xs.length by omega)] at g1
    rw [List.getElem?_eq_getElem (show 2 < xs.length by omega)] at g2
    obtain ⟨k, e0, _, w0⟩ := DataW.trod_int Try.underlying3 g0
    obtain ⟨i, e1, _, w1⟩ := DataW.trod_int Try.underlying3 g1
    obtain ⟨t, e2, _, w2⟩ := DataW.trod_int Try.underlying30 g2
    simp [cells_3, cells_30] at e0 e1 e2
    subst e0; subst e1; subst e2
    exact ⟨⟨k, i, t⟩, ⟨w0, w1, w2⟩, rfl⟩

theorem ops_in {H : Type} {enc : TypeId × Value → H} {W : World} {fuel : Nat} {A : Option Addr} {len cap : Nat} {x : DataW H × List MemPlace} (h : DataW.trod enc Try.prog W 0 (fun _ => true) true fuel 23 [.slice A len cap] = some x) :
    ∃ raw, OpsAt W W.heap.size A len raw ∧ (A = none → cap = 0) ∧ len ≤ 9223372036854775807 := by
  rcases open_slice Try.underlying23 h with ⟨hcs, _⟩ | ⟨a, l, c, m, n, D, Pl, hcs, hb, hl, hm, hmm, hx, hi⟩
  · simp at hcs
    obtain ⟨rfl, rfl, rfl⟩ := hcs
    exact ⟨[], ⟨rfl, fun o ho => by simp at ho, fun hn => by omega⟩, fun _ => rfl, by omega⟩
  · simp at hcs
    obtain ⟨rfl, rfl, rfl⟩ := hcs
    rw [if_pos rfl] at hmm
    rw [cells_33] at hi
    have hone : ∀ i, ∃ o : TOp, i < len → OpWf o ∧ W.cell? ((a.add (i * 3)).add 0) = some (.int .i64 o.kind) ∧ W.cell? ((a.add (i * 3)).add 1) = some (.int .i64 o.id) ∧ W.cell? ((a.add (i * 3)).add 2) = some (.int .u64 o.time) := by
      intro i
      by_cases hil : i < len
      · obtain ⟨cs', hc, ht⟩ := hi i (by omega)
        obtain ⟨o, hw, rfl⟩ := op_in ht
        obtain ⟨_, _, hat⟩ := World.cells?_some hc
        exact ⟨o, fun _ => ⟨hw, hat 0 (by omega), hat 1 (by omega), hat 2 (by omega)⟩⟩
      · exact ⟨⟨0, 0, 0⟩, fun h => absurd h hil⟩
    let f := fun i => Classical.choose (hone i)
    have hf : ∀ i, i < len → OpWf (f i) ∧ W.cell? ((a.add (i * 3)).add 0) = some (.int .i64 (f i).kind) ∧ W.cell? ((a.add (i * 3)).add 1) = some (.int .i64 (f i).id) ∧ W.cell? ((a.add (i * 3)).add 2) = some (.int .u64 (f i).time) := fun i => Classical.choose_spec (hone i)
    refine ⟨(List.range len).map f, ⟨by simp, fun o ho => ?_, fun hn => ?_⟩, fun e => (by cases e), by unfold maxLen at hm; omega⟩
    · obtain ⟨i, hi, rfl⟩ := List.mem_map.1 ho
      exact (hf i (List.mem_range.1 hi)).1
    · obtain ⟨b, off, spot⟩ := a
      have h0 := (hf 0 hn).2.1
      have hs : spot = none := by simpa [Addr.add] using World.cell?_spot h0
      subst hs
      refine ⟨b, off, rfl, World.block_lt_of_cell? _ _ (by simpa [Addr.add] using h0), fun k o hk => ?_⟩
      have hkl : k < len := by have := (List.getElem?_eq_some_iff.1 hk).1; simpa using this
      rw [List.getElem?_map, List.getElem?_range hkl] at hk
      simp only [Option.map_some, Option.some.injEq] at hk
      subst hk
      obtain ⟨_, c0, c1, c2⟩ := hf k hkl
      simp only [Addr.add_lit, Nat.add_zero] at c0 c1 c2
      exact ⟨c0, c1, c2⟩
end Go.Proofs.Ytbhakpkdkeacmaa.Tq
