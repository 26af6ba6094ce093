/-
  Layer 7: what the frame says of a slice that came in, as the walks ask it.
-/
import Derived.Test.YtohiioafdajhmaaGpMill
namespace Go.Proofs.Ytohiioafdajhmaa.Gp
open Go.RowKit

theorem ints_of_row {w : World} {a : Option Addr} {len cap : Nat} {zs : List Int} (h : (a = none ∧ len = 0 ∧ cap = 0 ∧ zs = []) ∨
    ∃ x, a = some x ∧ len ≤ cap ∧ cap ≤ maxLen ∧ zs.length = cap ∧ (∀ i, i < zs.length → w.cell? (x.add i) = some (.int .i64 (zs.getD i 0))) ∧ ∀ n ∈ zs, (Lit.int .i64 n).wf = true) :
    IntsIn w a len (zs.take len) := by
  rcases h with ⟨rfl, rfl, rfl, rfl⟩ | ⟨x, rfl, hl, hm, hz, hc, hw⟩
  · exact ⟨by omega, fun z hz => by simp at hz, rfl, fun h => by omega⟩
  · have hlen : (zs.take len).length = len := by rw [List.length_take]; omega
    refine ⟨by unfold maxLen at hm; omega, fun z hz => i64_bd (hw z (List.mem_of_mem_take hz)), hlen, fun hn => ?_⟩
    have h0 := hc 0 (by omega)
    have hs := World.cell?_spot h0
    obtain ⟨b, off, spot⟩ := x
    have hs : spot = none := by simpa [Addr.add] using hs
    subst hs
    rw [Addr.add_lit] at h0
    refine ⟨b, off, rfl, World.block_lt_of_cell? w _ h0, fun j y hk => ?_⟩
    have hkl : j < len := by have := (List.getElem?_eq_some_iff.1 hk).1; omega
    have := hc j (by omega)
    rw [Addr.add_lit] at this
    rw [this]
    rw [List.getElem?_take_of_lt hkl] at hk
    simp [List.getD, hk]
end Go.Proofs.Ytohiioafdajhmaa.Gp
