/-
  Layer 4: what the frame says of a slice that came in, as the walks ask it.
-/
import Derived.Test.YtjcgcloanamabaaRuSane
namespace Go.Proofs.Ytjcgcloanamabaa.Ru
open Go.RowKit

theorem lst_of_row {k : IntKind} {w : World} {a : Option Addr} {len cap : Nat} {zs : List Int} (h : (a = none ∧ len = 0 ∧ cap = 0 ∧ zs = []) ∨
    ∃ x, a = some x ∧ len ≤ cap ∧ cap ≤ maxLen ∧ zs.length = cap ∧ (∀ i, i < zs.length → w.cell? (x.add i) = some (.int k (zs.getD i 0))) ∧ ∀ n ∈ zs, (Lit.int k n).wf = true) :
    ∃ l, Lst k w (.slice a len cap) l ∧ l.length = len ∧ ∀ n ∈ l, (Lit.int k n).wf = true := by
  rcases h with ⟨rfl, rfl, rfl, rfl⟩ | ⟨x, rfl, hl, hm, hz, hc, hw⟩
  · exact ⟨[], Lst.nil k w, rfl, fun n hn => by simp at hn⟩
  · have hlen : (zs.take len).length = len := by rw [List.length_take]; omega
    refine ⟨zs.take len, ⟨some x, cap, by rw [hlen], fun hn => ?_, fun e => (by cases e), by omega, hm⟩, hlen, fun n hn => hw n (List.mem_of_mem_take hn)⟩
    rw [hlen] at hn
    have h0 := hc 0 (by omega)
    have hs := World.cell?_spot h0
    obtain ⟨b, off, spot⟩ := x
    have hs : spot = none := by simpa [Addr.add] using hs
    subst hs
    refine ⟨b, off, rfl, fun j y hk => ?_⟩
    have hkl : j < len := by have := (List.getElem?_eq_some_iff.1 hk).1; omega
    have := hc j (by omega)
    rw [Addr.add_lit] at this
    rw [this]
    rw [List.getElem?_take_of_lt hkl] at hk
    simp [List.getD, hk]
theorem ints_of {l : List Int} (h : ∀ n ∈ l, (Lit.int .i64 n).wf = true) : Ints l := fun n hn => i64_bd (h n hn)
theorem by_of {l : List Int} (h : ∀ n ∈ l, (Lit.int .u8 n).wf = true) : By l := fun n hn => u8_bd (h n hn)
end Go.Proofs.Ytjcgcloanamabaa.Ru
