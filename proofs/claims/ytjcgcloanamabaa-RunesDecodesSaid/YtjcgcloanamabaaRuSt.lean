/-
  Layer 4: the state of a decoder's loop.
-/
import Derived.Test.YtjcgcloanamabaaRuRef
import Derived.Test.YtjcgcloanamabaaRuEnc
namespace Go.Proofs.Ytjcgcloanamabaa.Ru
open Go.RowKit

/-- Bytes that are read, and that appends to slices of other types, made from block B on, don't turn. -/
def RdK (w : World) (B : Nat) (A : Option Addr) (l : List Int) : Prop :=
  0 < l.length → ∃ g off, A = some ⟨g, off, none⟩ ∧ (g < B ∨ ∃ cs f, w.heap[g]? = some (.cells cs 5 f)) ∧ ∀ j x, l[j]? = some x → w.cell? ⟨g, off + j, none⟩ = some (.int .u8 x)
def BLst (w : World) (B : Nat) (v : Value) (l : List Int) : Prop := ∃ A c, v = .slice A l.length c ∧ RdK w B A l ∧ (A = none → c = 0) ∧ l.length ≤ c ∧ c ≤ maxLen
theorem RdK.rd {w : World} {B : Nat} {A : Option Addr} {l : List Int} (h : RdK w B A l) : Rd .u8 w A l := fun hn => by
  obtain ⟨g, off, h1, _, h3⟩ := h hn; exact ⟨g, off, h1, h3⟩
theorem BLst.lst {w : World} {B : Nat} {v : Value} {l : List Int} (h : BLst w B v l) : Lst .u8 w v l := by
  obtain ⟨A, c, h1, h2, h3⟩ := h; exact ⟨A, c, h1, h2.rd, h3⟩
theorem BLst.nil (w : World) (B : Nat) : BLst w B (.slice none 0 0) [] := ⟨none, 0, rfl, fun h => by simp at h, fun _ => rfl, Nat.le_refl _, Nat.zero_le _⟩
theorem BLst.of {w : World} {v : Value} {l : List Int} (h : Lst .u8 w v l) : BLst w w.heap.size v l := by
  obtain ⟨A, c, h1, h2, h3⟩ := h
  refine ⟨A, c, h1, fun hn => ?_, h3⟩
  obtain ⟨g, off, e1, e2⟩ := h2 hn
  exact ⟨g, off, e1, .inl (World.block_lt_of_cell? w _ (e2 0 l[0] (List.getElem?_eq_getElem hn))), e2⟩
theorem BLst.below {w w' : World} {B : Nat} {v : Value} {l : List Int} (h : BLst w B v l) (hb : Below w.heap.size w w') : BLst w' B v l := by
  obtain ⟨A, c, h1, h2, h3⟩ := h
  refine ⟨A, c, h1, fun hn => ?_, h3⟩
  obtain ⟨g, off, e1, e2, e3⟩ := h2 hn
  exact ⟨g, off, e1, e2.imp id fun ⟨cs, f, hc⟩ => ⟨cs, f, (hb.block g (heap_lt hc)).trans hc⟩, fun j x hx => (hb.cell (World.block_lt_of_cell? w _ (e3 j x hx))).trans (e3 j x hx)⟩
theorem BLst.fr {w w' : World} {B : Nat} {v : Value} {l : List Int} {e : TypeId} (h : BLst w B v l) (hf : Fr e B w w') (he : 5 ≠ e) : BLst w' B v l := by
  obtain ⟨A, c, h1, h2, h3⟩ := h
  refine ⟨A, c, h1, fun hn => ?_, h3⟩
  obtain ⟨g, off, e1, e2, e3⟩ := h2 hn
  rcases e2 with e2 | ⟨cs, f, hc⟩
  · exact ⟨g, off, e1, .inl e2, fun j x hx => (hf.bel.cell e2).trans (e3 j x hx)⟩
  · have hk := hf.keep g cs _ f hc he
    exact ⟨g, off, e1, .inr ⟨cs, f, hk⟩, fun j x hx => by rw [cell_of_row _ _ _ _ _ _ hk, ← cell_of_row _ _ _ _ _ _ hc]; exact e3 j x hx⟩
theorem BLst.own {w : World} {B B' : Nat} {v : Value} {l : List Int} (h : Own 5 .u8 w B' v l) : BLst w B v l := by
  obtain ⟨A, c, h1, h2, h3⟩ := h.lst
  refine ⟨A, c, h1, fun hn => ?_, h3⟩
  obtain ⟨g, off, e1, e2⟩ := h2 hn
  refine ⟨g, off, e1, .inr ?_, e2⟩
  rcases h.2 with ⟨h1', h0⟩ | ⟨g', cap, cur, h1', _, hg, _⟩
  · omega
  · rw [h1'] at h1; simp at h1; rw [e1] at h1; simp at h1
    exact ⟨cur, (0, 0), by rw [← h1.1.1]; exact hg⟩
/-- Without the first ones. -/
theorem RdK.cut {w : World} {B g off : Nat} {l m : List Int} (h : RdK w B (some ⟨g, off, none⟩) (l ++ m)) : RdK w B (some ⟨g, off + l.length, none⟩) m := by
  intro hn
  obtain ⟨g', off', e1, e2, e3⟩ := h (by simp; omega)
  simp at e1
  obtain ⟨rfl, rfl⟩ := e1
  exact ⟨g, _, rfl, e2, fun j x hx => by rw [Nat.add_assoc]; exact e3 _ x (by rw [List.getElem?_append_right (by omega)]; simpa using hx)⟩

/-- The state of the loop: w0 as the call began, B its size; the rest (or what it was lengthened to) and the characters. -/
structure St (w0 w : World) (v : Value) (l : List Int) (vo : Value) (o : List Int) : Prop where
  bel : Below w0.heap.size w0 w
  res : w.heap[w0.heap.size + 1]? = some (.cells #[.slice none 0 0] 30 (0, 0))
  lon : BLst w w0.heap.size v l
  out : Own 3 .i64 w w0.heap.size vo o
variable {w0 w w' : World} {v vo : Value} {l o : List Int}
theorem St.below (h : St w0 w v l vo o) (hb : Below w.heap.size w w') : St w0 w' v l vo o :=
  ⟨h.bel.trans (hb.mono h.bel.size), (hb.block _ (heap_lt h.res)).trans h.res, h.lon.below hb, h.out.below hb⟩
theorem St.drew (h : St w0 w v l vo o) (m : Nat) : St w0 (w.drewN m) v l vo o := h.below (below_drewN w m)
theorem St.draw (h : St w0 w v l vo o) {m : Nat} (hw : w' = w.drewN m) : St w0 w' v l vo o := by subst hw; exact h.drew m
theorem St.app {vo' : Value} {o' : List Int} (h : St w0 w v l vo o) (hf : Fr 3 w0.heap.size w w') (ho : Own 3 .i64 w' w0.heap.size vo' o') : St w0 w' v l vo' o' :=
  ⟨h.bel.trans hf.bel, hf.keep _ _ _ _ h.res (by decide), h.lon.fr hf (by decide), ho⟩
theorem St.to {v' : Value} {l' : List Int} (h : St w0 w v l vo o) (hl : BLst w w0.heap.size v' l') : St w0 w v' l' vo o := ⟨h.bel, h.res, hl, h.out⟩
theorem St.nil (h : St w0 w v l vo o) : St w0 w (.slice none 0 0) [] vo o := h.to (BLst.nil _ _)
/-- The rest and one more byte: in memory of its own. -/
theorem St.long {x : Int} {W : World} {B' : Nat} {v' : Value} (h : St w0 w v l vo o) (hW : Below w.heap.size w W) (ho : Own 5 .u8 w' B' v' (l ++ [x])) (hb : Below W.heap.size W w') : St w0 w' v' (l ++ [x]) vo o :=
  (h.below (hW.trans (hb.mono hW.size))).to (BLst.own ho)
theorem own_long {w : World} {B : Nat} {v : Value} {l : List Int} {x : Int} (ho : Own 5 .u8 w B v (l ++ [x])) : ∃ g c, v = .slice (some ⟨g, 0, none⟩) (l.length + 1) c ∧ l.length + 1 ≤ c ∧ c ≤ maxLen := by
  rcases ho.2 with ⟨_, h0⟩ | ⟨g, cap, cur, h1, _, _, hle, hm, _⟩
  · simp at h0
  · exact ⟨g, cap, by rw [h1, List.length_append]; rfl, by simpa using hle, hm⟩
theorem St.cut {g c : Nat} {x : Int} (h : St w0 w (.slice (some ⟨g, 0, none⟩) (l.length + 1) c) (l ++ [x]) vo o) : St w0 w (.slice (some ⟨g, l.length, none⟩) 1 (c - l.length)) [x] vo o := by
  refine h.to ?_
  obtain ⟨A, c', h1, h2, h3, h4, h5⟩ := h.lon
  simp at h1
  obtain ⟨rfl, rfl⟩ := h1
  have := h2.cut
  rw [Nat.zero_add] at this
  exact ⟨_, _, rfl, this, fun e => by simp at e, by simp at h4 ⊢; omega, by omega⟩
theorem balloc (w : World) (o : Obj) : Below w.heap.size w (w.alloc o) := (Below.refl _ _).alloc (Nat.le_refl _) _
theorem own_snoc {e : TypeId} {k : IntKind} {w : World} {B : Nat} {v : Value} {l : List Int} {x : Int} (h : Own e k w B v (l ++ [x])) : ∃ A c, v = .slice A (l.length + 1) c := by
  obtain ⟨A, c, hv⟩ := h.form
  exact ⟨A, c, by rw [hv, List.length_append]; rfl⟩
def DPost (w : World) (r o : List Int) (e : Ending) (w' : World) : Prop := ∃ v' vo, e = .returned (.tuple #[.agg #[v'], vo]) ∧ Lst .u8 w' v' r ∧ Lst .i64 w' vo o ∧ Below w.heap.size w w'
end Go.Proofs.Ytjcgcloanamabaa.Ru
