/-
  Layer 4: two lists of bytes in a literal; an append whose guard is true.
-/
import Derived.Test.YtjcgcloanamabaaRuFrame
namespace Go.Proofs.Ytjcgcloanamabaa.Ru
open Go.RowKit

/-- Two lists of bytes, next to each other at block b. -/
def Two (w : World) (b : Nat) : Prop := ∀ k, k < 2 → ∃ v l, w.cell? ⟨b, k, none⟩ = some v ∧ Lst .u8 w v l ∧ By l ∧ l.length ≤ 200
theorem Two.below {w w' : World} {b : Nat} (h : Two w b) (hb : Below w.heap.size w w') : Two w' b := fun k hk => by
  obtain ⟨v, l, h1, h2, h3, h4⟩ := h k hk
  exact ⟨v, l, (hb.cell (World.block_lt_of_cell? w _ h1)).trans h1, h2.below hb, h3, h4⟩
theorem two_made {w : World} {v1 v2 : Value} {l1 l2 : List Int} (h1 : Lst .u8 w v1 l1) (b1 : By l1) (e1 : l1.length ≤ 200) (h2 : Lst .u8 w v2 l2) (b2 : By l2) (e2 : l2.length ≤ 200) :
    Two (w.alloc (.cells #[v1, v2] 25)) w.heap.size := by
  have hk := heap_alloc_new w (.cells #[v1, v2] 25)
  intro k hk2
  match k, hk2 with
  | 0, _ => exact ⟨v1, l1, cell_of_row _ _ 0 _ _ _ hk, h1.below (balloc _ _), b1, e1⟩
  | 1, _ => exact ⟨v2, l2, cell_of_row _ _ 1 _ _ _ hk, h2.below (balloc _ _), b2, e2⟩
  | k + 2, h => omega
theorem wpList_want {P : Program} {w : World} {ops : Array Oper} {rest : List Oper} {o : Oper} {a : Act} {Q : Exit → Act → World → Prop} (hw : Region.wanted o (yielded ops a.tmps) = true)
    (h : ∀ K : Act → World → Prop, (∀ a w, wpList P ops Q rest a w → K a w) → Oper.wp P o a w K Q) : wpList P ops Q (o :: rest) a w :=
  wpList_step fun K hK => by rw [if_pos hw]; exact h K hK
theorem wpList_app_w {w : World} {ops : Array Oper} {rest : List Oper} {o : Oper} {a : Act} {Q : Exit → Act → World → Prop} (hw : Region.wanted o (yielded ops a.tmps) = true) (s y : Operand) {ts e : TypeId} {k : IntKind}
    (ho : o.op = .call { callee := .builtin .append, args := #[s, y], argTypes := #[ts, ts] }) (E : Elt ts e k)
    {B : Nat} {v x : Value} {l m : List Int} (hs : a.eval s = v) (h : Own e k w B v l) (hy : a.eval y = x) (hx : Lst k w x m) (hl : l.length + m.length ≤ 1000000) (hB : B ≤ w.heap.size)
    (hK : ∀ v' w', Own e k w' B v' (l ++ m) → Fr e B w w' → wpList Try.prog ops Q rest (a.put o.dst v') w') : wpList Try.prog ops Q (o :: rest) a w := by
  refine wpList_want hw fun K hK' => ?_
  obtain ⟨v', w', hrun, r1, r2⟩ := run_app E h hx hl hB o.type
  unfold Oper.wp
  simp [execOp, ho, resolve, invoke, builtin, hs, hy, hrun, Result.andThen]
  exact hK' _ _ (hK v' w' r1 r2)
/-- The first and the last bytes of a list. -/
theorem lst_take {k : IntKind} {w : World} {g off c q : Nat} {l : List Int} (h : Lst k w (.slice (some ⟨g, off, none⟩) l.length c) l) (hq : q ≤ l.length) : Lst k w (.slice (some ⟨g, off, none⟩) q c) (l.take q) := by
  obtain ⟨A, c', h1, h2, _, h4, h5⟩ := h
  simp only [Value.slice.injEq] at h1
  obtain ⟨rfl, _, rfl⟩ := h1
  have hl : (l.take q).length = q := by rw [List.length_take]; omega
  refine ⟨some ⟨g, off, none⟩, c, by rw [hl], fun hn => ?_, fun e => by simp at e, by omega, h5⟩
  rw [hl] at hn
  obtain ⟨g', off', e1, e2⟩ := h2 (by omega)
  refine ⟨g', off', e1, fun j x hx => e2 j x ?_⟩
  have hj : j < q := by have := (List.getElem?_eq_some_iff.1 hx).1; omega
  rw [List.getElem?_take_of_lt hj] at hx
  exact hx
theorem lst_drop {k : IntKind} {w : World} {g off c q : Nat} {l : List Int} (h : Lst k w (.slice (some ⟨g, off, none⟩) l.length c) l) (hq : q ≤ l.length) : Lst k w (.slice (some ⟨g, off + q, none⟩) (l.length - q) (c - q)) (l.drop q) := by
  obtain ⟨A, c', h1, h2, _, h4, h5⟩ := h
  simp only [Value.slice.injEq] at h1
  obtain ⟨rfl, _, rfl⟩ := h1
  have hl : (l.drop q).length = l.length - q := by rw [List.length_drop]
  refine ⟨some ⟨g, off + q, none⟩, c - q, by rw [hl], fun hn => ?_, fun e => by simp at e, by omega, by omega⟩
  obtain ⟨g', off', e1, e2⟩ := h2 (by omega)
  simp only [Option.some.injEq, Addr.mk.injEq, and_true] at e1
  obtain ⟨rfl, rfl⟩ := e1
  refine ⟨g, off + q, rfl, fun j x hx => ?_⟩
  rw [Nat.add_assoc]
  exact e2 _ x (by rw [List.getElem?_drop] at hx; exact hx)
theorem lst_empty {k : IntKind} {w : World} {A : Option Addr} {c : Nat} (hA : A = none → c = 0) (hc : c ≤ maxLen) : Lst k w (.slice A 0 c) [] := ⟨A, c, rfl, fun h => by simp at h, hA, Nat.zero_le _, hc⟩
end Go.Proofs.Ytjcgcloanamabaa.Ru
