/-
  Layer 5, the program: one token is read.
-/
import Derived.Test.YtjhcbcadagljlaaDoorLxG10
import Derived.Deep.RegionWith
import Derived.Deep.CutRange
namespace Go.Proofs.YtjhcbcadagljlaaDoor.Lx
open Go.RowKit

/-- The token that is returned, and the one that is made: two new blocks. -/
structure TR (w W : World) (x t : Tok) : Prop where
  res : W.heap[w.heap.size]? = some (.cells x.cells.toArray 38 (0, 0))
  tok : W.heap[w.heap.size + 1]? = some (.cells t.cells.toArray 38 (0, 0))
  bel : Below w.heap.size w W
abbrev ZT : Tok := ⟨0, [], 0, 0⟩
theorem tr_a (w : World) (m : Nat) (t : Tok) : TR w (((w.alloc (.cells ZT.cells.toArray 38)).drewN m).alloc (.cells t.cells.toArray 38)) ZT t :=
  ⟨(Below.heap_alloc ((w.alloc _).drewN m) _ _ (by simp)).trans (heap_alloc_new w _), by have := heap_alloc_new ((w.alloc (.cells ZT.cells.toArray 38)).drewN m) (.cells t.cells.toArray 38); simpa using this, (drN (balloc w _) m).alloc (by simp) _⟩
theorem set4 {w : World} {R : Nat} {a b c d x y z u : Value} {t : TypeId} (h : w.heap[R]? = some (.cells #[a, b, c, d] t (0, 0))) : ((((w.setCell ⟨R, 0, none⟩ x).setCell ⟨R, 1, none⟩ y).setCell ⟨R, 2, none⟩ z).setCell ⟨R, 3, none⟩ u).heap[R]? = some (.cells #[x, y, z, u] t (0, 0)) := by
  simp [World.setCell, Array.getElem?_modify, h]
theorem set4_other {w : World} {R K : Nat} {x y z u : Value} (h : K ≠ R) : ((((w.setCell ⟨R, 0, none⟩ x).setCell ⟨R, 1, none⟩ y).setCell ⟨R, 2, none⟩ z).setCell ⟨R, 3, none⟩ u).heap[K]? = w.heap[K]? := by
  rw [heap_setCell_other _ _ _ _ h, heap_setCell_other _ _ _ _ h, heap_setCell_other _ _ _ _ h, heap_setCell_other _ _ _ _ h]
theorem below4 {B : Nat} {w0 w : World} (h : Below B w0 w) {R : Nat} (hR : B ≤ R) (x y z u : Value) : Below B w0 ((((w.setCell ⟨R, 0, none⟩ x).setCell ⟨R, 1, none⟩ y).setCell ⟨R, 2, none⟩ z).setCell ⟨R, 3, none⟩ u) :=
  (below3 h hR x y z).setCell hR u
theorem tr_b (w : World) (m : Nat) (t : Tok) : TR w ((((((w.alloc (.cells ZT.cells.toArray 38)).alloc (.cells ZT.cells.toArray 38)).drewN m).setCell ⟨w.heap.size + 1, 0, none⟩ (.int .i64 t.kind)).setCell ⟨w.heap.size + 1, 1, none⟩ (.string (bytesOf t.text))).setCell ⟨w.heap.size + 1, 2, none⟩ (.int .i64 t.line) |>.setCell ⟨w.heap.size + 1, 3, none⟩ (.int .i64 t.col)) ZT t := by
  have h2 := heap_alloc_new (w.alloc (.cells ZT.cells.toArray 38)) (.cells ZT.cells.toArray 38)
  rw [World.size_alloc] at h2
  refine ⟨?_, ?_, ?_⟩
  · rw [set4_other (by omega)]
    exact (Below.heap_alloc (w.alloc _) _ _ (by simp)).trans (heap_alloc_new w _)
  · exact set4 (w := ((w.alloc _).alloc _).drewN m) h2
  · exact below4 (drN ((balloc w _).alloc (by simp) _) m) (by omega) _ _ _ _


/-! ### ends -/
section
variable {w W : World} {B b : Nat} {s : ByteArray} {k ln st : Int}
theorem tok_end0 (hb : w.heap[b]? = some (ScnO s k ln st)) (hB : B ≤ b) (h : Below w.heap.size w W) {R : Nat} (hR : w.heap.size ≤ R) (x y z u : Value) :
    Fr 62 B w ((((W.setCell ⟨R, 0, none⟩ x).setCell ⟨R, 1, none⟩ y).setCell ⟨R, 2, none⟩ z).setCell ⟨R, 3, none⟩ u) ∧ ((((W.setCell ⟨R, 0, none⟩ x).setCell ⟨R, 1, none⟩ y).setCell ⟨R, 2, none⟩ z).setCell ⟨R, 3, none⟩ u).heap[b]? = some (ScnO s k ln st) := by
  have hlt := heap_lt hb
  refine ⟨Fr.of_below (below4 h hR _ _ _ _) (by omega), ?_⟩
  rw [set4_other (by omega), h.block b hlt, hb]
theorem tok_end (hb : w.heap[b]? = some (ScnO s k ln st)) (hB : B ≤ b) (h : Below w.heap.size w W) {R : Nat} (hR : w.heap.size ≤ R) (v : Int) (x y z u : Value) :
    Fr 62 B w (((((W.setCell ⟨b, 1, none⟩ (.int .i64 v)).setCell ⟨R, 0, none⟩ x).setCell ⟨R, 1, none⟩ y).setCell ⟨R, 2, none⟩ z).setCell ⟨R, 3, none⟩ u) ∧ (((((W.setCell ⟨b, 1, none⟩ (.int .i64 v)).setCell ⟨R, 0, none⟩ x).setCell ⟨R, 1, none⟩ y).setCell ⟨R, 2, none⟩ z).setCell ⟨R, 3, none⟩ u).heap[b]? = some (ScnO s v ln st) := by
  have hlt := heap_lt hb
  have hbW : W.heap[b]? = some (ScnO s k ln st) := (h.block b hlt).trans hb
  refine ⟨⟨below4 ((h.mono (by omega)).setCell (p := ⟨b, 1, none⟩) hB _) (by omega) _ _ _ _, fun i cs t f hi hne => ?_⟩, ?_⟩
  · have hil := heap_lt hi
    have hib : i ≠ b := fun e => by subst e; rw [hb] at hi; injection hi with hi; injection hi with _ e2; exact hne e2.symm
    rw [set4_other (by omega), heap_setCell_other _ _ _ _ hib, h.block i hil, hi]
  · rw [set4_other (by omega)]
    exact scn_at hbW v
end
section
variable {w w' : World} {B b k : Nat} {s : ByteArray} {l : List Int} {ln st : Int} {e : Ending}
theorem TkPost.ofEnd (h : l.length = k) (hf : Fr 62 B w w' ∧ w'.heap[b]? = some (ScnO s k ln st)) (he : e = .returned (.tuple #[tokV ⟨6, [], ln, k - st + 1⟩, .nilIface])) : TkPost w B b s l k ln st e w' := ⟨hf.1, by rw [if_pos h]; exact ⟨he, hf.2⟩⟩
theorem TkPost.ofBad {c : Int} (h : l.length ≠ k) (h1 : one (l.drop k) = .bad c) (hf : Fr 62 B w w' ∧ w'.heap[b]? = some (ScnO s k ln st)) (he : e = .returned (.tuple #[tok0, fltV (c, ln, k - st + 1)])) : TkPost w B b s l k ln st e w' := ⟨hf.1, by rw [if_neg h, h1]; exact ⟨he, hf.2⟩⟩
theorem TkPost.ofTok {kk : Int} {t : List Int} {n : Nat} (h : l.length ≠ k) (h1 : one (l.drop k) = .tok kk t n) (hf : Fr 62 B w w' ∧ w'.heap[b]? = some (ScnO s ((k + n : Nat) : Int) ln st)) (he : e = .returned (.tuple #[tokV ⟨kk, t, ln, k - st + 1⟩, .nilIface])) : TkPost w B b s l k ln st e w' := ⟨hf.1, by rw [if_neg h, h1]; exact ⟨he, hf.2⟩⟩
end
theorem sign_all : ∀ n : Fin 256, Lib.indexByte [123, 125, 44, 61] ((n.val : Int).toNat.toUInt8) = if n.val = 123 then 0 else if n.val = 125 then 1 else if n.val = 44 then 2 else if n.val = 61 then 3 else -1 := by decide +kernel
theorem sign_ix {a : Int} (h0 : 0 ≤ a) (h1 : a ≤ 255) : Lib.indexByte [123, 125, 44, 61] a.toNat.toUInt8 = if a = 123 then 0 else if a = 125 then 1 else if a = 44 then 2 else if a = 61 then 3 else -1 := by
  have := sign_all ⟨a.toNat, by omega⟩
  simp only at this
  rw [Int.toNat_of_nonneg h0] at this
  rw [this]
  simp only [show a.toNat = 123 ↔ a = 123 by omega, show a.toNat = 125 ↔ a = 125 by omega, show a.toNat = 44 ↔ a = 44 by omega, show a.toNat = 61 ↔ a = 61 by omega]
theorem gsign_yes {a : Int} (h : a = 123 ∨ a = 125 ∨ a = 44 ∨ a = 61) (w : World) : Calls Tryd.prog 43 #[.string ⟨#[123, 125, 44, 61]⟩, .int .u8 a] w fun e w' => (∃ i, 0 ≤ i ∧ e = .returned (.int .i64 i)) ∧ w = w' := by
  refine (Tryd.strings_IndexByte _ a w).mono ?_
  rintro e w' ⟨rfl, rfl⟩
  refine ⟨⟨_, ?_, rfl⟩, rfl⟩
  show (0 : Int) ≤ Lib.indexByte [123, 125, 44, 61] _
  rw [sign_ix (by omega) (by omega)]
  repeat' split
  all_goals omega
theorem gsign_no {a : Int} (h0 : 0 ≤ a) (h1 : a ≤ 255) (h : ¬ (a = 123 ∨ a = 125 ∨ a = 44 ∨ a = 61)) (w : World) : Calls Tryd.prog 43 #[.string ⟨#[123, 125, 44, 61]⟩, .int .u8 a] w fun e w' => e = .returned (.int .i64 (-1)) ∧ w = w' := by
  refine (Tryd.strings_IndexByte _ a w).mono ?_
  rintro e w' ⟨rfl, rfl⟩
  refine ⟨?_, rfl⟩
  show Ending.returned (.int .i64 (Lib.indexByte [123, 125, 44, 61] _)) = _
  rw [sign_ix h0 h1, if_neg (by omega), if_neg (by omega), if_neg (by omega), if_neg (by omega)]

theorem hdr (w : World) (m : Nat) : (w.drewN m).heap = w.heap := rfl
theorem bsT {w W : World} {i : Nat} {v : Value} (h : Below w.heap.size w W) : Below w.heap.size w (W.setCell ⟨w.heap.size + 1, i, none⟩ v) := h.setCell (p := ⟨w.heap.size + 1, i, none⟩) (by simp) v
theorem keepO {w : World} {g R i : Nat} {o : Obj} (h : w.heap[g]? = some o) (hne : g ≠ R) (v : Value) : (w.setCell ⟨R, i, none⟩ v).heap[g]? = some o := by rw [heap_setCell_other _ _ _ _ hne, h]
theorem set0 {w : World} {R : Nat} {a b c d : Value} {t : TypeId} (h : w.heap[R]? = some (.cells #[a, b, c, d] t (0, 0))) (x : Value) : (w.setCell ⟨R, 0, none⟩ x).heap[R]? = some (.cells #[x, b, c, d] t (0, 0)) := by
  simp [World.setCell, Array.getElem?_modify, h]
theorem txt_size {l : List Int} (hl : By l) {n : Nat} (hn : n ≤ l.length) : (bytesOf (l.take n)).size = n := by
  rw [← ch_length, ch_bytesOf (hl.take n), List.length_take]; omega
theorem tok_ret {a : Act} {W : World} {R : Nat} {x y z u ev c0 c1 c2 c3 : Value} {Q : Ending → World → Prop} (ha : a.tmps[2]?.getD undef = .pointer (some ⟨R, 0, none⟩)) (h3 : a.tmps[3]?.getD undef = ev) (hd : a.defers = []) (hrow : W.heap[R]? = some (.cells #[c0, c1, c2, c3] 38 (0, 0)))
    (hQ : Q (.returned (.tuple #[.agg #[x, y, z, u], ev])) ((((W.setCell ⟨R, 0, none⟩ x).setCell ⟨R, 1, none⟩ y).setCell ⟨R, 2, none⟩ z).setCell ⟨R, 3, none⟩ u)) :
    bodyPost Tryd.prog Tryd.f22 Q .ret a ((((W.setCell ⟨R, 0, none⟩ x).setCell ⟨R, 1, none⟩ y).setCell ⟨R, 2, none⟩ z).setCell ⟨R, 3, none⟩ u) := by
  have hb9 := set4 (x := x) (y := y) (z := z) (u := u) hrow
  refine bodyPost_ret (v := .tuple #[.agg #[x, y, z, u], ev]) ?_ hd hQ
  simp [results, Tryd.results22, go_sem, ha, h3, cell_of_row _ R 0 _ _ _ hb9, cell_of_row _ R 1 _ _ _ hb9, cell_of_row _ R 2 _ _ _ hb9, cell_of_row _ R 3 _ _ _ hb9]
theorem tok_retd {a : Act} {W : World} {R : Nat} {x y z u ev c0 c1 c2 c3 : Value} {Q : Ending → World → Prop} (ha : a.tmps[2]?.getD undef = .pointer (some ⟨R, 0, none⟩)) (h3 : a.tmps[3]?.getD undef = ev) (hd : a.defers = []) (hrow : W.heap[R]? = some (.cells #[c0, c1, c2, c3] 38 (0, 0)))
    (hQ : Q (.returned (.tuple #[.agg #[x, y, z, u], ev])) ((((W.setCell ⟨R, 0, none⟩ x).setCell ⟨R, 1, none⟩ y).setCell ⟨R, 2, none⟩ z).setCell ⟨R, 3, none⟩ u).drew) :
    bodyPost Tryd.prog Tryd.f22 Q .ret a ((((W.setCell ⟨R, 0, none⟩ x).setCell ⟨R, 1, none⟩ y).setCell ⟨R, 2, none⟩ z).setCell ⟨R, 3, none⟩ u).drew := by
  have hb9 : ((((W.setCell ⟨R, 0, none⟩ x).setCell ⟨R, 1, none⟩ y).setCell ⟨R, 2, none⟩ z).setCell ⟨R, 3, none⟩ u).drew.heap[R]? = _ := set4 (x := x) (y := y) (z := z) (u := u) hrow
  generalize ((((W.setCell ⟨R, 0, none⟩ x).setCell ⟨R, 1, none⟩ y).setCell ⟨R, 2, none⟩ z).setCell ⟨R, 3, none⟩ u).drew = W2 at *
  refine bodyPost_ret (v := .tuple #[.agg #[x, y, z, u], ev]) ?_ hd hQ
  simp [results, Tryd.results22, go_sem, ha, h3, cell_of_row _ R 0 _ _ _ hb9, cell_of_row _ R 1 _ _ _ hb9, cell_of_row _ R 2 _ _ _ hb9, cell_of_row _ R 3 _ _ _ hb9]
theorem tok_drew {e : TypeId} {B b : Nat} {w W : World} {o : Obj} (h : Fr e B w W ∧ W.heap[b]? = some o) : Fr e B w W.drew ∧ W.drew.heap[b]? = some o := ⟨⟨h.1.bel.drew, h.1.keep⟩, h.2⟩
end Go.Proofs.YtjhcbcadagljlaaDoor.Lx
