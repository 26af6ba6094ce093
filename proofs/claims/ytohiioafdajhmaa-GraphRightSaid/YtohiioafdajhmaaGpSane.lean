/-
  Layer 7: the statements' example.
-/
import Derived.Test.YtohiioafdajhmaaGpMill
namespace Go.Proofs.Ytohiioafdajhmaa.Gp
open Go.RowKit

/-- A job with nothing but a name and needs. -/
abbrev bare (nm : ByteArray) (v : Value) : J15 := ⟨nm, ⟨#[]⟩, .slice none 0 0, v, false, ⟨#[]⟩, 0, 0, 0, 0, 0, 0, .slice none 0 0, 0, 0⟩
theorem jl_row {w : World} {g : Nat} {t : TypeId} {fr : Nat × Nat} {js : List GJ} (h : w.heap[g]? = some (.cells (jobCells (js.map GJ.j)).toArray t fr)) (hl : js.length ≤ 12)
    (hn : ∀ x ∈ js, XLst w 1 x.j.needs x.ns.length (x.ns.map Value.string) ∧ x.ns.length ≤ 2000000) : JL w (.slice (some ⟨g, 0, none⟩) js.length js.length) js :=
  ⟨⟨_, _, rfl, by rw [jobCells_length, List.length_map], fun _ => ⟨g, 0, rfl, fun j u hj => by rw [cell_of_row w g _ _ _ _ h, Nat.zero_add]; simpa using hj⟩, fun e => by simp at e, Nat.le_refl _, by unfold maxLen; omega⟩, hl, hn⟩
theorem xlst_row {w : World} {g : Nat} {t : TypeId} {fr : Nat × Nat} (l : List Value) (h : w.heap[g]? = some (.cells l.toArray t fr)) (hl : l.length ≤ 100000) : XLst w 1 (.slice (some ⟨g, 0, none⟩) l.length l.length) l.length l :=
  ⟨_, _, rfl, by omega, fun _ => ⟨g, 0, rfl, fun j u hj => by rw [cell_of_row w g _ _ _ _ h, Nat.zero_add]; simpa using hj⟩, fun e => by simp at e, Nat.le_refl _, by unfold maxLen; omega⟩
abbrev sA : ByteArray := ⟨#[97]⟩
abbrev sB : ByteArray := ⟨#[98]⟩
abbrev js1 (g : Nat) : List GJ := [⟨bare sA (.slice (some ⟨g, 0, none⟩) 1 1), [sB]⟩, ⟨bare sB (.slice none 0 0), []⟩]
abbrev js2 (g h : Nat) : List GJ := [⟨bare sA (.slice (some ⟨g, 0, none⟩) 1 1), [sB]⟩, ⟨bare sB (.slice (some ⟨h, 0, none⟩) 1 1), [sA]⟩]
theorem nn1 (g : Nat) : nnOf (js1 g) = [[1], []] := by rfl
theorem nn2 (g h : Nat) : nnOf (js2 g h) = [[1], [0]] := by rfl
theorem ord1 : orderN [[1], []] = [1, 0] := by decide
theorem ord2 : orderN [[1], [0]] = [] := by decide
theorem cyc2 : cycleN [[1], [0]] = [0, 1] := by decide
abbrev o1 (s : ByteArray) : Obj := .cells #[.string s] 9
abbrev o2 (w : World) : Obj := .cells #[.string ⟨#[97]⟩, .string ⟨#[]⟩, .slice none 0 0, .slice (some ⟨w.heap.size, 0, none⟩) 1 1, .bool false, .string ⟨#[]⟩, .int .i64 0, .int .u64 0, .int .u64 0, .int .u64 0, .int .i64 0, .int .u64 0, .slice none 0 0, .int .i64 0, .int .i64 0, .string ⟨#[98]⟩, .string ⟨#[]⟩, .slice none 0 0, .slice none 0 0, .bool false, .string ⟨#[]⟩, .int .i64 0, .int .u64 0, .int .u64 0, .int .u64 0, .int .i64 0, .int .u64 0, .slice none 0 0, .int .i64 0, .int .i64 0] 45
theorem jl_1 (w : World) : JL ((w.alloc (o1 sB)).alloc (o2 w)) (.slice (some ⟨w.heap.size + 1, 0, none⟩) 2 2) (js1 w.heap.size) := by
  have k := heap_alloc_new (w.alloc (o1 sB)) (o2 w)
  rw [World.size_alloc] at k
  refine jl_row (js := js1 w.heap.size) k (by simp) fun x hx => ?_
  have k0 := (Below.heap_alloc (w.alloc (o1 sB)) (o2 w) w.heap.size (by simp)).trans (heap_alloc_new w (o1 sB))
  simp only [List.mem_cons, List.not_mem_nil, or_false] at hx
  rcases hx with rfl | rfl
  · exact ⟨xlst_row [.string sB] k0 (by simp), by simp⟩
  · exact ⟨XLst.nil _ 1, by simp⟩
theorem jl_2 {w w1 : World} (hb : Below ((w.alloc (o1 sB)).alloc (o2 w)).heap.size ((w.alloc (o1 sB)).alloc (o2 w)) w1) :
    JL ((w1.alloc (o1 sA)).setCell ⟨w.heap.size + 1, 18, none⟩ (.slice (some ⟨w1.heap.size, 0, none⟩) 1 1)) (.slice (some ⟨w.heap.size + 1, 0, none⟩) 2 2) (js2 w.heap.size w1.heap.size) := by
  have hs := hb.size
  simp only [World.size_alloc] at hs
  have k := heap_alloc_new (w.alloc (o1 sB)) (o2 w)
  rw [World.size_alloc] at k
  have k1 := (hb.block _ (heap_lt k)).trans k
  have k2 := row_set ((Below.heap_alloc w1 (o1 sA) _ (heap_lt k1)).trans k1) 18 (.slice (some ⟨w1.heap.size, 0, none⟩) 1 1)
  have k0 := (Below.heap_alloc (w.alloc (o1 sB)) (o2 w) w.heap.size (by simp)).trans (heap_alloc_new w (o1 sB))
  have kb := (Below.heap_setCell (w1.alloc (o1 sA)) ⟨w.heap.size + 1, 18, none⟩ (.slice (some ⟨w1.heap.size, 0, none⟩) 1 1) w.heap.size (by simp)).trans ((Below.heap_alloc w1 (o1 sA) _ (by omega)).trans ((hb.block w.heap.size (by simp; omega)).trans k0))
  have ka := (Below.heap_setCell (w1.alloc (o1 sA)) ⟨w.heap.size + 1, 18, none⟩ (.slice (some ⟨w1.heap.size, 0, none⟩) 1 1) w1.heap.size (by simp; omega)).trans (heap_alloc_new w1 (o1 sA))
  refine jl_row (js := js2 w.heap.size w1.heap.size) k2 (by simp) fun x hx => ?_
  simp only [List.mem_cons, List.not_mem_nil, or_false] at hx
  rcases hx with rfl | rfl
  · exact ⟨xlst_row [.string sB] kb (by simp), by simp⟩
  · exact ⟨xlst_row [.string sA] ka (by simp), by simp⟩
theorem sane_row {w w1 : World} (hb : Below ((w.alloc (o1 sB)).alloc (o2 w)).heap.size ((w.alloc (o1 sB)).alloc (o2 w)) w1) :
    (w1.alloc (o1 sA)).heap[w.heap.size + 1]? = some (o2 w) := by
  have k := heap_alloc_new (w.alloc (o1 sB)) (o2 w)
  rw [World.size_alloc] at k
  have k1 := (hb.block _ (heap_lt k)).trans k
  exact (Below.heap_alloc w1 (o1 sA) _ (heap_lt k1)).trans k1
set_option maxRecDepth 100000 in
set_option maxHeartbeats 2000000 in
theorem sane_any (w : World) : Calls Try.prog 8 #[] w (BPost w true) := by
  have h1 := gorder_ex (jl_1 w)
  rw [nn1, ord1] at h1
  have H1 := Lib.hid h1
  have H2 := Lib.hid (fun (w1 : World) (hb : Below ((w.alloc (o1 sB)).alloc (o2 w)).heap.size ((w.alloc (o1 sB)).alloc (o2 w)) w1) => jl_2 hb)
  have B0 : Hid (Below w.heap.size w ((w.alloc (o1 sB)).alloc (o2 w))) := Lib.hid ((balloc w _).trans ((balloc (w.alloc (o1 sB)) _).mono (by simp)))
  clear h1
  go_enter Try.func8, Try.ntmps8
  go_wp2_with (first
    | (go_at_call 13; ((with_reducible refine H1.out.mono ?_); rintro e w1 ⟨v1, rfl, ho1, hb1⟩; obtain ⟨A1, c1, hv1⟩ := own_formN ho1; simp only [List.length_cons, List.length_nil, Nat.zero_add, Nat.reduceAdd] at hv1; subst hv1; have k1 := sane_row hb1; have c18 : (w1.alloc (o1 sA)).cell? ⟨w.heap.size + 1, 18, none⟩ = some (.slice none 0 0) := cell_of_row _ _ 18 _ _ _ k1; have f18 : (w1.alloc (o1 sA)).frozen? ⟨w.heap.size + 1, 18, none⟩ = false := (by simp [World.frozen?, k1]); have ho2 := ho1.below (balloc w1 (o1 sA)); have hl2 := lst_set (i := 18) (u := .slice (some ⟨w1.heap.size, 0, none⟩) 1 1) ho2.lst (own_ne ho2 k1 (by decide)); obtain ⟨gp, op, rfl, hc⟩ := lst_cells hl2 (by simp); have d0 := hc 0 (by simp); have d1 := hc 1 (by simp); simp only [Nat.add_zero, List.map_cons, List.map_nil, List.getD_cons_zero, List.getD_cons_succ] at d0 d1; have J2 := Lib.hid (H2.out _ hb1); have hsz : (w.alloc (o1 sB)).alloc (o2 w) = (w.alloc (o1 sB)).alloc (o2 w) := rfl; have B1 := Lib.hid ((B0.out.trans (hb1.mono (by simp; omega))).alloc (Nat.le_trans B0.out.size hb1.size) (o1 sA)); have S1 := Lib.hid (show w.heap.size ≤ w1.heap.size from Nat.le_trans B0.out.size hb1.size); clear ho1 hb1 hc ho2 hl2 hsz k1))
    | (go_at_call 13; (have h2 := gorder_ex J2.out; rw [nn2, ord2] at h2; (with_reducible refine h2.mono ?_); rintro e w3 ⟨v3, rfl, ho3, hb3⟩; obtain ⟨A3, c3, hv3⟩ := own_formN ho3; simp only [List.length_nil] at hv3; subst hv3; have h4 := gcycle_ex (J2.out.below hb3); rw [nn2, cyc2] at h4; have H4 := Lib.hid h4; have B3 := Lib.hid ((B1.out.setCell (p := ⟨w.heap.size + 1, 18, none⟩) (by simp) (.slice (some ⟨w1.heap.size, 0, none⟩) 1 1)).trans (hb3.mono (by simp; have := S1.out; omega))); clear h2 ho3 hb3 h4))
    | (go_at_call 15; ((with_reducible refine H4.out.mono ?_); rintro e w4 ⟨v4, rfl, hl4, hb4⟩; obtain ⟨A4, c4, hv4⟩ := lst_formN hl4; simp only [List.length_cons, List.length_nil, Nat.zero_add, Nat.reduceAdd] at hv4; subst hv4; have B4 := Lib.hid (B3.out.trans (hb4.mono B3.out.size)); clear hl4 hb4)))
  go_ret
  exact ⟨rfl, B4.out⟩
end Go.Proofs.Ytohiioafdajhmaa.Gp
