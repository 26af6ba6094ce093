/-
  Layer 5, the program: errors.As at a target of type *fault: the model's entries for internal/reflectlite at this program's types.
-/
import Derived.Test.YtjhcbcadagljlaaDoorLxG1
import Derived.LaidEql
import Derived.Stop.Asserts
namespace Go.Proofs.YtjhcbcadagljlaaDoor.Lx
open Go.RowKit Go.Extern.Stop Go.Stop Go.Extern

abbrev hPF : Value := .pointer (some ⟨7, 47, none⟩)
abbrev hF : Value := .pointer (some ⟨7, 45, none⟩)
abbrev hTE : Value := .pointer (some ⟨7, 66, none⟩)
abbrev hE : Value := .pointer (some ⟨7, 41, none⟩)
abbrev tR : TypeId := 93
theorem x_valueOf (t : Addr) (w : World) : (ReflectliteValue.unpack (.iface 47 (.pointer (some t)))).run Tryd.prog w
    = .ok (.agg #[hPF, .pointer (some ⟨w.heap.size, 0, none⟩), .int .u64 150]) (w.alloc (.cells #[.pointer (some t)] 47)) := by kernel_rfl
theorem x_type (a : Addr) (w : World) : (ReflectliteValue.methodAny (ReflectliteValue.valueError "reflectlite.Value.Type" 0) (fun t _ _ _ => ReflectliteType.toType t) #[.agg #[hPF, .pointer (some a), .int .u64 150]]).run Tryd.prog w
    = .ok (.iface tR (.agg #[hPF])) w := by kernel_rfl
theorem x_kindP (w : World) : ((ReflectliteType.abiMethod fun t => (fun a : Nat => Value.int IntKind.u8 (a : Int)) <$> Rtype.kind t) #[hPF]).run Tryd.prog w = .ok (.int .u8 22) w := by kernel_rfl
theorem x_kindF (w : World) : ((ReflectliteType.abiMethod fun t => (fun a : Nat => Value.int IntKind.u8 (a : Int)) <$> Rtype.kind t) #[hF]).run Tryd.prog w = .ok (.int .u8 25) w := by kernel_rfl
theorem x_partsP (a : Addr) (w : World) : (ReflectliteValue.parts (.agg #[hPF, .pointer (some a), .int .u64 150])).run Tryd.prog w = .ok (some (47, a, 150)) w := by kernel_rfl
theorem x_isNil (a p : Addr) (W : World) (ha : W.cell? a = some (.pointer (some p))) :
    (ReflectliteValue.method (ReflectliteValue.valueError "reflectlite.Value.IsNil" 0) ReflectliteValue.isNil #[.agg #[hPF, .pointer (some a), .int .u64 150]]).run Tryd.prog W = .ok (.bool false) W := by
  show Sem.run _ (ReflectliteValue.parts (.agg #[hPF, .pointer (some a), .int .u64 150]) >>= _) W = _
  simp only [Sem.run_bind, x_partsP, Result.andThen]
  simp [ReflectliteValue.isNil, loadVar, isAgg, underlying, Tryd.underlying47, ha, Result.andThen]
theorem x_elem (w : World) : (ReflectliteType.method ReflectliteType.elem #[.agg #[hPF]]).run Tryd.prog w = .ok (.iface tR (.agg #[hF])) w := by kernel_rfl
theorem x_implements (w : World) : (ReflectliteType.relation "Implements" ReflectliteType.implements_ #[.agg #[hF], .iface tR (.agg #[hE])]).run Tryd.prog w = .ok (.bool true) w := by kernel_rfl
theorem x_typeOfF (v : Value) (w : World) : (ReflectliteType.typeOf #[.iface 45 v]).run Tryd.prog w = .ok (.iface tR (.agg #[hF])) w := by kernel_rfl
theorem x_typeOfT (v : Value) (w : World) : (ReflectliteType.typeOf #[.iface 66 v]).run Tryd.prog w = .ok (.iface tR (.agg #[hTE])) w := by kernel_rfl
theorem x_assignF (w : World) : (ReflectliteType.relation "AssignableTo" ReflectliteType.assignableTo #[.agg #[hF], .iface tR (.agg #[hF])]).run Tryd.prog w = .ok (.bool true) w := by kernel_rfl
theorem x_assignT (w : World) : (ReflectliteType.relation "AssignableTo" ReflectliteType.assignableTo #[.agg #[hTE], .iface tR (.agg #[hF])]).run Tryd.prog w = .ok (.bool false) w := by kernel_rfl
theorem x_valueOfF (a b c : Value) (w : World) : (ReflectliteValue.unpack (.iface 45 (.agg #[a, b, c]))).run Tryd.prog w
    = .ok (.agg #[hF, .pointer (some ⟨w.heap.size, 0, none⟩), .int .u64 153]) (w.alloc (.cells #[a, b, c] 45)) := by kernel_rfl
theorem x_elemOf (w : World) : (Rtype.elem? 47).run Tryd.prog w = .ok (some 45) w := by kernel_rfl
theorem x_mk (p : Addr) (w : World) : (ReflectliteValue.mk 45 p ReflectliteValue.flagAddr).run Tryd.prog w = .ok (.agg #[hF, .pointer (some p), .int .u64 409]) w := by kernel_rfl
theorem x_elemV (a p : Addr) (W : World) (ha : W.cell? a = some (.pointer (some p))) :
    (ReflectliteValue.method (ReflectliteValue.valueError "reflectlite.Value.Elem" 0) ReflectliteValue.elem #[.agg #[hPF, .pointer (some a), .int .u64 150]]).run Tryd.prog W
      = .ok (.agg #[hF, .pointer (some p), .int .u64 409]) W := by
  show Sem.run _ (ReflectliteValue.parts (.agg #[hPF, .pointer (some a), .int .u64 150]) >>= _) W = _
  simp only [Sem.run_bind, x_partsP, Result.andThen]
  simp [ReflectliteValue.elem, loadVar, isAgg, underlying, Tryd.underlying47, ha, Result.andThen, x_elemOf, x_mk]
theorem x_partsFa (a : Addr) (w : World) : (ReflectliteValue.parts (.agg #[hF, .pointer (some a), .int .u64 409])).run Tryd.prog w = .ok (some (45, a, 409)) w := by kernel_rfl
theorem x_partsF (a : Addr) (w : World) : (ReflectliteValue.parts (.agg #[hF, .pointer (some a), .int .u64 153])).run Tryd.prog w = .ok (some (45, a, 153)) w := by kernel_rfl
theorem x_direct (w : World) : (Rtype.directlyAssignable 45 45).run Tryd.prog w = .ok true w := by kernel_rfl
theorem x_size (w : World) : (sizeOf 45).run Tryd.prog w = .ok 3 w := by kernel_rfl

/-- (Value).Set at a fault: three cells. -/
theorem x_set (R g : Nat) (c p q o0 o1 o2 : Int) (t u : TypeId) (W : World) (hg : W.heap[g]? = some (.cells #[.int .i64 c, .int .i64 p, .int .i64 q] t (0, 0))) (hR : W.heap[R]? = some (.cells #[.int .i64 o0, .int .i64 o1, .int .i64 o2] u (0, 0))) :
    (ReflectliteValue.set #[.agg #[hF, .pointer (some ⟨R, 0, none⟩), .int .u64 409], .agg #[hF, .pointer (some ⟨g, 0, none⟩), .int .u64 153]]).run Tryd.prog W
      = .ok (.tuple #[]) (((W.setCell ⟨R, 0, none⟩ (.int .i64 c)).setCell ⟨R, 1, none⟩ (.int .i64 p)).setCell ⟨R, 2, none⟩ (.int .i64 q)) := by
  have hl : (loadCells ⟨g, 0, none⟩ 3).run Tryd.prog W = .ok #[.int .i64 c, .int .i64 p, .int .i64 q] W := by
    refine run_loadCells_list W ⟨g, 0, none⟩ [.int .i64 c, .int .i64 p, .int .i64 q] fun j v hj => ?_
    rw [Addr.add_lit, cell_of_row W g _ _ _ _ hg, Nat.zero_add]
    simpa using hj
  have st : ∀ (W : World) (i : Nat) (v : Int) (a b e : Value), i < 3 → W.heap[R]? = some (.cells #[a, b, e] u (0, 0)) → (store ⟨R, i, none⟩ (.int .i64 v)).run Tryd.prog W = .ok () (W.setCell ⟨R, i, none⟩ (.int .i64 v)) := by
    intro W i v a b e hi h
    have h1 := cell_of_row W R i _ _ _ h
    have h2 := frozen_of_row W R i _ _ h
    rw [run_store _ _ _ _ _ (by rfl), h1, h2]
    match i, hi with
    | 0, _ => rfl
    | 1, _ => rfl
    | 2, _ => rfl
  have s0 := st W 0 c _ _ _ (by omega) hR
  have s1 := st (W.setCell ⟨R, 0, none⟩ (.int .i64 c)) 1 p (.int .i64 c) (.int .i64 o1) (.int .i64 o2) (by omega) (by simp [World.setCell, Array.getElem?_modify, hR])
  have s2 := st ((W.setCell ⟨R, 0, none⟩ (.int .i64 c)).setCell ⟨R, 1, none⟩ (.int .i64 p)) 2 q (.int .i64 c) (.int .i64 p) (.int .i64 o2) (by omega) (by simp [World.setCell, Array.getElem?_modify, hR])
  show Sem.run _ (ReflectliteValue.parts (.agg #[hF, .pointer (some ⟨R, 0, none⟩), .int .u64 409]) >>= fun r => ReflectliteValue.parts (.agg #[hF, .pointer (some ⟨g, 0, none⟩), .int .u64 153]) >>= _) W = _
  simp only [Sem.run_bind, x_partsFa, x_partsF, Result.andThen]
  simp [ReflectliteValue.flagAddr, loadVar, isAgg, underlying, Tryd.underlying45, Result.andThen, x_direct, hl, storeVar, storeCells, Value.cells, Addr.add, s0, s1, s2]
end Go.Proofs.YtjhcbcadagljlaaDoor.Lx
