/-
  Layer 5, the program: errors.As at a target of type *fault.
-/
import Derived.Test.YtjhcbcadagljlaaDoorLxG13
import Derived.Test.YtjhcbcadagljlaaDoorLxG14
namespace Go.Proofs.YtjhcbcadagljlaaDoor.Lx
open Go.RowKit Go.Extern.Stop Go.Stop Go.Extern

theorem as_nil (t : Value) (w : World) : Calls Tryd.prog 14 #[.nilIface, t] w fun e w' => e = .returned (.bool false) ∧ w' = w := by
  go_enter Tryd.func14, Tryd.ntmps14
  go_wp2
  go_ret
  exact ⟨rfl, rfl⟩
theorem m_kindP (h : Value) (w : World) : (Go.method 270 tR (.agg #[h]) "Kind").run Tryd.prog w = .ok (97, h) w := by kernel_rfl
theorem m_elem (h : Value) (w : World) : (Go.method 270 tR (.agg #[h]) "Elem").run Tryd.prog w = .ok (110, .agg #[h]) w := by kernel_rfl
theorem m_impl (h : Value) (w : World) : (Go.method 270 tR (.agg #[h]) "Implements").run Tryd.prog w = .ok (111, .agg #[h]) w := by kernel_rfl
theorem m_assign (h : Value) (w : World) : (Go.method 270 tR (.agg #[h]) "AssignableTo").run Tryd.prog w = .ok (108, .agg #[h]) w := by kernel_rfl

/-- The fault is at the target. -/
def AsPost (w : World) (R : Nat) (f : Flt) (e : Ending) (w' : World) : Prop :=
  e = .returned (.bool true) ∧ w'.heap[R]? = some (.cells #[.int .i64 f.1, .int .i64 f.2.1, .int .i64 f.2.2] 45 (0, 0)) ∧ Below R w w'
set_option maxRecDepth 100000 in
set_option maxHeartbeats 8000000 in
theorem asi_hit (c p q : Int) (R V : Nat) (w : World) (hV : w.cell? ⟨V, 0, none⟩ = some (.pointer (some ⟨R, 0, none⟩))) (_hRV : R < V) (hR : w.heap[R]? = some (.cells #[.int .i64 0, .int .i64 0, .int .i64 0] 45 (0, 0))) (t : Value) :
    Calls Tryd.prog 26 #[.iface 45 (.agg #[.int .i64 c, .int .i64 p, .int .i64 q]), t, .agg #[hPF, .pointer (some ⟨V, 0, none⟩), .int .u64 150], .iface tR (.agg #[hF])] w (AsPost w R (c, p, q)) := by
  have h44 := @run_callFunc_extern Tryd.prog 44 _ ReflectliteType.typeOf Tryd.func44 (by kernel_rfl) (by kernel_rfl) (by kernel_rfl) (by kernel_rfl)
  have h108 := @run_callFunc_extern Tryd.prog 108 _ (ReflectliteType.relation "AssignableTo" ReflectliteType.assignableTo) Tryd.func108 (by kernel_rfl) (by kernel_rfl) (by kernel_rfl) (by kernel_rfl)
  have h45 := @run_callFunc_extern Tryd.prog 45 _ (ReflectliteValue.method (ReflectliteValue.valueError "reflectlite.Value.Elem" 0) ReflectliteValue.elem) Tryd.func45 (by kernel_rfl) (by kernel_rfl) (by kernel_rfl) (by kernel_rfl)
  have h23 := @run_callFunc_extern Tryd.prog 23 _ (fun args => ReflectliteValue.unpack (args.getD 0 (.tuple #[]))) Tryd.func23 (by kernel_rfl) (by kernel_rfl) (by kernel_rfl) (by kernel_rfl)
  have h46 := @run_callFunc_extern Tryd.prog 46 _ ReflectliteValue.set Tryd.func46 (by kernel_rfl) (by kernel_rfl) (by kernel_rfl) (by kernel_rfl)
  have mA := m_assign
  have tF := x_typeOfF
  have aF := x_assignF
  have vF := x_valueOfF
  have hVl := World.block_lt_of_cell? w _ hV
  have hRl := heap_lt hR
  have el := x_elemV ⟨V, 0, none⟩ ⟨R, 0, none⟩ (w.alloc (.cells #[hPF, .pointer (some ⟨V, 0, none⟩), .int .u64 150] 70)) (by rw [World.cell?_alloc_lt _ _ _ hVl]; exact hV)
  have st := x_set R (w.heap.size + 1) c p q 0 0 0 45 45 ((w.alloc (.cells #[hPF, .pointer (some ⟨V, 0, none⟩), .int .u64 150] 70)).alloc (.cells #[.int .i64 c, .int .i64 p, .int .i64 q] 45)) (two_new w _ _) ((Below.heap_alloc _ _ _ (by simp; omega)).trans ((Below.heap_alloc w _ _ hRl).trans hR))
  go_enter Tryd.func26, Tryd.ntmps26
  go_wp2
  refine wp_loop_rounds 1 ?_
  rw [rounds_succ]
  go_wp2
  go_ret
  exact ⟨rfl, (Below.heap_alloc _ _ _ (by simp; omega)).trans ((Below.heap_alloc _ _ _ (by simpa using hRl)).trans (res3 w R _ _ _ _ _ _ _ hR)), ((below3 (Below.refl R w) (Nat.le_refl _) _ _ _).alloc (by simp; omega) _).alloc (by simp; omega) _⟩
theorem m_unwrap (v : Value) (w : World) : (Go.method 270 66 v "Unwrap").run Tryd.prog w = .ok (103, v) w := by kernel_rfl
theorem x_noAs (v : Value) (w : World) : (Instr.typeAssert (.iface 66 v) 41 98 true).run Tryd.prog w = .ok (.tuple #[.nilIface, .bool false]) w :=
  run_typeAssert_lacksB Tryd.underlying98 (by kernel_rfl) (by kernel_rfl) v _ w
theorem x_yesUn (v : Value) (w : World) : (Instr.typeAssert (.iface 66 v) 41 101 true).run Tryd.prog w = .ok (.tuple #[.iface 66 v, .bool true]) w := by kernel_rfl
set_option maxRecDepth 100000 in
set_option maxHeartbeats 8000000 in
theorem asi_wrap (n c p q : Int) (R V : Nat) (w : World) (hV : w.cell? ⟨V, 0, none⟩ = some (.pointer (some ⟨R, 0, none⟩))) (_hRV : R < V) (hR : w.heap[R]? = some (.cells #[.int .i64 0, .int .i64 0, .int .i64 0] 45 (0, 0))) (t : Value) :
    Calls Tryd.prog 26 #[.iface 66 (.agg #[.int .i64 n, .iface 45 (.agg #[.int .i64 c, .int .i64 p, .int .i64 q])]), t, .agg #[hPF, .pointer (some ⟨V, 0, none⟩), .int .u64 150], .iface tR (.agg #[hF])] w (AsPost w R (c, p, q)) := by
  have h44 := @run_callFunc_extern Tryd.prog 44 _ ReflectliteType.typeOf Tryd.func44 (by kernel_rfl) (by kernel_rfl) (by kernel_rfl) (by kernel_rfl)
  have h108 := @run_callFunc_extern Tryd.prog 108 _ (ReflectliteType.relation "AssignableTo" ReflectliteType.assignableTo) Tryd.func108 (by kernel_rfl) (by kernel_rfl) (by kernel_rfl) (by kernel_rfl)
  have h45 := @run_callFunc_extern Tryd.prog 45 _ (ReflectliteValue.method (ReflectliteValue.valueError "reflectlite.Value.Elem" 0) ReflectliteValue.elem) Tryd.func45 (by kernel_rfl) (by kernel_rfl) (by kernel_rfl) (by kernel_rfl)
  have h23 := @run_callFunc_extern Tryd.prog 23 _ (fun args => ReflectliteValue.unpack (args.getD 0 (.tuple #[]))) Tryd.func23 (by kernel_rfl) (by kernel_rfl) (by kernel_rfl) (by kernel_rfl)
  have h46 := @run_callFunc_extern Tryd.prog 46 _ ReflectliteValue.set Tryd.func46 (by kernel_rfl) (by kernel_rfl) (by kernel_rfl) (by kernel_rfl)
  have mA := m_assign
  have mU := m_unwrap
  have nA := x_noAs
  have yU := x_yesUn
  have tF := x_typeOfF
  have tT := x_typeOfT
  have aF := x_assignF
  have aT := x_assignT
  have vF := x_valueOfF
  have hVl := World.block_lt_of_cell? w _ hV
  have hRl := heap_lt hR
  have hc1 : ((w.alloc (.cells #[hPF, .pointer (some ⟨V, 0, none⟩), .int .u64 150] 70)).alloc (.cells #[.int .i64 n, .iface 45 (.agg #[.int .i64 c, .int .i64 p, .int .i64 q])] 66)).cell? ⟨V, 0, none⟩ = some (.pointer (some ⟨R, 0, none⟩)) := by
    rw [World.cell?_alloc_lt _ _ _ (by simp; exact Nat.lt_succ_of_lt hVl), World.cell?_alloc_lt _ _ _ hVl]; exact hV
  have el := x_elemV ⟨V, 0, none⟩ ⟨R, 0, none⟩ _ hc1
  have st := x_set R (w.heap.size + 1 + 1) c p q 0 0 0 45 45 (((w.alloc (.cells #[hPF, .pointer (some ⟨V, 0, none⟩), .int .u64 150] 70)).alloc (.cells #[.int .i64 n, .iface 45 (.agg #[.int .i64 c, .int .i64 p, .int .i64 q])] 66)).alloc (.cells #[.int .i64 c, .int .i64 p, .int .i64 q] 45)) (by have := two_new (w.alloc (.cells #[hPF, .pointer (some ⟨V, 0, none⟩), .int .u64 150] 70)) (.cells #[.int .i64 n, .iface 45 (.agg #[.int .i64 c, .int .i64 p, .int .i64 q])] 66) (.cells #[.int .i64 c, .int .i64 p, .int .i64 q] 45); simpa using this) ((Below.heap_alloc _ _ _ (by simp; omega)).trans ((Below.heap_alloc _ _ _ (by simp; omega)).trans ((Below.heap_alloc w _ _ hRl).trans hR)))
  go_enter Tryd.func26, Tryd.ntmps26
  go_wp2
  refine wp_loop_rounds 2 ?_
  rw [rounds_succ]
  go_wp2
  rw [rounds_succ]
  go_wp2
  go_ret
  exact ⟨rfl, res3 _ R _ _ _ _ _ _ _ ((Below.heap_alloc _ _ _ (by simp; omega)).trans ((Below.heap_alloc _ _ _ (by simp; omega)).trans ((Below.heap_alloc w _ _ hRl).trans hR))), below3 ((((Below.refl R w).alloc (by omega) _).alloc (by simp; omega) _).alloc (by simp; omega) _) (Nat.le_refl _) _ _ _⟩
end Go.Proofs.YtjhcbcadagljlaaDoor.Lx
