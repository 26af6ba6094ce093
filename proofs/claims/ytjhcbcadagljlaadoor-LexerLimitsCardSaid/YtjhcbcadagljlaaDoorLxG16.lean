/-
  Layer 5, the program: errors.As finds the fault; All; Quote.
-/
import Derived.Test.YtjhcbcadagljlaaDoorLxG15
namespace Go.Proofs.YtjhcbcadagljlaaDoor.Lx
open Go.RowKit Go.Extern.Stop Go.Stop Go.Extern

section
variable {w : World} {R : Nat} {c p q : Int} {err : Value}
set_option maxRecDepth 100000 in
set_option maxHeartbeats 8000000 in
theorem as_any (het : ET w) (hR : w.heap[R]? = some (.cells #[.int .i64 0, .int .i64 0, .int .i64 0] 45 (0, 0))) (ht : ∃ t v, err = .iface t v)
    (HA : ∀ (V : Nat) (W : World) (t : Value), W.cell? ⟨V, 0, none⟩ = some (.pointer (some ⟨R, 0, none⟩)) → R < V → W.heap[R]? = some (.cells #[.int .i64 0, .int .i64 0, .int .i64 0] 45 (0, 0)) →
      Calls Tryd.prog 26 #[err, t, .agg #[hPF, .pointer (some ⟨V, 0, none⟩), .int .u64 150], .iface tR (.agg #[hF])] W (AsPost W R (c, p, q))) :
    Calls Tryd.prog 14 #[err, .iface 47 (.pointer (some ⟨R, 0, none⟩))] w (AsPost w R (c, p, q)) := by
  obtain ⟨t0, v0, rfl⟩ := ht
  have h23 := @run_callFunc_extern Tryd.prog 23 _ (fun args => ReflectliteValue.unpack (args.getD 0 (.tuple #[]))) Tryd.func23 (by kernel_rfl) (by kernel_rfl) (by kernel_rfl) (by kernel_rfl)
  have h24 := @run_callFunc_extern Tryd.prog 24 _ (ReflectliteValue.methodAny (ReflectliteValue.valueError "reflectlite.Value.Type" 0) (fun t _ _ _ => ReflectliteType.toType t)) Tryd.func24 (by kernel_rfl) (by kernel_rfl) (by kernel_rfl) (by kernel_rfl)
  have h25 := @run_callFunc_extern Tryd.prog 25 _ (ReflectliteValue.method (ReflectliteValue.valueError "reflectlite.Value.IsNil" 0) ReflectliteValue.isNil) Tryd.func25 (by kernel_rfl) (by kernel_rfl) (by kernel_rfl) (by kernel_rfl)
  have h97 := @run_callFunc_extern Tryd.prog 97 _ (ReflectliteType.abiMethod fun t => do pure (.int .u8 (← Rtype.kind t))) Tryd.func97 (by kernel_rfl) (by kernel_rfl) (by kernel_rfl) (by kernel_rfl)
  have h110 := @run_callFunc_extern Tryd.prog 110 _ (ReflectliteType.method ReflectliteType.elem) Tryd.func110 (by kernel_rfl) (by kernel_rfl) (by kernel_rfl) (by kernel_rfl)
  have h111 := @run_callFunc_extern Tryd.prog 111 _ (ReflectliteType.relation "Implements" ReflectliteType.implements_) Tryd.func111 (by kernel_rfl) (by kernel_rfl) (by kernel_rfl) (by kernel_rfl)
  have mK := m_kindP
  have mE := m_elem
  have mI := m_impl
  have kP := x_kindP
  have kF := x_kindF
  have eP := x_elem
  have iF := x_implements
  have vP := x_valueOf
  have tP := x_type
  have hRl := heap_lt hR
  have hg := het.et
  have hgl := World.block_lt_of_cell? w _ hg
  have nI := x_isNil ⟨w.heap.size, 0, none⟩ ⟨R, 0, none⟩ ((w.alloc (.cells #[.pointer (some ⟨R, 0, none⟩)] 47)).alloc (.cells #[hPF, .pointer (some ⟨w.heap.size, 0, none⟩), .int .u64 150] 70)) (by rw [cell_of_row _ w.heap.size 0 _ _ _ ((Below.heap_alloc (w.alloc _) _ _ (by simp)).trans (heap_alloc_new w _))]; rfl)
  have hg2 : ((w.alloc (.cells #[.pointer (some ⟨R, 0, none⟩)] 47)).alloc (.cells #[hPF, .pointer (some ⟨w.heap.size, 0, none⟩), .int .u64 150] 70)).cell? ⟨0, 0, none⟩ = some (.iface tR (.agg #[hE])) := by
    rw [World.cell?_alloc_lt _ _ _ (by simp <;> exact Nat.lt_succ_of_lt hgl), World.cell?_alloc_lt _ _ _ hgl]; exact hg
  have HC := Lib.hid (HA w.heap.size ((w.alloc (.cells #[.pointer (some ⟨R, 0, none⟩)] 47)).alloc (.cells #[hPF, .pointer (some ⟨w.heap.size, 0, none⟩), .int .u64 150] 70)) (.iface 47 (.pointer (some ⟨R, 0, none⟩)))
    (by rw [cell_of_row _ w.heap.size 0 _ _ _ ((Below.heap_alloc (w.alloc _) _ _ (by simp)).trans (heap_alloc_new w _))]; rfl) hRl ((Below.heap_alloc (w.alloc _) _ _ (by simp; omega)).trans ((Below.heap_alloc w _ _ hRl).trans hR)))
  have B0 := Lib.hid (((Below.refl R w).alloc (by omega) (.cells #[.pointer (some ⟨R, 0, none⟩)] 47)).alloc (by simp <;> omega) (.cells #[hPF, .pointer (some ⟨w.heap.size, 0, none⟩), .int .u64 150] 70))
  clear HA hg hR het
  go_enter Tryd.func14, Tryd.ntmps14
  go_wp2_with (go_at_call 26; ((refine HC.out.mono ?_); rintro e w2 ⟨rfl, hr2, hb2⟩; have R2 := Lib.hid hr2; have B2 := Lib.hid (B0.out.trans hb2); clear hr2 hb2))
  go_ret
  exact ⟨rfl, R2.out, B2.out⟩
end
end Go.Proofs.YtjhcbcadagljlaaDoor.Lx
