/-
  What the listed package-level variables give a walk; a world in which they are laid.
-/
import Derived.Test.YtjhcbcadagljlaaDoorRows
import Derived.Test.YtjhcbcadagljlaaDoorLxProg
import Derived.Lay
import Derived.LaidSub
import Derived.LaidHandle
import Derived.Stop.LaidErr
import Derived.ChangeSame
import Derived.ChangeVars
import Derived.JoinedOf
import Derived.Stop.Joined
namespace Go.Proofs.YtjhcbcadagljlaaDoor.Lx
open Go.ChangeShapes Go.WideShapes Go.RowKit

def laidL : List (String × DataW Unit) := [("math/bits.deBruijn32tab", Rows.laid_math_bits_deBruijn32tab), ("math/bits.deBruijn64tab", Rows.laid_math_bits_deBruijn64tab), ("internal/strconv.uint64pow10", Rows.laid_internal_strconv_uint64pow10), ("errors.errorType", Rows.laid_errors_errorType), ("strconv.ErrRange", Rows.laid_strconv_ErrRange), ("strconv.ErrSyntax", Rows.laid_strconv_ErrSyntax)]
def laidD : List (String × DataW Unit) := [("math/bits.deBruijn32tab", Rows.laid_math_bits_deBruijn32tab), ("math/bits.deBruijn64tab", Rows.laid_math_bits_deBruijn64tab), ("internal/strconv.uint64pow10", Rows.laid_internal_strconv_uint64pow10), ("strconv.ErrRange", Rows.laid_strconv_ErrRange), ("strconv.ErrSyntax", Rows.laid_strconv_ErrSyntax)]
theorem g_et : Tryd.prog.globalNamed "errors.errorType" = some 0 := by kernel_rfl
theorem g_es : Tryd.prog.globalNamed "strconv.ErrSyntax" = some 2 := by kernel_rfl
theorem g_esT : (Tryd.prog.globals[2]?).map (·.type) = some 41 := by kernel_rfl
theorem t_rt : (Tryd.prog.cutTypes.find? (·.1 == "internal/reflectlite.rtype")).map (·.2) = some 93 := by kernel_rfl
theorem t_size : Tryd.prog.types.size = 270 - 100 := by kernel_rfl
theorem t_one : ((List.range (270 - 100)).filter fun t => Tryd.prog.rowNamed t [101, 114, 114, 111, 114]) = [41] := by kernel_rfl
theorem t_star : "*" ++ "errors.errorString" = "*errors.errorString" := by decide
theorem t_ptr (u : TypeId) (h : Tryd.prog.typeName? 3 u = some "*errors.errorString") : u = 128 :=
  typeName_ptr_named (nm := "errors.errorString") (by rw [t_star]; kernel_rfl) (by kernel_rfl) (by decide) u (by rw [t_star]; exact h)
theorem c_es : Tryd.prog.cellsOf 130 = 1 := by kernel_rfl
theorem c_str : Tryd.prog.cellsOf 9 = 1 := by kernel_rfl
theorem et_of_laid {W : World} (h : laidMetH Tryd.prog laidL W) : ET W := by
  obtain ⟨hd, hh⟩ := laidMetH_iff.1 h
  refine ⟨?_, ?_⟩
  · obtain ⟨name, u, ty, e1, e2, e3, e4, e5⟩ := hh ("errors.errorType", Rows.laid_errors_errorType) (List.mem_filter.2 ⟨by simp [laidL], rfl⟩)
    have en : name = [101, 114, 114, 111, 114] := (Option.some.inj e1).symm
    subst en
    obtain rfl := Option.some.inj (t_rt.symm.trans e2)
    have hm : ty ∈ (List.range (270 - 100)).filter fun t => Tryd.prog.rowNamed t [101, 114, 114, 111, 114] := List.mem_filter.2 ⟨List.mem_range.2 (by rw [← t_size]; exact e3), e4⟩
    rw [t_one] at hm
    obtain rfl := List.mem_singleton.1 hm
    have ht : typeHandle Tryd.prog 41 = .pointer (some ⟨7, 41, none⟩) := by kernel_rfl
    rw [ht] at e5
    simpa using World.var?_cell g_et e5 0
  · have hs : laidMet Tryd.prog [("strconv.ErrSyntax", Rows.laid_strconv_ErrSyntax)] W := hd.filter (fun x => x.1 == "strconv.ErrSyntax")
    obtain ⟨a, s, hv, _⟩ := laid_sentinel hs g_es g_esT Tryd.underlying41 t_ptr Tryd.underlying128 Tryd.underlying130 rfl rfl Tryd.underlying9 c_es c_str
    exact ⟨_, _, by simpa using World.var?_cell g_es hv 0⟩

/-- A world in which they are laid. -/
noncomputable def laidBase (os : Os) : World :=
  let w0 := World.holding Tryd.prog os ⟨#[], #[], []⟩
  { w0 with heap := w0.heap.modify 0 fun
      | .cells _ t fz => .cells #[.iface 93 (.agg #[.pointer (some ⟨7, 41, none⟩)])] t fz
      | o => o }
noncomputable def laidWorld (os : Os) : World := (laidBase os).layVars Tryd.prog laidD
theorem laidWorld_os (os : Os) : (laidWorld os).os = os := World.layVars_os _ _ _
theorem laid_data (os : Os) : laidMet Tryd.prog laidD (laidWorld os) := by
  have e1 : (laidD.filter fun x => (laidD.map (·.1)).contains x.1) = laidD := List.filter_eq_self.2 fun x hx => List.contains_iff_mem.2 (List.mem_map.2 ⟨x, hx, rfl⟩)
  have e2 : (laidD.filter fun x => !(laidD.map (·.1)).contains x.1) = [] := List.filter_eq_nil_iff.2 fun x hx => by rw [List.contains_iff_mem.2 (List.mem_map.2 ⟨x, hx, rfl⟩)]; simp
  exact laidMet_layVars (w0 := laidBase os) (laidD.map (·.1)) [] (by rw [e1]; rfl) (by rw [e1]; kernel_rfl) (by rw [e1]; kernel_rfl) (by rw [e2]; exact LaidIn.none)
theorem laid_met (os : Os) (args : Array Value) : laidMetH Tryd.prog laidL ((laidWorld os).forCall (fun _ _ => 0) ⟨#[], args, []⟩).memory :=
  laidMetH_of_parts ((laid_data os).of_heap (by simp [World.memory, World.forCall, Input.heap])) (by kernel_rfl)
end Go.Proofs.YtjhcbcadagljlaaDoor.Lx
