/-
  Layer 5: tokens compared; the statements' example.
-/
import Derived.Test.YtjhcbcadagljlaaDoorLxProg
namespace Go.Proofs.YtjhcbcadagljlaaDoor.Lx
open Go.RowKit

set_option maxRecDepth 100000 in
set_option maxHeartbeats 1000000 in
theorem tsame_any {w : World} {v1 v2 : Value} {ts : List Tok} (h1 : TLst w v1 ts) (h2 : TLst w v2 ts) : Calls Tryd.prog 9 #[v1, v2] w (QPost w (.bool true)) := by
  obtain ⟨A1, k1, rfl, r1, _, m1, m2⟩ := h1
  obtain ⟨A2, k2, rfl, r2, _⟩ := h2
  have hm : ts.length ≤ 9223372036854775807 := by unfold maxLen at m2; omega
  clear m1 m2
  have R1 := Lib.hid r1
  have R2 := Lib.hid r2
  clear r1 r2
  go_enter Tryd.func9, Tryd.ntmps9
  go_wp2_with fail
  go_loopg [5] (ts.length + 1) (fun g' i wr => ∃ (k m : Nat), i = .int .i64 k ∧ k ≤ ts.length ∧ ts.length - k + 1 ≤ g' ∧ wr = w.drewN m)
  case atStart => exact ⟨0, 0, rfl, Nat.zero_le _, by omega, rfl⟩
  case round =>
    obtain ⟨k, m, rfl, hk, hg, rfl⟩ := hrel
    by_cases hkn : k < ts.length
    · obtain ⟨t, ht⟩ : ∃ t, ts[k]? = some t := ⟨ts[k], List.getElem?_eq_getElem hkn⟩
      have hki : (k : Int) < (ts.length : Int) := by omega
      obtain ⟨g1, o1, rfl, e1⟩ := R1.out (by omega)
      obtain ⟨g2, o2, rfl, e2⟩ := R2.out (by omega)
      obtain ⟨a1, a2, a3, a4⟩ := e1 k t ht
      obtain ⟨b1, b2, b3, b4⟩ := e2 k t ht
      obtain ⟨tk, tt, tl, tc⟩ := t
      simp only at a1 a2 a3 a4 b1 b2 b3 b4
      generalize bytesOf tt = s at *
      clear ht e1 e2
      go_wp2_with fail
      go_quiet (fail)
      go_wp2_with fail
      go_roundg (ts.length - (k + 1) + 1)
      case measure => omega
      case rel => exact ⟨k + 1, _, by go_num, by omega, Nat.le_refl _, rfl⟩
    · obtain rfl : k = ts.length := by omega
      go_wp2_with fail
      go_ret
      exact ⟨rfl, m, rfl⟩
end Go.Proofs.YtjhcbcadagljlaaDoor.Lx
