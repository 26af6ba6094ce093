/-
  The contracts of the small functions of layer 3.
-/
import Derived.Test.YtkabhpmnhdhodaaBuMem
import Derived.Shelf.Spec.BitsCarry
namespace Go.Proofs.Ytkabhpmnhdhodaa.Bu
open Go.RowKit Go.Shelf

theorem sub64 (x y : Int) (hx : 0 ≤ x) (hy : 0 ≤ y) (hy' : y ≤ mx) (w : World) :
    (callFunc 24 #[.int .u64 x, .int .u64 y, .int .u64 0]).run Try.prog w =
    .ok (.value (.tuple #[.int .u64 ((x - y) % 18446744073709551616), .int .u64 (if x < y then 1 else 0)])) w := by
  unfold mx at hy'
  obtain ⟨x, rfl⟩ := Int.eq_ofNat_of_zero_le hx
  obtain ⟨y, rfl⟩ := Int.eq_ofNat_of_zero_le hy
  have e1 : (((x + 18446744073709551616 - y - 0) % 18446744073709551616 : Nat) : Int) = ((x : Int) - y) % 18446744073709551616 := by omega
  have e2 : ((if x < y + 0 then 1 else 0 : Nat) : Int) = if (x : Int) < y then 1 else 0 := by split <;> split <;> omega
  rw [run_callFunc_extern Try.func24 (by kernel_rfl) (by kernel_rfl) (by kernel_rfl) (e := sub64Entry) (by kernel_rfl)]
  have := run_sub64 (P := Try.prog) x y 0 (by omega) w
  rw [e1, e2] at this
  simp only [Int.natCast_zero] at this
  rw [this]; rfl
theorem sub_fits {x y : Int} (hx : 0 ≤ x) (hx1 : x ≤ mx) (hy : 0 ≤ y) (hy1 : y ≤ mx) (h : ¬ x < y) (w : World) :
    (callFunc 24 #[.int .u64 x, .int .u64 y, .int .u64 0]).run Try.prog w = .ok (.value (.tuple #[.int .u64 (subS x y), .int .u64 0])) w := by
  rw [sub64 x y hx hy hy1, if_neg h, show (x - y) % 18446744073709551616 = subS x y by unfold subS mx at *; rw [if_neg h]; omega]
theorem sub_over {x y : Int} (hx : 0 ≤ x) (hy : 0 ≤ y) (hy1 : y ≤ mx) (h : x < y) (w : World) :
    ∃ r : Int, (callFunc 24 #[.int .u64 x, .int .u64 y, .int .u64 0]).run Try.prog w = .ok (.value (.tuple #[.int .u64 r, .int .u64 1])) w :=
  ⟨_, by rw [sub64 x y hx hy hy1, if_pos h]⟩
theorem sub_any (x y : Int) (hx : 0 ≤ x) (hx1 : x ≤ mx) (hy : 0 ≤ y) (hy1 : y ≤ mx) (w : World) :
    Calls Try.prog 23 #[.int .u64 x, .int .u64 y] w fun e w' => e = .returned (.int .u64 (subS x y)) ∧ w = w' := by
  by_cases h : x < y
  · obtain ⟨r, H⟩ := sub_over hx hy hy1 h w
    have e : subS x y = 0 := by unfold subS; rw [if_pos h]
    rw [e]
    clear hx1 hy1 h e
    go_enter Try.func23, Try.ntmps23
    go_wp2
    go_ret
    exact ⟨rfl, rfl⟩
  · have H := sub_fits hx hx1 hy hy1 h w
    clear hx1 hy1 h
    go_enter Try.func23, Try.ntmps23
    go_wp2
    go_ret
    exact ⟨rfl, rfl⟩
theorem refsub_any (x y : Int) (hx : 0 ≤ x) (hx1 : x ≤ mx) (hy : 0 ≤ y) (hy1 : y ≤ mx) (w : World) :
    Calls Try.prog 20 #[.int .u64 x, .int .u64 y] w fun e w' => e = .returned (.int .u64 (subS x y)) ∧ w = w' := by
  unfold mx at hx1 hy1
  have H : Hid (subS x y = x - min x y) := Lib.hid (by unfold subS; split <;> omega)
  go_enter Try.func20, Try.ntmps20
  go_wp2
  all_goals
    go_ret
    exact ⟨ret_u (by have := H.out; omega), rfl⟩

/-- Is the time t too old? As the closure says it. -/
theorem old_any {w : World} {now win t : Int} {b1 b2 : Nat} (c1 : w.cell? ⟨b1, 0, none⟩ = some (.int .u64 now)) (c2 : w.cell? ⟨b2, 0, none⟩ = some (.int .u64 win))
    (n0 : 0 ≤ now) (n1 : now ≤ mx) (t0 : 0 ≤ t) (t1 : t ≤ mx) :
    Calls Try.prog 22 #[.int .u64 t, .pointer (some ⟨b1, 0, none⟩), .pointer (some ⟨b2, 0, none⟩)] w fun e w' => e = .returned (.bool (!young now win t)) ∧ ∃ q, w' = w.drewN q := by
  have HS := Lib.hid (fun W => (sub_any now t n0 n1 t0 t1 W).mono fun _ _ ⟨he, hw⟩ => (⟨he, hw.symm⟩ : _ ∧ _ = W))
  have HE : Hid ((!young now win t) = decide (win ≤ subS now t)) := Lib.hid (by unfold young; by_cases h : subS now t < win <;> simp [h] <;> omega)
  clear n0 n1 t0 t1
  generalize subS now t = s at HS HE
  go_enter Try.func22, Try.ntmps22
  go_wp2_with fail
  go_quiet ((go_at_call 23; exact Calls.quiet_of_same (HS.out _)))
  go_wp2_with fail
  go_ret
  exact ⟨ret_b HE.out.symm, _, rfl⟩

theorem outside_any (now win : Int) (w : World) :
    Calls Try.prog 19 #[.int .u64 now, .int .u64 win] w fun e w' =>
      e = .returned (.func (.func 22) #[] #[.pointer (some ⟨w.heap.size, 0, none⟩), .pointer (some ⟨w.heap.size + 1, 0, none⟩)]) ∧
      w' = (w.alloc (.cells #[.int .u64 now] 23)).alloc (.cells #[.int .u64 win] 23) := by
  go_enter Try.func19, Try.ntmps19
  go_wp2
  go_ret
  exact ⟨rfl, rfl⟩

/-- A restart is decided about: yes. -/
theorem decide_yes {w : World} {B : Nat} {v : Value} {l : List Int} {most : Int} (now : Int) (h : Seg w B v l) (hl : l.length ≤ 1000) (hB : B ≤ w.heap.size) (hm : (l.length : Int) < most) :
    Calls Try.prog 16 #[v, .int .i64 most, .int .u64 now] w fun e w' => ∃ v', e = .returned (.tuple #[v', .bool true]) ∧ Seg w' B v' (l ++ [now]) ∧ Fr B w w' := by
  obtain ⟨A, c, rfl, hr⟩ := h.shape
  have H := Lib.hid h
  have hA : Below w.heap.size w (w.alloc (.cells #[.int .u64 now] 23)) := (Below.refl _ _).alloc (Nat.le_refl _) _
  have HA := Lib.hid hA
  clear h hr hA
  go_enter Try.func16, Try.ntmps16
  go_wp2_with (at_builtin; refine wpList_append_seg rfl _ _ rfl now rfl (H.out.below HA.out) (by omega) (by simp; omega) ⟨w.heap.size, 0, none⟩ 1 rfl (by simp) ?_; intro v' w2 hS hF; have S2 := Lib.hid hS; have F2 := Lib.hid hF; clear hS hF)
  go_ret2
  exact ⟨_, rfl, S2.out, (Fr.of_below HA.out hB).trans F2.out⟩
/-- .. no. -/
theorem decide_no {w : World} {l : List Int} {A : Option Addr} {c : Nat} {most : Int} (now : Int) (hm : ¬ (l.length : Int) < most) :
    Calls Try.prog 16 #[.slice A l.length c, .int .i64 most, .int .u64 now] w fun e w' => e = .returned (.tuple #[.slice A l.length c, .bool false]) ∧ w = w' := by
  have hm' : most ≤ (l.length : Int) := by omega
  clear hm
  go_enter Try.func16, Try.ntmps16
  go_wp2
  go_ret2
  exact ⟨rfl, rfl⟩
end Go.Proofs.Ytkabhpmnhdhodaa.Bu
