/-
  Layer 7, the program: Order, Dependents.
-/
import Derived.Test.YtohiioafdajhmaaGpChoose
namespace Go.Proofs.Ytohiioafdajhmaa.Gp
open Go.RowKit

theorem nnOf_few {w : World} {v : Value} {js : List GJ} (h : JL w v js) : (nnOf js).length ≤ 12 := by rw [nnOf_length]; exact h.few
theorem gord_ex {w : World} {v : Value} {nn : List (List Nat)} (h : LL w v nn) (hlt : ∀ i, ∀ k ∈ nn.getD i [], k < nn.length) (hfew : nn.length ≤ 12) :
    Calls Try.prog 29 #[v] w fun e w' => ∃ v', e = .returned v' ∧ Own 3 .i64 w' w.heap.size v' (ints (orderN nn)) ∧ Below w.heap.size w w' := by
  have HC := Lib.hid (gchooseO_ex h hlt hfew)
  obtain ⟨A, c, rfl, _⟩ := h
  go_enter Try.func29, Try.ntmps29
  go_wp2_with (go_at_call 41; ((with_reducible refine HC.out.mono ?_); rintro e w1 ⟨v1, rfl, ho1, hb1⟩; have O1 := Lib.hid ho1; have B1 := Lib.hid hb1; obtain ⟨A1, c1, rfl⟩ := own_formN ho1; clear ho1 hb1))
  go_ret
  exact ⟨_, rfl, O1.out, B1.out⟩
theorem gorder_ex {w : World} {v : Value} {js : List GJ} (h : JL w v js) :
    Calls Try.prog 13 #[v] w fun e w' => ∃ v', e = .returned v' ∧ Own 3 .i64 w' w.heap.size v' (ints (orderN (nnOf js))) ∧ Below w.heap.size w w' := by
  have HA := Lib.hid (gall_ex h)
  have hfew := nnOf_few h
  have HO := Lib.hid (fun (W : World) (u : Value) (hu : LL W u (nnOf js)) => gord_ex hu (nnOf_bd js) hfew)
  obtain ⟨A, c, rfl⟩ := h.form
  clear h hfew
  go_enter Try.func13, Try.ntmps13
  go_wp2_with (first
    | (go_at_call 30; ((with_reducible refine HA.out.mono ?_); rintro e w1 ⟨v1, rfl, hl1, hb1⟩; have L1 := Lib.hid (HO.out _ _ hl1); have B1 := Lib.hid hb1; obtain ⟨A1, c1, rfl, _⟩ := hl1; clear hb1))
    | (go_at_call 29; ((with_reducible refine L1.out.mono ?_); rintro e w2 ⟨v2, rfl, ho2, hb2⟩; have O2 := Lib.hid (ho2.mono B1.out.size); have B2 := Lib.hid (B1.out.trans (hb2.mono B1.out.size)); obtain ⟨A2, c2, rfl⟩ := own_formN ho2; clear ho2 hb2)))
  go_ret
  exact ⟨_, rfl, O2.out, B2.out⟩
set_option maxHeartbeats 1000000 in
theorem gdep_ex {w : World} {v : Value} {js : List GJ} (h : JL w v js) (i : Int) :
    Calls Try.prog 19 #[v, .int .i64 i] w (LPost .i64 w (ints (ascN js.length (reachN (nnOf js) i)))) := by
  have hmf : ∀ (fn : Fn) (first cap : Array Value) (w : World), (Instr.makeFunc fn first cap).run Try.prog w = .ok (.func fn first cap) w := fun _ _ _ _ => rfl
  have B0 := Lib.hid (balloc w (.cells #[.int .i64 i] 3))
  have HA := Lib.hid (gall_ex (h.below B0.out))
  have hfew := nnOf_few h
  have hrl : (reachN (nnOf js) i).length ≤ 12 := by have := (chooseN_run (nnOf js) (fitsD i)).1.cnt; unfold reachN; omega
  have HC := Lib.hid (fun (W : World) (u : Value) (hu : LL W u (nnOf js)) (hb : Below (w.alloc (.cells #[.int .i64 i] 3)).heap.size (w.alloc (.cells #[.int .i64 i] 3)) W) => gchooseD_ex hu (nnOf_bd js) hfew (ib := w.heap.size) (i0 := i) (cell_up hb (by have := cell_of_row _ _ 0 _ _ _ (heap_alloc_new w (.cells #[.int .i64 i] 3)); exact this)))
  have HR := Lib.hid (fun x (hx : x ∈ reachN (nnOf js) i) => (by have := reach_lt (nn := nnOf js) (i := i) x hx; rw [nnOf_length] at this; exact this : x < js.length))
  have HND := Lib.hid (reach_nodup (nn := nnOf js) (i := i))
  have HRL := Lib.hid hrl
  obtain ⟨A, c, rfl⟩ := h.form
  clear h hfew hrl
  go_enter Try.func19, Try.ntmps19
  go_wp2_with (first
    | (go_at_call 30; ((with_reducible refine HA.out.mono ?_); rintro e w1 ⟨v1, rfl, hl1, hb1⟩; have L1 := Lib.hid (HC.out _ _ hl1 hb1); have B1 := Lib.hid (B0.out.trans (hb1.mono B0.out.size)); obtain ⟨A1, c1, rfl, _⟩ := hl1; clear hb1))
    | (go_at_call 41; ((with_reducible refine L1.out.mono ?_); rintro e w2 ⟨v2, rfl, ho2, hb2⟩; have B2 := Lib.hid (B1.out.trans (hb2.mono B1.out.size)); have S2 := Lib.hid (sort_own (ho2.mono B1.out.size) (by rw [ints_length]; have := HRL.out; unfold reachN at this; omega) B2.out.size); obtain ⟨A2, c2, rfl⟩ := own_formN ho2; clear ho2 hb2))
    | (go_at_call 38; ((with_reducible refine S2.out.mono ?_); rintro e w3 ⟨rfl, ho3, hb3⟩; rw [show chooseN (nnOf js) (fitsD i) = reachN (nnOf js) i from rfl, sorted_nodup HR.out HND.out] at ho3; have O3 := Lib.hid ho3; have B3 := Lib.hid (B2.out.trans hb3); clear ho3 hb3)))
  go_ret
  exact ⟨_, rfl, O3.out.lst, B3.out⟩
end Go.Proofs.Ytohiioafdajhmaa.Gp
