/-
  Layer 7: the place of a name, in the program and in the reference.
-/
import Derived.Test.YtohiioafdajhmaaGpJobs
namespace Go.Proofs.Ytohiioafdajhmaa.Gp
open Go.RowKit

abbrev JobB (x : J15) : Obj := .cells x.arr 45
set_option maxRecDepth 100000 in
theorem gname_ex {w : World} {nb : Nat} {s : ByteArray} (hbox : w.cell? ⟨nb, 0, none⟩ = some (.string s)) (x : J15) :
    Calls Try.prog 46 #[.agg x.arr, .pointer (some ⟨nb, 0, none⟩)] w fun e w' => e = .returned (.bool (decide (x.nm = s))) ∧ Below w.heap.size w w' := by
  have k1 := heap_alloc_new w (JobB x)
  have t0 := cell_of_row _ _ 0 _ _ _ k1
  have b0 := cell_up (balloc w (JobB x)) hbox
  have B := Lib.hid (balloc w (JobB x))
  clear k1 hbox
  go_enter Try.func46, Try.ntmps46
  go_wp2_with fail
  go_ret
  exact ⟨ret_i0 (congrArg Value.bool (str_eq x.nm s)), B.out⟩
set_option maxHeartbeats 2000000 in
set_option maxRecDepth 100000 in
theorem gidxf_ex {w : World} {v : Value} {js : List GJ} (h : JL w v js) {nb : Nat} {s : ByteArray} (hbox : w.cell? ⟨nb, 0, none⟩ = some (.string s)) :
    Calls Try.prog 45 #[v, .func (Fn.func 46) #[] #[.pointer (some ⟨nb, 0, none⟩)]] w fun e w' => e = .returned (.int .i64 (idxI js s)) ∧ Below w.heap.size w w' := by
  have hfew := h.few
  obtain ⟨A, c, rfl⟩ := h.form
  obtain ⟨_, hl⟩ := h.lies
  obtain ⟨n, hn⟩ : ∃ n, n = js.length := ⟨_, rfl⟩
  rw [← hn] at hfew ⊢
  have HN := Lib.hid hn
  have H := Lib.hid hl
  have BX := Lib.hid hbox
  clear hl h hbox hn
  go_enter Try.func45, Try.ntmps45
  go_wp2_with fail
  go_loopg [8] (n + 1) (fun g' i wr => ∃ (k : Nat), i = .int .i64 k ∧ k ≤ n ∧ idxN js s = firstF (nmB js s) (n - k) k ∧ n - k + 1 ≤ g' ∧ Below w.heap.size w wr)
  case atStart => exact ⟨0, rfl, by omega, by rw [HN.out]; rfl, by omega, Below.refl _ _⟩
  case round =>
    obtain ⟨k, rfl, hk, hno, hg, hbr⟩ := hrel
    obtain ⟨wo, rfl⟩ : ∃ wo : World, wo = wr := ⟨_, rfl⟩
    have BR := Lib.hid hbr
    have NO := Lib.hid hno
    by_cases hkn : k < n
    · have hki : (k : Int) < (n : Int) := by omega
      have hkl : k < js.length := by rw [← HN.out]; exact hkn
      have hx : js[k]? = some js[k] := List.getElem?_eq_getElem hkl
      generalize js[k] = x at hx
      have hp := nmB_at (s := s) hx
      obtain ⟨g, off, rfl, h0, h1, h2, h3, h4, h5, h6, h7, h8, h9, h10, h11, h12, h13, h14⟩ := H.out.below hbr k x hx
      have HF := Lib.hid (gname_ex (cell_up hbr BX.out) x.j)
      have P := Lib.hid hp
      clear hbr hno hp
      by_cases hst : x.j.nm = s
      · rw [decide_eq_true hst] at HF P
        have hr : idxI js s = k := by unfold idxI; rw [NO.out, show n - k = n - k - 1 + 1 by omega, firstF_yes P.out]; rfl
        have R := Lib.hid hr
        clear hr hst
        go_wp2_with (go_at_call 46; ((with_reducible refine HF.out.mono ?_); rintro e w1 ⟨rfl, hb1⟩; have B1 := Lib.hid (BR.out.trans (hb1.mono BR.out.size)); clear hb1))
        go_ret
        exact ⟨ret_i R.out.symm, B1.out⟩
      · rw [decide_eq_false hst] at HF P
        clear hst
        go_wp2_with (go_at_call 46; ((with_reducible refine HF.out.mono ?_); rintro e w1 ⟨rfl, hb1⟩; have B1 := Lib.hid (BR.out.trans (hb1.mono BR.out.size)); clear hb1))
        go_roundg (n - (k + 1) + 1)
        case measure => omega
        case rel => exact ⟨k + 1, by go_num, by omega, by rw [NO.out, show n - k = n - (k + 1) + 1 by omega, firstF_no P.out], Nat.le_refl _, B1.out⟩
    · obtain rfl : k = n := by omega
      have hr : idxI js s = -1 := by unfold idxI; rw [NO.out, Nat.sub_self]; rfl
      have R := Lib.hid hr
      clear hr hno hbr
      go_wp2_with fail
      go_ret
      exact ⟨ret_i R.out.symm, BR.out⟩
theorem gindex_ex {w : World} {v : Value} {js : List GJ} (h : JL w v js) (s : ByteArray) :
    Calls Try.prog 22 #[v, .string s] w fun e w' => e = .returned (.int .i64 (idxI js s)) ∧ Below w.heap.size w w' := by
  have B0 := Lib.hid (balloc w (.cells #[.string s] 9))
  have HI := Lib.hid (gidxf_ex (h.below B0.out) (nb := w.heap.size) (s := s) (cell_of_row _ _ 0 _ _ _ (heap_alloc_new w (.cells #[.string s] 9))))
  obtain ⟨A, c, rfl⟩ := h.form
  clear h
  have hmf : ∀ (fn : Fn) (first cap : Array Value) (w : World), (Instr.makeFunc fn first cap).run Try.prog w = .ok (.func fn first cap) w := fun _ _ _ _ => rfl
  go_enter Try.func22, Try.ntmps22
  go_wp2_with (go_at_call 45; ((with_reducible refine HI.out.mono ?_); rintro e w1 ⟨rfl, hb1⟩; have B1 := Lib.hid (B0.out.trans (hb1.mono B0.out.size)); clear hb1))
  go_ret
  exact ⟨rfl, B1.out⟩
set_option maxHeartbeats 2000000 in
set_option maxRecDepth 100000 in
theorem rindex_ex {w : World} {v : Value} {js : List GJ} (h : JL w v js) (s : ByteArray) :
    Calls Try.prog 23 #[v, .string s] w fun e w' => e = .returned (.int .i64 (idxI js s)) ∧ ∃ m, w' = w.drewN m := by
  have hfew := h.few
  obtain ⟨A, c, rfl⟩ := h.form
  obtain ⟨_, hl⟩ := h.lies
  obtain ⟨n, hn⟩ : ∃ n, n = js.length := ⟨_, rfl⟩
  rw [← hn] at hfew ⊢
  have HN := Lib.hid hn
  have H := Lib.hid hl
  clear hl h hn
  go_enter Try.func23, Try.ntmps23
  go_wp2_with fail
  go_loopg [5] (n + 1) (fun g' i wr => ∃ (k : Nat), i = .int .i64 k ∧ k ≤ n ∧ idxN js s = firstF (nmB js s) (n - k) k ∧ n - k + 1 ≤ g' ∧ ∃ m, wr = w.drewN m)
  case atStart => exact ⟨0, rfl, by omega, by rw [HN.out]; rfl, by omega, 0, rfl⟩
  case round =>
    obtain ⟨k, rfl, hk, hno, hg, m, rfl⟩ := hrel
    have NO := Lib.hid hno
    clear hno
    by_cases hkn : k < n
    · have hki : (k : Int) < (n : Int) := by omega
      have hkl : k < js.length := by rw [← HN.out]; exact hkn
      have hx : js[k]? = some js[k] := List.getElem?_eq_getElem hkl
      generalize js[k] = x at hx
      have hp := nmB_at (s := s) hx
      obtain ⟨g, off, rfl, h0, _⟩ := H.out k x hx
      have P := Lib.hid hp
      clear hp
      by_cases hst : x.j.nm = s
      · rw [decide_eq_true hst] at P
        have hr : idxI js s = k := by unfold idxI; rw [NO.out, show n - k = n - k - 1 + 1 by omega, firstF_yes P.out]; rfl
        have R := Lib.hid hr
        have hsb : (x.j.nm.toList == s.toList) = true := by rw [str_eq]; exact decide_eq_true hst
        clear hr
        go_wp2_with fail
        go_ret
        exact ⟨ret_i R.out.symm, m, rfl⟩
      · rw [decide_eq_false hst] at P
        have hsb : (x.j.nm.toList == s.toList) = false := by rw [str_eq]; exact decide_eq_false hst
        go_wp2_with fail
        go_roundg (n - (k + 1) + 1)
        case measure => omega
        case rel => exact ⟨k + 1, by go_num, by omega, by rw [NO.out, show n - k = n - (k + 1) + 1 by omega, firstF_no P.out], Nat.le_refl _, m, rfl⟩
    · obtain rfl : k = n := by omega
      have hr : idxI js s = -1 := by unfold idxI; rw [NO.out, Nat.sub_self]; rfl
      have R := Lib.hid hr
      clear hr
      go_wp2_with fail
      go_ret
      exact ⟨ret_i R.out.symm, m, rfl⟩
end Go.Proofs.Ytohiioafdajhmaa.Gp
