/-
  Layer 4, the reference: the contracts of prefix, Valid and Flush.
-/
import Derived.Test.YtjcgcloanamabaaRuPreMath
namespace Go.Proofs.Ytjcgcloanamabaa.Ru
open Go.RowKit

def PPost (w : World) (l : List Int) (e : Ending) (w' : World) : Prop := e = .returned (.tuple #[.bool (fits l), .bool (full l)]) ∧ Below w.heap.size w w'
theorem ret_p {w w' : World} {l : List Int} {a b : Bool} (h : a = fits l) (k : b = full l) (hb : Below w.heap.size w w') : PPost w l (.returned (.tuple #[.bool a, .bool b])) w' := ⟨by rw [h, k], hb⟩
theorem same_at {w : World} {f : Nat} {args : Array Value} {v : Value} (h : ∀ q, Calls Try.prog f args (w.drewN q) (QPost (w.drewN q) v)) : ∀ q, Calls Try.prog f args (w.drewN q) fun e w' => e = .returned v ∧ ∃ m, w' = w.drewN m :=
  fun q => (h q).mono fun _ _ ⟨he, m, hw⟩ => ⟨he, q + m, by rw [hw]; exact World.drewN_drewN _ _ _⟩

theorem prefix_nil {w : World} {A : Option Addr} {c : Nat} : Calls Try.prog 31 #[.slice A 0 c] w (PPost w []) := by
  go_enter Try.func31, Try.ntmps31
  go_wp2_with fail
  go_ret2
  exact ret_p rfl rfl (Below.refl _ _)
theorem prefix_long {w : World} {g off c : Nat} {a : Int} {t : List Int} (d0 : w.cell? ⟨g, off, none⟩ = some (.int .u8 a)) (a0 : 0 ≤ a) (a1 : a ≤ 255) (hl : len1 a < (t.length : Int) + 1) :
    Calls Try.prog 31 #[.slice (some ⟨g, off, none⟩) (t.length + 1) c] w (PPost w (a :: t)) := by
  have E := Lib.hid (fits_long hl)
  have HS := Lib.hid (fun W => size_any a a0 a1 W)
  have hp : (0 : Int) < (t.length : Int) + 1 := by omega
  by_cases h0 : len1 a = 0
  · rw [h0] at HS
    clear hl h0
    go_enter Try.func31, Try.ntmps31
    go_wp2_with (go_at_call 36; ((with_reducible refine (HS.out _).mono ?_); rintro e w' ⟨rfl, rfl⟩))
    go_ret2
    exact ret_p E.out.symm (full_none E.out).symm (Below.refl _ _)
  · have h0' : (len1 a == 0) = false := beq_eq_false_iff_ne.2 h0
    generalize len1 a = n at *
    clear h0
    go_enter Try.func31, Try.ntmps31
    go_wp2_with (go_at_call 36; ((with_reducible refine (HS.out _).mono ?_); rintro e w' ⟨rfl, rfl⟩))
    go_ret2
    exact ret_p E.out.symm (full_none E.out).symm (Below.refl _ _)

set_option maxRecDepth 100000 in
set_option maxHeartbeats 2000000 in
theorem prefix_1 {w : World} {g off c : Nat} {a : Int} {t : List Int} (d0 : w.cell? ⟨g, off, none⟩ = some (.int .u8 a)) (hcells : ∀ j x, t[j]? = some x → w.cell? ⟨g, off + (j + 1), none⟩ = some (.int .u8 x)) (a0 : 0 ≤ a) (a1 : a ≤ 255) (ht : By t)
    (hn : len1 a = 1) (h1 : a ≤ 127) (hl : t.length ≤ 0) :
    Calls Try.prog 31 #[.slice (some ⟨g, off, none⟩) (t.length + 1) c] w (PPost w (a :: t)) := by
  have HS := Lib.hid (fun W => size_any a a0 a1 W)
  rw [hn] at HS
  have HT := Lib.hid ht
  have HC := Lib.hid hcells
  have HB := Lib.hid (fun (x : Int) (hx : x ∈ t) (h : cont x = false) => fits_bad (a := a) hx h)
  have HF := Lib.hid (fun (h : fits (a :: t) = true) => full_of h)
  rw [hn] at HF
  have HZ := Lib.hid (fun (h : fits (a :: t) = false) => full_none h)
  obtain rfl : t = [] := List.eq_nil_of_length_eq_zero (by omega)
  have HE := Lib.hid (fun (_ : ∀ x ∈ ([] : List Int), cont x = true) => pre_1 a0 h1)
  have N0 := Lib.hid (num_1 (w := w) (c := c) (d := 0) d0 a0 a1)
  have N1 := Lib.hid (same_at fun q => num_1 (w := w.drewN q) (c := c) (d := 63) d0 a0 a1)
  simp only [List.length_nil, Nat.zero_add]
  clear hcells ht hn a0 a1 h1 hl
  go_enter Try.func31, Try.ntmps31
  go_wp2_with (go_at_call 36; ((with_reducible refine (HS.out _).mono ?_); rintro e w' ⟨rfl, rfl⟩))
  go_loopg [5] (1 + 1) (fun g' i wr => ∃ (k : Nat), i = .int .i64 ((k : Int) + 1) ∧ k ≤ 0 ∧ 1 - k + 1 ≤ g' ∧ (∀ x ∈ ([] : List Int).take k, cont x = true) ∧ wr = w)
  case atStart => exact ⟨0, rfl, by omega, by omega, by simp, rfl⟩
  case round =>
    obtain ⟨k, rfl, hk, hg, hc, rfl⟩ := hrel
    obtain rfl : k = 0 := by omega
    have E := Lib.hid (HE.out (fun x hx => by simp at hx))
    clear hc
    go_wp2_with (first
      | (go_at_call 32; ((with_reducible refine N0.out.mono ?_); rintro e w' ⟨rfl, q1, rfl⟩))
      | (go_at_call 32; ((with_reducible refine (N1.out _).mono ?_); rintro e w2 ⟨rfl, q2, hw2⟩; have B2 : Hid (Below wr.heap.size wr w2) := Lib.hid (by rw [hw2]; exact below_drewN _ _); clear hw2)))
    all_goals
      go_ret2
      first
        | exact ret_p (by rw [E.out]; unfold ok4; exact (decide_eq_true (by omega)).symm) (by rw [HF.out (by rw [E.out]; unfold ok4; exact decide_eq_true (by omega))]; rw [Bool.eq_iff_iff]; simp) (B2.out.alloc B2.out.size _)
        | exact ret_p (by rw [E.out]; unfold ok4; exact (decide_eq_false (by omega)).symm) (HZ.out (by rw [E.out]; unfold ok4; exact decide_eq_false (by omega))).symm (B2.out.alloc B2.out.size _)

set_option maxRecDepth 100000 in
set_option maxHeartbeats 2000000 in
theorem prefix_2 {w : World} {g off c : Nat} {a : Int} {t : List Int} (d0 : w.cell? ⟨g, off, none⟩ = some (.int .u8 a)) (hcells : ∀ j x, t[j]? = some x → w.cell? ⟨g, off + (j + 1), none⟩ = some (.int .u8 x)) (a0 : 0 ≤ a) (a1 : a ≤ 255) (ht : By t)
    (hn : len1 a = 2) (h0 : 194 ≤ a) (h1 : a ≤ 223) (hl : t.length ≤ 1) :
    Calls Try.prog 31 #[.slice (some ⟨g, off, none⟩) (t.length + 1) c] w (PPost w (a :: t)) := by
  have HS := Lib.hid (fun W => size_any a a0 a1 W)
  rw [hn] at HS
  have HT := Lib.hid ht
  have HC := Lib.hid hcells
  have HB := Lib.hid (fun (x : Int) (hx : x ∈ t) (h : cont x = false) => fits_bad (a := a) hx h)
  have HF := Lib.hid (fun (h : fits (a :: t) = true) => full_of h)
  rw [hn] at HF
  have HZ := Lib.hid (fun (h : fits (a :: t) = false) => full_none h)
  have HE := Lib.hid (pre_2 h0 h1 hl)
  have N0 := Lib.hid (num_2 (w := w) (c := c) (d := 0) hl d0 hcells a0 a1 ht (by omega) (by omega))
  have N1 := Lib.hid (same_at fun q => num_2 (w := w.drewN q) (c := c) (d := 63) hl d0 hcells a0 a1 ht (by omega) (by omega))
  generalize accD (a % 32) (dg t 1 0) = L at *
  generalize accD (a % 32) (dg t 1 63) = M at *
  have hp : (0 : Int) < (t.length : Int) + 1 := by omega
  have hp2 : (t.length : Int) + 1 ≤ 2 := by omega
  clear hcells ht hn a0 a1 h0 h1 hl
  go_enter Try.func31, Try.ntmps31
  go_wp2_with (go_at_call 36; ((with_reducible refine (HS.out _).mono ?_); rintro e w' ⟨rfl, rfl⟩))
  go_loopg [5] (2 + 1) (fun g' i wr => ∃ (k : Nat), i = .int .i64 ((k : Int) + 1) ∧ k ≤ t.length ∧ 2 - k + 1 ≤ g' ∧ (∀ x ∈ t.take k, cont x = true) ∧ wr = w)
  case atStart => exact ⟨0, rfl, by omega, by omega, by simp, rfl⟩
  case round =>
    obtain ⟨k, rfl, hk, hg, hc, rfl⟩ := hrel
    have HCO := Lib.hid hc
    clear hc
    by_cases hkn : k < t.length
    · obtain ⟨x, hx⟩ : ∃ x, t[k]? = some x := ⟨t[k], List.getElem?_eq_getElem _⟩
      have hki : (k : Int) + 1 < (t.length : Int) + 1 := by omega
      have dx := HC.out k x hx
      obtain ⟨x0, x1⟩ := HT.out x (List.mem_of_getElem? hx)
      have HX := Lib.hid (u8_c0 x x0 x1)
      have HM := Lib.hid (List.mem_of_getElem? hx)
      have HTK := Lib.hid (take_snoc' hx)
      clear hx x0 x1
      cases hcx : cont x with
      | true =>
        rw [hcx] at HX
        have HY := Lib.hid hcx
        have bne : (bits .and .u8 x 192 != 128) = false := by have := HX.out; simp only [bne, this]; rfl
        clear hcx
        go_wp2_with fail
        go_roundg (2 - (k + 1) + 1)
        case measure => omega
        case rel =>
          refine ⟨k + 1, by go_num, by omega, Nat.le_refl _, fun y hy => ?_, rfl⟩
          rw [HTK.out] at hy
          rcases List.mem_append.1 hy with hy | hy
          · exact HCO.out y hy
          · simp at hy; subst hy; exact HY.out
      | false =>
        rw [hcx] at HX
        have E := Lib.hid (HB.out x HM.out hcx)
        have bne : (bits .and .u8 x 192 != 128) = true := by have := HX.out; simp only [bne, this]; rfl
        clear hcx
        go_wp2_with fail
        go_ret2
        exact ret_p E.out.symm (HZ.out E.out).symm (Below.refl _ _)
    · obtain rfl : k = t.length := by omega
      have E := Lib.hid (HE.out (fun x hx => HCO.out x (by rw [List.take_length]; exact hx)))
      go_wp2_with (first
        | (go_at_call 32; ((with_reducible refine N0.out.mono ?_); rintro e w' ⟨rfl, q1, rfl⟩))
        | (go_at_call 32; ((with_reducible refine (N1.out _).mono ?_); rintro e w2 ⟨rfl, q2, hw2⟩; have B2 : Hid (Below wr.heap.size wr w2) := Lib.hid (by rw [hw2]; exact below_drewN _ _); clear hw2)))
      all_goals
        go_ret2
        first
          | exact ret_p (by rw [E.out]; unfold ok4; exact (decide_eq_true (by omega)).symm) (by rw [HF.out (by rw [E.out]; unfold ok4; exact decide_eq_true (by omega))]; rw [Bool.eq_iff_iff]; simp) (B2.out.alloc B2.out.size _)
          | exact ret_p (by rw [E.out]; unfold ok4; exact (decide_eq_false (by omega)).symm) (HZ.out (by rw [E.out]; unfold ok4; exact decide_eq_false (by omega))).symm (B2.out.alloc B2.out.size _)

set_option maxRecDepth 100000 in
set_option maxHeartbeats 2000000 in
theorem prefix_3 {w : World} {g off c : Nat} {a : Int} {t : List Int} (d0 : w.cell? ⟨g, off, none⟩ = some (.int .u8 a)) (hcells : ∀ j x, t[j]? = some x → w.cell? ⟨g, off + (j + 1), none⟩ = some (.int .u8 x)) (a0 : 0 ≤ a) (a1 : a ≤ 255) (ht : By t)
    (hn : len1 a = 3) (h0 : 224 ≤ a) (h1 : a ≤ 239) (hl : t.length ≤ 2) :
    Calls Try.prog 31 #[.slice (some ⟨g, off, none⟩) (t.length + 1) c] w (PPost w (a :: t)) := by
  have HS := Lib.hid (fun W => size_any a a0 a1 W)
  rw [hn] at HS
  have HT := Lib.hid ht
  have HC := Lib.hid hcells
  have HB := Lib.hid (fun (x : Int) (hx : x ∈ t) (h : cont x = false) => fits_bad (a := a) hx h)
  have HF := Lib.hid (fun (h : fits (a :: t) = true) => full_of h)
  rw [hn] at HF
  have HZ := Lib.hid (fun (h : fits (a :: t) = false) => full_none h)
  have HE := Lib.hid (pre_3 h0 h1 hl)
  have N0 := Lib.hid (num_3 (w := w) (c := c) (d := 0) hl d0 hcells a0 a1 ht (by omega) (by omega))
  have N1 := Lib.hid (same_at fun q => num_3 (w := w.drewN q) (c := c) (d := 63) hl d0 hcells a0 a1 ht (by omega) (by omega))
  generalize accD (a % 16) (dg t 2 0) = L at *
  generalize accD (a % 16) (dg t 2 63) = M at *
  have hp : (0 : Int) < (t.length : Int) + 1 := by omega
  have hp2 : (t.length : Int) + 1 ≤ 3 := by omega
  clear hcells ht hn a0 a1 h0 h1 hl
  go_enter Try.func31, Try.ntmps31
  go_wp2_with (go_at_call 36; ((with_reducible refine (HS.out _).mono ?_); rintro e w' ⟨rfl, rfl⟩))
  go_loopg [5] (3 + 1) (fun g' i wr => ∃ (k : Nat), i = .int .i64 ((k : Int) + 1) ∧ k ≤ t.length ∧ 3 - k + 1 ≤ g' ∧ (∀ x ∈ t.take k, cont x = true) ∧ wr = w)
  case atStart => exact ⟨0, rfl, by omega, by omega, by simp, rfl⟩
  case round =>
    obtain ⟨k, rfl, hk, hg, hc, rfl⟩ := hrel
    have HCO := Lib.hid hc
    clear hc
    by_cases hkn : k < t.length
    · obtain ⟨x, hx⟩ : ∃ x, t[k]? = some x := ⟨t[k], List.getElem?_eq_getElem _⟩
      have hki : (k : Int) + 1 < (t.length : Int) + 1 := by omega
      have dx := HC.out k x hx
      obtain ⟨x0, x1⟩ := HT.out x (List.mem_of_getElem? hx)
      have HX := Lib.hid (u8_c0 x x0 x1)
      have HM := Lib.hid (List.mem_of_getElem? hx)
      have HTK := Lib.hid (take_snoc' hx)
      clear hx x0 x1
      cases hcx : cont x with
      | true =>
        rw [hcx] at HX
        have HY := Lib.hid hcx
        have bne : (bits .and .u8 x 192 != 128) = false := by have := HX.out; simp only [bne, this]; rfl
        clear hcx
        go_wp2_with fail
        go_roundg (3 - (k + 1) + 1)
        case measure => omega
        case rel =>
          refine ⟨k + 1, by go_num, by omega, Nat.le_refl _, fun y hy => ?_, rfl⟩
          rw [HTK.out] at hy
          rcases List.mem_append.1 hy with hy | hy
          · exact HCO.out y hy
          · simp at hy; subst hy; exact HY.out
      | false =>
        rw [hcx] at HX
        have E := Lib.hid (HB.out x HM.out hcx)
        have bne : (bits .and .u8 x 192 != 128) = true := by have := HX.out; simp only [bne, this]; rfl
        clear hcx
        go_wp2_with fail
        go_ret2
        exact ret_p E.out.symm (HZ.out E.out).symm (Below.refl _ _)
    · obtain rfl : k = t.length := by omega
      have E := Lib.hid (HE.out (fun x hx => HCO.out x (by rw [List.take_length]; exact hx)))
      go_wp2_with (first
        | (go_at_call 32; ((with_reducible refine N0.out.mono ?_); rintro e w' ⟨rfl, q1, rfl⟩))
        | (go_at_call 32; ((with_reducible refine (N1.out _).mono ?_); rintro e w2 ⟨rfl, q2, hw2⟩; have B2 : Hid (Below wr.heap.size wr w2) := Lib.hid (by rw [hw2]; exact below_drewN _ _); clear hw2)))
      all_goals
        go_ret2
        first
          | exact ret_p (by rw [E.out]; unfold ok4; exact (decide_eq_true (by omega)).symm) (by rw [HF.out (by rw [E.out]; unfold ok4; exact decide_eq_true (by omega))]; rw [Bool.eq_iff_iff]; simp) (B2.out.alloc B2.out.size _)
          | exact ret_p (by rw [E.out]; unfold ok4; exact (decide_eq_false (by omega)).symm) (HZ.out (by rw [E.out]; unfold ok4; exact decide_eq_false (by omega))).symm (B2.out.alloc B2.out.size _)

set_option maxRecDepth 100000 in
set_option maxHeartbeats 2000000 in
theorem prefix_4 {w : World} {g off c : Nat} {a : Int} {t : List Int} (d0 : w.cell? ⟨g, off, none⟩ = some (.int .u8 a)) (hcells : ∀ j x, t[j]? = some x → w.cell? ⟨g, off + (j + 1), none⟩ = some (.int .u8 x)) (a0 : 0 ≤ a) (a1 : a ≤ 255) (ht : By t)
    (hn : len1 a = 4) (h0 : 240 ≤ a) (h1 : a ≤ 244) (hl : t.length ≤ 3) :
    Calls Try.prog 31 #[.slice (some ⟨g, off, none⟩) (t.length + 1) c] w (PPost w (a :: t)) := by
  have HS := Lib.hid (fun W => size_any a a0 a1 W)
  rw [hn] at HS
  have HT := Lib.hid ht
  have HC := Lib.hid hcells
  have HB := Lib.hid (fun (x : Int) (hx : x ∈ t) (h : cont x = false) => fits_bad (a := a) hx h)
  have HF := Lib.hid (fun (h : fits (a :: t) = true) => full_of h)
  rw [hn] at HF
  have HZ := Lib.hid (fun (h : fits (a :: t) = false) => full_none h)
  have HE := Lib.hid (pre_4 h0 h1 hl)
  have N0 := Lib.hid (num_4 (w := w) (c := c) (d := 0) hl d0 hcells a0 a1 ht (by omega) (by omega))
  have N1 := Lib.hid (same_at fun q => num_4 (w := w.drewN q) (c := c) (d := 63) hl d0 hcells a0 a1 ht (by omega) (by omega))
  generalize accD (a % 8) (dg t 3 0) = L at *
  generalize accD (a % 8) (dg t 3 63) = M at *
  have hp : (0 : Int) < (t.length : Int) + 1 := by omega
  have hp2 : (t.length : Int) + 1 ≤ 4 := by omega
  clear hcells ht hn a0 a1 h0 h1 hl
  go_enter Try.func31, Try.ntmps31
  go_wp2_with (go_at_call 36; ((with_reducible refine (HS.out _).mono ?_); rintro e w' ⟨rfl, rfl⟩))
  go_loopg [5] (4 + 1) (fun g' i wr => ∃ (k : Nat), i = .int .i64 ((k : Int) + 1) ∧ k ≤ t.length ∧ 4 - k + 1 ≤ g' ∧ (∀ x ∈ t.take k, cont x = true) ∧ wr = w)
  case atStart => exact ⟨0, rfl, by omega, by omega, by simp, rfl⟩
  case round =>
    obtain ⟨k, rfl, hk, hg, hc, rfl⟩ := hrel
    have HCO := Lib.hid hc
    clear hc
    by_cases hkn : k < t.length
    · obtain ⟨x, hx⟩ : ∃ x, t[k]? = some x := ⟨t[k], List.getElem?_eq_getElem _⟩
      have hki : (k : Int) + 1 < (t.length : Int) + 1 := by omega
      have dx := HC.out k x hx
      obtain ⟨x0, x1⟩ := HT.out x (List.mem_of_getElem? hx)
      have HX := Lib.hid (u8_c0 x x0 x1)
      have HM := Lib.hid (List.mem_of_getElem? hx)
      have HTK := Lib.hid (take_snoc' hx)
      clear hx x0 x1
      cases hcx : cont x with
      | true =>
        rw [hcx] at HX
        have HY := Lib.hid hcx
        have bne : (bits .and .u8 x 192 != 128) = false := by have := HX.out; simp only [bne, this]; rfl
        clear hcx
        go_wp2_with fail
        go_roundg (4 - (k + 1) + 1)
        case measure => omega
        case rel =>
          refine ⟨k + 1, by go_num, by omega, Nat.le_refl _, fun y hy => ?_, rfl⟩
          rw [HTK.out] at hy
          rcases List.mem_append.1 hy with hy | hy
          · exact HCO.out y hy
          · simp at hy; subst hy; exact HY.out
      | false =>
        rw [hcx] at HX
        have E := Lib.hid (HB.out x HM.out hcx)
        have bne : (bits .and .u8 x 192 != 128) = true := by have := HX.out; simp only [bne, this]; rfl
        clear hcx
        go_wp2_with fail
        go_ret2
        exact ret_p E.out.symm (HZ.out E.out).symm (Below.refl _ _)
    · obtain rfl : k = t.length := by omega
      have E := Lib.hid (HE.out (fun x hx => HCO.out x (by rw [List.take_length]; exact hx)))
      go_wp2_with (first
        | (go_at_call 32; ((with_reducible refine N0.out.mono ?_); rintro e w' ⟨rfl, q1, rfl⟩))
        | (go_at_call 32; ((with_reducible refine (N1.out _).mono ?_); rintro e w2 ⟨rfl, q2, hw2⟩; have B2 : Hid (Below wr.heap.size wr w2) := Lib.hid (by rw [hw2]; exact below_drewN _ _); clear hw2)))
      all_goals
        go_ret2
        first
          | exact ret_p (by rw [E.out]; unfold ok4; exact (decide_eq_true (by omega)).symm) (by rw [HF.out (by rw [E.out]; unfold ok4; exact decide_eq_true (by omega))]; rw [Bool.eq_iff_iff]; simp) (B2.out.alloc B2.out.size _)
          | exact ret_p (by rw [E.out]; unfold ok4; exact (decide_eq_false (by omega)).symm) (HZ.out (by rw [E.out]; unfold ok4; exact decide_eq_false (by omega))).symm (B2.out.alloc B2.out.size _)
end Go.Proofs.Ytjcgcloanamabaa.Ru
