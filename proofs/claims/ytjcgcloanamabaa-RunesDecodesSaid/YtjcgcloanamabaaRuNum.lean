/-
  Layer 4, the reference: the number of the first bytes of an encoding.
-/
import Derived.Test.YtjcgcloanamabaaRuChr
namespace Go.Proofs.Ytjcgcloanamabaa.Ru
open Go.RowKit

def accD (m : Int) (l : List Int) : Int := l.foldl (fun r x => r * 64 + x) m
def dg (t : List Int) (n : Nat) (d : Int) : List Int := t.map (· % 64) ++ List.replicate (n - t.length) d
theorem accD_snoc (m : Int) (l : List Int) (x : Int) : accD m (l ++ [x]) = accD m l * 64 + x := by simp [accD]
theorem accD_bd {m : Int} {l : List Int} (h0 : 0 ≤ m) (h1 : m < 32) (hl : l.length ≤ 2) (hx : ∀ x ∈ l, 0 ≤ x ∧ x < 64) : 0 ≤ accD m l ∧ accD m l < 131072 := by
  match l, hl, hx with
  | [], _, _ => simp [accD]; omega
  | [x], _, hx => have := hx x (by simp); simp only [accD, List.foldl]; omega
  | [x, y], _, hx => have := hx x (by simp); have := hx y (by simp); simp only [accD, List.foldl]; omega
theorem dg_bd {t : List Int} {n : Nat} {d : Int} (h0 : 0 ≤ d) (h1 : d < 64) : ∀ x ∈ dg t n d, 0 ≤ x ∧ x < 64 := by
  intro x hx
  rcases List.mem_append.1 hx with hx | hx
  · obtain ⟨y, _, rfl⟩ := List.mem_map.1 hx; omega
  · have := List.eq_of_mem_replicate hx; omega
theorem dg_in {t : List Int} {n : Nat} {d x : Int} {j : Nat} (h : t[j]? = some x) : (dg t n d)[j]? = some (x % 64) := by
  have hj : j < t.length := (List.getElem?_eq_some_iff.1 h).1
  unfold dg
  rw [List.getElem?_append_left (by simpa using hj), List.getElem?_map, h]; rfl
theorem dg_out {t : List Int} {n : Nat} {d : Int} {j : Nat} (h : t.length ≤ j) (hj : j < n) : (dg t n d)[j]? = some d := by
  unfold dg
  rw [List.getElem?_append_right (by simpa using h), List.getElem?_replicate]
  simp; omega
theorem dg_length {t : List Int} {n : Nat} {d : Int} (h : t.length ≤ n) : (dg t n d).length = n := by unfold dg; simp; omega

set_option maxRecDepth 100000 in
set_option maxHeartbeats 1000000 in
theorem num_2 {w : World} {g off c : Nat} {a d : Int} {t : List Int} (hn : t.length ≤ 1) (d0 : w.cell? ⟨g, off, none⟩ = some (.int .u8 a)) (hcells : ∀ j x, t[j]? = some x → w.cell? ⟨g, off + (j + 1), none⟩ = some (.int .u8 x)) (a0 : 0 ≤ a) (a1 : a ≤ 255) (ht : By t) (e0 : 0 ≤ d) (e1 : d < 64) :
    Calls Try.prog 32 #[.slice (some ⟨g, off, none⟩) (t.length + 1) c, .int .i64 2, .int .i64 d] w (QPost w (.int .i64 (accD (a % 32) (dg t 1 d)))) := by
  have HC := Lib.hid hcells
  have HT := Lib.hid ht
  have HN := Lib.hid hn
  have HM := Lib.hid (show bits .and .i64 a 31 = a % 32 from bits_mask .i64 40 (by decide) wraps_i64 5 (by decide) a a0 (by omega))
  have HD := Lib.hid (dg_bd (t := t) (n := 1) e0 e1)
  have HL := Lib.hid (dg_length (d := d) hn)
  have HI := Lib.hid (fun j x h => dg_in (t := t) (n := 1) (d := d) (j := j) (x := x) h)
  have HO := Lib.hid (fun j h hj => dg_out (t := t) (n := 1) (d := d) (j := j) h hj)
  clear hcells ht hn
  generalize dg t 1 d = D at *
  have hN0 : (0 : Int) < (t.length : Int) + 1 := by omega
  go_enter Try.func32, Try.ntmps32
  go_wp2_with fail
  go_quiet (fail)
  go_wp2_with fail
  go_loopg [7, 8, 9] (2 + 1) (fun g' r i _ wr => ∃ (k : Nat) (m : Nat), i = .int .i64 ((k : Int) + 1) ∧ k ≤ 1 ∧ 1 - k + 1 ≤ g' ∧ r = .int .i64 (accD (a % 32) (D.take k)) ∧ wr = w.drewN m)
  case atStart => exact ⟨0, _, rfl, by omega, by omega, by simp [accD, HM.out], rfl⟩
  case round =>
    obtain ⟨k, q, rfl, hk, hg, rfl, rfl⟩ := hrel
    by_cases hkn : k < 1
    · obtain ⟨y, hy⟩ : ∃ y, D[k]? = some y := ⟨D[k]'(by have := HL.out; omega), List.getElem?_eq_getElem _⟩
      have hki : (k : Int) + 1 < 2 := by omega
      obtain ⟨y0, y1⟩ := HD.out y (List.mem_of_getElem? hy)
      obtain ⟨r0, r1⟩ := accD_bd (m := a % 32) (l := D.take k) (by omega) (by omega) (by rw [List.length_take]; omega) (fun x hx => HD.out x (List.mem_of_mem_take hx))
      have HS := Lib.hid ((congrArg (accD (a % 32)) (take_snoc' hy)).trans (accD_snoc _ _ _))
      have HOr := Lib.hid (or_low _ y r0 r1 y0 y1)
      generalize accD (a % 32) (D.take k) = r at *
      by_cases hkt : k < t.length
      · obtain ⟨x, hx⟩ : ∃ x, t[k]? = some x := ⟨t[k], List.getElem?_eq_getElem _⟩
        have hkl : (k : Int) + 1 < (t.length : Int) + 1 := by omega
        have dx := HC.out k x hx
        obtain ⟨x0, x1⟩ := HT.out x (List.mem_of_getElem? hx)
        obtain rfl : y = x % 64 := by have := HI.out k x hx; rw [hy] at this; simpa using this
        have HX := Lib.hid (i64_and63 x x0 (by omega))
        clear hx hy
        go_wp2_with fail
        go_roundg (1 - (k + 1) + 1)
        case measure => omega
        case rel => exact ⟨k + 1, q, by go_num, by omega, Nat.le_refl _, by rw [HS.out, ← HOr.out]; first | rfl | rw [HX.out], rfl⟩
      · have hkl : (t.length : Int) + 1 ≤ (k : Int) + 1 := by omega
        obtain rfl : y = d := by have := HO.out k (by omega) hkn; rw [hy] at this; simpa using this
        clear hy
        go_wp2_with fail
        go_roundg (1 - (k + 1) + 1)
        case measure => omega
        case rel => exact ⟨k + 1, q, by go_num, by omega, Nat.le_refl _, by rw [HS.out, ← HOr.out], rfl⟩
    · obtain rfl : k = 1 := by omega
      have HE : Hid (D.take 1 = D) := Lib.hid (List.take_of_length_le (by have := HL.out; omega))
      go_wp2_with fail
      go_ret
      exact ret_q (by rw [HE.out]) ⟨q, rfl⟩

set_option maxRecDepth 100000 in
set_option maxHeartbeats 1000000 in
theorem num_3 {w : World} {g off c : Nat} {a d : Int} {t : List Int} (hn : t.length ≤ 2) (d0 : w.cell? ⟨g, off, none⟩ = some (.int .u8 a)) (hcells : ∀ j x, t[j]? = some x → w.cell? ⟨g, off + (j + 1), none⟩ = some (.int .u8 x)) (a0 : 0 ≤ a) (a1 : a ≤ 255) (ht : By t) (e0 : 0 ≤ d) (e1 : d < 64) :
    Calls Try.prog 32 #[.slice (some ⟨g, off, none⟩) (t.length + 1) c, .int .i64 3, .int .i64 d] w (QPost w (.int .i64 (accD (a % 16) (dg t 2 d)))) := by
  have HC := Lib.hid hcells
  have HT := Lib.hid ht
  have HN := Lib.hid hn
  have HM := Lib.hid (show bits .and .i64 a 15 = a % 16 from bits_mask .i64 40 (by decide) wraps_i64 4 (by decide) a a0 (by omega))
  have HD := Lib.hid (dg_bd (t := t) (n := 2) e0 e1)
  have HL := Lib.hid (dg_length (d := d) hn)
  have HI := Lib.hid (fun j x h => dg_in (t := t) (n := 2) (d := d) (j := j) (x := x) h)
  have HO := Lib.hid (fun j h hj => dg_out (t := t) (n := 2) (d := d) (j := j) h hj)
  clear hcells ht hn
  generalize dg t 2 d = D at *
  have hN0 : (0 : Int) < (t.length : Int) + 1 := by omega
  go_enter Try.func32, Try.ntmps32
  go_wp2_with fail
  go_quiet (fail)
  go_wp2_with fail
  go_loopg [7, 8, 9] (3 + 1) (fun g' r i _ wr => ∃ (k : Nat) (m : Nat), i = .int .i64 ((k : Int) + 1) ∧ k ≤ 2 ∧ 2 - k + 1 ≤ g' ∧ r = .int .i64 (accD (a % 16) (D.take k)) ∧ wr = w.drewN m)
  case atStart => exact ⟨0, _, rfl, by omega, by omega, by simp [accD, HM.out], rfl⟩
  case round =>
    obtain ⟨k, q, rfl, hk, hg, rfl, rfl⟩ := hrel
    by_cases hkn : k < 2
    · obtain ⟨y, hy⟩ : ∃ y, D[k]? = some y := ⟨D[k]'(by have := HL.out; omega), List.getElem?_eq_getElem _⟩
      have hki : (k : Int) + 1 < 3 := by omega
      obtain ⟨y0, y1⟩ := HD.out y (List.mem_of_getElem? hy)
      obtain ⟨r0, r1⟩ := accD_bd (m := a % 16) (l := D.take k) (by omega) (by omega) (by rw [List.length_take]; omega) (fun x hx => HD.out x (List.mem_of_mem_take hx))
      have HS := Lib.hid ((congrArg (accD (a % 16)) (take_snoc' hy)).trans (accD_snoc _ _ _))
      have HOr := Lib.hid (or_low _ y r0 r1 y0 y1)
      generalize accD (a % 16) (D.take k) = r at *
      by_cases hkt : k < t.length
      · obtain ⟨x, hx⟩ : ∃ x, t[k]? = some x := ⟨t[k], List.getElem?_eq_getElem _⟩
        have hkl : (k : Int) + 1 < (t.length : Int) + 1 := by omega
        have dx := HC.out k x hx
        obtain ⟨x0, x1⟩ := HT.out x (List.mem_of_getElem? hx)
        obtain rfl : y = x % 64 := by have := HI.out k x hx; rw [hy] at this; simpa using this
        have HX := Lib.hid (i64_and63 x x0 (by omega))
        clear hx hy
        go_wp2_with fail
        go_roundg (2 - (k + 1) + 1)
        case measure => omega
        case rel => exact ⟨k + 1, q, by go_num, by omega, Nat.le_refl _, by rw [HS.out, ← HOr.out]; first | rfl | rw [HX.out], rfl⟩
      · have hkl : (t.length : Int) + 1 ≤ (k : Int) + 1 := by omega
        obtain rfl : y = d := by have := HO.out k (by omega) hkn; rw [hy] at this; simpa using this
        clear hy
        go_wp2_with fail
        go_roundg (2 - (k + 1) + 1)
        case measure => omega
        case rel => exact ⟨k + 1, q, by go_num, by omega, Nat.le_refl _, by rw [HS.out, ← HOr.out], rfl⟩
    · obtain rfl : k = 2 := by omega
      have HE : Hid (D.take 2 = D) := Lib.hid (List.take_of_length_le (by have := HL.out; omega))
      go_wp2_with fail
      go_ret
      exact ret_q (by rw [HE.out]) ⟨q, rfl⟩

set_option maxRecDepth 100000 in
set_option maxHeartbeats 1000000 in
theorem num_4 {w : World} {g off c : Nat} {a d : Int} {t : List Int} (hn : t.length ≤ 3) (d0 : w.cell? ⟨g, off, none⟩ = some (.int .u8 a)) (hcells : ∀ j x, t[j]? = some x → w.cell? ⟨g, off + (j + 1), none⟩ = some (.int .u8 x)) (a0 : 0 ≤ a) (a1 : a ≤ 255) (ht : By t) (e0 : 0 ≤ d) (e1 : d < 64) :
    Calls Try.prog 32 #[.slice (some ⟨g, off, none⟩) (t.length + 1) c, .int .i64 4, .int .i64 d] w (QPost w (.int .i64 (accD (a % 8) (dg t 3 d)))) := by
  have HC := Lib.hid hcells
  have HT := Lib.hid ht
  have HN := Lib.hid hn
  have HM := Lib.hid (show bits .and .i64 a 7 = a % 8 from bits_mask .i64 40 (by decide) wraps_i64 3 (by decide) a a0 (by omega))
  have HD := Lib.hid (dg_bd (t := t) (n := 3) e0 e1)
  have HL := Lib.hid (dg_length (d := d) hn)
  have HI := Lib.hid (fun j x h => dg_in (t := t) (n := 3) (d := d) (j := j) (x := x) h)
  have HO := Lib.hid (fun j h hj => dg_out (t := t) (n := 3) (d := d) (j := j) h hj)
  clear hcells ht hn
  generalize dg t 3 d = D at *
  have hN0 : (0 : Int) < (t.length : Int) + 1 := by omega
  go_enter Try.func32, Try.ntmps32
  go_wp2_with fail
  go_quiet (fail)
  go_wp2_with fail
  go_loopg [7, 8, 9] (4 + 1) (fun g' r i _ wr => ∃ (k : Nat) (m : Nat), i = .int .i64 ((k : Int) + 1) ∧ k ≤ 3 ∧ 3 - k + 1 ≤ g' ∧ r = .int .i64 (accD (a % 8) (D.take k)) ∧ wr = w.drewN m)
  case atStart => exact ⟨0, _, rfl, by omega, by omega, by simp [accD, HM.out], rfl⟩
  case round =>
    obtain ⟨k, q, rfl, hk, hg, rfl, rfl⟩ := hrel
    by_cases hkn : k < 3
    · obtain ⟨y, hy⟩ : ∃ y, D[k]? = some y := ⟨D[k]'(by have := HL.out; omega), List.getElem?_eq_getElem _⟩
      have hki : (k : Int) + 1 < 4 := by omega
      obtain ⟨y0, y1⟩ := HD.out y (List.mem_of_getElem? hy)
      obtain ⟨r0, r1⟩ := accD_bd (m := a % 8) (l := D.take k) (by omega) (by omega) (by rw [List.length_take]; omega) (fun x hx => HD.out x (List.mem_of_mem_take hx))
      have HS := Lib.hid ((congrArg (accD (a % 8)) (take_snoc' hy)).trans (accD_snoc _ _ _))
      have HOr := Lib.hid (or_low _ y r0 r1 y0 y1)
      generalize accD (a % 8) (D.take k) = r at *
      by_cases hkt : k < t.length
      · obtain ⟨x, hx⟩ : ∃ x, t[k]? = some x := ⟨t[k], List.getElem?_eq_getElem _⟩
        have hkl : (k : Int) + 1 < (t.length : Int) + 1 := by omega
        have dx := HC.out k x hx
        obtain ⟨x0, x1⟩ := HT.out x (List.mem_of_getElem? hx)
        obtain rfl : y = x % 64 := by have := HI.out k x hx; rw [hy] at this; simpa using this
        have HX := Lib.hid (i64_and63 x x0 (by omega))
        clear hx hy
        go_wp2_with fail
        go_roundg (3 - (k + 1) + 1)
        case measure => omega
        case rel => exact ⟨k + 1, q, by go_num, by omega, Nat.le_refl _, by rw [HS.out, ← HOr.out]; first | rfl | rw [HX.out], rfl⟩
      · have hkl : (t.length : Int) + 1 ≤ (k : Int) + 1 := by omega
        obtain rfl : y = d := by have := HO.out k (by omega) hkn; rw [hy] at this; simpa using this
        clear hy
        go_wp2_with fail
        go_roundg (3 - (k + 1) + 1)
        case measure => omega
        case rel => exact ⟨k + 1, q, by go_num, by omega, Nat.le_refl _, by rw [HS.out, ← HOr.out], rfl⟩
    · obtain rfl : k = 3 := by omega
      have HE : Hid (D.take 3 = D) := Lib.hid (List.take_of_length_le (by have := HL.out; omega))
      go_wp2_with fail
      go_ret
      exact ret_q (by rw [HE.out]) ⟨q, rfl⟩

theorem num_1 {w : World} {g off c : Nat} {a d : Int} (d0 : w.cell? ⟨g, off, none⟩ = some (.int .u8 a)) (a0 : 0 ≤ a) (a1 : a ≤ 255) :
    Calls Try.prog 32 #[.slice (some ⟨g, off, none⟩) 1 c, .int .i64 1, .int .i64 d] w (QPost w (.int .i64 a)) := by
  go_enter Try.func32, Try.ntmps32
  go_wp2_with fail
  go_ret
  exact ret_q rfl ⟨0, rfl⟩
end Go.Proofs.Ytjcgcloanamabaa.Ru
