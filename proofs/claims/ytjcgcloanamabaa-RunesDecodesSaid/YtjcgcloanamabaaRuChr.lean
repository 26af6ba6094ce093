/-
  Layer 4: the character of an encoding.
-/
import Derived.Test.YtjcgcloanamabaaRuRead
namespace Go.Proofs.Ytjcgcloanamabaa.Ru
open Go.RowKit

def acc (m : Int) (l : List Int) : Int := l.foldl (fun x c => x * 64 + c % 64) m
theorem acc_snoc (m : Int) (l : List Int) (x : Int) : acc m (l ++ [x]) = acc m l * 64 + x % 64 := by simp [acc]
theorem acc_bd {m : Int} {l : List Int} (h0 : 0 ≤ m) (h1 : m < 32) (hl : l.length ≤ 2) : 0 ≤ acc m l ∧ acc m l < 131072 := by
  match l, hl with
  | [], _ => simp [acc]; omega
  | [x], _ => simp only [acc, List.foldl]; omega
  | [x, y], _ => simp only [acc, List.foldl]; omega
theorem take_snoc' {l : List Int} {k : Nat} {x : Int} (h : l[k]? = some x) : l.take (k + 1) = l.take k ++ [x] := by rw [List.take_add_one, h]; rfl
theorem or_low (x y : Int) (h0 : 0 ≤ x) (h1 : x < 131072) (h2 : 0 ≤ y) (h3 : y < 64) : bits .or .i64 (x * 64) y = x * 64 + y :=
  i64_or 6 (by decide) (x * 64) y (by omega) (by omega) (by omega) h2 (by omega)
theorem ret_q {w w' : World} {a b : Int} (h : a = b) (hw : ∃ m, w' = w.drewN m) : QPost w (.int .i64 b) (.returned (.int .i64 a)) w' := ⟨by rw [h], hw⟩

set_option maxRecDepth 100000 in
set_option maxHeartbeats 1000000 in
theorem chr_2 {w : World} {g off c : Nat} {a : Int} {t : List Int} (hn : t.length = 1) (hc : 2 ≤ c) (d0 : w.cell? ⟨g, off, none⟩ = some (.int .u8 a)) (hcells : ∀ j x, t[j]? = some x → w.cell? ⟨g, off + 1 + j, none⟩ = some (.int .u8 x)) (a0 : 0 ≤ a) (a1 : a ≤ 255) (ht : By t) :
    Calls Try.prog 29 #[.slice (some ⟨g, off, none⟩) 2 c] w (QPost w (.int .i64 (acc (a % 32) t))) := by
  have HM := Lib.hid (u8_and31 a a0 (by omega))
  have HC := Lib.hid hcells
  have HT := Lib.hid ht
  have HN := Lib.hid hn
  have hc1 : ¬ c = 1 := by omega
  clear hcells ht hn
  go_enter Try.func29, Try.ntmps29
  go_wp2_with fail
  go_quiet (fail)
  go_wp2_with fail
  go_loopg [3, 5, 24] (2 + 1) (fun g' r _ i wr => ∃ (k : Nat) (m : Nat), i = .int .i64 k ∧ k ≤ 1 ∧ 1 - k + 1 ≤ g' ∧ r = .int .i64 (acc (a % 32) (t.take k)) ∧ wr = w.drewN m)
  case atStart => exact ⟨0, _, rfl, by omega, by omega, by simp [acc], rfl⟩
  case round =>
    obtain ⟨k, q, rfl, hk, hg, rfl, rfl⟩ := hrel
    by_cases hkn : k < 1
    · obtain ⟨x, hx⟩ : ∃ x, t[k]? = some x := ⟨t[k]'(by have := HN.out; omega), List.getElem?_eq_getElem _⟩
      have hki : (k : Int) < 1 := by omega
      have dx := HC.out k x hx
      obtain ⟨x0, x1⟩ := HT.out x (List.mem_of_getElem? hx)
      obtain ⟨r0, r1⟩ := acc_bd (m := a % 32) (l := t.take k) (by omega) (by omega) (by rw [List.length_take]; omega)
      have HS := Lib.hid ((congrArg (acc (a % 32)) (take_snoc' hx)).trans (acc_snoc _ _ _))
      have HO := Lib.hid (or_low _ (x % 64) r0 r1 (by omega) (by omega))
      have HX := Lib.hid (u8_and63 x x0 (by omega))
      generalize acc (a % 32) (t.take k) = r at *
      clear hx
      go_wp2_with fail
      go_roundg (1 - (k + 1) + 1)
      case measure => omega
      case rel => exact ⟨k + 1, q, by go_num, by omega, Nat.le_refl _, by rw [HS.out]; rw [← HO.out], rfl⟩
    · obtain rfl : k = 1 := by omega
      have HE : Hid (t.take 1 = t) := Lib.hid (List.take_of_length_le (by have := HN.out; omega))
      go_wp2_with fail
      go_ret
      exact ret_q (by rw [HE.out]) ⟨q, rfl⟩

set_option maxRecDepth 100000 in
set_option maxHeartbeats 1000000 in
theorem chr_3 {w : World} {g off c : Nat} {a : Int} {t : List Int} (hn : t.length = 2) (hc : 3 ≤ c) (d0 : w.cell? ⟨g, off, none⟩ = some (.int .u8 a)) (hcells : ∀ j x, t[j]? = some x → w.cell? ⟨g, off + 1 + j, none⟩ = some (.int .u8 x)) (a0 : 0 ≤ a) (a1 : a ≤ 255) (ht : By t) :
    Calls Try.prog 29 #[.slice (some ⟨g, off, none⟩) 3 c] w (QPost w (.int .i64 (acc (a % 16) t))) := by
  have HM := Lib.hid (u8_and15 a a0 (by omega))
  have HC := Lib.hid hcells
  have HT := Lib.hid ht
  have HN := Lib.hid hn
  have hc1 : ¬ c = 1 := by omega
  clear hcells ht hn
  go_enter Try.func29, Try.ntmps29
  go_wp2_with fail
  go_quiet (fail)
  go_wp2_with fail
  go_loopg [3, 5, 24] (3 + 1) (fun g' r _ i wr => ∃ (k : Nat) (m : Nat), i = .int .i64 k ∧ k ≤ 2 ∧ 2 - k + 1 ≤ g' ∧ r = .int .i64 (acc (a % 16) (t.take k)) ∧ wr = w.drewN m)
  case atStart => exact ⟨0, _, rfl, by omega, by omega, by simp [acc], rfl⟩
  case round =>
    obtain ⟨k, q, rfl, hk, hg, rfl, rfl⟩ := hrel
    by_cases hkn : k < 2
    · obtain ⟨x, hx⟩ : ∃ x, t[k]? = some x := ⟨t[k]'(by have := HN.out; omega), List.getElem?_eq_getElem _⟩
      have hki : (k : Int) < 2 := by omega
      have dx := HC.out k x hx
      obtain ⟨x0, x1⟩ := HT.out x (List.mem_of_getElem? hx)
      obtain ⟨r0, r1⟩ := acc_bd (m := a % 16) (l := t.take k) (by omega) (by omega) (by rw [List.length_take]; omega)
      have HS := Lib.hid ((congrArg (acc (a % 16)) (take_snoc' hx)).trans (acc_snoc _ _ _))
      have HO := Lib.hid (or_low _ (x % 64) r0 r1 (by omega) (by omega))
      have HX := Lib.hid (u8_and63 x x0 (by omega))
      generalize acc (a % 16) (t.take k) = r at *
      clear hx
      go_wp2_with fail
      go_roundg (2 - (k + 1) + 1)
      case measure => omega
      case rel => exact ⟨k + 1, q, by go_num, by omega, Nat.le_refl _, by rw [HS.out]; rw [← HO.out], rfl⟩
    · obtain rfl : k = 2 := by omega
      have HE : Hid (t.take 2 = t) := Lib.hid (List.take_of_length_le (by have := HN.out; omega))
      go_wp2_with fail
      go_ret
      exact ret_q (by rw [HE.out]) ⟨q, rfl⟩

set_option maxRecDepth 100000 in
set_option maxHeartbeats 1000000 in
theorem chr_4 {w : World} {g off c : Nat} {a : Int} {t : List Int} (hn : t.length = 3) (hc : 4 ≤ c) (d0 : w.cell? ⟨g, off, none⟩ = some (.int .u8 a)) (hcells : ∀ j x, t[j]? = some x → w.cell? ⟨g, off + 1 + j, none⟩ = some (.int .u8 x)) (a0 : 0 ≤ a) (a1 : a ≤ 255) (ht : By t) :
    Calls Try.prog 29 #[.slice (some ⟨g, off, none⟩) 4 c] w (QPost w (.int .i64 (acc (a % 8) t))) := by
  have HM := Lib.hid (u8_and7 a a0 (by omega))
  have HC := Lib.hid hcells
  have HT := Lib.hid ht
  have HN := Lib.hid hn
  have hc1 : ¬ c = 1 := by omega
  clear hcells ht hn
  go_enter Try.func29, Try.ntmps29
  go_wp2_with fail
  go_quiet (fail)
  go_wp2_with fail
  go_loopg [3, 5, 24] (4 + 1) (fun g' r _ i wr => ∃ (k : Nat) (m : Nat), i = .int .i64 k ∧ k ≤ 3 ∧ 3 - k + 1 ≤ g' ∧ r = .int .i64 (acc (a % 8) (t.take k)) ∧ wr = w.drewN m)
  case atStart => exact ⟨0, _, rfl, by omega, by omega, by simp [acc], rfl⟩
  case round =>
    obtain ⟨k, q, rfl, hk, hg, rfl, rfl⟩ := hrel
    by_cases hkn : k < 3
    · obtain ⟨x, hx⟩ : ∃ x, t[k]? = some x := ⟨t[k]'(by have := HN.out; omega), List.getElem?_eq_getElem _⟩
      have hki : (k : Int) < 3 := by omega
      have dx := HC.out k x hx
      obtain ⟨x0, x1⟩ := HT.out x (List.mem_of_getElem? hx)
      obtain ⟨r0, r1⟩ := acc_bd (m := a % 8) (l := t.take k) (by omega) (by omega) (by rw [List.length_take]; omega)
      have HS := Lib.hid ((congrArg (acc (a % 8)) (take_snoc' hx)).trans (acc_snoc _ _ _))
      have HO := Lib.hid (or_low _ (x % 64) r0 r1 (by omega) (by omega))
      have HX := Lib.hid (u8_and63 x x0 (by omega))
      generalize acc (a % 8) (t.take k) = r at *
      clear hx
      go_wp2_with fail
      go_roundg (3 - (k + 1) + 1)
      case measure => omega
      case rel => exact ⟨k + 1, q, by go_num, by omega, Nat.le_refl _, by rw [HS.out]; rw [← HO.out], rfl⟩
    · obtain rfl : k = 3 := by omega
      have HE : Hid (t.take 3 = t) := Lib.hid (List.take_of_length_le (by have := HN.out; omega))
      go_wp2_with fail
      go_ret
      exact ret_q (by rw [HE.out]) ⟨q, rfl⟩

theorem chr_any {w : World} {v : Value} {l : List Int} (h : Lst .u8 w v l) (hb : By l) (hf : fits l = true) : Calls Try.prog 29 #[v] w (QPost w (.int .i64 (chr l))) := by
  obtain ⟨A, c, rfl, hr, _, hc, _⟩ := h
  match l, hb, hr, hf, hc with
  | [a], hb, hr, _, _ =>
    obtain ⟨g, off, rfl, k0, _⟩ := cells1 hr (by simp)
    have d0 := k0 a rfl
    obtain ⟨a0, a1⟩ := hb a (by simp)
    clear hr hb k0
    simp only [List.length_cons, List.length_nil, Nat.zero_add]
    go_enter Try.func29, Try.ntmps29
    go_wp2_with fail
    go_ret
    exact ret_q rfl ⟨0, rfl⟩
  | [a, b], hb, hr, _, hc =>
    obtain ⟨g, off, rfl, k0⟩ := hr (by simp)
    obtain ⟨a0, a1⟩ := hb a (by simp)
    exact chr_2 (t := [b]) rfl hc (k0 0 a rfl) (fun j x hx => by rw [Nat.add_assoc, Nat.add_comm 1 j]; exact k0 (j + 1) x hx) a0 a1 (fun x hx => hb x (List.mem_cons_of_mem _ hx))
  | [a, b, c'], hb, hr, _, hc =>
    obtain ⟨g, off, rfl, k0⟩ := hr (by simp)
    obtain ⟨a0, a1⟩ := hb a (by simp)
    exact chr_3 (t := [b, c']) rfl hc (k0 0 a rfl) (fun j x hx => by rw [Nat.add_assoc, Nat.add_comm 1 j]; exact k0 (j + 1) x hx) a0 a1 (fun x hx => hb x (List.mem_cons_of_mem _ hx))
  | [a, b, c', d], hb, hr, _, hc =>
    obtain ⟨g, off, rfl, k0⟩ := hr (by simp)
    obtain ⟨a0, a1⟩ := hb a (by simp)
    exact chr_4 (t := [b, c', d]) rfl hc (k0 0 a rfl) (fun j x hx => by rw [Nat.add_assoc, Nat.add_comm 1 j]; exact k0 (j + 1) x hx) a0 a1 (fun x hx => hb x (List.mem_cons_of_mem _ hx))
  | [], _, _, hf, _ => simp [fits] at hf
  | _ :: _ :: _ :: _ :: _ :: _, _, _, hf, _ => simp [fits] at hf
end Go.Proofs.Ytjcgcloanamabaa.Ru
