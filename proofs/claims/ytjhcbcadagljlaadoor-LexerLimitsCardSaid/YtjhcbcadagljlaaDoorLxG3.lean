/-
  Layer 5, the program: leading bytes of a kind.
-/
import Derived.Test.YtjhcbcadagljlaaDoorLxG2
namespace Go.Proofs.YtjhcbcadagljlaaDoor.Lx
open Go.RowKit

theorem take_bytes {s : ByteArray} {l : List Int} (hs : ch s = l) (n : Nat) : s.extract 0 n = bytesOf (l.take n) := by
  rw [← hs, ← ch_take, bytesOf_ch]

set_option maxRecDepth 100000 in
set_option maxHeartbeats 2000000 in
theorem lead_word {s : ByteArray} {l : List Int} (hs : ch s = l) (hn : l.length ≤ 100000) (w : World) : Calls Tryd.prog 36 #[.string s, .func (.func 37) #[] #[]] w (VPost w (.string (bytesOf (l.take (spanL true l))))) := by
  have HSZ : Hid (s.size = l.length) := Lib.hid (by rw [← hs, ch_length])
  have HAT : Hid (∀ k x, l[k]? = some x → ∃ hk : k < s.size, ((s[k]'hk).toNat : Int) = x) := Lib.hid (fun k x h => ch_at (by rw [hs]; exact h))
  have HT := Lib.hid (fun n => take_bytes hs n)
  have HD := Lib.hid (fun (x : Int) (W : World) => gword_any x W)
  clear hs
  go_enter Tryd.func36, Tryd.ntmps36
  go_wp2_with fail
  go_loopg [5] (l.length + 1) (fun g' i wr => ∃ (k : Nat), i = .int .i64 k ∧ k ≤ l.length ∧ l.length - k + 1 ≤ g' ∧ Sp true l k ∧ wr = w)
  case atStart => exact ⟨0, rfl, Nat.zero_le _, by omega, by unfold Sp; simp, rfl⟩
  case round =>
    obtain ⟨k, rfl, hk, hg, hsk, rfl⟩ := hrel
    have SK := Lib.hid hsk
    clear hsk
    have hks2 : (k : Int) ≤ (s.size : Int) := by have := HSZ.out; omega
    by_cases hkn : k < l.length
    · obtain ⟨x, hx⟩ : ∃ x, l[k]? = some x := ⟨l[k], List.getElem?_eq_getElem hkn⟩
      obtain ⟨hks, x0⟩ := HAT.out k x hx
      have hki : (k : Int) < (s.size : Int) := by omega
      have HX := Lib.hid hx
      have HDx := Lib.hid (HD.out x)
      clear hx
      cases hd : inWord x with
      | true =>
        rw [hd] at HDx
        have S1 := Lib.hid (SK.out.more HX.out (by simp [pw, hd]))
        go_wp2_with (go_at_call 37; (refine (HDx.out _).mono ?_; rintro e w' ⟨rfl, rfl⟩))
        go_roundg (l.length - (k + 1) + 1)
        case measure => omega
        case rel => exact ⟨k + 1, by go_num, by omega, Nat.le_refl _, S1.out, rfl⟩
      | false =>
        rw [hd] at HDx
        have E := Lib.hid (SK.out.stop HX.out (by simp [pw, hd]))
        go_wp2_with (go_at_call 37; (refine (HDx.out _).mono ?_; rintro e w' ⟨rfl, rfl⟩))
        go_ret
        exact ⟨ret_t (by rw [E.out, ← HT.out]; rfl), Below.refl _ _⟩
    · obtain rfl : k = l.length := by omega
      have E := Lib.hid SK.out.over
      have hmi : (s.size : Int) ≤ (l.length : Int) := by have := HSZ.out; omega
      have hmi2 : decide ((l.length : Int) < (s.size : Int)) = false := decide_eq_false (by omega)
      go_wp2_with fail
      go_ret
      exact ⟨ret_t (by rw [E.out, ← HT.out]; rfl), Below.refl _ _⟩

set_option maxRecDepth 100000 in
set_option maxHeartbeats 2000000 in
theorem lead_number {s : ByteArray} {l : List Int} (hs : ch s = l) (hn : l.length ≤ 100000) (w : World) : Calls Tryd.prog 36 #[.string s, .func (.func 38) #[] #[]] w (VPost w (.string (bytesOf (l.take (spanL false l))))) := by
  have HSZ : Hid (s.size = l.length) := Lib.hid (by rw [← hs, ch_length])
  have HAT : Hid (∀ k x, l[k]? = some x → ∃ hk : k < s.size, ((s[k]'hk).toNat : Int) = x) := Lib.hid (fun k x h => ch_at (by rw [hs]; exact h))
  have HT := Lib.hid (fun n => take_bytes hs n)
  have HD := Lib.hid (fun (x : Int) (W : World) => gdigit_any x W)
  clear hs
  go_enter Tryd.func36, Tryd.ntmps36
  go_wp2_with fail
  go_loopg [5] (l.length + 1) (fun g' i wr => ∃ (k : Nat), i = .int .i64 k ∧ k ≤ l.length ∧ l.length - k + 1 ≤ g' ∧ Sp false l k ∧ wr = w)
  case atStart => exact ⟨0, rfl, Nat.zero_le _, by omega, by unfold Sp; simp, rfl⟩
  case round =>
    obtain ⟨k, rfl, hk, hg, hsk, rfl⟩ := hrel
    have SK := Lib.hid hsk
    clear hsk
    have hks2 : (k : Int) ≤ (s.size : Int) := by have := HSZ.out; omega
    by_cases hkn : k < l.length
    · obtain ⟨x, hx⟩ : ∃ x, l[k]? = some x := ⟨l[k], List.getElem?_eq_getElem hkn⟩
      obtain ⟨hks, x0⟩ := HAT.out k x hx
      have hki : (k : Int) < (s.size : Int) := by omega
      have HX := Lib.hid hx
      have HDx := Lib.hid (HD.out x)
      clear hx
      cases hd : digit x with
      | true =>
        rw [hd] at HDx
        have S1 := Lib.hid (SK.out.more HX.out (by simp [pw, hd]))
        go_wp2_with (go_at_call 38; (refine (HDx.out _).mono ?_; rintro e w' ⟨rfl, rfl⟩))
        go_roundg (l.length - (k + 1) + 1)
        case measure => omega
        case rel => exact ⟨k + 1, by go_num, by omega, Nat.le_refl _, S1.out, rfl⟩
      | false =>
        rw [hd] at HDx
        have E := Lib.hid (SK.out.stop HX.out (by simp [pw, hd]))
        go_wp2_with (go_at_call 38; (refine (HDx.out _).mono ?_; rintro e w' ⟨rfl, rfl⟩))
        go_ret
        exact ⟨ret_t (by rw [E.out, ← HT.out]; rfl), Below.refl _ _⟩
    · obtain rfl : k = l.length := by omega
      have E := Lib.hid SK.out.over
      have hmi : (s.size : Int) ≤ (l.length : Int) := by have := HSZ.out; omega
      have hmi2 : decide ((l.length : Int) < (s.size : Int)) = false := decide_eq_false (by omega)
      go_wp2_with fail
      go_ret
      exact ⟨ret_t (by rw [E.out, ← HT.out]; rfl), Below.refl _ _⟩
end Go.Proofs.YtjhcbcadagljlaaDoor.Lx
