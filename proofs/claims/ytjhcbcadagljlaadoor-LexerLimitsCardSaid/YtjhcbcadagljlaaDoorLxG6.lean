/-
  Layer 5, the program: the parts of patterns.
-/
import Derived.Test.YtjhcbcadagljlaaDoorLxG5
namespace Go.Proofs.YtjhcbcadagljlaaDoor.Lx
open Go.RowKit

/-- A part of a pattern: what it stands for, how many bytes it has. -/
def ppart : List Int → Option (List Int × Nat)
  | [] => none
  | [a] => if a < 32 ∨ a = 47 then none else if a = 92 then none else some ([a], 1)
  | a :: b :: _ => if a < 32 ∨ a = 47 then none else if a = 92 then (if b < 32 then none else if b = 47 then some ([47], 2) else some ([92, b], 2)) else some ([a], 1)
theorem ppart_s1 (a : Int) : ppart [a] = if a < 32 ∨ a = 47 then none else if a = 92 then none else some ([a], 1) := rfl
theorem ppart_s2 (a b : Int) (r : List Int) : ppart (a :: b :: r) = if a < 32 ∨ a = 47 then none else if a = 92 then (if b < 32 then none else if b = 47 then some ([47], 2) else some ([92, b], 2)) else some ([a], 1) := rfl
theorem ppart_low {a : Int} {r : List Int} (h : a < 32 ∨ a = 47) : ppart (a :: r) = none := by
  cases r with
  | nil => rw [ppart_s1, if_pos h]
  | cons b r => rw [ppart_s2, if_pos h]
theorem ppart_one {a : Int} {r : List Int} (h : ¬ (a < 32 ∨ a = 47)) (h92 : a ≠ 92) : ppart (a :: r) = some ([a], 1) := by
  cases r with
  | nil => rw [ppart_s1, if_neg h, if_neg h92]
  | cons b r => rw [ppart_s2, if_neg h, if_neg h92]
theorem ppart_bs : ppart [92] = none := by decide
theorem ppart_bs2 {b : Int} {r : List Int} : ppart (92 :: b :: r) = if b < 32 then none else if b = 47 then some ([47], 2) else some ([92, b], 2) := by
  rw [ppart_s2, if_neg (by omega), if_pos rfl]
theorem ppart_len {l t : List Int} {n : Nat} (h : ppart l = some (t, n)) : 1 ≤ n ∧ n ≤ l.length ∧ t.length ≤ n ∧ (By l → By t) := by
  match l, h with
  | [], h => simp [ppart] at h
  | [a], h =>
    rw [ppart_s1] at h
    split at h
    · simp at h
    split at h
    · simp at h
    · simp at h; obtain ⟨rfl, rfl⟩ := h; exact ⟨by omega, by simp, by simp, fun hb => hb⟩
  | a :: b :: r, h =>
    rw [ppart_s2] at h
    split at h
    · simp at h
    split at h
    · split at h
      · simp at h
      split at h
      · simp at h; obtain ⟨rfl, rfl⟩ := h; exact ⟨by omega, by simp, by simp, fun _ => By.one (by omega)⟩
      · simp at h; obtain ⟨rfl, rfl⟩ := h; exact ⟨by omega, by simp, by simp, fun hb => (By.one (x := 92) (by omega)).append (By.one (hb b (by simp)))⟩
    · simp at h; obtain ⟨rfl, rfl⟩ := h; exact ⟨by omega, by simp, by simp, fun hb => By.one (hb a (by simp))⟩
/-- What patternPart returns. -/
def ppV (l : List Int) : Value := match ppart l with
  | some x => .tuple #[.string (bytesOf x.1), .int .i64 x.2]
  | none => .tuple #[.string ⟨#[]⟩, .int .i64 0]
theorem ppV_some {l t : List Int} {n : Nat} (h : ppart l = some (t, n)) : ppV l = .tuple #[.string (bytesOf t), .int .i64 n] := by unfold ppV; rw [h]
theorem ppV_none {l : List Int} (h : ppart l = none) : ppV l = .tuple #[.string ⟨#[]⟩, .int .i64 0] := by unfold ppV; rw [h]
set_option maxRecDepth 100000 in
set_option maxHeartbeats 2000000 in
theorem ppart_any {s : ByteArray} {l : List Int} (hs : ch s = l) (w : World) : Calls Tryd.prog 42 #[.string s] w (VPost w (ppV l)) := by
  have hsz : s.size = l.length := by rw [← hs, ch_length]
  have hat : ∀ k x, l[k]? = some x → ∃ hk : k < s.size, ((s[k]'hk).toNat : Int) = x := fun k x h => ch_at (by rw [hs]; exact h)
  cases l with
  | nil =>
    have hz : s.size = 0 := hsz
    have hse := empty_yes hz
    have E := Lib.hid (ppV_none (show ppart [] = none from rfl))
    clear hsz hat hs
    go_enter Tryd.func42, Tryd.ntmps42
    go_wp2_with fail
    go_ret2
    exact ⟨ret_t (by rw [E.out]; rfl), Below.refl _ _⟩
  | cons a r =>
    obtain ⟨h0, x0⟩ := hat 0 a rfl
    have hz1 : (0 : Int) < (s.size : Int) := by omega
    have hse := empty_no h0
    by_cases h32 : a < 32
    · have E := Lib.hid (ppV_none (ppart_low (r := r) (.inl h32)))
      clear hsz hat hs
      go_enter Tryd.func42, Tryd.ntmps42
      go_wp2_with fail
      go_ret2
      exact ⟨ret_t (by rw [E.out]; rfl), Below.refl _ _⟩
    by_cases h47 : a = 47
    · have E := Lib.hid (ppV_none (ppart_low (r := r) (.inr h47)))
      subst h47
      clear hsz hat hs
      go_enter Tryd.func42, Tryd.ntmps42
      go_wp2_with fail
      go_ret2
      exact ⟨ret_t (by rw [E.out]; rfl), Below.refl _ _⟩
    have hq : (a == 47) = false := beq_eq_false_iff_ne.2 h47
    have hge : 32 ≤ a := by omega
    by_cases h92 : a = 92
    · subst h92
      cases r with
      | nil =>
        have hs1 : s.size = 1 := hsz
        have E := Lib.hid (ppV_none ppart_bs)
        clear hsz hat hs
        go_enter Tryd.func42, Tryd.ntmps42
        go_wp2_with fail
        go_ret2
        exact ⟨ret_t (by rw [E.out]; rfl), Below.refl _ _⟩
      | cons b r =>
        obtain ⟨h1, x1⟩ := hat 1 b rfl
        have hs2 : (2 : Int) ≤ (s.size : Int) := by simp at hsz; omega
        have hs1 : ((s.size : Int) == 1) = false := beq_eq_false_iff_ne.2 (by omega)
        have e0 := ppart_bs2 (b := b) (r := r)
        by_cases b32 : b < 32
        · rw [if_pos b32] at e0
          have E := Lib.hid (ppV_none e0)
          clear hsz hat hs e0
          go_enter Tryd.func42, Tryd.ntmps42
          go_wp2_with fail
          go_ret2
          exact ⟨ret_t (by rw [E.out]; rfl), Below.refl _ _⟩
        rw [if_neg b32] at e0
        have bge : 32 ≤ b := by omega
        by_cases b47 : b = 47
        · subst b47
          rw [if_pos rfl] at e0
          have E := Lib.hid (ppV_some e0)
          clear hsz hat hs e0
          go_enter Tryd.func42, Tryd.ntmps42
          go_wp2_with fail
          go_ret2
          exact ⟨ret_t (by rw [E.out]; rfl), Below.refl _ _⟩
        · rw [if_neg b47] at e0
          have E := Lib.hid (ppV_some e0)
          have HC := Lib.hid (cut_bytes (i := 0) (j := 2) (m := [92, b]) hs (by simp))
          have q47 : (b == 47) = false := beq_eq_false_iff_ne.2 b47
          clear hsz hat hs e0
          go_enter Tryd.func42, Tryd.ntmps42
          go_wp2_with fail
          go_ret2
          exact ⟨ret_t (by rw [E.out, ← HC.out]; rfl), Below.refl _ _⟩
    · have hne : (a != 92) = true := bne_iff_ne.2 h92
      have E := Lib.hid (ppV_some (ppart_one (r := r) (by omega) h92))
      have HC := Lib.hid (cut_bytes (i := 0) (j := 1) (m := [a]) hs (by simp))
      clear hsz hat hs
      go_enter Tryd.func42, Tryd.ntmps42
      go_wp2_with fail
      go_ret2
      exact ⟨ret_t (by rw [E.out, ← HC.out]; rfl), Below.refl _ _⟩
end Go.Proofs.YtjhcbcadagljlaaDoor.Lx
