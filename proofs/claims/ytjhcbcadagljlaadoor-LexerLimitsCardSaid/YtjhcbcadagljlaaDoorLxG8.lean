/-
  Layer 5, the program: strings.Cut at a line feed; places.
-/
import Derived.Test.YtjhcbcadagljlaaDoorLxG7
namespace Go.Proofs.YtjhcbcadagljlaaDoor.Lx
open Go.RowKit

/-- How many bytes stand before the first line feed. -/
def nl : List Int → Nat
  | [] => 0
  | a :: r => if a = 10 then 0 else nl r + 1
theorem nl_le : ∀ l : List Int, nl l ≤ l.length
  | [] => Nat.le_refl _
  | a :: r => by have := nl_le r; unfold nl; split <;> simp <;> omega
theorem nl_ne : ∀ (l : List Int) (i : Nat), i < nl l → ∃ x, l[i]? = some x ∧ x ≠ 10
  | [], i, h => by simp [nl] at h
  | a :: r, i, h => by
    unfold nl at h
    split at h
    · omega
    · cases i with
      | zero => exact ⟨a, rfl, by assumption⟩
      | succ i => obtain ⟨x, h1, h2⟩ := nl_ne r i (by omega); exact ⟨x, by simpa using h1, h2⟩
theorem nl_c (a : Int) (r : List Int) : nl (a :: r) = if a = 10 then 0 else nl r + 1 := rfl
theorem index_nl (s : ByteArray) : Lib.indexByte s.data.toList 10 = if nl (ch s) < (ch s).length then (nl (ch s) : Int) else -1 := by
  unfold ch
  generalize s.data.toList = l
  induction l with
  | nil => rfl
  | cons b l ih =>
    unfold Lib.indexByte
    rw [List.map_cons, nl_c, List.length_cons]
    by_cases hb : b = 10
    · subst hb; simp
    · have h1 : (b == 10) = false := beq_eq_false_iff_ne.2 hb
      have h2 : ¬ (b.toNat : Int) = 10 := by
        intro e
        exact hb (UInt8.toNat_inj.1 (by rw [show (10 : UInt8).toNat = 10 from rfl]; omega))
      rw [h1, ih, if_neg h2]
      generalize List.map (fun b : UInt8 => (b.toNat : Int)) l = ms
      generalize nl ms = n
      generalize ms.length = k
      by_cases h3 : n < k
      · have h4 : ((n : Int) == -1) = false := beq_eq_false_iff_ne.2 (by omega)
        rw [if_pos h3, h4, if_pos (show n + 1 < k + 1 by omega)]
        simp
      · rw [if_neg h3, if_neg (show ¬ n + 1 < k + 1 by omega)]
        rfl

set_option maxRecDepth 100000 in
set_option maxHeartbeats 2000000 in
theorem cutl_any {s : ByteArray} {m : List Int} (hs : ch s = m) (hn : m.length ≤ 100000) : ∃ t r b, t.size = nl m ∧ ∀ W : World, Calls Tryd.prog 49 #[.string s, .string ⟨#[10]⟩] W (QPost W (.tuple #[.string t, .string r, .bool b])) := by
  have hI := index_nl s
  rw [hs] at hI
  have hsz : s.size = m.length := by rw [← hs, ch_length]
  have HI := Lib.hid (fun W => Tryd.stringslite_Index_one s 10 W)
  rw [hI] at HI
  have hle := nl_le m
  by_cases h : nl m < m.length
  · refine ⟨s.extract 0 (nl m), s.extract (nl m + 1) s.size, true, ?_, fun W => ?_⟩
    · rw [ByteArray.size_extract]; omega
    rw [if_pos h] at HI
    generalize nl m = n at *
    have h1 : (n : Int) ≤ (s.size : Int) := by omega
    have h2 : (n : Int) + 1 ≤ (s.size : Int) := by omega
    clear hs hI hsz
    go_enter Tryd.func49, Tryd.ntmps49
    go_wp2_with (go_at_call 53; ((refine (HI.out _).mono ?_); rintro e w1 ⟨rfl, rfl⟩))
    go_quiet (fail)
    go_wp2_with fail
    refine bodyPost_ret (v := .tuple #[.string (s.extract 0 n), .string (s.extract (n + 1) s.size), .bool true]) (by simp [results, Tryd.results49, go_sem]) rfl ?_
    exact ⟨rfl, _, rfl⟩
  · refine ⟨s, ⟨#[]⟩, false, by omega, fun W => ?_⟩
    rw [if_neg h] at HI
    clear hs hI
    go_enter Tryd.func49, Tryd.ntmps49
    go_wp2_with (go_at_call 53; ((refine (HI.out _).mono ?_); rintro e w1 ⟨rfl, rfl⟩))
    refine bodyPost_ret (v := .tuple #[.string s, .string ⟨#[]⟩, .bool false]) (by simp [results, Tryd.results49, go_sem]) rfl ?_
    exact ⟨rfl, 0, rfl⟩
set_option maxRecDepth 100000 in
theorem cut_any {s : ByteArray} {m : List Int} (hs : ch s = m) (hn : m.length ≤ 100000) : ∃ t r b, t.size = nl m ∧ ∀ W : World, Calls Tryd.prog 33 #[.string s, .string ⟨#[10]⟩] W (QPost W (.tuple #[.string t, .string r, .bool b])) := by
  obtain ⟨t, r, b, h1, h2⟩ := cutl_any hs hn
  have HC := Lib.hid h2
  refine ⟨t, r, b, h1, fun W => ?_⟩
  clear hs h1 h2
  go_enter Tryd.func33, Tryd.ntmps33
  go_wp2_with (go_at_call 49; ((refine (HC.out _).mono ?_); rintro e w1 ⟨rfl, q, rfl⟩))
  refine bodyPost_ret (v := .tuple #[.string t, .string r, .bool b]) (by simp [results, Tryd.results33, go_sem]) rfl ?_
  exact ⟨rfl, _, rfl⟩

/-! ### places -/
/-- The scanner stands at k, in line ln, which begins at st. -/
def Pos (l : List Int) (k : Nat) (ln st : Int) : Prop := adv (1, 1) (l.take k) = (ln, (k : Int) - st + 1) ∧ 0 ≤ st ∧ st ≤ k ∧ 1 ≤ ln ∧ ln ≤ k + 1
theorem Pos.start (l : List Int) : Pos l 0 1 0 := ⟨rfl, by omega, by omega, by omega, by omega⟩
theorem Pos.nl {l : List Int} {k : Nat} {ln st : Int} (h : Pos l k ln st) (hx : l[k]? = some 10) : Pos l (k + 1) (ln + 1) (k + 1) := by
  obtain ⟨h1, h2, h3, h4, h5⟩ := h
  refine ⟨?_, by omega, by omega, by omega, by omega⟩
  rw [take_snoc' hx, adv_append, h1]
  simp only [adv, if_true, Prod.mk.injEq, true_and]
  omega
theorem Pos.step {l : List Int} {k : Nat} {ln st x : Int} (h : Pos l k ln st) (hx : l[k]? = some x) (h10 : x ≠ 10) : Pos l (k + 1) ln st := by
  obtain ⟨h1, h2, h3, h4, h5⟩ := h
  refine ⟨?_, by omega, by omega, by omega, by omega⟩
  rw [take_snoc' hx, adv_append, h1]
  simp only [adv, if_neg h10, Prod.mk.injEq, true_and]
  omega
theorem Pos.run {l : List Int} {k : Nat} {ln st : Int} (h : Pos l k ln st) : ∀ j, (∀ i, i < j → ∃ x, l[k + i]? = some x ∧ x ≠ 10) → Pos l (k + j) ln st
  | 0, _ => h
  | j + 1, hj => by
    have h1 := Pos.run h j fun i hi => hj i (by omega)
    obtain ⟨x, hx, hne⟩ := hj j (by omega)
    exact h1.step hx hne
theorem Pos.bytes {l : List Int} {k : Nat} {ln st : Int} (h : Pos l k ln st) (hk : k ≤ l.length) : 1 ≤ ln ∧ ln ≤ l.length + 1 ∧ 0 ≤ st ∧ st ≤ l.length := by
  obtain ⟨_, h2, h3, h4, h5⟩ := h
  omega

/-- A skip has come to k. -/
def SkA (l : List Int) (k0 k : Nat) : Prop := k0 + skip (l.drop k0) = k + skip (l.drop k)
theorem SkA.blank {l : List Int} {k0 k : Nat} {x : Int} (h : SkA l k0 k) (hx : l[k]? = some x) (hb : Lx.blank x = true) : SkA l k0 (k + 1) := by
  unfold SkA at *
  rw [h, drop_at hx]
  unfold skip
  rw [skipS_f, if_pos hb]
  omega
theorem skipS_nl : ∀ l : List Int, skipS true l = Lx.nl l + skipS false (l.drop (Lx.nl l))
  | [] => rfl
  | a :: r => by
    rw [skipS_t]
    unfold Lx.nl
    by_cases h : a = 10
    · rw [if_pos h, if_pos h, Nat.zero_add]
      subst h
      simp only [List.drop_zero]
      rw [skipS_f, if_pos (by decide)]
    · rw [if_neg h, if_neg h, skipS_nl r, List.drop_succ_cons]
      omega
theorem nl_cons {a : Int} {r : List Int} (h : ¬ a = 10) : nl (a :: r) = nl r + 1 := by rw [nl_c, if_neg h]
theorem SkA.comment {l : List Int} {k0 k : Nat} (h : SkA l k0 k) (hx : l[k]? = some 35) : SkA l k0 (k + Lx.nl (l.drop k)) := by
  unfold SkA at *
  rw [h, ← List.drop_drop, drop_at hx, nl_cons (by omega), List.drop_succ_cons]
  unfold skip
  rw [skipS_f, if_neg (by decide), if_pos rfl, skipS_nl]
  omega
theorem SkA.stop {l : List Int} {k0 k : Nat} {x : Int} (h : SkA l k0 k) (hx : l[k]? = some x) (hb : Lx.blank x = false) (h35 : x ≠ 35) : k = k0 + skip (l.drop k0) := by
  unfold SkA at h
  rw [h, drop_at hx]
  unfold skip
  rw [skipS_f, if_neg (by simp [hb]), if_neg h35]
  rfl
theorem SkA.over {l : List Int} {k0 : Nat} (h : SkA l k0 l.length) : l.length = k0 + skip (l.drop k0) := by
  unfold SkA at h
  rw [h, List.drop_length]
  rfl
theorem fr_set {e : TypeId} {B b i : Nat} {w : World} {cs : Array Value} {f : Nat × Nat} (h : w.heap[b]? = some (.cells cs e f)) (hB : B ≤ b) (v : Value) : Fr e B w (w.setCell ⟨b, i, none⟩ v) := by
  refine ⟨(Below.refl B w).setCell (p := ⟨b, i, none⟩) hB v, fun k c t g hk hne => ?_⟩
  have hkb : k ≠ b := fun e => by subst e; rw [h] at hk; injection hk with hk; injection hk with _ e2; exact hne e2.symm
  rw [heap_setCell_other _ _ _ _ hkb]; exact hk
end Go.Proofs.YtjhcbcadagljlaaDoor.Lx
