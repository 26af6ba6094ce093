/-
  Layer 4, the reference: which bytes are the first of an encoding; Valid, Flush.
-/
import Derived.Test.YtjcgcloanamabaaRuNum
namespace Go.Proofs.Ytjcgcloanamabaa.Ru
open Go.RowKit

def full (l : List Int) : Bool := fits l && !isBeg l
def ok4 (lo L M : Int) : Bool := decide (¬ (M < lo ∨ L > 1114111 ∨ (55296 ≤ L ∧ M ≤ 57343)))
theorem fits_le {a : Int} {t : List Int} (h : fits (a :: t) = true) : ((t.length : Int) + 1) ≤ len1 a := by
  match t, h with
  | [], h => simpa [fits] using h
  | [_], h => simp [fits] at h; simp; omega
  | [_, _], h => simp [fits] at h; simp; omega
  | [_, _, _], h => simp [fits] at h; simp; omega
  | _ :: _ :: _ :: _ :: _, h => simp [fits] at h
theorem full_of {a : Int} {t : List Int} (h : fits (a :: t) = true) : full (a :: t) = decide ((t.length : Int) + 1 = len1 a) := by
  have h1 := fits_le h
  unfold full; rw [isBeg_some h, h]
  rw [Bool.eq_iff_iff]; simp; omega
theorem full_none {l : List Int} (h : fits l = false) : full l = false := by unfold full; rw [h]; rfl
theorem fits_long {a : Int} {t : List Int} (h : len1 a < (t.length : Int) + 1) : fits (a :: t) = false := by
  cases hf : fits (a :: t) with
  | false => rfl
  | true => have := fits_le hf; omega
theorem contF_cont {f b : Int} (h : contF f b = true) : cont b = true := by
  unfold contF cont at *
  split at h
  · simp at *; omega
  split at h
  · simp at *; omega
  split at h
  · simp at *; omega
  split at h
  · simp at *; omega
  · exact h
theorem fits_cont {a : Int} {t : List Int} (h : fits (a :: t) = true) : ∀ x ∈ t, cont x = true := by
  match t, h with
  | [], _ => intro x hx; simp at hx
  | [b], h => intro x hx; simp [fits] at h hx; subst hx; exact contF_cont h.1
  | [b, c], h =>
    intro x hx; simp [fits] at h hx
    rcases hx with rfl | rfl
    · exact contF_cont h.1.2
    · exact h.1.1
  | [b, c, d], h =>
    intro x hx; simp [fits] at h hx
    rcases hx with rfl | rfl | rfl
    · exact contF_cont h.1.2
    · exact h.1.1.2
    · exact h.1.1.1
  | _ :: _ :: _ :: _ :: _, h => simp [fits] at h
theorem fits_bad {a x : Int} {t : List Int} (hx : x ∈ t) (h : cont x = false) : fits (a :: t) = false := by
  cases hf : fits (a :: t) with
  | false => rfl
  | true => rw [fits_cont hf x hx] at h; simp at h
theorem len1_cases (a : Int) (h0 : 0 ≤ a) : (len1 a = 0 ∧ (128 ≤ a ∧ a ≤ 193 ∨ 245 ≤ a)) ∨ (len1 a = 1 ∧ a ≤ 127) ∨ (len1 a = 2 ∧ 194 ≤ a ∧ a ≤ 223) ∨ (len1 a = 3 ∧ 224 ≤ a ∧ a ≤ 239) ∨ (len1 a = 4 ∧ 240 ≤ a ∧ a ≤ 244) := by
  unfold len1
  repeat' split
  all_goals omega

/-! ### which numbers -/
theorem pre_1 {a : Int} (h0 : 0 ≤ a) (h : a ≤ 127) : fits [a] = ok4 0 a a := by
  have e : len1 a = 1 := by unfold len1; rw [if_pos h]
  simp only [fits, e, ok4]; exact decide_eq_decide.2 (by omega)
theorem cont_bd {x : Int} (h : cont x = true) : 128 ≤ x ∧ x ≤ 191 := by simpa [cont] using h
theorem pre_2 {a : Int} {t : List Int} (h0 : 194 ≤ a) (h1 : a ≤ 223) (hn : t.length ≤ 1) (hc : ∀ x ∈ t, cont x = true) : fits (a :: t) = ok4 128 (accD (a % 32) (dg t 1 0)) (accD (a % 32) (dg t 1 63)) := by
  have e : len1 a = 2 := by unfold len1; rw [if_neg (by omega), if_pos (by omega)]
  match t, hn, hc with
  | [], _, _ => simp only [fits, e, ok4, accD, dg, List.map_nil, List.length_nil, List.nil_append, Nat.sub_zero, List.replicate, List.foldl]; exact decide_eq_decide.2 (by omega)
  | [b], _, hc =>
    have hb := cont_bd (hc b (by simp))
    have ef : contF a b = true := by
      unfold contF cont
      rw [if_neg (by omega), if_neg (by omega), if_neg (by omega), if_neg (by omega)]
      simp; omega
    simp only [fits, e, ef, Bool.true_and, ok4, accD, dg, List.map_cons, List.map_nil, List.length_cons, List.length_nil, List.append_nil, Nat.sub_self, Nat.zero_add, List.replicate, List.foldl]; exact decide_eq_decide.2 (by omega)
theorem pre_3 {a : Int} {t : List Int} (h0 : 224 ≤ a) (h1 : a ≤ 239) (hn : t.length ≤ 2) (hc : ∀ x ∈ t, cont x = true) : fits (a :: t) = ok4 2048 (accD (a % 16) (dg t 2 0)) (accD (a % 16) (dg t 2 63)) := by
  have e : len1 a = 3 := by unfold len1; rw [if_neg (by omega), if_neg (by omega), if_pos (by omega)]
  match t, hn, hc with
  | [], _, _ => simp only [fits, e, ok4, accD, dg, List.map_nil, List.length_nil, List.nil_append, Nat.sub_zero, List.replicate, List.foldl]; exact decide_eq_decide.2 (by omega)
  | [b], _, hc =>
    have hb := cont_bd (hc b (by simp))
    simp only [fits, e, ok4, accD, dg, List.map_cons, List.map_nil, List.length_cons, List.length_nil, List.cons_append, List.nil_append, Nat.zero_add, Nat.reduceSub, List.replicate, List.foldl]
    rw [Bool.eq_iff_iff]
    unfold contF cont
    repeat' split
    all_goals simp only [Bool.and_eq_true, decide_eq_true_eq]; omega
  | [b, c], _, hc =>
    have hb := cont_bd (hc b (by simp))
    have hc2 := cont_bd (hc c (by simp))
    have ec := hc c (by simp)
    simp only [fits, e, ec, Bool.true_and, ok4, accD, dg, List.map_cons, List.map_nil, List.length_cons, List.length_nil, List.append_nil, Nat.zero_add, Nat.reduceAdd, Nat.sub_self, List.replicate, List.foldl]
    rw [Bool.eq_iff_iff]
    unfold contF cont
    repeat' split
    all_goals simp only [Bool.and_eq_true, decide_eq_true_eq]; omega
theorem pre_4 {a : Int} {t : List Int} (h0 : 240 ≤ a) (h1 : a ≤ 244) (hn : t.length ≤ 3) (hc : ∀ x ∈ t, cont x = true) : fits (a :: t) = ok4 65536 (accD (a % 8) (dg t 3 0)) (accD (a % 8) (dg t 3 63)) := by
  have e : len1 a = 4 := by unfold len1; rw [if_neg (by omega), if_neg (by omega), if_neg (by omega), if_pos (by omega)]
  match t, hn, hc with
  | [], _, _ => simp only [fits, e, ok4, accD, dg, List.map_nil, List.length_nil, List.nil_append, Nat.sub_zero, List.replicate, List.foldl]; exact decide_eq_decide.2 (by omega)
  | [b], _, hc =>
    have hb := cont_bd (hc b (by simp))
    simp only [fits, e, ok4, accD, dg, List.map_cons, List.map_nil, List.length_cons, List.length_nil, List.cons_append, List.nil_append, Nat.zero_add, Nat.reduceSub, List.replicate, List.foldl]
    rw [Bool.eq_iff_iff]
    unfold contF cont
    repeat' split
    all_goals simp only [Bool.and_eq_true, decide_eq_true_eq]; omega
  | [b, c], _, hc =>
    have hb := cont_bd (hc b (by simp))
    have hc2 := cont_bd (hc c (by simp))
    have ec := hc c (by simp)
    simp only [fits, e, ec, Bool.true_and, ok4, accD, dg, List.map_cons, List.map_nil, List.length_cons, List.length_nil, List.cons_append, List.nil_append, Nat.zero_add, Nat.reduceAdd, Nat.reduceSub, List.replicate, List.foldl]
    rw [Bool.eq_iff_iff]
    unfold contF cont
    repeat' split
    all_goals simp only [Bool.and_eq_true, decide_eq_true_eq]; omega
  | [b, c, d], _, hc =>
    have hb := cont_bd (hc b (by simp))
    have hc2 := cont_bd (hc c (by simp))
    have hd2 := cont_bd (hc d (by simp))
    have ec := hc c (by simp)
    have ed := hc d (by simp)
    simp only [fits, e, ec, ed, Bool.true_and, ok4, accD, dg, List.map_cons, List.map_nil, List.length_cons, List.length_nil, List.append_nil, Nat.zero_add, Nat.reduceAdd, Nat.sub_self, List.replicate, List.foldl]
    rw [Bool.eq_iff_iff]
    unfold contF cont
    repeat' split
    all_goals simp only [Bool.and_eq_true, decide_eq_true_eq]; omega
end Go.Proofs.Ytjcgcloanamabaa.Ru
