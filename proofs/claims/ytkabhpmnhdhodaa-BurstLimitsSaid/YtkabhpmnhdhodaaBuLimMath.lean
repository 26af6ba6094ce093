/-
  Plain mathematics of BurstLimits: times that were made to ascend, and which of them were allowed within a window.
-/
import Derived.Test.YtkabhpmnhdhodaaBuMath
namespace Go.Proofs.Ytkabhpmnhdhodaa.Bu

/-- Each one as great as the one before. -/
def up : Int → List Int → List Int
  | _, [] => []
  | m, x :: r => max x m :: up (max x m) r
theorem up_length : ∀ (m : Int) (l : List Int), (up m l).length = l.length
  | _, [] => rfl
  | m, x :: r => by simp [up, up_length (max x m) r]
theorem up_ge : ∀ (m : Int) (l : List Int), ∀ t ∈ up m l, m ≤ t
  | _, [], t, h => by simp [up] at h
  | m, x :: r, t, h => by
    simp only [up, List.mem_cons] at h
    rcases h with rfl | h
    · omega
    · have := up_ge (max x m) r t h; omega
theorem up_asc : ∀ (m : Int) (l : List Int), List.Pairwise (· ≤ ·) (up m l)
  | _, [] => List.Pairwise.nil
  | m, x :: r => List.pairwise_cons.2 ⟨fun t ht => up_ge (max x m) r t ht, up_asc (max x m) r⟩
theorem up_le {b : Int} : ∀ (m : Int) (l : List Int), m ≤ b → (∀ x ∈ l, x ≤ b) → ∀ t ∈ up m l, t ≤ b
  | _, [], _, _, t, h => by simp [up] at h
  | m, x :: r, hm, hl, t, h => by
    have hx := hl x (by simp)
    simp only [up, List.mem_cons] at h
    rcases h with rfl | h
    · omega
    · exact up_le (max x m) r (by omega) (fun y hy => hl y (by simp [hy])) t h
theorem up_next : ∀ (m : Int) (l : List Int) (i : Nat) (x p : Int), l[i + 1]? = some x → (up m l)[i]? = some p → (up m l)[i + 1]? = some (max x p)
  | _, [], i, x, p, h, _ => by simp at h
  | m, a :: r, 0, x, p, h, k => by
    cases r with
    | nil => simp at h
    | cons y r =>
      simp [up] at h k ⊢
      subst h; subst k; rfl
  | m, a :: r, i + 1, x, p, h, k => by
    have h' : r[i + 1]? = some x := by simpa using h
    have k' : (up (max a m) r)[i]? = some p := by simpa [up] using k
    have := up_next (max a m) r i x p h' k'
    simpa [up] using this
theorem up_first {l : List Int} (h : ∀ x ∈ l, 0 ≤ x) : (up 0 l).take 1 ++ l.drop 1 = l := by
  cases l with
  | nil => rfl
  | cons x r =>
    have := h x (by simp)
    simp [up]; omega
/-- One step of the loop that makes them ascend. -/
theorem up_step {l : List Int} {i : Nat} {x p : Int} (hx : l[i + 1]? = some x) (hp : (up 0 l)[i]? = some p) :
    ((up 0 l).take (i + 1) ++ l.drop (i + 1)).set (i + 1) (max x p) = (up 0 l).take (i + 2) ++ l.drop (i + 2) := by
  have hn := up_next 0 l i x p hx hp
  have hil : i + 1 < l.length := (List.getElem?_eq_some_iff.1 hx).1
  have hl := up_length 0 l
  apply List.ext_getElem?
  intro k
  rw [List.getElem?_set]
  simp only [List.getElem?_append, List.length_take, hl, List.length_append, List.length_drop, List.getElem?_take, List.getElem?_drop]
  by_cases e : i + 1 = k
  · subst e
    rw [if_pos rfl, if_pos (by omega), if_pos (by omega), if_pos (by omega), hn]
  · rw [if_neg e]
    by_cases e2 : k < i + 1
    · rw [if_pos (by omega), if_pos e2, if_pos (by omega), if_pos (by omega)]
    · rw [if_neg (by omega), if_neg (by omega)]
      congr 1; omega
theorem up_at {l : List Int} {i : Nat} {x : Int} (hx : l[i + 1]? = some x) : ((up 0 l).take (i + 1) ++ l.drop (i + 1))[i + 1]? = some x ∧ ∃ p, (up 0 l)[i]? = some p ∧ ((up 0 l).take (i + 1) ++ l.drop (i + 1))[i]? = some p := by
  have hil : i + 1 < l.length := (List.getElem?_eq_some_iff.1 hx).1
  have hl := up_length 0 l
  simp only [List.getElem?_append, List.length_take, hl, List.getElem?_take, List.getElem?_drop]
  refine ⟨by rw [if_neg (by omega), ← hx]; congr 1; omega, (up 0 l)[i]'(by omega), List.getElem?_eq_getElem _, ?_⟩
  rw [if_pos (by omega), if_pos (by omega)]
  exact List.getElem?_eq_getElem _

/-- The times that were allowed. -/
def got : List Int → List Bool → List Int
  | t :: r, b :: bs => (if b = true then [t] else []) ++ got r bs
  | _, _ => []
theorem got_snoc : ∀ (l : List Int) (bs : List Bool) (k : Nat) (t : Int) (b : Bool), l[k]? = some t → bs[k]? = some b → got (l.take (k + 1)) bs = got (l.take k) bs ++ (if b = true then [t] else [])
  | [], _, k, t, b, h, _ => by simp at h
  | _ :: _, [], k, t, b, _, h => by simp at h
  | a :: r, c :: cs, 0, t, b, h, g => by simp at h g; subst h; subst g; simp [got]
  | a :: r, c :: cs, k + 1, t, b, h, g => by
    have h' : r[k]? = some t := by simpa using h
    have g' : cs[k]? = some b := by simpa using g
    have := got_snoc r cs k t b h' g'
    simp only [List.take_succ_cons, got]
    rw [this, List.append_assoc]
theorem trim_append (a b : List Int) (n w : Int) : trim (a ++ b) n w = trim a n w ++ trim b n w := by unfold trim; exact List.filter_append ..
theorem young_earlier {n m w t : Int} (h : n ≤ m) (hy : young m w t = true) : young n w t = true := by
  unfold young subS at *
  simp only [decide_eq_true_eq] at *
  split at hy <;> split <;> omega
theorem trim_twice {l : List Int} {n m w : Int} (h : n ≤ m) : trim (trim l n w) m w = trim l m w := by
  unfold trim
  rw [List.filter_filter]
  congr 1
  funext t
  by_cases hm : young m w t = true
  · simp [hm, young_earlier h hm]
  · have hm : young m w t = false := by simpa using hm
    simp [hm]
theorem allowL_eq (ts : List Int) (most now win : Int) : allowL ts most now win = trim ts now win ++ (if allowB ts most now win = true then [now] else []) := by
  unfold allowL allowB
  by_cases h : ((trim ts now win).length : Int) < most <;> simp [h]
theorem limits (most win : Int) : ∀ (r ts : List Int) (now : Int) (A : List Int), List.Pairwise (· ≤ ·) r → (∀ t ∈ r, now ≤ t) → (∀ m, now ≤ m → trim ts m win = trim A m win) →
    ∀ (i : Nat) (y : Int), r[i]? = some y → (play most win ts now r)[i]? = some (decide (((trim (A ++ got (r.take i) (play most win ts now r)) y win).length : Int) < most))
  | [], _, _, _, _, _, _, i, y, h => by simp at h
  | t :: r, ts, now, A, hp, hn, ht, i, y, h => by
    have hnt := hn t (by simp)
    have hmax : max now t = t := by omega
    have hpc := List.pairwise_cons.1 hp
    simp only [play, hmax]
    cases i with
    | zero =>
      simp at h
      subst h
      simp only [List.getElem?_cons_zero, List.take_zero, got, List.append_nil]
      unfold allowB
      rw [ht t hnt]
    | succ i =>
      have h' : r[i]? = some y := by simpa using h
      have hinv : ∀ m, t ≤ m → trim (allowL ts most t win) m win = trim (A ++ (if allowB ts most t win = true then [t] else [])) m win := by
        intro m hm
        rw [allowL_eq, trim_append, trim_append, trim_twice hm, ht m (by omega)]
      have ih := limits most win r (allowL ts most t win) t (A ++ (if allowB ts most t win = true then [t] else [])) hpc.2 hpc.1 hinv i y h'
      simp only [List.getElem?_cons_succ, List.take_succ_cons, got]
      rw [ih, List.append_assoc]
/-- How many were allowed within the window, of the first k ones. -/
def cnt (ys : List Int) (bs : List Bool) (y win : Int) (k : Nat) : Nat := (trim (got (ys.take k) bs) y win).length
theorem cnt_zero (ys : List Int) (bs : List Bool) (y win : Int) : cnt ys bs y win 0 = 0 := by simp [cnt, got, trim]
theorem cnt_step {ys : List Int} {bs : List Bool} {y win t : Int} {k : Nat} {b : Bool} (h : ys[k]? = some t) (g : bs[k]? = some b) (hty : t ≤ y) :
    cnt ys bs y win (k + 1) = cnt ys bs y win k + (if b = true ∧ y - t < win then 1 else 0) := by
  unfold cnt
  rw [got_snoc ys bs k t b h g, trim_append, List.length_append]
  congr 1
  have hs : subS y t = y - t := by unfold subS; rw [if_neg (by omega)]
  cases b with
  | false => simp [trim]
  | true =>
    by_cases hw : y - t < win
    · simp [trim, young, hs, hw]
    · simp [trim, young, hs, hw]
theorem cnt_le (ys : List Int) (bs : List Bool) (y win : Int) (k : Nat) : cnt ys bs y win k ≤ k := by
  have h : ∀ (l : List Int) (cs : List Bool), (got l cs).length ≤ l.length := by
    intro l
    induction l with
    | nil => intro cs; simp [got]
    | cons a r ih =>
      intro cs
      cases cs with
      | nil => simp [got]
      | cons c cs =>
        have := ih cs
        simp only [got, List.length_append, List.length_cons]
        split <;> simp <;> omega
  unfold cnt
  have h1 := trim_le (got (ys.take k) bs) y win
  have h2 := h (ys.take k) bs
  rw [List.length_take] at h2
  omega
theorem limits_up {most win : Int} (xs : List Int) {i : Nat} {y : Int} (h : (up 0 xs)[i]? = some y) :
    (play most win [] 0 (up 0 xs))[i]? = some (decide ((cnt (up 0 xs) (play most win [] 0 (up 0 xs)) y win i : Int) < most)) := by
  exact limits most win (up 0 xs) [] 0 [] (up_asc 0 xs) (up_ge 0 xs) (fun _ _ => rfl) i y h
theorem asc_at {l : List Int} (h : List.Pairwise (· ≤ ·) l) {k i : Nat} {t y : Int} (hk : l[k]? = some t) (hi : l[i]? = some y) (hki : k < i) : t ≤ y := by
  obtain ⟨h1, rfl⟩ := List.getElem?_eq_some_iff.1 hk
  obtain ⟨h2, rfl⟩ := List.getElem?_eq_some_iff.1 hi
  exact List.pairwise_iff_getElem.1 h k i h1 h2 hki
end Go.Proofs.Ytkabhpmnhdhodaa.Bu
