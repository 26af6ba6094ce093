/-
  The plain mathematics of TimerqDivides: several advances fire what one fires.
-/
import Derived.Test.YtbhakpkdkeacmaaTqReps
namespace Go.Proofs.Ytbhakpkdkeacmaa.Tq
open Go.Maps

theorem ord_split (l : List Tm) (n1 M : Int) (h : n1 ≤ M) : ord (due l n1) ++ ord (due (notDue l n1) M) = ord (due l M) := by
  symm
  refine ord_eq ?_ ?_
  · unfold Sorted
    rw [List.pairwise_append]
    refine ⟨ord_sorted _, ord_sorted _, fun x hx y hy => ?_⟩
    have hx' := (ord_perm _).mem_iff.1 hx
    have hy' := (ord_perm _).mem_iff.1 hy
    unfold due at hx'
    unfold due notDue at hy'
    simp at hx' hy'
    rw [tle_iff]
    omega
  · refine ((ord_perm _).append (ord_perm _)).trans ?_
    have e : due (notDue l n1) M = (due l M).filter (fun t => !decide (t.2 ≤ n1)) := by
      unfold due notDue
      rw [List.filter_filter, List.filter_filter]
      apply List.filter_congr
      intro t _
      rw [Bool.and_comm]
    have e2 : due l n1 = (due l M).filter (fun t => decide (t.2 ≤ n1)) := by
      unfold due
      rw [List.filter_filter]
      apply List.filter_congr
      intro t _
      by_cases h1 : t.2 ≤ n1
      · have h2 : t.2 ≤ M := by omega
        simp [h1, h2]
      · simp [h1]
    rw [e, e2]
    exact List.filter_append_perm _ _

/-- What a list of advances fires, all together. -/
def adv (t : Int) : TOp := ⟨3, 0, t⟩
def firedOf (rs : List Rep) : List Int := rs.flatMap (·.fired)
theorem play_append (l : List Tm) (now : Int) (a b : List TOp) : play l now (a ++ b) = play l now a ++ play (runL l now a) (runN now a) b := by
  induction a generalizing l now with
  | nil => rfl
  | cons o a ih => simp [play, runL, runN, ih]
theorem fired_sets (l : List Tm) (now : Int) (os : List TOp) (h : ∀ o ∈ os, o.kind = 1) : firedOf (play l now os) = [] := by
  induction os generalizing l now with
  | nil => rfl
  | cons o os ih =>
    have h1 := h o (by simp)
    unfold firedOf at *
    rw [play, List.flatMap_cons, ih _ _ (fun x hx => h x (by simp [hx]))]
    have : (stepR l now o).fired = [] := by
      unfold stepR
      rw [if_pos h1]
      split
      · rfl
      · split
        · rfl
        · split <;> rfl
    rw [this]; rfl
theorem now_sets (now : Int) (os : List TOp) (h : ∀ o ∈ os, o.kind = 1) : runN now os = now := by
  induction os generalizing now with
  | nil => rfl
  | cons o os ih =>
    rw [runN]
    have h1 := h o (by simp)
    have : stepN now o = now := by unfold stepN; rw [h1]; rfl
    rw [this]
    exact ih now (fun x hx => h x (by simp [hx]))
def lastOf (now : Int) (ts : List Int) : Int := ts.foldl (fun a t => max a t) now
theorem lastOf_ge (now : Int) (ts : List Int) : now ≤ lastOf now ts := by
  induction ts generalizing now with
  | nil => exact Int.le_refl _
  | cons t ts ih => exact Int.le_trans (by omega) (ih (max now t))
theorem fired_advs (l : List Tm) (now : Int) (t : Int) (ts : List Int) : firedOf (play l now ((t :: ts).map adv)) = (ord (due l (lastOf now (t :: ts)))).map (·.1) := by
  induction ts generalizing l now t with
  | nil => simp [firedOf, play, adv, stepR, lastOf]
  | cons u us ih =>
    have h1 : firedOf (play l now ((t :: u :: us).map adv)) = (ord (due l (max now t))).map (·.1) ++ firedOf (play (notDue l (max now t)) (max now t) ((u :: us).map adv)) := by
      simp [firedOf, play, adv, stepR, stepL, stepN]
    rw [h1, ih, ← List.map_append]
    congr 1
    exact ord_split l (max now t) _ (lastOf_ge _ _)
theorem divides (ss : List TOp) (hs : ∀ o ∈ ss, o.kind = 1) (t : Int) (ts : List Int) :
    firedOf (play [] 0 (ss ++ (t :: ts).map adv)) = firedOf (play [] 0 (ss ++ [adv (lastOf 0 (t :: ts))])) := by
  have e1 : ∀ b, firedOf (play [] 0 (ss ++ b)) = firedOf (play (runL [] 0 ss) 0 b) := fun b => by
    have := fired_sets [] 0 ss hs
    rw [play_append, now_sets 0 ss hs]
    unfold firedOf at *
    rw [List.flatMap_append, this, List.nil_append]
  rw [e1, e1, fired_advs]
  have := fired_advs (runL [] 0 ss) 0 (lastOf 0 (t :: ts)) []
  simp only [List.map_cons, List.map_nil] at this
  rw [this]
  have hg := lastOf_ge 0 (t :: ts)
  have : lastOf 0 [lastOf 0 (t :: ts)] = lastOf 0 (t :: ts) := by
    show max 0 _ = _
    omega
  rw [this]
theorem lastOf_snoc (now : Int) (ts : List Int) (t : Int) : lastOf now (ts ++ [t]) = max (lastOf now ts) t := by simp [lastOf]
theorem lastOf_bd (ts : List Int) (h : ∀ t ∈ ts, 0 ≤ t ∧ t < 50) : 0 ≤ lastOf 0 ts ∧ lastOf 0 ts < 50 := by
  suffices ∀ now, 0 ≤ now → now < 50 → 0 ≤ lastOf now ts ∧ lastOf now ts < 50 from this 0 (by omega) (by omega)
  induction ts with
  | nil => intro now h0 h1; exact ⟨h0, h1⟩
  | cons t ts ih =>
    intro now h0 h1
    have ht := h t (by simp)
    exact ih (fun x hx => h x (by simp [hx])) (max now t) (by omega) (by omega)
theorem fired_len_le (rs : List Rep) (h : ∀ r ∈ rs, r.fired.length ≤ 1000) : (firedOf rs).length ≤ rs.length * 1000 := by
  induction rs with
  | nil => simp [firedOf]
  | cons r rs ih =>
    have h1 := h r (by simp)
    have h2 := ih (fun x hx => h x (by simp [hx]))
    unfold firedOf at *
    rw [List.flatMap_cons, List.length_append, List.length_cons]
    omega
theorem fired_take {rs : List Rep} {k : Nat} {r : Rep} (h : rs[k]? = some r) : firedOf (rs.take (k + 1)) = firedOf (rs.take k) ++ r.fired := by
  rw [take_snoc' h]; simp [firedOf]
end Go.Proofs.Ytbhakpkdkeacmaa.Tq
