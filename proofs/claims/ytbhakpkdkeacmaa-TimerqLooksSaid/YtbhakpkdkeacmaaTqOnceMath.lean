/-
  The plain mathematics of TimerqOnce: a table of what is set, and for when, follows the timers.
-/
import Derived.Test.YtbhakpkdkeacmaaTqReps
namespace Go.Proofs.Ytbhakpkdkeacmaa.Tq
open Go.Maps

structure Tr (l : List Tm) (A : Nat → Int) (S : Nat → Bool) : Prop where
  nd : Nd l
  ids : ∀ t ∈ l, 0 ≤ t.1 ∧ t.1 < 9
  set : ∀ x : Nat, x < 9 → S x = mem l x
  at_ : ∀ t ∈ l, A t.1.toNat = t.2
def up {α : Type} (f : Nat → α) (x : Nat) (v : α) : Nat → α := fun y => if y = x then v else f y
theorem up_same {α : Type} (f : Nat → α) (x : Nat) (v : α) : up f x v x = v := by simp [up]
theorem up_other {α : Type} (f : Nat → α) {x y : Nat} (v : α) (h : y ≠ x) : up f x v y = f y := by simp [up, h]
theorem Tr.nil (A : Nat → Int) : Tr [] A (fun _ => false) := ⟨List.nodup_nil, fun t h => by simp at h, fun x _ => rfl, fun t h => by simp at h⟩
theorem nd_rem {l : List Tm} (h : Nd l) (x : Int) : Nd (rem l x) := by
  unfold Nd rem at *
  exact List.Nodup.sublist (List.Sublist.map _ List.filter_sublist) h
theorem mem_rem_iff {l : List Tm} {x : Int} {t : Tm} : t ∈ rem l x ↔ t ∈ l ∧ t.1 ≠ x := by simp [rem]
theorem mem_rem (l : List Tm) (x y : Int) : mem (rem l x) y = (mem l y && !decide (y = x)) := by
  rw [Bool.eq_iff_iff]
  simp only [mem_iff, Bool.and_eq_true, Bool.not_eq_true', decide_eq_false_iff_not, mem_rem_iff]
  constructor
  · rintro ⟨t, ⟨h1, h2⟩, rfl⟩; exact ⟨⟨t, h1, rfl⟩, h2⟩
  · rintro ⟨⟨t, h1, rfl⟩, h2⟩; exact ⟨t, ⟨h1, h2⟩, rfl⟩
theorem mem_snoc (l : List Tm) (u : Tm) (y : Int) : mem (l ++ [u]) y = (mem l y || decide (u.1 = y)) := by
  rw [Bool.eq_iff_iff]
  simp [mem, List.any_append]
theorem stepL_put {l : List Tm} (hl : l.length < 256) (now : Int) (x : Nat) (t : Int) : stepL l now ⟨1, x, t⟩ = rem l x ++ [((x : Int), t)] := by
  have h0 : ¬ ((x : Int) < 0) := by omega
  have h1 : ¬ 256 ≤ l.length := by omega
  cases hm : mem l x with
  | true => simp [stepL, h0, hm]
  | false => rw [rem_away hm]; simp [stepL, h0, hm, h1]
theorem Tr.put {l : List Tm} {A : Nat → Int} {S : Nat → Bool} (h : Tr l A S) (hl : l.length < 256) (now : Int) (x : Nat) (hx : x < 9) (t : Int) : Tr (stepL l now ⟨1, x, t⟩) (up A x t) (up S x true) := by
  rw [stepL_put hl]
  refine ⟨?_, fun u hu => ?_, fun y hy => ?_, fun u hu => ?_⟩
  · unfold Nd
    rw [List.map_append]
    refine List.nodup_append.2 ⟨nd_rem h.nd x, by simp, ?_⟩
    intro a ha b hb e
    subst e
    simp at hb
    subst hb
    obtain ⟨u, hu, e⟩ := List.mem_map.1 ha
    exact (mem_rem_iff.1 hu).2 e
  · rcases List.mem_append.1 hu with hu | hu
    · exact h.ids u (mem_rem_iff.1 hu).1
    · simp at hu; subst hu; exact ⟨by show (0 : Int) ≤ x; omega, by show (x : Int) < 9; omega⟩
  · rw [mem_snoc, mem_rem]
    by_cases e : y = x
    · subst e; rw [up_same]; simp
    · rw [up_other _ _ e, h.set y hy]
      have h1 : ¬ ((y : Int) = x) := by omega
      have h2 : ¬ ((x : Int) = y) := by omega
      simp [h1, h2]
  · rcases List.mem_append.1 hu with hu | hu
    · obtain ⟨h1, h2⟩ := mem_rem_iff.1 hu
      have := h.ids u h1
      rw [up_other _ _ (by omega)]
      exact h.at_ u h1
    · simp at hu; subst hu
      show up A x t (x : Int).toNat = t
      rw [show (x : Int).toNat = x from by omega, up_same]
theorem Tr.cut {l : List Tm} {A : Nat → Int} {S : Nat → Bool} (h : Tr l A S) (now : Int) (x : Nat) (t : Int) : Tr (stepL l now ⟨2, x, t⟩) A (up S x false) := by
  have e : stepL l now ⟨2, x, t⟩ = rem l x := by simp [stepL]
  rw [e]
  refine ⟨nd_rem h.nd x, fun u hu => h.ids u (mem_rem_iff.1 hu).1, fun y hy => ?_, fun u hu => h.at_ u (mem_rem_iff.1 hu).1⟩
  rw [mem_rem]
  by_cases e : y = x
  · subst e; rw [up_same]; simp
  · rw [up_other _ _ e, h.set y hy]
    have h1 : ¬ ((y : Int) = x) := by omega
    simp [h1]
theorem cut_code (l : List Tm) (now : Int) (x t : Int) : (stepR l now ⟨2, x, t⟩).code = if mem l x then 0 else 4 := by
  simp [stepR]; split <;> rfl
theorem nd_ne {f : List Tm} (h : Nd f) {i j : Nat} {a b : Tm} (hi : f[i]? = some a) (hj : f[j]? = some b) (hne : i ≠ j) : a.1 ≠ b.1 := by
  have hil := (List.getElem?_eq_some_iff.1 hi).1
  have hjl := (List.getElem?_eq_some_iff.1 hj).1
  unfold Nd List.Nodup at h
  rw [List.pairwise_iff_getElem] at h
  have key : ∀ i j (hi' : i < f.length) (hj' : j < f.length), i < j → (f[i]).1 ≠ (f[j]).1 := fun i j hi' hj' hlt => by
    have := h i j (by simpa using hi') (by simpa using hj') hlt
    simpa using this
  rcases Nat.lt_or_gt_of_ne hne with hlt | hlt
  · have := key i j hil hjl hlt
    rwa [(List.getElem?_eq_some_iff.1 hi).2, (List.getElem?_eq_some_iff.1 hj).2] at this
  · have := key j i hjl hil hlt
    rw [(List.getElem?_eq_some_iff.1 hi).2, (List.getElem?_eq_some_iff.1 hj).2] at this
    exact fun e => this e.symm
theorem Tr.adv_ {l : List Tm} {A : Nat → Int} {S S' : Nat → Bool} (h : Tr l A S) (M : Int) (hS : ∀ x : Nat, x < 9 → S' x = (mem l x && !mem (ord (due l M)) x)) : Tr (notDue l M) A S' := by
  have hsub : ∀ t ∈ notDue l M, t ∈ l ∧ ¬ t.2 ≤ M := fun t ht => by unfold notDue at ht; simpa using ht
  refine ⟨?_, fun t ht => h.ids t (hsub t ht).1, fun x hx => ?_, fun t ht => h.at_ t (hsub t ht).1⟩
  · unfold Nd notDue
    exact List.Nodup.sublist (List.Sublist.map _ List.filter_sublist) h.nd
  · rw [hS x hx, Bool.eq_iff_iff]
    simp only [Bool.and_eq_true, Bool.not_eq_true', mem_iff, mem_false]
    constructor
    · rintro ⟨⟨t, h1, h2⟩, h3⟩
      refine ⟨t, ?_, h2⟩
      unfold notDue
      simp
      refine ⟨h1, ?_⟩
      rcases Int.lt_or_le M t.2 with hh | hh
      · exact hh
      · exact absurd h2 (h3 t ((ord_perm _).mem_iff.2 (by unfold due; simp; exact ⟨h1, hh⟩)))
    · rintro ⟨t, h1, h2⟩
      obtain ⟨h3, h4⟩ := hsub t h1
      refine ⟨⟨t, h3, h2⟩, fun u hu e => ?_⟩
      have hu' : u ∈ l ∧ u.2 ≤ M := by have := (ord_perm _).mem_iff.1 hu; unfold due at this; simpa using this
      have : u = t := by
        obtain ⟨i, hi⟩ := List.getElem?_of_mem hu'.1
        obtain ⟨j, hj⟩ := List.getElem?_of_mem h3
        have hij : i = j := Classical.byContradiction fun hne => nd_ne h.nd hi hj hne (by rw [e, h2])
        subst hij
        rw [hi] at hj; simpa using hj
      subst this
      exact h4 hu'.2
theorem runL_le (l : List Tm) (now : Int) (os : List TOp) : (runL l now os).length ≤ l.length + os.length := by
  induction os generalizing l now with
  | nil => simp [runL]
  | cons o os ih =>
    rw [runL]
    refine Nat.le_trans (ih _ _) ?_
    have : (stepL l now o).length ≤ l.length + 1 := by
      unfold stepL
      split
      · split
        · omega
        · split
          · have : (rem l o.id).length ≤ l.length := List.length_filter_le _ _
            simp; omega
          · split <;> simp
      · split
        · exact Nat.le_trans (List.length_filter_le _ _) (by omega)
        · split
          · exact Nat.le_trans (List.length_filter_le _ _) (by omega)
          · omega
    simp; omega

/-- What is fired, one after the other. -/
structure Fires (l : List Tm) (A : Nat → Int) (M : Int) (f : List Tm) : Prop where
  nd : Nd f
  srt : Sorted f
  of : ∀ t ∈ f, t ∈ l ∧ t.2 ≤ M
theorem fires (l : List Tm) (A : Nat → Int) (M : Int) (h : Nd l) : Fires l A M (ord (due l M)) := by
  refine ⟨?_, ord_sorted _, fun t ht => ?_⟩
  · refine Nd.perm ?_ (ord_perm _).symm
    unfold Nd due
    exact List.Nodup.sublist (List.Sublist.map _ List.filter_sublist) h
  · have := (ord_perm _).mem_iff.1 ht
    unfold due at this
    simpa using this
theorem sorted_at {f : List Tm} (h : Sorted f) {i j : Nat} {a b : Tm} (hi : f[i]? = some a) (hj : f[j]? = some b) (hlt : i < j) : tle a b := by
  have hil := (List.getElem?_eq_some_iff.1 hi).1
  have hjl := (List.getElem?_eq_some_iff.1 hj).1
  have := (List.pairwise_iff_getElem.1 h) i j hil hjl hlt
  rwa [(List.getElem?_eq_some_iff.1 hi).2, (List.getElem?_eq_some_iff.1 hj).2] at this
/-- Not yet fired: is still set. -/
theorem not_yet {f : List Tm} (h : Nd f) {j : Nat} {t : Tm} (hj : f[j]? = some t) : mem (f.take j) t.1 = false := by
  rw [mem_false]
  intro u hu e
  obtain ⟨i, hi⟩ := List.getElem?_of_mem hu
  have hil := (List.getElem?_eq_some_iff.1 hi).1
  rw [List.length_take] at hil
  rw [List.getElem?_take, if_pos (by omega)] at hi
  exact nd_ne h hi hj (by omega) e
theorem left_snoc {l f : List Tm} {S : Nat → Bool} {j : Nat} {t : Tm} (hj : f[j]? = some t) (n : Nat) (hn : t.1 = n) (hS : ∀ x : Nat, x < 9 → S x = (mem l x && !mem (f.take j) x)) :
    ∀ x : Nat, x < 9 → up S n false x = (mem l x && !mem (f.take (j + 1)) x) := by
  intro x hx
  rw [take_snoc' hj, mem_snoc]
  by_cases e : x = n
  · subst e; rw [up_same, hn]; simp
  · rw [up_other _ _ e, hS x hx]
    have : ¬ (t.1 = (x : Int)) := by omega
    simp [this]
end Go.Proofs.Ytbhakpkdkeacmaa.Tq
