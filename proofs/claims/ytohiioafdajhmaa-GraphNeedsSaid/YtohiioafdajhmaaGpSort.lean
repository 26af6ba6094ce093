/-
  Layer 7: numbers sorted and made unique by the library; places as numbers.
-/
import Derived.Test.YtohiioafdajhmaaGpIdx
import Derived.Test.YtohiioafdajhmaaShelf
import Derived.Sort.OwnSortedInts
namespace Go.Proofs.Ytohiioafdajhmaa.Gp
open Go.RowKit Go.Sort

/-- Places as ints. -/
abbrev ints (l : List Nat) : List Int := l.map fun n : Nat => (n : Int)
theorem ints_length (l : List Nat) : (ints l).length = l.length := List.length_map _
theorem own_snocN {e : TypeId} {w : World} {B : Nat} {v : Value} {l : List Nat} {x : Nat} (h : Own e .i64 w B v (ints l ++ [(x : Int)])) : ∃ A c, v = .slice A (l.length + 1) c ∧ Own e .i64 w B (.slice A (l.length + 1) c) (ints (l ++ [x])) := by
  obtain ⟨A, c, hv⟩ := h.form
  rw [List.length_append, ints_length] at hv
  subst hv
  exact ⟨A, c, rfl, by rw [show ints (l ++ [x]) = ints l ++ [(x : Int)] by simp]; exact h⟩
theorem own_formN {e : TypeId} {w : World} {B : Nat} {v : Value} {l : List Nat} (h : Own e .i64 w B v (ints l)) : ∃ A c, v = .slice A l.length c := by
  obtain ⟨A, c, hv⟩ := h.form
  rw [ints_length] at hv
  exact ⟨A, c, hv⟩
theorem lst_formN {w : World} {v : Value} {l : List Nat} (h : Lst .i64 w v (ints l)) : ∃ A c, v = .slice A l.length c := by
  obtain ⟨A, c, hv, _⟩ := h
  rw [ints_length] at hv
  exact ⟨A, c, hv⟩
theorem own_below_of_grown {e : TypeId} {k : IntKind} {w w' : World} {B : Nat} {v : Value} {l : List Int} (h : Own e k w B v l) (hB : B ≤ w.heap.size) {g : Nat} (hg : v.ownBlock = some g) (hgr : w.grownBy w' (some g)) : Below B w w' :=
  (Below.refl _ _).grown hgr hB fun k e => by injection e with e; subst e; exact (h.block _ hg).1
theorem sort_own {e : TypeId} {w : World} {B : Nat} {v : Value} {l : List Int} (h : Own e .i64 w B v l) (hl : l.length < 4611686018427387904) (hB : B ≤ w.heap.size) :
    Calls Try.prog 38 #[v] w fun en w' => en = .returned (.tuple #[]) ∧ Own e .i64 w' B v (l.mergeSort fun x y => decide (x ≤ y)) ∧ Below B w w' := by
  rcases h.2 with ⟨h1, h0⟩ | ⟨g, cap, cur, h1, h2, h3, hle, hm, hs, ht⟩
  · have : l = [] := List.eq_nil_of_length_eq_zero h0
    subst this
    rw [h1]
    refine (Try.slices_Sort_int_none none 0 w).mono ?_
    rintro en w' ⟨he, hw⟩
    subst hw
    exact ⟨he, by rw [List.mergeSort_nil]; exact Own.nil _ _ _ _, Below.refl _ _⟩
  · have hH := holds_of_blockI (ss := l) h3 (by rw [Nat.mul_one] at ht; exact ht)
    rw [h1]
    refine (Try.slices_Sort_int g 0 cap l w hH (heap_lt h3) hl).mono ?_
    rintro en w' ⟨he, n, os, rfl⟩
    refine ⟨he, ?_, ?_⟩
    · have := ownsRow_sortedI (w := w) (n := n) (os := os) (ss := l) (ts := l.mergeSort fun x y => decide (x ≤ y)) (by simp) h2 h3 hle hm hs
      unfold Own
      rw [List.length_mergeSort]
      exact this
    · exact (Below.refl _ _).grown (grownBy_sortedI _) hB fun k e => by injection e with e; subst e; exact h2
/-- Ints that ascend, and what is left of them. -/
theorem compact_aux (d : Array Int) (hs : ∀ i j, i ≤ j → j < d.size → d[i]! ≤ d[j]!) : ∀ m, m ≤ d.size → (Lib.compactUpTo d m).Pairwise (· < ·) ∧ (∀ x, x ∈ Lib.compactUpTo d m ↔ ∃ j, j < m ∧ d[j]! = x)
  | 0, _ => by simp [Lib.compactUpTo]
  | m + 1, hm => by
    obtain ⟨i1, i2⟩ := compact_aux d hs m (by omega)
    rw [Lib.compactUpTo_succ]
    by_cases hk : Lib.keeps d m = true
    · rw [if_pos hk]
      refine ⟨?_, fun x => ?_⟩
      · rw [List.pairwise_append]
        refine ⟨i1, by simp, fun a ha b hb => ?_⟩
        simp at hb; subst hb
        obtain ⟨j, hj, rfl⟩ := (i2 a).1 ha
        have h1 := hs j (m - 1) (by omega) (by omega)
        have h2 := hs (m - 1) m (by omega) (by omega)
        have h3 : d[m]! ≠ d[m - 1]! := fun e => by
          have := Lib.keeps_neg (d := d) (m := m) (by omega) e
          rw [this] at hk; cases hk
        omega
      · rw [List.mem_append, i2]
        constructor
        · rintro (⟨j, hj, e⟩ | hx)
          · exact ⟨j, by omega, e⟩
          · simp at hx; exact ⟨m, by omega, hx.symm⟩
        · rintro ⟨j, hj, e⟩
          rcases Nat.lt_or_ge j m with h | h
          · exact .inl ⟨j, h, e⟩
          · obtain rfl : j = m := by omega
            exact .inr (by simp [e])
    · rw [if_neg hk, List.append_nil]
      refine ⟨i1, fun x => ?_⟩
      rw [i2]
      constructor
      · rintro ⟨j, hj, e⟩; exact ⟨j, by omega, e⟩
      · rintro ⟨j, hj, e⟩
        rcases Nat.lt_or_ge j m with h | h
        · exact ⟨j, h, e⟩
        · obtain rfl : j = m := by omega
          have h0 : 0 < j := by
            rcases Nat.eq_zero_or_pos j with e0 | e0
            · subst e0; exact absurd (Lib.keeps_lt_one d 0 (by omega)) hk
            · exact e0
          have h3 : d[j]! = d[j - 1]! := by
            refine Classical.byContradiction fun hne => hk (Lib.keeps_pos hne)
          exact ⟨j - 1, by omega, by rw [← e, h3]⟩
theorem asc_extI : ∀ {l m : List Int}, l.Pairwise (· < ·) → m.Pairwise (· < ·) → (∀ x, x ∈ l ↔ x ∈ m) → l = m
  | [], [], _, _, _ => rfl
  | [], b :: m, _, _, h => by have := (h b).2 (by simp); simp at this
  | a :: l, [], _, _, h => by have := (h a).1 (by simp); simp at this
  | a :: l, b :: m, hl, hm, h => by
    rw [List.pairwise_cons] at hl hm
    have hab : a = b := by
      have h1 : a ∈ b :: m := (h a).1 (by simp)
      have h2 : b ∈ a :: l := (h b).2 (by simp)
      rcases List.mem_cons.1 h1 with e | e
      · exact e
      · rcases List.mem_cons.1 h2 with e' | e'
        · exact e'.symm
        · have := hm.1 a e; have := hl.1 b e'; omega
    subst hab
    congr 1
    refine asc_extI hl.2 hm.2 fun x => ⟨fun hx => ?_, fun hx => ?_⟩
    · have := (h x).1 (List.mem_cons_of_mem _ hx)
      rcases List.mem_cons.1 this with e | e
      · have := hl.1 x hx; omega
      · exact e
    · have := (h x).2 (List.mem_cons_of_mem _ hx)
      rcases List.mem_cons.1 this with e | e
      · have := hm.1 x hx; omega
      · exact e
theorem ints_asc {l : List Nat} (h : l.Pairwise (· < ·)) : (ints l).Pairwise (· < ·) := by
  rw [List.pairwise_map]
  exact h.imp fun h => by omega
theorem sorted_getElem! {l : List Int} (h : l.Pairwise (· ≤ ·)) : ∀ i j, i ≤ j → j < l.toArray.size → l.toArray[i]! ≤ l.toArray[j]! := by
  intro i j hij hj
  have hj' : j < l.length := by simpa using hj
  rw [getElem!_pos _ _ (by simp; omega), getElem!_pos _ _ (by simpa using hj')]
  rcases Nat.eq_or_lt_of_le hij with e | e
  · subst e; exact Int.le_refl _
  · simpa using List.pairwise_iff_getElem.1 h i j (by omega) hj' e
theorem mergeSort_pw (l : List Int) : (l.mergeSort fun x y => decide (x ≤ y)).Pairwise (· ≤ ·) := by
  have := List.pairwise_mergeSort (le := fun x y : Int => decide (x ≤ y)) (fun a b c h1 h2 => by simp at *; omega) (fun a b => by simp; omega) l
  exact this.imp fun h => by simpa using h
/-- What is sorted and made unique: the places, ascending. -/
theorem compact_sorted {n : Nat} {l : List Nat} (h : ∀ x ∈ l, x < n) : Lib.compact ((ints l).mergeSort fun x y => decide (x ≤ y)) = ints (ascN n l) := by
  obtain ⟨z, hz⟩ : ∃ z, z = (ints l).mergeSort fun x y => decide (x ≤ y) := ⟨_, rfl⟩
  rw [← hz]
  have hs : z.Pairwise (· ≤ ·) := by rw [hz]; exact mergeSort_pw _
  have hm : ∀ x, x ∈ z ↔ x ∈ ints l := fun x => by rw [hz]; exact List.mem_mergeSort
  obtain ⟨h1, h2⟩ := compact_aux z.toArray (sorted_getElem! hs) z.length (by simp)
  refine asc_extI h1 (ints_asc (ascN_pw n l)) fun x => ?_
  show x ∈ Lib.compactUpTo z.toArray z.length ↔ _
  rw [h2]
  constructor
  · rintro ⟨j, hj, e⟩
    rw [getElem!_pos _ _ (by simpa using hj)] at e
    have : x ∈ z := by rw [← e]; simp
    obtain ⟨k, hk, rfl⟩ := List.mem_map.1 ((hm x).1 this)
    exact List.mem_map.2 ⟨k, mem_ascN.2 ⟨h k hk, hk⟩, rfl⟩
  · intro hx
    obtain ⟨k, hk, rfl⟩ := List.mem_map.1 hx
    have : (k : Int) ∈ z := (hm _).2 (List.mem_map.2 ⟨k, (mem_ascN.1 hk).2, rfl⟩)
    obtain ⟨j, hj, e⟩ := List.getElem_of_mem this
    exact ⟨j, hj, by rw [getElem!_pos _ _ (by simpa using hj)]; simpa using e⟩
/-- What is sorted and has nothing twice. -/
theorem sorted_nodup {n : Nat} {l : List Nat} (h : ∀ x ∈ l, x < n) (hnd : l.Nodup) : ((ints l).mergeSort fun x y => decide (x ≤ y)) = ints (ascN n l) := by
  have hp := List.mergeSort_perm (ints l) (fun x y => decide (x ≤ y))
  have hn : (ints l).Nodup := by
    unfold List.Nodup
    rw [List.pairwise_map]
    exact hnd.imp fun h => by omega
  have hn2 := hp.nodup_iff.2 hn
  refine asc_extI ?_ (ints_asc (ascN_pw n l)) fun x => ?_
  · have := (mergeSort_pw (ints l)).and hn2
    exact this.imp fun h => by have := h.1; have := h.2; omega
  · rw [List.mem_mergeSort]
    constructor
    · intro hx
      obtain ⟨k, hk, rfl⟩ := List.mem_map.1 hx
      exact List.mem_map.2 ⟨k, mem_ascN.2 ⟨h k hk, hk⟩, rfl⟩
    · intro hx
      obtain ⟨k, hk, rfl⟩ := List.mem_map.1 hx
      exact List.mem_map.2 ⟨k, (mem_ascN.1 hk).2, rfl⟩
theorem compact_le (l : List Int) : (Lib.compact l).length ≤ l.length := Lib.compact_length_le l
theorem compact_own {e : TypeId} {w : World} {B : Nat} {v : Value} {l : List Int} (h : Own e .i64 w B v l) (hB : B ≤ w.heap.size) :
    Calls Try.prog 39 #[v] w fun en w' => ∃ v', en = .returned v' ∧ Lst .i64 w' v' (Lib.compact l) ∧ (∀ q, v'.ownBlock = some q → B ≤ q) ∧ Below B w w' := by
  rcases h.2 with ⟨h1, h0⟩ | ⟨g, cap, cur, h1, h2, h3, hle, hm, hs, ht⟩
  · have : l = [] := List.eq_nil_of_length_eq_zero h0
    subst this
    rw [h1]
    refine (Try.slices_Compact_int_empty none 0 w).mono ?_
    rintro en w' ⟨he, rfl⟩
    exact ⟨_, he, Lst.nil _ _, fun q hq => by simp [Value.ownBlock] at hq, Below.refl _ _⟩
  · have hH := holds_of_blockI (ss := l) h3 (by rw [Nat.mul_one] at ht; exact ht)
    rw [h1]
    refine (Try.slices_Compact_int g 0 cap l w hH (by unfold maxLen at hm; omega) hle).mono ?_
    rintro en w' ⟨he, q, rfl⟩
    have hcl := compact_le l
    obtain ⟨ts, hts⟩ : ∃ ts, ts = Lib.compact l ++ List.replicate (l.length - (Lib.compact l).length) 0 := ⟨_, rfl⟩
    have htl : ts.length = l.length := by rw [hts]; simp; omega
    rw [← hts]
    have hgrow : putRow (Value.int .i64) (Sort.ahead w q) g 0 ts.toArray = grow (putRow (Value.int .i64) (Sort.ahead w q) g 0 ts.toArray) #[] := (grow_empty _).symm
    rw [hgrow]
    have hb := heap_sortedI (w := w) (n := q) (os := #[]) (g := g) ts.toArray h3
    refine ⟨_, he, ⟨_, cap, rfl, fun hn => ⟨g, 0, rfl, fun j x hx => ?_⟩, fun e => by simp at e, by omega, hm⟩, fun q hq => by simp [Value.ownBlock] at hq; omega, (Below.refl _ _).grown (grownBy_sortedI _) hB fun k e => by injection e with e; subst e; exact h2⟩
    have hj : j < (Lib.compact l).length := (List.getElem?_eq_some_iff.1 hx).1
    rw [cell_of_row _ g _ _ _ _ hb, Nat.zero_add]
    have ht2 := take_putCellsI cur ts (by omega)
    have e1 : ((putCells (Value.int .i64) 0 ts.toArray cur).toList.take ts.length)[j]? = (ts.map (Value.int .i64))[j]? := by rw [ht2]
    rw [List.getElem?_take_of_lt (by omega), List.getElem?_map, Array.getElem?_toList] at e1
    rw [e1, hts, List.getElem?_append_left hj, hx]
    rfl
end Go.Proofs.Ytohiioafdajhmaa.Gp
