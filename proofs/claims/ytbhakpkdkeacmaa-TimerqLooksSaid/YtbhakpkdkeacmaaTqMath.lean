/-
  The plain mathematics of layer 2: the order of timers, the heap in a list, the map of places.
-/
import Derived.Maps.Views
import Derived.ChangeMaps4
namespace Go.Proofs.Ytbhakpkdkeacmaa.Tq
open Go.Maps

/-- A timer: its ID and its time. -/
abbrev Tm := Int × Int

/-- The order of timers: by their times, then by their IDs. -/
def tlt (a b : Tm) : Bool := if a.2 = b.2 then decide (a.1 < b.1) else decide (a.2 < b.2)
def tle (a b : Tm) : Prop := tlt b a = false
theorem tlt_iff (a b : Tm) : tlt a b = true ↔ a.2 < b.2 ∨ (a.2 = b.2 ∧ a.1 < b.1) := by
  unfold tlt; split
  · rename_i h; simp [h]
  · rename_i h; simp [h]
theorem tle_iff (a b : Tm) : tle a b ↔ a.2 < b.2 ∨ (a.2 = b.2 ∧ a.1 ≤ b.1) := by
  unfold tle
  rw [Bool.eq_false_iff, ne_eq, tlt_iff]; omega
theorem tle_refl (a : Tm) : tle a a := by rw [tle_iff]; omega
theorem tle_trans {a b c : Tm} (h : tle a b) (k : tle b c) : tle a c := by rw [tle_iff] at *; omega
theorem tle_of_tlt {a b : Tm} (h : tlt a b = true) : tle a b := by rw [tle_iff]; rw [tlt_iff] at h; omega
theorem tle_antisymm {a b : Tm} (h : tle a b) (k : tle b a) : a = b := by
  rw [tle_iff] at h k
  exact Prod.ext (by omega) (by omega)
theorem tle_of_not {a b : Tm} (h : tlt b a = false) : tle a b := h

def at_ (ts : List Tm) (k : Nat) : Tm := (ts[k]?).getD (0, 0)
theorem at_some {ts : List Tm} {k : Nat} (h : k < ts.length) : ts[k]? = some (at_ ts k) := by
  unfold at_; rw [List.getElem?_eq_getElem h]; rfl
theorem at_of {ts : List Tm} {k : Nat} {t : Tm} (h : ts[k]? = some t) : at_ ts k = t := by unfold at_; rw [h]; rfl
theorem at_set {ts : List Tm} {i : Nat} (hi : i < ts.length) (x : Tm) (k : Nat) : at_ (ts.set i x) k = if k = i then x else at_ ts k := by
  unfold at_
  rw [List.getElem?_set]
  by_cases h : i = k
  · subst h; simp [hi]
  · rw [if_neg h, if_neg (Ne.symm h)]
theorem at_mem {ts : List Tm} {k : Nat} (h : k < ts.length) : at_ ts k ∈ ts := List.mem_of_getElem? (at_some h)

/-- Two places exchanged. -/
def swp (ts : List Tm) (i j : Nat) : List Tm := (ts.set i (at_ ts j)).set j (at_ ts i)
theorem swp_length (ts : List Tm) (i j : Nat) : (swp ts i j).length = ts.length := by simp [swp]
theorem at_swp {ts : List Tm} {i j : Nat} (hi : i < ts.length) (hj : j < ts.length) (k : Nat) : at_ (swp ts i j) k = if k = j then at_ ts i else if k = i then at_ ts j else at_ ts k := by
  unfold swp
  rw [at_set (by simpa using hj), at_set hi]
theorem swp_perm {ts : List Tm} {i j : Nat} (hi : i < ts.length) (hj : j < ts.length) (hne : i ≠ j) : (swp ts i j).Perm ts := by
  unfold swp
  have h1 := Go.ChangeMaps.set_perm (ts.set i (at_ ts j)) j (by simpa using hj) (at_ ts i)
  have h2 := Go.ChangeMaps.set_perm ts i hi (at_ ts j)
  have h3 := Go.ChangeMaps.set_perm ts i hi (at_ ts i)
  have h4 := Go.ChangeMaps.set_perm (ts.set i (at_ ts j)) j (by simpa using hj) (at_ ts j)
  have e1 : ts.set i (at_ ts i) = ts := by
    apply List.ext_getElem?
    intro k
    rw [List.getElem?_set]
    split
    · rename_i h; subst h; exact (at_some hi).symm
    · rfl
  have e2 : (ts.set i (at_ ts j)).set j (at_ ts j) = ts.set i (at_ ts j) := by
    apply List.ext_getElem?
    intro k
    rw [List.getElem?_set]
    split
    · rename_i h; subst h
      rw [List.getElem?_set_ne hne, at_some hj, if_pos (by simpa using hj)]
    · rfl
  rw [e1] at h3
  rw [e2] at h4
  have h5 := (h4.symm.trans h2).cons_inv
  exact h1.trans ((h5.cons _).trans h3.symm)
theorem swp_append {a b : List Tm} {i j : Nat} (hi : i < a.length) (hj : j < a.length) : swp (a ++ b) i j = swp a i j ++ b := by
  have e : ∀ k, k < a.length → at_ (a ++ b) k = at_ a k := by
    intro k hk; unfold at_; rw [List.getElem?_append_left hk]
  unfold swp
  rw [e i hi, e j hj, List.set_append_left _ _ hi, List.set_append_left _ _ (by simpa using hj)]
theorem at_append {a b : List Tm} {k : Nat} (hk : k < a.length) : at_ (a ++ b) k = at_ a k := by
  unfold at_; rw [List.getElem?_append_left hk]

/-! ### the heap -/
def par (k : Nat) : Nat := (k - 1) / 2
/-- The edge from place k up is in order. -/
def Ok (ts : List Tm) (k : Nat) : Prop := tle (at_ ts (par k)) (at_ ts k)
def Heap (ts : List Tm) : Prop := ∀ k, 0 < k → k < ts.length → Ok ts k
/-- All is in order but the edge from j up. -/
structure UpInv (ts : List Tm) (j : Nat) : Prop where
  ok : ∀ k, 0 < k → k < ts.length → k ≠ j → Ok ts k
  gr : ∀ c, 0 < c → c < ts.length → par c = j → 0 < j → tle (at_ ts (par j)) (at_ ts c)
/-- All is in order but the edges from i down, and, at i0, up. -/
structure DnInv (ts : List Tm) (i0 i : Nat) : Prop where
  ok : ∀ k, 0 < k → k < ts.length → par k ≠ i → (k = i → i ≠ i0) → Ok ts k
  gr : ∀ c, 0 < c → c < ts.length → par c = i → 0 < i → tle (at_ ts (par i)) (at_ ts c)

theorem UpInv.heap {ts : List Tm} {j : Nat} (h : UpInv ts j) (hj : j = 0 ∨ tlt (at_ ts j) (at_ ts (par j)) = false) : Heap ts := by
  intro k hk hl
  by_cases e : k = j
  · rcases hj with rfl | hj
    · omega
    · rw [e]; exact hj
  · exact h.ok k hk hl e
theorem UpInv.step {ts : List Tm} {j : Nat} (h : UpInv ts j) (hj : 0 < j) (hl : j < ts.length) (hlt : tlt (at_ ts j) (at_ ts (par j)) = true) : UpInv (swp ts (par j) j) (par j) := by
  have hp : par j < j := by unfold par; omega
  have A := at_swp (ts := ts) (i := par j) (j := j) (by omega) hl
  have hlt' := tle_of_tlt hlt
  constructor
  · intro k hk hkl hne
    rw [swp_length] at hkl
    unfold Ok
    rw [A, A]
    by_cases e1 : k = j
    · subst e1; simp [show par k ≠ k by omega]; exact hlt'
    · simp only [e1, hne, if_false]
      by_cases e2 : par k = j
      · simp only [e2, if_true]; exact h.gr k hk hkl e2 hj
      · simp only [e2, if_false]
        by_cases e3 : par k = par j
        · simp only [e3, if_true]
          have := h.ok k hk hkl e1
          unfold Ok at this
          rw [e3] at this
          exact tle_trans hlt' this
        · simp only [e3, if_false]; exact h.ok k hk hkl e1
  · intro c hc hcl hpc hpos
    rw [swp_length] at hcl
    have hpp : par (par j) < par j := by unfold par at *; omega
    have e0 : Ok ts (par j) := h.ok (par j) hpos (by omega) (by omega)
    have hcne : c ≠ par j := by intro e; rw [e] at hpc; omega
    rw [A, A, if_neg (by omega), if_neg (by omega)]
    by_cases e1 : c = j
    · rw [if_pos e1]; exact e0
    · rw [if_neg e1, if_neg hcne]
      have := h.ok c hc hcl e1
      unfold Ok at this
      rw [hpc] at this
      exact tle_trans e0 this
/-- Children of i: 2 i + 1 and 2 i + 2. -/
theorem par_iff {k i : Nat} (hk : 0 < k) : par k = i ↔ k = 2 * i + 1 ∨ k = 2 * i + 2 := by unfold par; omega
/-- The element at i goes down to its smaller child c. -/
theorem DnInv.step {ts : List Tm} {i0 i c : Nat} (h : DnInv ts i0 i) (hc : c = 2 * i + 1 ∨ c = 2 * i + 2) (hl : c < ts.length) (hlt : tlt (at_ ts c) (at_ ts i) = true)
    (hmin : ∀ d, d = 2 * i + 1 ∨ d = 2 * i + 2 → d < ts.length → tle (at_ ts c) (at_ ts d)) : DnInv (swp ts i c) i0 c := by
  have hpc : par c = i := (par_iff (by omega)).2 hc
  have A := at_swp (ts := ts) (i := i) (j := c) (by omega) hl
  have hlt' := tle_of_tlt hlt
  constructor
  · intro k hk hkl hpk _
    rw [swp_length] at hkl
    unfold Ok
    rw [A, A, if_neg hpk]
    by_cases e1 : k = c
    · rw [if_pos e1, if_pos (by rw [e1]; exact hpc)]; exact hlt'
    · rw [if_neg e1]
      by_cases e2 : par k = i
      · rw [if_pos e2]
        have hki : k ≠ i := by unfold par at e2; omega
        rw [if_neg hki]
        exact hmin k ((par_iff hk).1 e2) hkl
      · rw [if_neg e2]
        by_cases e3 : k = i
        · rw [if_pos e3, e3]
          exact h.gr c (by omega) hl hpc (by omega)
        · rw [if_neg e3]
          exact h.ok k hk hkl e2 (fun e => absurd e e3)
  · intro d hd hdl hpd _
    rw [swp_length] at hdl
    have hdc : d ≠ c := by unfold par at hpd; omega
    have hdi : d ≠ i := by unfold par at hpd; omega
    rw [hpc, A, A, if_neg (by omega), if_pos rfl, if_neg hdc, if_neg hdi]
    have := h.ok d hd hdl (by omega) (fun e => absurd e hdi)
    unfold Ok at this
    rw [hpd] at this
    exact this
theorem DnInv.stop {ts : List Tm} {i0 i : Nat} (h : DnInv ts i0 i) (hmin : ∀ d, d = 2 * i + 1 ∨ d = 2 * i + 2 → d < ts.length → tle (at_ ts i) (at_ ts d)) :
    (i ≠ i0 → Heap ts) ∧ (i = i0 → UpInv ts i0) := by
  constructor
  · intro hne k hk hl
    by_cases e : par k = i
    · unfold Ok; rw [e]; exact hmin k ((par_iff hk).1 e) hl
    · exact h.ok k hk hl e (fun _ => hne)
  · rintro rfl
    refine ⟨fun k hk hl hne => ?_, h.gr⟩
    by_cases e : par k = i
    · unfold Ok; rw [e]; exact hmin k ((par_iff hk).1 e) hl
    · exact h.ok k hk hl e (fun e' => absurd e' hne)
/-- A heap in which the element at i has been replaced. -/
theorem Heap.change {ts : List Tm} (h : Heap ts) {i : Nat} (hi : i < ts.length) (x : Tm) : DnInv (ts.set i x) i i := by
  constructor
  · intro k hk hl hp hne
    rw [List.length_set] at hl
    unfold Ok
    rw [at_set hi, at_set hi, if_neg hp, if_neg (fun e => hne e rfl)]
    exact h k hk hl
  · intro c hc hl hp hpos
    rw [List.length_set] at hl
    have h1 : par i ≠ i := by unfold par; omega
    have h2 : c ≠ i := by unfold par at hp; omega
    rw [at_set hi, at_set hi, if_neg h1, if_neg h2]
    have e1 := h i hpos hi
    have e2 := h c hc hl
    unfold Ok at e1 e2
    rw [hp] at e2
    exact tle_trans e1 e2
theorem Heap.top {ts : List Tm} (h : Heap ts) : ∀ k, k < ts.length → tle (at_ ts 0) (at_ ts k) := by
  intro k
  induction k using Nat.strongRecOn with
  | _ k ih =>
    intro hl
    by_cases h0 : k = 0
    · subst h0; exact tle_refl _
    · have hp : par k < k := by unfold par; omega
      exact tle_trans (ih (par k) hp (by omega)) (h k (by omega) hl)
theorem Heap.nil : Heap [] := fun k _ h => by simp at h
/-- A heap with one more element behind. -/
theorem Heap.snoc {ts : List Tm} (h : Heap ts) (x : Tm) : UpInv (ts ++ [x]) ts.length := by
  constructor
  · intro k hk hl hne
    have hl' : k < ts.length := by simp at hl; omega
    unfold Ok
    rw [at_append hl', at_append (by unfold par; omega)]
    exact h k hk hl'
  · intro c hc hl hp hpos
    simp at hl
    unfold par at hp; omega
/-- A heap without its last element. -/
theorem Heap.init {ts : List Tm} {x : Tm} (h : Heap (ts ++ [x])) : Heap ts := by
  intro k hk hl
  have := h k hk (by simp; omega)
  unfold Ok at this
  rw [at_append hl, at_append (by unfold par; omega)] at this
  exact this

/-! ### the map of places -/
structure Placed (ts : List Tm) (D : DataW Unit) : Prop where
  tidy : Tidy D
  size : Maps.size D = ts.length
  here : ∀ (i : Nat) (t : Tm), ts[i]? = some t → has D (.int .i64 t.1) = true ∧ ∀ z, D.atKey (.int .i64 t.1) z = .lit (.int .i64 i)
  away : ∀ x : Int, (∀ t ∈ ts, t.1 ≠ x) → has D (.int .i64 x) = false

theorem keyLit (x : Int) : WideAt.IsKeyLit (.int .i64 x) := by simp [WideAt.IsKeyLit]
theorem Placed.inj {ts : List Tm} {D : DataW Unit} (h : Placed ts D) {i j : Nat} {a b : Tm} (hi : ts[i]? = some a) (hj : ts[j]? = some b) (e : a.1 = b.1) : i = j := by
  have h1 := (h.here i a hi).2 (.lit (.bool true))
  have h2 := (h.here j b hj).2 (.lit (.bool true))
  rw [e, h2] at h1
  injection h1 with h1
  injection h1 with _ h1
  omega
theorem lit_ne {x y : Int} (h : x ≠ y) : (Lit.int .i64 x) ≠ (Lit.int .i64 y) := by intro e; injection e with _ e; exact h e
theorem Placed.nil : Placed [] (.map []) := ⟨tidy_empty, rfl, fun i t h => by simp at h, fun x _ => rfl⟩
theorem Placed.swap {ts : List Tm} {D : DataW Unit} (h : Placed ts D) {i j : Nat} (hi : i < ts.length) (hj : j < ts.length) (hne : i ≠ j) :
    Placed (swp ts i j) ((D.put (.int .i64 (at_ ts j).1) (.lit (.int .i64 i))).put (.int .i64 (at_ ts i).1) (.lit (.int .i64 j))) := by
  have hid : (at_ ts i).1 ≠ (at_ ts j).1 := fun e => hne (h.inj (at_some hi) (at_some hj) e)
  have t1 := h.tidy.put (keyLit (at_ ts j).1) (.lit (.int .i64 i))
  have hai := (h.here i _ (at_some hi)).1
  have haj := (h.here j _ (at_some hj)).1
  refine ⟨t1.put (keyLit _) _, ?_, ?_, ?_⟩
  · rw [size_put t1, has_put_other (lit_ne hid), hai, if_pos rfl, size_put h.tidy, haj, if_pos rfl, h.size, swp_length]
  · intro k t hk
    have hkl : k < ts.length := by have := (List.getElem?_eq_some_iff.1 hk).1; rwa [swp_length] at this
    have ek := at_of hk
    rw [at_swp hi hj] at ek
    by_cases e1 : k = j
    · rw [if_pos e1] at ek
      subst ek; subst e1
      exact ⟨has_put_same t1.isMap (keyLit _) _, fun z => atKey_put_same t1.isMap (keyLit _) _ z⟩
    · rw [if_neg e1] at ek
      by_cases e2 : k = i
      · rw [if_pos e2] at ek
        subst ek; subst e2
        rw [has_put_other (lit_ne (Ne.symm hid))]
        refine ⟨has_put_same h.tidy.isMap (keyLit _) _, fun z => ?_⟩
        rw [atKey_put_other (lit_ne (Ne.symm hid)), atKey_put_same h.tidy.isMap (keyLit _)]
      · rw [if_neg e2] at ek
        subst ek
        have n1 : (at_ ts k).1 ≠ (at_ ts i).1 := fun e => e2 (h.inj (at_some hkl) (at_some hi) e)
        have n2 : (at_ ts k).1 ≠ (at_ ts j).1 := fun e => e1 (h.inj (at_some hkl) (at_some hj) e)
        rw [has_put_other (lit_ne n1), has_put_other (lit_ne n2)]
        refine ⟨(h.here k _ (at_some hkl)).1, fun z => ?_⟩
        rw [atKey_put_other (lit_ne n1), atKey_put_other (lit_ne n2)]
        exact (h.here k _ (at_some hkl)).2 z
  · intro x hx
    have hp := swp_perm hi hj hne
    have hx' : ∀ t ∈ ts, t.1 ≠ x := fun t ht => hx t (hp.mem_iff.2 ht)
    have n1 : x ≠ (at_ ts i).1 := Ne.symm (hx' _ (at_mem hi))
    have n2 : x ≠ (at_ ts j).1 := Ne.symm (hx' _ (at_mem hj))
    rw [has_put_other (lit_ne n1), has_put_other (lit_ne n2)]
    exact h.away x hx'
theorem Placed.push {ts : List Tm} {D : DataW Unit} (h : Placed ts D) (t : Tm) (ht : ∀ x ∈ ts, x.1 ≠ t.1) : Placed (ts ++ [t]) (D.put (.int .i64 t.1) (.lit (.int .i64 ts.length))) := by
  refine ⟨h.tidy.put (keyLit _) _, ?_, ?_, ?_⟩
  · rw [size_put h.tidy, h.away t.1 ht, h.size]; simp
  · intro k u hk
    by_cases e : k = ts.length
    · subst e
      simp at hk
      subst hk
      exact ⟨has_put_same h.tidy.isMap (keyLit _) _, fun z => atKey_put_same h.tidy.isMap (keyLit _) _ z⟩
    · have hl : k < ts.length := by have := (List.getElem?_eq_some_iff.1 hk).1; simp at this; omega
      rw [List.getElem?_append_left hl] at hk
      have n1 := ht u (List.mem_of_getElem? hk)
      rw [has_put_other (lit_ne n1)]
      refine ⟨(h.here k u hk).1, fun z => ?_⟩
      rw [atKey_put_other (lit_ne n1)]
      exact (h.here k u hk).2 z
  · intro x hx
    have n1 : x ≠ t.1 := Ne.symm (hx t (by simp))
    rw [has_put_other (lit_ne n1)]
    exact h.away x (fun u hu => hx u (by simp [hu]))
theorem Placed.pop {ts : List Tm} {t : Tm} {D : DataW Unit} (h : Placed (ts ++ [t]) D) : Placed ts (D.del (.int .i64 t.1)) := by
  have ht : (ts ++ [t])[ts.length]? = some t := by simp
  have hh := (h.here _ _ ht).1
  refine ⟨h.tidy.del _, ?_, ?_, ?_⟩
  · have := size_del (k := .int .i64 t.1) h.tidy
    rw [hh, if_pos rfl, h.size] at this
    simp at this
    exact this
  · intro k u hk
    have hl : k < ts.length := (List.getElem?_eq_some_iff.1 hk).1
    have hk' : (ts ++ [t])[k]? = some u := by rw [List.getElem?_append_left hl]; exact hk
    have n1 : u.1 ≠ t.1 := fun e => by have := h.inj hk' ht e; omega
    rw [has_del_other (lit_ne n1)]
    refine ⟨(h.here k u hk').1, fun z => ?_⟩
    rw [atKey_del_other (lit_ne n1)]
    exact (h.here k u hk').2 z
  · intro x hx
    by_cases e : x = t.1
    · subst e; exact has_del_same
    · rw [has_del_other (lit_ne e)]
      exact h.away x (fun u hu => by
        rcases List.mem_append.1 hu with hu | hu
        · exact hx u hu
        · simp at hu; subst hu; exact Ne.symm e)
theorem Placed.time {ts : List Tm} {D : DataW Unit} (h : Placed ts D) {i : Nat} (hi : i < ts.length) (y : Int) : Placed (ts.set i ((at_ ts i).1, y)) D := by
  refine ⟨h.tidy, by rw [h.size, List.length_set], fun k t hk => ?_, fun x hx => h.away x fun t ht => ?_⟩
  · have hl : k < ts.length := by have := (List.getElem?_eq_some_iff.1 hk).1; rwa [List.length_set] at this
    have e := at_of hk
    rw [at_set hi] at e
    have e' : t.1 = (at_ ts k).1 := by
      rw [← e]; split
      · rename_i h; rw [h]
      · rfl
    rw [e']
    exact h.here k _ (at_some hl)
  · obtain ⟨k, hk⟩ := List.getElem?_of_mem ht
    have hl : k < ts.length := (List.getElem?_eq_some_iff.1 hk).1
    have : at_ (ts.set i ((at_ ts i).1, y)) k ∈ ts.set i ((at_ ts i).1, y) := at_mem (by simpa using hl)
    have h2 := hx _ this
    rw [at_set hi] at h2
    rw [← at_of hk]
    split at h2
    · rename_i h; rw [h]; exact h2
    · exact h2

end Go.Proofs.Ytbhakpkdkeacmaa.Tq
