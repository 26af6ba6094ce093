/-
  Plain mathematics of layer 7: choosing jobs one after the other, the cycle, what is reached. Nothing of the program is imported.
-/
namespace Go.Proofs.Ytohiioafdajhmaa.Gp

/-- How many of the first n are not in a list. -/
def lack (n : Nat) (out : List Nat) : Nat := ((List.range n).filter fun k => decide (k ∉ out)).length

theorem filter_drop_one {p q : Nat → Bool} {i : Nat} : ∀ {l : List Nat}, l.Nodup → i ∈ l → p i = true → q i = false → (∀ k, k ≠ i → q k = p k) → (l.filter q).length + 1 = (l.filter p).length
  | [], _, h, _, _, _ => by simp at h
  | a :: l, hn, hi, hp, hq, hpq => by
    rw [List.nodup_cons] at hn
    by_cases ha : a = i
    · subst ha
      have e : l.filter q = l.filter p := List.filter_congr fun k hk => hpq k (fun e => hn.1 (e ▸ hk))
      rw [List.filter_cons_of_neg (by simp [hq]), List.filter_cons_of_pos hp, e, List.length_cons]
    · have hi' : i ∈ l := by simpa [Ne.symm ha] using hi
      have ih := filter_drop_one hn.2 hi' hp hq hpq
      have e := hpq a ha
      by_cases h : p a = true
      · rw [List.filter_cons_of_pos h, List.filter_cons_of_pos (by rw [e]; exact h), List.length_cons, List.length_cons]; omega
      · rw [List.filter_cons_of_neg h, List.filter_cons_of_neg (by rw [e]; exact h)]; exact ih
theorem lack_snoc {n i : Nat} {out : List Nat} (hi : i < n) (h : i ∉ out) : lack n (out ++ [i]) + 1 = lack n out := by
  unfold lack
  refine filter_drop_one List.nodup_range (List.mem_range.2 hi) (by simpa using h) (by simp) fun k hk => ?_
  simp [hk]
theorem lack_nil (n : Nat) : lack n [] = n := by unfold lack; rw [List.filter_eq_self.2 (fun k _ => by simp), List.length_range]
theorem lack_zero {n : Nat} {out : List Nat} (h : lack n out = 0) : ∀ k, k < n → k ∈ out := by
  intro k hk
  unfold lack at h
  rw [List.length_eq_zero_iff, List.filter_eq_nil_iff] at h
  have := h k (List.mem_range.2 hk)
  simpa using this
theorem lack_pos {n : Nat} {out : List Nat} (h : 0 < lack n out) : ∃ k, k < n ∧ k ∉ out := by
  unfold lack at h
  obtain ⟨k, hk⟩ := List.exists_mem_of_length_pos h
  rw [List.mem_filter] at hk
  exact ⟨k, List.mem_range.1 hk.1, by simpa using hk.2⟩

/-- The first place from a on that a test is true of. -/
def firstF (p : Nat → Bool) : Nat → Nat → Option Nat
  | 0, _ => none
  | f + 1, a => if p a then some a else firstF p f (a + 1)
theorem firstF_some {p : Nat → Bool} : ∀ {f a i : Nat}, firstF p f a = some i → a ≤ i ∧ i < a + f ∧ p i = true ∧ ∀ k, a ≤ k → k < i → p k = false
  | 0, _, _, h => by simp [firstF] at h
  | f + 1, a, i, h => by
    unfold firstF at h
    by_cases hp : p a = true
    · rw [if_pos hp] at h
      injection h with h; subst h
      exact ⟨Nat.le_refl _, by omega, hp, fun k h1 h2 => by omega⟩
    · rw [if_neg hp] at h
      obtain ⟨h1, h2, h3, h4⟩ := firstF_some h
      refine ⟨by omega, by omega, h3, fun k hk1 hk2 => ?_⟩
      rcases Nat.lt_or_ge a k with h | h
      · exact h4 k h hk2
      · obtain rfl : k = a := by omega
        simpa using hp
theorem firstF_none {p : Nat → Bool} : ∀ {f a : Nat}, firstF p f a = none → ∀ k, a ≤ k → k < a + f → p k = false
  | 0, _, _, k, h1, h2 => by omega
  | f + 1, a, h, k, h1, h2 => by
    unfold firstF at h
    by_cases hp : p a = true
    · rw [if_pos hp] at h; cases h
    · rw [if_neg hp] at h
      rcases Nat.lt_or_ge a k with h' | h'
      · exact firstF_none h k h' (by omega)
      · obtain rfl : k = a := by omega
        simpa using hp
theorem firstF_skip {p : Nat → Bool} : ∀ {f a b : Nat}, a ≤ b → b ≤ a + f → (∀ k, a ≤ k → k < b → p k = false) → firstF p f a = firstF p (a + f - b) b
  | f, a, b, h1, h2, h3 => by
    rcases Nat.eq_or_lt_of_le h1 with rfl | h
    · rw [Nat.add_sub_cancel_left]
    · obtain ⟨f', rfl⟩ : ∃ f', f = f' + 1 := ⟨f - 1, by omega⟩
      have e : firstF p (f' + 1) a = firstF p f' (a + 1) := by
        show (if p a then _ else _) = _
        rw [if_neg (by rw [h3 a (Nat.le_refl _) h]; simp)]
      rw [e, firstF_skip h (by omega) (fun k k1 k2 => h3 k (by omega) k2), show a + 1 + f' = a + (f' + 1) by omega]

/-- The next job: the first one that is not chosen yet and fits what was chosen. -/
def fitB (nn : List (List Nat)) (fits : List Nat → List Nat → Bool) (out : List Nat) (i : Nat) : Bool := decide (i ∉ out) && fits (nn.getD i []) out
def nextF (nn : List (List Nat)) (fits : List Nat → List Nat → Bool) (out : List Nat) : Option Nat := firstF (fitB nn fits out) nn.length 0
def chooseF (nn : List (List Nat)) (fits : List Nat → List Nat → Bool) : Nat → List Nat → List Nat
  | 0, out => out
  | f + 1, out => match nextF nn fits out with
    | none => out
    | some i => chooseF nn fits f (out ++ [i])
/-- All that are chosen. -/
def chooseN (nn : List (List Nat)) (fits : List Nat → List Nat → Bool) : List Nat := chooseF nn fits (nn.length + 1) []
theorem nextF_some {nn : List (List Nat)} {fits : List Nat → List Nat → Bool} {out : List Nat} {i : Nat} (h : nextF nn fits out = some i) :
    i < nn.length ∧ i ∉ out ∧ fits (nn.getD i []) out = true ∧ ∀ k, k < i → k ∉ out → fits (nn.getD k []) out = false := by
  obtain ⟨_, h2, h3, h4⟩ := firstF_some h
  unfold fitB at h3 h4
  rw [Bool.and_eq_true, decide_eq_true_eq] at h3
  exact ⟨by omega, h3.1, h3.2, fun k hk hn => by have := h4 k (Nat.zero_le _) hk; simpa [hn] using this⟩
theorem nextF_none {nn : List (List Nat)} {fits : List Nat → List Nat → Bool} {out : List Nat} (h : nextF nn fits out = none) :
    ∀ k, k < nn.length → k ∉ out → fits (nn.getD k []) out = false := by
  intro k hk hn
  have := firstF_none h k (Nat.zero_le _) (by omega)
  unfold fitB at this
  simpa [hn] using this
/-- A list that is chosen so far. -/
structure Run (nn : List (List Nat)) (fits : List Nat → List Nat → Bool) (out : List Nat) : Prop where
  nodup : out.Nodup
  lt : ∀ k ∈ out, k < nn.length
  cnt : lack nn.length out + out.length = nn.length
  by' : ∀ A i B, out = A ++ i :: B → nextF nn fits A = some i
theorem Run.nil (nn : List (List Nat)) (fits : List Nat → List Nat → Bool) : Run nn fits [] :=
  ⟨List.nodup_nil, by simp, by rw [lack_nil]; rfl, fun A i B h => by simp at h⟩
theorem Run.snoc {nn : List (List Nat)} {fits : List Nat → List Nat → Bool} {out : List Nat} {i : Nat} (h : Run nn fits out) (hi : nextF nn fits out = some i) : Run nn fits (out ++ [i]) := by
  obtain ⟨h1, h2, _⟩ := nextF_some hi
  refine ⟨?_, ?_, ?_, ?_⟩
  · rw [List.nodup_append]
    refine ⟨h.nodup, by simp, fun a ha b hb => ?_⟩
    simp at hb; subst hb
    intro e; subst e; exact h2 ha
  · intro k hk
    rw [List.mem_append] at hk
    rcases hk with hk | hk
    · exact h.lt k hk
    · simp at hk; subst hk; exact h1
  · have := lack_snoc h1 h2; have := h.cnt; rw [List.length_append]; simp; omega
  · intro A k B e
    rcases List.eq_nil_or_concat B with rfl | ⟨B', b, rfl⟩
    · have := List.append_inj' e (by simp)
      obtain ⟨rfl, e2⟩ := this
      simp at e2; subst e2; exact hi
    · rw [List.concat_eq_append, ← List.cons_append, ← List.append_assoc] at e
      have := List.append_inj' e (by simp)
      exact h.by' A k B' this.1
theorem chooseF_run {nn : List (List Nat)} {fits : List Nat → List Nat → Bool} : ∀ (f : Nat) (out : List Nat), Run nn fits out → lack nn.length out < f → Run nn fits (chooseF nn fits f out) ∧ nextF nn fits (chooseF nn fits f out) = none
  | 0, _, _, h => by omega
  | f + 1, out, hr, hf => by
    unfold chooseF
    cases h : nextF nn fits out with
    | none => exact ⟨hr, h⟩
    | some i =>
      obtain ⟨h1, h2, _⟩ := nextF_some h
      have := lack_snoc h1 h2
      exact chooseF_run f _ (hr.snoc h) (by omega)
theorem chooseN_run (nn : List (List Nat)) (fits : List Nat → List Nat → Bool) : Run nn fits (chooseN nn fits) ∧ nextF nn fits (chooseN nn fits) = none :=
  chooseF_run _ _ (Run.nil nn fits) (by rw [lack_nil]; omega)
theorem chooseF_done {nn : List (List Nat)} {fits : List Nat → List Nat → Bool} {out : List Nat} (h : nextF nn fits out = none) (f : Nat) : chooseF nn fits f out = out := by
  cases f with
  | zero => rfl
  | succ f => unfold chooseF; rw [h]
theorem chooseF_more {nn : List (List Nat)} {fits : List Nat → List Nat → Bool} : ∀ (f : Nat) (out : List Nat), Run nn fits out → lack nn.length out < f → chooseF nn fits (f + 1) out = chooseF nn fits f out
  | 0, _, _, h => by omega
  | f + 1, out, hr, hf => by
    show (match nextF nn fits out with | none => out | some i => chooseF nn fits (f + 1) (out ++ [i])) = (match nextF nn fits out with | none => out | some i => chooseF nn fits f (out ++ [i]))
    cases h : nextF nn fits out with
    | none => rfl
    | some i =>
      obtain ⟨h1, h2, _⟩ := nextF_some h
      have := lack_snoc h1 h2
      exact chooseF_more f _ (hr.snoc h) (by omega)
/-- What is still to come, from a list chosen so far. -/
def restN (nn : List (List Nat)) (fits : List Nat → List Nat → Bool) (out : List Nat) : List Nat := chooseF nn fits (lack nn.length out + 1) out
theorem restN_nil (nn : List (List Nat)) (fits : List Nat → List Nat → Bool) : restN nn fits [] = chooseN nn fits := by unfold restN chooseN; rw [lack_nil]
theorem restN_none {nn : List (List Nat)} {fits : List Nat → List Nat → Bool} {out : List Nat} (h : nextF nn fits out = none) : restN nn fits out = out := chooseF_done h _
theorem restN_some {nn : List (List Nat)} {fits : List Nat → List Nat → Bool} {out : List Nat} {i : Nat} (h : nextF nn fits out = some i) : restN nn fits (out ++ [i]) = restN nn fits out := by
  obtain ⟨h1, h2, _⟩ := nextF_some h
  have := lack_snoc h1 h2
  unfold restN
  rw [show lack nn.length out = lack nn.length (out ++ [i]) + 1 by omega]
  conv => rhs; unfold chooseF
  rw [h]

/-- The order's and the dependents' tests. -/
def fitsO (need out : List Nat) : Bool := need.all fun k => decide (k ∈ out)
def fitsD (i : Int) (need out : List Nat) : Bool := need.any fun k => decide ((k : Int) = i) || decide (k ∈ out)
def orderN (nn : List (List Nat)) : List Nat := chooseN nn fitsO
def reachN (nn : List (List Nat)) (i : Int) : List Nat := chooseN nn (fitsD i)
/-- All that is chosen has a property, if what fits has it. -/
theorem run_all {nn : List (List Nat)} {fits : List Nat → List Nat → Bool} {out : List Nat} (h : Run nn fits out) (S : Nat → Prop) (hS : ∀ k A, k < nn.length → (∀ x ∈ A, S x) → fits (nn.getD k []) A = true → S k) : ∀ k ∈ out, S k := by
  suffices ∀ (m : Nat) (A B : List Nat), A.length = m → out = A ++ B → ∀ k ∈ A, S k by
    intro k hk; exact this out.length out [] rfl (by simp) k hk
  intro m
  induction m with
  | zero => intro A B h0 _ k hk; rw [List.eq_nil_of_length_eq_zero h0] at hk; simp at hk
  | succ m ih =>
    intro A B hA e k hk
    rcases List.eq_nil_or_concat A with rfl | ⟨A', a, rfl⟩
    · simp at hA
    · rw [List.concat_eq_append] at hA hk e
      have hA' : A'.length = m := by simpa using hA
      have e' : out = A' ++ (a :: B) := by rw [e]; simp
      have i1 := ih A' _ hA' e'
      rw [List.mem_append] at hk
      rcases hk with hk | hk
      · exact i1 k hk
      · simp at hk; subst hk
        obtain ⟨h1, h2, h3, _⟩ := nextF_some (h.by' _ _ _ e')
        exact hS k A' h1 i1 h3
theorem fitsO_iff {need out : List Nat} : fitsO need out = true ↔ ∀ k ∈ need, k ∈ out := by unfold fitsO; simp
theorem fitsD_iff {i : Int} {need out : List Nat} : fitsD i need out = true ↔ ∃ k ∈ need, (k : Int) = i ∨ k ∈ out := by unfold fitsD; simp
/-- In an order's front lies all that its jobs need. -/
theorem order_front {nn : List (List Nat)} {A B : List Nat} {i : Nat} (h : orderN nn = A ++ i :: B) : i < nn.length ∧ i ∉ A ∧ (∀ k ∈ nn.getD i [], k ∈ A) ∧ ∀ n, n < i → n ∉ A → ∃ k ∈ nn.getD n [], k ∉ A := by
  obtain ⟨h1, h2, h3, h4⟩ := nextF_some ((chooseN_run nn fitsO).1.by' A i B h)
  refine ⟨h1, h2, fitsO_iff.1 h3, fun n hn hA => ?_⟩
  have := h4 n hn hA
  unfold fitsO at this
  simpa using this
theorem order_end {nn : List (List Nat)} {n : Nat} (hn : n < nn.length) (h : n ∉ orderN nn) : ∃ k ∈ nn.getD n [], k ∉ orderN nn := by
  have h2 : fitsO (nn.getD n []) (orderN nn) = false := nextF_none (chooseN_run nn fitsO).2 n hn h
  generalize orderN nn = o at *
  unfold fitsO at h2
  simpa using h2
theorem order_len {nn : List (List Nat)} : (orderN nn).length ≤ nn.length ∧ ((orderN nn).length = nn.length ↔ ∀ k, k < nn.length → k ∈ orderN nn) := by
  have hr := (chooseN_run nn fitsO).1
  have hc := hr.cnt
  refine ⟨by unfold orderN; omega, fun h => lack_zero (by unfold orderN at h ⊢; omega), fun h => ?_⟩
  rcases Nat.eq_zero_or_pos (lack nn.length (orderN nn)) with e | e
  · unfold orderN at *; omega
  · obtain ⟨k, h1, h2⟩ := lack_pos e
    exact absurd (h k h1) h2
/-- What is reached is closed, and each came by a need. -/
theorem reach_iff {nn : List (List Nat)} {i : Int} {k : Nat} (hk : k < nn.length) : k ∈ reachN nn i ↔ ∃ n ∈ nn.getD k [], (n : Int) = i ∨ n ∈ reachN nn i := by
  have hr := chooseN_run nn (fitsD i)
  constructor
  · intro h
    obtain ⟨A, B, e⟩ := List.append_of_mem h
    obtain ⟨h1, h2, h3, _⟩ := nextF_some (hr.1.by' A k B e)
    obtain ⟨n, h5, h6⟩ := fitsD_iff.1 h3
    refine ⟨n, h5, h6.imp id fun h7 => ?_⟩
    rw [e]; exact List.mem_append_left _ h7
  · intro h
    by_cases hm : k ∈ reachN nn i
    · exact hm
    · have := nextF_none hr.2 k hk hm
      rw [show fitsD i (nn.getD k []) (chooseN nn (fitsD i)) = true from fitsD_iff.2 h] at this
      cases this
theorem reach_least {nn : List (List Nat)} {i : Int} (S : Nat → Prop) (hS : ∀ k, k < nn.length → (∃ n ∈ nn.getD k [], (n : Int) = i ∨ S n) → S k) : ∀ k ∈ reachN nn i, S k :=
  run_all (chooseN_run nn (fitsD i)).1 S fun k A hk hA hf => hS k hk (by
    obtain ⟨n, h1, h2⟩ := fitsD_iff.1 hf
    exact ⟨n, h1, h2.imp id (hA n)⟩)
theorem reach_lt {nn : List (List Nat)} {i : Int} : ∀ k ∈ reachN nn i, k < nn.length := (chooseN_run nn (fitsD i)).1.lt
theorem reach_nodup {nn : List (List Nat)} {i : Int} : (reachN nn i).Nodup := (chooseN_run nn (fitsD i)).1.nodup
theorem reach_self {nn : List (List Nat)} {i : Nat} (hi : i < nn.length) (h : (orderN nn).length = nn.length) : i ∉ reachN nn (i : Int) := by
  intro hm
  have hall := order_len.2.1 h
  have hnd : (orderN nn).Nodup := (chooseN_run nn fitsO).1.nodup
  have := reach_least (nn := nn) (i := (i : Int)) (fun k => ∀ A B, orderN nn = A ++ k :: B → i ∈ A) (fun k hk ⟨n, h1, h2⟩ A B e => by
    have hA := (order_front e).2.2.1 n h1
    rcases h2 with h2 | h2
    · have : n = i := by omega
      rw [← this]; exact hA
    · obtain ⟨A1, A2, rfl⟩ := List.append_of_mem hA
      have := h2 A1 (A2 ++ k :: B) (by rw [e]; simp)
      exact List.mem_append_left _ this) i hm
  obtain ⟨A, B, e⟩ := List.append_of_mem (hall i hi)
  have hA := this A B e
  rw [e, List.nodup_append] at hnd
  exact hnd.2.2 i hA i (by simp) rfl

/-- Strictly ascending lists with the same elements. -/
theorem asc_ext : ∀ {l m : List Nat}, l.Pairwise (· < ·) → m.Pairwise (· < ·) → (∀ x, x ∈ l ↔ x ∈ m) → l = m
  | [], [], _, _, _ => rfl
  | [], b :: m, _, _, h => by have := (h b).2 (by simp); simp at this
  | a :: l, [], _, _, h => by have := (h a).1 (by simp); simp at this
  | a :: l, b :: m, hl, hm, h => by
    rw [List.pairwise_cons] at hl hm
    have hab : a = b := by
      have h1 : a ∈ b :: m := (h a).1 (by simp)
      have h2 : b ∈ a :: l := (h b).2 (by simp)
      rcases List.mem_cons.1 h1 with e | e
      · exact e
      · rcases List.mem_cons.1 h2 with e' | e'
        · exact e'.symm
        · have := hm.1 a e; have := hl.1 b e'; omega
    subst hab
    congr 1
    refine asc_ext hl.2 hm.2 fun x => ⟨fun hx => ?_, fun hx => ?_⟩
    · have := (h x).1 (List.mem_cons_of_mem _ hx)
      rcases List.mem_cons.1 this with e | e
      · have := hl.1 x hx; omega
      · exact e
    · have := (h x).2 (List.mem_cons_of_mem _ hx)
      rcases List.mem_cons.1 this with e | e
      · have := hm.1 x hx; omega
      · exact e
theorem asc_range (n : Nat) (p : Nat → Bool) : ((List.range n).filter p).Pairwise (· < ·) := List.Pairwise.filter p List.pairwise_lt_range
/-- The needed jobs' places, ascending. -/
def ascN (n : Nat) (l : List Nat) : List Nat := (List.range n).filter fun k => decide (k ∈ l)
theorem mem_ascN {n : Nat} {l : List Nat} {x : Nat} : x ∈ ascN n l ↔ x < n ∧ x ∈ l := by unfold ascN; simp
theorem ascN_pw (n : Nat) (l : List Nat) : (ascN n l).Pairwise (· < ·) := asc_range n _

/-- The cycle: from a job to the first of its needs that the order lacks, until one comes again. -/
def leftF (taken l : List Nat) : Option Nat := l.find? fun k => decide (k ∉ taken)
def cycF (nn : List (List Nat)) (taken : List Nat) : Nat → List Nat → Nat → List Nat
  | 0, _, _ => []
  | f + 1, path, i =>
    if i ∈ path then path.dropWhile (fun k => decide (k ≠ i))
    else match leftF taken (nn.getD i []) with
      | none => []
      | some k => cycF nn taken f (path ++ [i]) k
def cycleN (nn : List (List Nat)) : List Nat :=
  match leftF (orderN nn) (List.range nn.length) with
  | none => []
  | some i => cycF nn (orderN nn) (nn.length + 2) [] i
theorem leftF_some {taken l : List Nat} {k : Nat} (h : leftF taken l = some k) : k ∈ l ∧ k ∉ taken := by
  unfold leftF at h
  exact ⟨List.mem_of_find?_eq_some h, by simpa using List.find?_some h⟩
theorem leftF_none {taken l : List Nat} (h : leftF taken l = none) : ∀ k ∈ l, k ∈ taken := by
  unfold leftF at h
  intro k hk
  simpa using List.find?_eq_none.1 h k hk
/-- A path: each job needs the next one, the last one needs i; none comes twice. -/
structure Path (nn : List (List Nat)) (path : List Nat) (i : Nat) : Prop where
  nodup : path.Nodup
  lt : ∀ k ∈ path, k < nn.length ∧ k ∉ orderN nn
  cnt : lack nn.length path + path.length = nn.length
  ilt : i < nn.length ∧ i ∉ orderN nn
  link : ∀ (j a b : Nat), path[j]? = some a → (path ++ [i])[j + 1]? = some b → b ∈ nn.getD a []
theorem Path.start {nn : List (List Nat)} {i : Nat} (h : i < nn.length ∧ i ∉ orderN nn) : Path nn [] i :=
  ⟨List.nodup_nil, by simp, by rw [lack_nil]; rfl, h, fun j a b h => by simp at h⟩
theorem Path.step {nn : List (List Nat)} (hb : ∀ i, ∀ k ∈ nn.getD i [], k < nn.length) {path : List Nat} {i k : Nat} (h : Path nn path i) (hi : i ∉ path) (hk : leftF (orderN nn) (nn.getD i []) = some k) : Path nn (path ++ [i]) k := by
  obtain ⟨k1, k2⟩ := leftF_some hk
  refine ⟨?_, ?_, ?_, ⟨hb i k k1, k2⟩, ?_⟩
  · rw [List.nodup_append]
    refine ⟨h.nodup, by simp, fun a ha b hb => ?_⟩
    simp at hb; subst hb
    intro e; subst e; exact hi ha
  · intro x hx
    rw [List.mem_append] at hx
    rcases hx with hx | hx
    · exact h.lt x hx
    · simp at hx; subst hx; exact h.ilt
  · have := lack_snoc h.ilt.1 hi; have := h.cnt; rw [List.length_append]; simp; omega
  · intro j a b h1 h2
    rcases Nat.lt_or_ge j path.length with hj | hj
    · rw [List.getElem?_append_left hj] at h1
      have hj1 : j + 1 < (path ++ [i]).length := by simp; omega
      rw [List.getElem?_append_left hj1] at h2
      exact h.link j a b h1 h2
    · have hjl : j < (path ++ [i]).length := (List.getElem?_eq_some_iff.1 h1).1
      obtain rfl : j = path.length := by simp at hjl; omega
      simp at h1
      subst h1
      have e : (path ++ [i] ++ [k])[path.length + 1]? = some k := by rw [List.getElem?_append_right (by simp)]; simp
      rw [e] at h2
      injection h2 with h2
      subst h2; exact k1
theorem left_some {nn : List (List Nat)} {i : Nat} (h : i < nn.length ∧ i ∉ orderN nn) : ∃ k, leftF (orderN nn) (nn.getD i []) = some k := by
  cases e : leftF (orderN nn) (nn.getD i []) with
  | some k => exact ⟨k, rfl⟩
  | none =>
    obtain ⟨k, h1, h2⟩ := order_end h.1 h.2
    exact absurd (leftF_none e k h1) h2
theorem cycF_step {nn : List (List Nat)} {taken path : List Nat} {f i k : Nat} (hi : i ∉ path) (hk : leftF taken (nn.getD i []) = some k) : cycF nn taken (f + 1) path i = cycF nn taken f (path ++ [i]) k := by
  show (if i ∈ path then _ else _) = _
  rw [if_neg hi, hk]
theorem cycF_more {nn : List (List Nat)} (hb : ∀ i, ∀ k ∈ nn.getD i [], k < nn.length) : ∀ (f : Nat) (path : List Nat) (i : Nat), Path nn path i → lack nn.length path < f → cycF nn (orderN nn) (f + 1) path i = cycF nn (orderN nn) f path i
  | 0, _, _, _, h => by omega
  | f + 1, path, i, hp, hf => by
    by_cases hi : i ∈ path
    · show (if i ∈ path then _ else _) = (if i ∈ path then _ else _)
      rw [if_pos hi, if_pos hi]
    · obtain ⟨k, hk⟩ := left_some hp.ilt
      rw [cycF_step hi hk, cycF_step hi hk]
      have := lack_snoc hp.ilt.1 hi
      exact cycF_more hb f _ _ (hp.step hb hi hk) (by omega)
/-- What is still to come of a cycle. -/
def cycN (nn : List (List Nat)) (path : List Nat) (i : Nat) : List Nat := cycF nn (orderN nn) (lack nn.length path + 1) path i
theorem cycN_in {nn : List (List Nat)} {path : List Nat} {i : Nat} (h : i ∈ path) : cycN nn path i = path.dropWhile (fun k => decide (k ≠ i)) := by
  unfold cycN
  show (if i ∈ path then _ else _) = _
  rw [if_pos h]
theorem cycN_step {nn : List (List Nat)} {path : List Nat} {i k : Nat} (hi : i < nn.length) (h : i ∉ path) (hk : leftF (orderN nn) (nn.getD i []) = some k) : cycN nn (path ++ [i]) k = cycN nn path i := by
  have := lack_snoc hi h
  unfold cycN
  rw [show lack nn.length path + 1 = (lack nn.length (path ++ [i]) + 1) + 1 by omega, cycF_step h hk]
theorem cycleN_some {nn : List (List Nat)} (hb : ∀ i, ∀ k ∈ nn.getD i [], k < nn.length) {i : Nat} (h : leftF (orderN nn) (List.range nn.length) = some i) : cycleN nn = cycN nn [] i ∧ Path nn [] i := by
  obtain ⟨h1, h2⟩ := leftF_some h
  have hp : Path nn [] i := Path.start ⟨List.mem_range.1 h1, h2⟩
  refine ⟨?_, hp⟩
  unfold cycleN cycN
  rw [h, lack_nil]
  exact cycF_more hb (nn.length + 1) [] i hp (by rw [lack_nil]; omega)
/-- What the cycle is. -/
structure Cyc (nn : List (List Nat)) (c : List Nat) : Prop where
  pos : 0 < c.length
  nodup : c.Nodup
  lt : ∀ k ∈ c, k < nn.length
  link : ∀ (j a b : Nat), c[j]? = some a → c[(j + 1) % c.length]? = some b → b ∈ nn.getD a []
theorem dropWhile_split {path : List Nat} {i : Nat} (h : i ∈ path) : ∃ A B, path = A ++ i :: B ∧ path.dropWhile (fun k => decide (k ≠ i)) = i :: B := by
  induction path with
  | nil => simp at h
  | cons a l ih =>
    by_cases ha : a = i
    · subst ha
      exact ⟨[], l, rfl, by rw [List.dropWhile_cons_of_neg (by simp)]⟩
    · obtain ⟨A, B, e1, e2⟩ := ih (by simpa [Ne.symm ha] using h)
      exact ⟨a :: A, B, by rw [e1]; rfl, by rw [List.dropWhile_cons_of_pos (by simpa using ha), e2]⟩
theorem cyc_of_path {nn : List (List Nat)} {path : List Nat} {i : Nat} (hp : Path nn path i) (h : i ∈ path) : Cyc nn (path.dropWhile (fun k => decide (k ≠ i))) := by
  obtain ⟨A, B, e1, e2⟩ := dropWhile_split h
  rw [e2]
  have hnd := hp.nodup
  rw [e1, List.nodup_append] at hnd
  refine ⟨by simp, hnd.2.1, fun k hk => (hp.lt k (by rw [e1]; exact List.mem_append_right _ hk)).1, fun j a b h1 h2 => ?_⟩
  have hj : j < (i :: B).length := (List.getElem?_eq_some_iff.1 h1).1
  have hpa : path[A.length + j]? = some a := by rw [e1, List.getElem?_append_right (by omega), Nat.add_sub_cancel_left]; exact h1
  refine hp.link (A.length + j) a b hpa ?_
  rw [e1]
  by_cases hl : j + 1 < (i :: B).length
  · rw [Nat.mod_eq_of_lt hl] at h2
    rw [List.append_assoc, List.getElem?_append_right (by omega), show A.length + j + 1 - A.length = j + 1 by omega, List.getElem?_append_left hl]
    exact h2
  · have : j + 1 = (i :: B).length := by omega
    rw [this, Nat.mod_self] at h2
    simp at h2
    subst h2
    rw [show A.length + j + 1 = (A ++ i :: B).length by simp at this ⊢; omega]
    simp
theorem cycN_cyc {nn : List (List Nat)} (hb : ∀ i, ∀ k ∈ nn.getD i [], k < nn.length) : ∀ (m : Nat) (path : List Nat) (i : Nat), lack nn.length path = m → Path nn path i → Cyc nn (cycN nn path i) := by
  intro m
  induction m with
  | zero =>
    intro path i hm hp
    have hi := lack_zero hm i hp.ilt.1
    rw [cycN_in hi]; exact cyc_of_path hp hi
  | succ m ih =>
    intro path i hm hp
    by_cases hi : i ∈ path
    · rw [cycN_in hi]; exact cyc_of_path hp hi
    · obtain ⟨k, hk⟩ := left_some hp.ilt
      rw [← cycN_step hp.ilt.1 hi hk]
      have := lack_snoc hp.ilt.1 hi
      exact ih _ _ (by omega) (hp.step hb hi hk)
theorem cycle_len {nn : List (List Nat)} (hb : ∀ i, ∀ k ∈ nn.getD i [], k < nn.length) : (orderN nn).length = nn.length ↔ (cycleN nn).length = 0 := by
  rw [order_len.2]
  cases h : leftF (orderN nn) (List.range nn.length) with
  | none =>
    have e : cycleN nn = [] := by unfold cycleN; rw [h]
    rw [e]
    exact ⟨fun _ => rfl, fun _ k hk => leftF_none h k (List.mem_range.2 hk)⟩
  | some i =>
    obtain ⟨e, hp⟩ := cycleN_some hb h
    have hc := (cycN_cyc hb _ [] i rfl hp).pos
    rw [← e] at hc
    exact ⟨fun hall => absurd (hall i hp.ilt.1) hp.ilt.2, fun h0 => by omega⟩
theorem cycle_cyc {nn : List (List Nat)} (hb : ∀ i, ∀ k ∈ nn.getD i [], k < nn.length) (h : 0 < (cycleN nn).length) : Cyc nn (cycleN nn) := by
  cases e : leftF (orderN nn) (List.range nn.length) with
  | none => unfold cycleN at h; rw [e] at h; simp at h
  | some i =>
    obtain ⟨e, hp⟩ := cycleN_some hb e
    rw [e]; exact cycN_cyc hb _ [] i rfl hp
end Go.Proofs.Ytohiioafdajhmaa.Gp
