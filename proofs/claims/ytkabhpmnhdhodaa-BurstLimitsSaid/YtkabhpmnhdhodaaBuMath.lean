/-
  Plain mathematics of layer 3: which times are kept, which restarts are allowed. Nothing of the program is imported.
-/
namespace Go.Proofs.Ytkabhpmnhdhodaa.Bu

/-- The greatest number, behind a name. -/
def mx : Int := 18446744073709551615
def subS (a b : Int) : Int := if a < b then 0 else a - b
/-- Numbers of 64 bits. -/
def U (l : List Int) : Prop := ∀ x ∈ l, 0 ≤ x ∧ x ≤ mx
/-- Does the time t still count? -/
def young (now win t : Int) : Bool := decide (subS now t < win)
def trim (l : List Int) (now win : Int) : List Int := l.filter (young now win)
def allowL (l : List Int) (most now win : Int) : List Int := if ((trim l now win).length : Int) < most then trim l now win ++ [now] else trim l now win
def allowB (l : List Int) (most now win : Int) : Bool := decide (((trim l now win).length : Int) < most)

theorem U_nil : U [] := fun x h => by simp at h
theorem U.filter {l : List Int} (h : U l) (p : Int → Bool) : U (l.filter p) := fun x hx => h x (List.mem_filter.1 hx).1
theorem U.append {l m : List Int} (h : U l) (k : U m) : U (l ++ m) := fun x hx => (List.mem_append.1 hx).elim (h x) (k x)
theorem U.one {x : Int} (h0 : 0 ≤ x) (h1 : x ≤ mx) : U [x] := fun y hy => by simp at hy; subst hy; exact ⟨h0, h1⟩
theorem U.trim {l : List Int} (h : U l) (now win : Int) : U (trim l now win) := h.filter _
theorem trim_le (l : List Int) (now win : Int) : (trim l now win).length ≤ l.length := List.length_filter_le _ _
theorem allowL_le (l : List Int) (most now win : Int) : (allowL l most now win).length ≤ l.length + 1 := by
  have := trim_le l now win
  unfold allowL; split
  · simp; omega
  · omega
theorem U.allowL {l : List Int} (h : U l) (most : Int) {now : Int} (h0 : 0 ≤ now) (h1 : now ≤ mx) (win : Int) : U (allowL l most now win) := by
  unfold Bu.allowL; split
  · exact (h.trim _ _).append (U.one h0 h1)
  · exact h.trim _ _

/-! ### a list of restarts -/
def runN : Int → List Int → Int
  | now, [] => now
  | now, t :: r => runN (max now t) r
def runT (most win : Int) : List Int → Int → List Int → List Int
  | ts, _, [] => ts
  | ts, now, t :: r => runT most win (allowL ts most (max now t) win) (max now t) r
def play (most win : Int) : List Int → Int → List Int → List Bool
  | _, _, [] => []
  | ts, now, t :: r => allowB ts most (max now t) win :: play most win (allowL ts most (max now t) win) (max now t) r
theorem runN_snoc (now : Int) (l : List Int) (t : Int) : runN now (l ++ [t]) = max (runN now l) t := by
  induction l generalizing now with
  | nil => rfl
  | cons x r ih => simp [runN, ih]
theorem runT_snoc (most win : Int) (ts : List Int) (now : Int) (l : List Int) (t : Int) :
    runT most win ts now (l ++ [t]) = allowL (runT most win ts now l) most (max (runN now l) t) win := by
  induction l generalizing ts now with
  | nil => rfl
  | cons x r ih => simp [runT, runN, ih]
theorem play_snoc (most win : Int) (ts : List Int) (now : Int) (l : List Int) (t : Int) :
    play most win ts now (l ++ [t]) = play most win ts now l ++ [allowB (runT most win ts now l) most (max (runN now l) t) win] := by
  induction l generalizing ts now with
  | nil => rfl
  | cons x r ih => simp [play, runT, runN, ih]
theorem play_length (most win : Int) (ts : List Int) (now : Int) (l : List Int) : (play most win ts now l).length = l.length := by
  induction l generalizing ts now with
  | nil => rfl
  | cons x r ih => simp [play, ih]
theorem runN_bd {now : Int} {l : List Int} (h0 : 0 ≤ now) (h1 : now ≤ mx) (h : U l) : 0 ≤ runN now l ∧ runN now l ≤ mx := by
  induction l generalizing now with
  | nil => exact ⟨h0, h1⟩
  | cons x r ih =>
    have hx := h x (by simp)
    exact ih (by omega) (by omega) (fun y hy => h y (by simp [hy]))
theorem runT_le (most win : Int) (ts : List Int) (now : Int) (l : List Int) : (runT most win ts now l).length ≤ ts.length + l.length := by
  induction l generalizing ts now with
  | nil => simp [runT]
  | cons x r ih =>
    have h1 := ih (allowL ts most (max now x) win) (max now x)
    have h2 := allowL_le ts most (max now x) win
    simp [runT]; omega
theorem runT_U {most win now : Int} {ts l : List Int} (hts : U ts) (h0 : 0 ≤ now) (h1 : now ≤ mx) (h : U l) : U (runT most win ts now l) := by
  induction l generalizing ts now with
  | nil => exact hts
  | cons x r ih =>
    have hx := h x (by simp)
    have a0 : 0 ≤ max now x := by omega
    have a1 : max now x ≤ mx := by omega
    exact ih (hts.allowL most a0 a1 win) a0 a1 (fun y hy => h y (by simp [hy]))

/-! ### times that ascend -/
def Asc (ts : List Int) (now : Int) : Prop := List.Pairwise (· ≤ ·) ts ∧ ∀ t ∈ ts, t ≤ now
theorem Asc.nil (now : Int) : Asc [] now := ⟨List.Pairwise.nil, fun t h => by simp at h⟩
theorem Asc.later {ts : List Int} {now now' : Int} (h : Asc ts now) (hn : now ≤ now') : Asc ts now' := ⟨h.1, fun t ht => Int.le_trans (h.2 t ht) hn⟩
theorem Asc.tail {t : Int} {ts : List Int} {now : Int} (h : Asc (t :: ts) now) : Asc ts now := ⟨(List.pairwise_cons.1 h.1).2, fun x hx => h.2 x (by simp [hx])⟩
theorem Asc.trim {ts : List Int} {now : Int} (h : Asc ts now) (n win : Int) : Asc (trim ts n win) now := ⟨h.1.filter _, fun t ht => h.2 t (List.mem_filter.1 ht).1⟩
theorem Asc.allowL {ts : List Int} {now : Int} (h : Asc ts now) (most win : Int) : Asc (allowL ts most now win) now := by
  unfold Bu.allowL; split
  · refine ⟨List.pairwise_append.2 ⟨(h.trim now win).1, by simp, fun a ha b hb => ?_⟩, fun t ht => ?_⟩
    · simp at hb; rw [hb]; exact (h.trim now win).2 a ha
    · rcases List.mem_append.1 ht with ht | ht
      · exact (h.trim now win).2 t ht
      · simp at ht; omega
  · exact h.trim now win
theorem runT_asc (most win : Int) {ts : List Int} {now : Int} (l : List Int) (h : Asc ts now) : Asc (runT most win ts now l) (runN now l) := by
  induction l generalizing ts now with
  | nil => exact h
  | cons x r ih => exact ih ((h.later (by omega)).allowL most win)
theorem trim_old {t : Int} {r : List Int} {now win : Int} (h : young now win t = false) : trim (t :: r) now win = trim r now win := by simp [trim, h]
theorem trim_young {t : Int} {r : List Int} {now win : Int} (ha : Asc (t :: r) now) (h : young now win t = true) : trim (t :: r) now win = t :: r := by
  unfold trim
  refine List.filter_eq_self.2 fun x hx => ?_
  have h1 : t ≤ x := by
    rcases List.mem_cons.1 hx with rfl | hx
    · exact Int.le_refl _
    · exact (List.pairwise_cons.1 ha.1).1 x hx
  have h2 := ha.2 x hx
  have h3 := ha.2 t (by simp)
  unfold young subS at *
  simp only [decide_eq_true_eq] at *
  split at h <;> split <;> omega
theorem trim_nil (now win : Int) : trim [] now win = [] := rfl
end Go.Proofs.Ytkabhpmnhdhodaa.Bu
