/-
  Layer 5, the program: tokens lie in one line; one token is read.
-/
import Derived.Test.YtjhcbcadagljlaaDoorLxG9
namespace Go.Proofs.YtjhcbcadagljlaaDoor.Lx
open Go.RowKit

/-- The first n bytes are no line feeds. -/
def No10 (l : List Int) (n : Nat) : Prop := ∀ i, i < n → ∃ x, l[i]? = some x ∧ x ≠ 10
theorem No10.zero (l : List Int) : No10 l 0 := fun i h => by omega
theorem No10.cons {a : Int} {r : List Int} {n : Nat} (h : a ≠ 10) (hr : No10 r n) : No10 (a :: r) (n + 1) := fun i hi => by
  cases i with
  | zero => exact ⟨a, rfl, h⟩
  | succ i => simpa using hr i (by omega)
theorem No10.add {l : List Int} {n m : Nat} (h : No10 l n) (k : No10 (l.drop n) m) : No10 l (n + m) := fun i hi => by
  by_cases hn : i < n
  · exact h i hn
  · obtain ⟨x, h1, h2⟩ := k (i - n) (by omega)
    rw [List.getElem?_drop] at h1
    exact ⟨x, by rw [← h1]; congr 1; omega, h2⟩
theorem part_no10 {l : List Int} {b : Int} {n : Nat} (h : part l = some (b, n)) : No10 l n := by
  match l, h with
  | [], h => simp [part] at h
  | a :: r, h =>
    rw [part_cons] at h
    split at h
    · simp at h
    split at h
    · subst a
      match r, h with
      | [], h => simp [escPart] at h
      | c :: r, h =>
        rw [escPart_cons] at h
        split at h
        · simp at h; obtain ⟨rfl, rfl⟩ := h; exact No10.cons (by omega) (No10.cons (by omega) (No10.zero _))
        split at h
        · simp at h; obtain ⟨rfl, rfl⟩ := h; exact No10.cons (by omega) (No10.cons (by omega) (No10.zero _))
        split at h
        · simp at h; obtain ⟨rfl, rfl⟩ := h; exact No10.cons (by omega) (No10.cons (by omega) (No10.zero _))
        split at h
        · subst c
          match r, h with
          | [], h => simp [hexPart] at h
          | [_], h => simp [hexPart] at h
          | x :: y :: r, h =>
            cases hx : half x with
            | none => rw [hexPart_no1 hx] at h; simp at h
            | some u =>
              cases hy : half y with
              | none => rw [hexPart_no2 hy] at h; simp at h
              | some v =>
                rw [hexPart_ok hx hy] at h
                simp at h; obtain ⟨rfl, rfl⟩ := h
                have x1 : x ≠ 10 := by intro e; subst e; simp [half] at hx
                have y1 : y ≠ 10 := by intro e; subst e; simp [half] at hy
                exact No10.cons (by omega) (No10.cons (by omega) (No10.cons x1 (No10.cons y1 (No10.zero _))))
        · simp at h
    · simp at h; obtain ⟨rfl, rfl⟩ := h; exact No10.cons (by omega) (No10.zero _)
theorem quoF_no10 : ∀ (f : Nat) (l : List Int) {t : List Int} {n : Nat}, quoF f l = some (t, n) → No10 l n
  | 0, _, _, _, h => by simp [quoF] at h
  | _ + 1, [], _, _, h => by simp [quoF] at h
  | f + 1, a :: r, t, n, h => by
    rw [quoF.eq_3] at h
    split at h
    · simp at h; obtain ⟨_, rfl⟩ := h; exact No10.cons (by omega) (No10.zero _)
    · cases hp : part (a :: r) with
      | none => rw [hp] at h; simp at h
      | some x =>
        obtain ⟨b, m⟩ := x
        rw [hp] at h
        simp only at h
        cases hq : quoF f ((a :: r).drop m) with
        | none => rw [hq] at h; simp at h
        | some y =>
          obtain ⟨u, v⟩ := y
          rw [hq] at h
          simp at h
          obtain ⟨_, rfl⟩ := h
          exact (part_no10 hp).add (quoF_no10 f _ hq)
theorem quo_no10 {l t : List Int} {n : Nat} (h : quo l = some (t, n)) : No10 l n := quoF_no10 _ _ h
theorem sla_no10 : ∀ (l : List Int) {t : List Int} {n : Nat}, sla l = some (t, n) → No10 l n
  | [], _, _, h => by simp [sla] at h
  | [a], t, n, h => by
    by_cases h47 : a = 47
    · subst h47; rw [sla_end] at h; simp at h; obtain ⟨_, rfl⟩ := h; exact No10.cons (by omega) (No10.zero _)
    · simp [sla, h47] at h
  | a :: b :: r, t, n, h => by
    by_cases h47 : a = 47
    · subst h47; rw [sla_end] at h; simp at h; obtain ⟨_, rfl⟩ := h; exact No10.cons (by omega) (No10.zero _)
    by_cases h32 : a < 32
    · rw [sla_low h32 h47] at h; simp at h
    by_cases h92 : a = 92
    · subst h92
      by_cases hb : b < 32
      · rw [sla_bs2 hb] at h; simp at h
      rw [sla_esc hb] at h
      cases hq : sla r with
      | none => rw [hq] at h; simp at h
      | some y =>
        obtain ⟨u, v⟩ := y
        rw [hq] at h
        simp at h
        obtain ⟨_, rfl⟩ := h
        exact No10.cons (by omega) (No10.cons (by omega) (sla_no10 r hq))
    · rw [sla_one h47 h32 h92] at h
      cases hq : sla (b :: r) with
      | none => rw [hq] at h; simp at h
      | some y =>
        obtain ⟨u, v⟩ := y
        rw [hq] at h
        simp at h
        obtain ⟨_, rfl⟩ := h
        exact No10.cons (by omega) (sla_no10 (b :: r) hq)
theorem pw_no10 {w : Bool} {x : Int} (h : pw w x = true) : x ≠ 10 := by
  intro e; subst e
  cases w <;> simp [pw, inWord, letter, digit] at h
theorem span_no10 (w : Bool) : ∀ l : List Int, No10 l (spanL w l)
  | [] => No10.zero _
  | a :: r => by
    rw [spanL_cons]
    split
    · exact No10.cons (pw_no10 (by assumption)) (span_no10 w r)
    · exact No10.zero _
theorem one_no10 {l : List Int} {k : Int} {t : List Int} {n : Nat} (h : one l = .tok k t n) : No10 l n := by
  match l, h with
  | [], h => simp [one] at h
  | a :: r, h =>
    cases hl : letter a with
    | true =>
      rw [one_letter hl] at h
      simp only [One.tok.injEq] at h
      rw [← h.2.2]
      exact span_no10 _ _
    | false =>
      cases hd : digit a with
      | true =>
        rw [one_digit hl hd] at h
        split at h
        · simp at h
        · simp only [One.tok.injEq] at h
          rw [← h.2.2]
          exact span_no10 _ _
      | false =>
        by_cases h34 : a = 34
        · subst h34
          rw [one_str] at h
          cases hq : quo r with
          | none => rw [hq] at h; simp at h
          | some x =>
            obtain ⟨t2, n2⟩ := x
            rw [hq] at h
            simp at h
            rw [← h.2.2]
            exact No10.cons (by omega) (quo_no10 hq)
        by_cases h47 : a = 47
        · subst h47
          rw [one_pat] at h
          cases hq : sla r with
          | none => rw [hq] at h; simp at h
          | some x =>
            obtain ⟨t2, n2⟩ := x
            rw [hq] at h
            simp at h
            rw [← h.2.2]
            exact No10.cons (by omega) (sla_no10 _ hq)
        by_cases hs : a = 123 ∨ a = 125 ∨ a = 44 ∨ a = 61
        · rw [one_sign hs] at h
          simp at h
          rw [← h.2.2]
          exact No10.cons (by omega) (No10.zero _)
        · rw [one_char hl hd h34 h47 hs] at h; simp at h
theorem Pos.tok {l : List Int} {k : Nat} {ln st : Int} (h : Pos l k ln st) {kk : Int} {t : List Int} {n : Nat} (h1 : one (l.drop k) = .tok kk t n) : Pos l (k + n) ln st :=
  h.run n fun i hi => by
    obtain ⟨x, h2, h3⟩ := one_no10 h1 i hi
    rw [List.getElem?_drop] at h2
    exact ⟨x, h2, h3⟩

/-! ### one token -/
def tokV (t : Tok) : Value := .agg t.cells.toArray
def tok0 : Value := .agg #[.int .i64 0, .string ⟨#[]⟩, .int .i64 0, .int .i64 0]
/-- What token returns, and where it leaves the scanner. -/
def TkPost (w : World) (B b : Nat) (s : ByteArray) (l : List Int) (k : Nat) (ln st : Int) (e : Ending) (w' : World) : Prop :=
  Fr 62 B w w' ∧
  (if l.length = k then e = .returned (.tuple #[tokV ⟨6, [], ln, k - st + 1⟩, .nilIface]) ∧ w'.heap[b]? = some (ScnO s k ln st) else
    match one (l.drop k) with
    | .bad c => e = .returned (.tuple #[tok0, fltV (c, ln, k - st + 1)]) ∧ w'.heap[b]? = some (ScnO s k ln st)
    | .tok kk t n => e = .returned (.tuple #[tokV ⟨kk, t, ln, k - st + 1⟩, .nilIface]) ∧ w'.heap[b]? = some (ScnO s ((k + n : Nat) : Int) ln st))
end Go.Proofs.YtjhcbcadagljlaaDoor.Lx
