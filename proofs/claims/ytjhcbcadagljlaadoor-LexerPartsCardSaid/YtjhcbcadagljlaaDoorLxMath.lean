/-
  Plain mathematics of layer 5: the tokens of a text. Nothing of the program is imported.
-/
namespace Go.Proofs.YtjhcbcadagljlaaDoor.Lx

/-- Bytes. -/
def By (l : List Int) : Prop := ∀ x ∈ l, 0 ≤ x ∧ x ≤ 255
theorem By.nil : By [] := fun x h => by simp at h
theorem By.append {l m : List Int} (h : By l) (k : By m) : By (l ++ m) := fun x hx => (List.mem_append.1 hx).elim (h x) (k x)
theorem By.one {x : Int} (h : 0 ≤ x ∧ x ≤ 255) : By [x] := fun y hy => by simp at hy; subst hy; exact h
theorem By.take {l : List Int} (h : By l) (k : Nat) : By (l.take k) := fun x hx => h x (List.mem_of_mem_take hx)
theorem By.drop {l : List Int} (h : By l) (k : Nat) : By (l.drop k) := fun x hx => h x (List.mem_of_mem_drop hx)

def letter (b : Int) : Bool := decide (65 ≤ b ∧ b ≤ 90 ∨ 97 ≤ b ∧ b ≤ 122 ∨ b = 95)
def digit (b : Int) : Bool := decide (48 ≤ b ∧ b ≤ 57)
def half (b : Int) : Option Int :=
  if 48 ≤ b ∧ b ≤ 57 then some (b - 48) else if 97 ≤ b ∧ b ≤ 102 then some (b - 87) else if 65 ≤ b ∧ b ≤ 70 then some (b - 55) else none
theorem half_bd {b x : Int} (h : half b = some x) : 0 ≤ x ∧ x ≤ 15 := by
  unfold half at h
  split at h
  · simp at h; omega
  split at h
  · simp at h; omega
  split at h
  · simp at h; omega
  · simp at h
/-- \x and two digits. -/
def hexPart : List Int → Option (Int × Nat)
  | h :: l :: _ => match half h, half l with
    | some x, some y => some (16 * x + y, 4)
    | _, _ => none
  | _ => none
/-- What a \ and what is behind it stand for. -/
def escPart : List Int → Option (Int × Nat)
  | [] => none
  | b :: r => if b = 34 ∨ b = 92 then some (b, 2) else if b = 110 then some (10, 2) else if b = 116 then some (9, 2) else if b = 120 then hexPart r else none
/-- A part of a string: the byte that it stands for, how many bytes it has. -/
def part : List Int → Option (Int × Nat)
  | [] => none
  | a :: r => if a < 32 ∨ a = 34 then none else if a = 92 then escPart r else some (a, 1)
theorem escPart_cons (b : Int) (r : List Int) : escPart (b :: r) = if b = 34 ∨ b = 92 then some (b, 2) else if b = 110 then some (10, 2) else if b = 116 then some (9, 2) else if b = 120 then hexPart r else none := rfl
theorem part_cons (a : Int) (r : List Int) : part (a :: r) = if a < 32 ∨ a = 34 then none else if a = 92 then escPart r else some (a, 1) := rfl
theorem hexPart_ok {x y u v : Int} {r : List Int} (hx : half x = some u) (hy : half y = some v) : hexPart (x :: y :: r) = some (16 * u + v, 4) := by simp [hexPart, hx, hy]
theorem hexPart_no1 {x y : Int} {r : List Int} (hx : half x = none) : hexPart (x :: y :: r) = none := by simp [hexPart, hx]
theorem hexPart_no2 {x y : Int} {r : List Int} (hy : half y = none) : hexPart (x :: y :: r) = none := by
  cases hx : half x <;> simp [hexPart, hx, hy]
theorem hexPart_inv {r : List Int} {b : Int} {n : Nat} (h : hexPart r = some (b, n)) : n = 4 ∧ 2 ≤ r.length ∧ 0 ≤ b ∧ b ≤ 255 := by
  match r, h with
  | [], h => simp [hexPart] at h
  | [_], h => simp [hexPart] at h
  | x :: y :: r, h =>
    cases hx : half x with
    | none => rw [hexPart_no1 hx] at h; simp at h
    | some u =>
      cases hy : half y with
      | none => rw [hexPart_no2 hy] at h; simp at h
      | some v =>
        rw [hexPart_ok hx hy] at h
        have := half_bd hx; have := half_bd hy
        simp at h ⊢
        omega
theorem escPart_inv {r : List Int} {b : Int} {n : Nat} (h : escPart r = some (b, n)) : 2 ≤ n ∧ n ≤ r.length + 1 ∧ (By r → 0 ≤ b ∧ b ≤ 255) := by
  match r, h with
  | [], h => simp [escPart] at h
  | x :: r, h =>
    rw [escPart_cons] at h
    split at h
    · simp at h; exact ⟨by omega, by simp; omega, fun hb => by have := hb x (by simp); omega⟩
    split at h
    · simp at h; exact ⟨by omega, by simp; omega, fun _ => by omega⟩
    split at h
    · simp at h; exact ⟨by omega, by simp; omega, fun _ => by omega⟩
    split at h
    · have := hexPart_inv h; exact ⟨by omega, by simp; omega, fun _ => by omega⟩
    · simp at h
theorem part_inv {l : List Int} {b : Int} {n : Nat} (h : part l = some (b, n)) : 1 ≤ n ∧ n ≤ l.length ∧ (By l → 0 ≤ b ∧ b ≤ 255) := by
  match l, h with
  | [], h => simp [part] at h
  | a :: r, h =>
    rw [part_cons] at h
    split at h
    · simp at h
    split at h
    · have := escPart_inv h; exact ⟨by omega, by simp; omega, fun hb => this.2.2 fun x hx => hb x (by simp [hx])⟩
    · simp at h; exact ⟨by omega, by simp; omega, fun hb => by have := hb a (by simp); omega⟩
theorem part_len {l : List Int} {b : Int} {n : Nat} (h : part l = some (b, n)) : 1 ≤ n ∧ n ≤ l.length := ⟨(part_inv h).1, (part_inv h).2.1⟩
theorem part_by {l : List Int} (hl : By l) {b : Int} {n : Nat} (h : part l = some (b, n)) : 0 ≤ b ∧ b ≤ 255 := (part_inv h).2.2 hl

/-- A string behind its first mark: what it stands for, how many bytes it has with the last mark. -/
def quoF : Nat → List Int → Option (List Int × Nat)
  | 0, _ => none
  | _ + 1, [] => none
  | f + 1, a :: r => if a = 34 then some ([], 1) else
    match part (a :: r) with
    | none => none
    | some (b, n) => match quoF f ((a :: r).drop n) with
      | none => none
      | some (t, m) => some (b :: t, n + m)
theorem quoF_more : ∀ (f g : Nat) (l : List Int), l.length < f → l.length < g → quoF f l = quoF g l
  | 0, _, _, h, _ => by omega
  | _ + 1, 0, _, _, h => by omega
  | _ + 1, _ + 1, [], _, _ => rfl
  | f + 1, g + 1, a :: r, h, k => by
    unfold quoF
    split
    · rfl
    · cases hp : part (a :: r) with
      | none => rfl
      | some bn =>
        obtain ⟨b, n⟩ := bn
        have := part_len hp
        simp only
        rw [quoF_more f g ((a :: r).drop n) (by rw [List.length_drop]; simp at *; omega) (by rw [List.length_drop]; simp at *; omega)]
def quo (l : List Int) : Option (List Int × Nat) := quoF (l.length + 1) l
theorem quo_nil : quo [] = none := rfl
theorem quo_end (r : List Int) : quo (34 :: r) = some ([], 1) := by unfold quo quoF; simp
theorem quo_bad {l : List Int} (h0 : l ≠ []) (h1 : l.head? ≠ some 34) (h : part l = none) : quo l = none := by
  match l, h0, h1, h with
  | a :: r, _, h1, h =>
    simp at h1
    unfold quo quoF
    rw [if_neg h1, h]
theorem quo_part {l : List Int} {b : Int} {n : Nat} (h1 : l.head? ≠ some 34) (h : part l = some (b, n)) : quo l = (quo (l.drop n)).map fun x => (b :: x.1, n + x.2) := by
  match l, h1, h with
  | [], _, h => simp [part] at h
  | a :: r, h1, h =>
    have hn := part_len h
    simp at h1
    have e : quo (a :: r) = match quoF (a :: r).length ((a :: r).drop n) with
      | none => none
      | some (t, m) => some (b :: t, n + m) := by
      unfold quo
      rw [quoF.eq_3, if_neg h1, h]
    rw [e]
    have e2 : quoF (a :: r).length ((a :: r).drop n) = quo ((a :: r).drop n) := by
      unfold quo
      exact quoF_more _ _ _ (by rw [List.length_drop]; omega) (by omega)
    rw [e2]
    cases quo ((a :: r).drop n) <;> rfl

/-- A pattern behind its first slash. -/
def sla : List Int → Option (List Int × Nat)
  | [] => none
  | [a] => if a = 47 then some ([], 1) else none
  | a :: b :: r => if a = 47 then some ([], 1) else if a < 32 then none else
    if a = 92 then (if b < 32 then none else (sla r).map fun x => ((if b = 47 then [47] else [92, b]) ++ x.1, x.2 + 2))
    else (sla (b :: r)).map fun x => (a :: x.1, x.2 + 1)

/-- Blanks and comments ahead. -/
def blank (a : Int) : Bool := decide (a = 32 ∨ a = 9 ∨ a = 10 ∨ a = 13)
def skipS : Bool → List Int → Nat
  | _, [] => 0
  | false, a :: r => if blank a then skipS false r + 1 else if a = 35 then skipS true r + 1 else 0
  | true, a :: r => if a = 10 then skipS false r + 1 else skipS true r + 1
def skip (l : List Int) : Nat := skipS false l
theorem skipS_le : ∀ (c : Bool) (l : List Int), skipS c l ≤ l.length
  | _, [] => by simp [skipS]
  | false, a :: r => by
    have := skipS_le false r; have := skipS_le true r
    unfold skipS; repeat' split
    all_goals (simp <;> omega)
  | true, a :: r => by
    have := skipS_le false r; have := skipS_le true r
    unfold skipS; split <;> simp <;> omega

/-- Line and column behind some bytes. -/
def adv : Int × Int → List Int → Int × Int
  | p, [] => p
  | p, a :: r => adv (if a = 10 then (p.1 + 1, 1) else (p.1, p.2 + 1)) r
theorem adv_append (p : Int × Int) (l m : List Int) : adv p (l ++ m) = adv (adv p l) m := by
  induction l generalizing p with
  | nil => rfl
  | cons a r ih => simp [adv, ih]

/-- Words and numbers. -/
def inWord (b : Int) : Bool := digit b || (letter b || decide (b = 45))
def spanL (w : Bool) (l : List Int) : Nat := (l.takeWhile (if w then inWord else digit)).length
theorem spanL_le (w : Bool) (l : List Int) : spanL w l ≤ l.length := by
  unfold spanL; exact List.Sublist.length_le (List.takeWhile_sublist _)

/-- What begins here: a token (its kind, its text, how many bytes it has), or which fault. -/
inductive One where
  | tok (kind : Int) (text : List Int) (n : Nat)
  | bad (code : Int)
def one : List Int → One
  | [] => .bad 50
  | a :: r =>
    if letter a then .tok 1 ((a :: r).take (spanL true (a :: r))) (spanL true (a :: r))
    else if digit a then (if 18 < spanL false (a :: r) ∨ 1 < spanL false (a :: r) ∧ a = 48 then .bad 53 else .tok 2 ((a :: r).take (spanL false (a :: r))) (spanL false (a :: r)))
    else if a = 34 then (match quo r with | none => .bad 51 | some x => .tok 3 x.1 (x.2 + 1))
    else if a = 47 then (match sla r with | none => .bad 52 | some x => .tok 4 x.1 (x.2 + 1))
    else if a = 123 ∨ a = 125 ∨ a = 44 ∨ a = 61 then .tok 5 [a] 1
    else .bad 50
end Go.Proofs.YtjhcbcadagljlaaDoor.Lx
