/-
  Plain mathematics of layer 4: the encodings of characters, what a list of bytes decodes to. Nothing of the program is imported.
-/
namespace Go.Proofs.Ytjcgcloanamabaa.Ru

/-- A character; its encoding; that of the replacement for any other number. -/
def isCh (r : Int) : Bool := decide (0 ≤ r ∧ r ≤ 1114111 ∧ (r < 55296 ∨ r > 57343))
def enc0 (r : Int) : List Int :=
  if r ≤ 127 then [r] else if r ≤ 2047 then [192 + r / 64, 128 + r % 64]
  else if r ≤ 65535 then [224 + r / 4096, 128 + r / 64 % 64, 128 + r % 64]
  else [240 + r / 262144, 128 + r / 4096 % 64, 128 + r / 64 % 64, 128 + r % 64]
def enc (r : Int) : List Int := if isCh r then enc0 r else [239, 191, 189]

def cont (b : Int) : Bool := decide (128 ≤ b ∧ b ≤ 191)
def len1 (f : Int) : Int := if f ≤ 127 then 1 else if 194 ≤ f ∧ f ≤ 223 then 2 else if 224 ≤ f ∧ f ≤ 239 then 3 else if 240 ≤ f ∧ f ≤ 244 then 4 else 0
def contF (f b : Int) : Bool :=
  if f = 224 then decide (160 ≤ b ∧ b ≤ 191) else if f = 237 then decide (128 ≤ b ∧ b ≤ 159)
  else if f = 240 then decide (144 ≤ b ∧ b ≤ 191) else if f = 244 then decide (128 ≤ b ∧ b ≤ 143) else cont b
/-- Are these the first bytes, or all bytes, of an encoding? -/
def fits : List Int → Bool
  | [f] => decide (1 ≤ len1 f)
  | [f, b] => contF f b && decide (2 ≤ len1 f)
  | [f, b, c] => cont c && contF f b && decide (3 ≤ len1 f)
  | [f, b, c, d] => cont d && cont c && contF f b && decide (4 ≤ len1 f)
  | _ => false
def isBeg : List Int → Bool
  | f :: r => fits (f :: r) && decide (((f :: r).length : Int) < len1 f)
  | [] => false
def chr : List Int → Int
  | [a] => a
  | [a, b] => a % 32 * 64 + b % 64
  | [a, b, c] => (a % 16 * 64 + b % 64) * 64 + c % 64
  | [a, b, c, d] => ((a % 8 * 64 + b % 64) * 64 + c % 64) * 64 + d % 64
  | _ => 0
/-- Bytes. -/
def By (l : List Int) : Prop := ∀ x ∈ l, 0 ≤ x ∧ x ≤ 255
def valid (l : List Int) : Bool := decide (l.length = 0) || isBeg l

/-- What is left, and what is returned, where the rest and a byte are l. -/
def oneR (l : List Int) : List Int := if isBeg l then l else []
def oneO (l : List Int) : List Int := if isBeg l then [] else if fits l then [chr l] else [65533]
def stepR (r : List Int) (c : Int) : List Int := if 0 < r.length ∧ fits (r ++ [c]) = false then oneR [c] else oneR (r ++ [c])
def stepO (r : List Int) (c : Int) : List Int := if 0 < r.length ∧ fits (r ++ [c]) = false then 65533 :: oneO [c] else oneO (r ++ [c])
def decR : List Int → List Int → List Int
  | r, [] => r
  | r, c :: cs => decR (stepR r c) cs
def decO : List Int → List Int → List Int
  | _, [] => []
  | r, c :: cs => stepO r c ++ decO (stepR r c) cs
def rest0 (l : List Int) : List Int := if valid l then l else []
def flush (l : List Int) : List Int := if isBeg l then [65533] else []

theorem decR_append (r a b : List Int) : decR r (a ++ b) = decR (decR r a) b := by
  induction a generalizing r with
  | nil => rfl
  | cons c cs ih => simp [decR, ih]
theorem decO_append (r a b : List Int) : decO r (a ++ b) = decO r a ++ decO (decR r a) b := by
  induction a generalizing r with
  | nil => rfl
  | cons c cs ih => simp [decO, decR, ih]
theorem decR_snoc (r a : List Int) (c : Int) : decR r (a ++ [c]) = stepR (decR r a) c := by rw [decR_append]; rfl
theorem decO_snoc (r a : List Int) (c : Int) : decO r (a ++ [c]) = decO r a ++ stepO (decR r a) c := by rw [decO_append]; simp [decO]

theorem fits_len {l : List Int} (h : fits l = true) : l.length ≤ 4 ∧ 1 ≤ l.length := by
  match l, h with
  | [_], _ => simp
  | [_, _], _ => simp
  | [_, _, _], _ => simp
  | [_, _, _, _], _ => simp
  | [], h => simp [fits] at h
  | _ :: _ :: _ :: _ :: _ :: _, h => simp [fits] at h
theorem len1_le (f : Int) : len1 f ≤ 4 := by unfold len1; repeat' split
                                             all_goals omega
theorem isBeg_fits {l : List Int} (h : isBeg l = true) : fits l = true := by
  match l, h with
  | f :: r, h => simp only [isBeg, Bool.and_eq_true] at h; exact h.1
theorem isBeg_len {l : List Int} (h : isBeg l = true) : l.length ≤ 3 ∧ 1 ≤ l.length := by
  match l, h with
  | f :: r, h =>
    simp only [isBeg, Bool.and_eq_true, decide_eq_true_eq] at h
    have := len1_le f
    have := h.2
    simp at this ⊢
    omega
theorem valid_nil : valid [] = true := rfl
theorem valid_le {l : List Int} (h : valid l = true) : l.length ≤ 3 := by
  simp only [valid, Bool.or_eq_true, decide_eq_true_eq] at h
  rcases h with h | h
  · omega
  · exact (isBeg_len h).1
theorem valid_oneR (l : List Int) : valid (oneR l) = true := by
  unfold oneR; split
  · next h => simp [valid, h]
  · rfl
theorem valid_stepR (r : List Int) (c : Int) : valid (stepR r c) = true := by
  unfold stepR; split <;> exact valid_oneR _
theorem valid_decR {r : List Int} (l : List Int) (h : valid r = true) : valid (decR r l) = true := by
  induction l generalizing r with
  | nil => exact h
  | cons c cs ih => exact ih (valid_stepR r c)
theorem valid_rest0 (l : List Int) : valid (rest0 l) = true := by
  unfold rest0; split
  · assumption
  · rfl
theorem rest0_of {l : List Int} (h : valid l = true) : rest0 l = l := by unfold rest0; rw [if_pos h]
theorem By.nil : By [] := fun x h => by simp at h
theorem By.append {l m : List Int} (h : By l) (k : By m) : By (l ++ m) := fun x hx => (List.mem_append.1 hx).elim (h x) (k x)
theorem By.one {x : Int} (h : 0 ≤ x ∧ x ≤ 255) : By [x] := fun y hy => by simp at hy; subst hy; exact h
theorem By.take {l : List Int} (h : By l) (k : Nat) : By (l.take k) := fun x hx => h x (List.mem_of_mem_take hx)
theorem By.drop {l : List Int} (h : By l) (k : Nat) : By (l.drop k) := fun x hx => h x (List.mem_of_mem_drop hx)
theorem By.oneR {l : List Int} (h : By l) : By (oneR l) := by unfold Ru.oneR; split <;> first | exact h | exact By.nil
theorem By.stepR {r : List Int} (h : By r) {c : Int} (hc : 0 ≤ c ∧ c ≤ 255) : By (stepR r c) := by
  unfold Ru.stepR; split
  · exact (By.one hc).oneR
  · exact (h.append (By.one hc)).oneR
theorem By.decR {r l : List Int} (h : By r) (hl : By l) : By (decR r l) := by
  induction l generalizing r with
  | nil => exact h
  | cons c cs ih => exact ih (h.stepR (hl c (by simp))) (fun x hx => hl x (by simp [hx]))
theorem By.rest0 {l : List Int} (h : By l) : By (rest0 l) := by unfold Ru.rest0; split <;> first | exact h | exact By.nil
theorem oneO_le (l : List Int) : (oneO l).length ≤ 1 := by
  unfold oneO; split
  · simp
  · split <;> simp
theorem stepO_le (r : List Int) (c : Int) : (stepO r c).length ≤ 2 := by
  unfold stepO; split
  · have := oneO_le [c]; simp; omega
  · have := oneO_le (r ++ [c]); omega
theorem decO_le (r l : List Int) : (decO r l).length ≤ 2 * l.length := by
  induction l generalizing r with
  | nil => simp [decO]
  | cons c cs ih => have := ih (stepR r c); have := stepO_le r c; simp [decO]; omega

/-! ### encodings come back -/
theorem enc_of {r : Int} (h : isCh r = true) : enc r = enc0 r := by unfold enc; rw [if_pos h]
theorem enc_not {r : Int} (h : isCh r = false) : enc r = enc 65533 := by unfold enc; rw [if_neg (by simp [h])]; decide
theorem isCh_repl : isCh 65533 = true := by decide
theorem enc_le (r : Int) : (enc r).length ≤ 4 := by
  unfold enc enc0; repeat' split
  all_goals simp
theorem enc_By (r : Int) : By (enc r) := by
  unfold enc isCh enc0
  split
  · next h =>
    simp only [decide_eq_true_eq] at h
    repeat' split
    all_goals (intro x hx; simp at hx; omega)
  · intro x hx; simp at hx; omega
theorem dec_enc {r : Int} (h : isCh r = true) : decR [] (enc r) = [] ∧ decO [] (enc r) = [r] := by
  rw [enc_of h]
  simp only [isCh, decide_eq_true_eq] at h
  unfold enc0
  split
  · have e1 : len1 r = 1 := by unfold len1; rw [if_pos (by omega)]
    simp [decR, decO, stepR, stepO, oneR, oneO, isBeg, fits, e1, chr]
  split
  · have e1 : len1 (192 + r / 64) = 2 := by unfold len1; rw [if_neg (by omega), if_pos (by omega)]
    have e2 : contF (192 + r / 64) (128 + r % 64) = true := by
      unfold contF cont; repeat rw [if_neg (by omega)]
      simp; omega
    simp [decR, decO, stepR, stepO, oneR, oneO, isBeg, fits, e1, e2, chr]
    omega
  split
  · have e1 : len1 (224 + r / 4096) = 3 := by unfold len1; rw [if_neg (by omega), if_neg (by omega), if_pos (by omega)]
    have e2 : contF (224 + r / 4096) (128 + r / 64 % 64) = true := by
      unfold contF cont; repeat' split
      all_goals simp; omega
    have e4 : cont (128 + r % 64) = true := by unfold cont; simp; omega
    simp [decR, decO, stepR, stepO, oneR, oneO, isBeg, fits, e1, e2, e4, chr]
    omega
  · have e1 : len1 (240 + r / 262144) = 4 := by unfold len1; rw [if_neg (by omega), if_neg (by omega), if_neg (by omega), if_pos (by omega)]
    have e2 : contF (240 + r / 262144) (128 + r / 4096 % 64) = true := by
      unfold contF cont; repeat' split
      all_goals simp; omega
    have e4 : cont (128 + r / 64 % 64) = true := by unfold cont; simp; omega
    have e5 : cont (128 + r % 64) = true := by unfold cont; simp; omega
    simp [decR, decO, stepR, stepO, oneR, oneO, isBeg, fits, e1, e2, e4, e5, chr]
    omega
/-- The characters of numbers, encoded one after the other. -/
def encs : List Int → List Int
  | [] => []
  | r :: rs => enc r ++ encs rs
theorem encs_snoc (l : List Int) (r : Int) : encs (l ++ [r]) = encs l ++ enc r := by
  induction l with
  | nil => simp [encs]
  | cons x xs ih => simp [encs, ih]
theorem dec_encs {l : List Int} (h : ∀ r ∈ l, isCh r = true) : decR [] (encs l) = [] ∧ decO [] (encs l) = l := by
  induction l with
  | nil => exact ⟨rfl, rfl⟩
  | cons r rs ih =>
    obtain ⟨a, b⟩ := dec_enc (h r (by simp))
    obtain ⟨c, d⟩ := ih fun x hx => h x (by simp [hx])
    simp [encs, decR_append, decO_append, a, b, c, d]
theorem encs_le (l : List Int) : (encs l).length ≤ 4 * l.length := by
  induction l with
  | nil => simp [encs]
  | cons r rs ih => have := enc_le r; simp [encs]; omega
theorem encs_By (l : List Int) : By (encs l) := by
  induction l with
  | nil => exact By.nil
  | cons r rs ih => exact (enc_By r).append ih
end Go.Proofs.Ytjcgcloanamabaa.Ru
