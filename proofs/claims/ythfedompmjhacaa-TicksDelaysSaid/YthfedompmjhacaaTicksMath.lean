/-
  Plain arithmetic of saturating sums, differences, doublings and delays of 64 bits. Nothing of the program is imported.
-/
import Derived.Lib.BitFns
namespace Go.Proofs.Ythfedompmjhacaa.Tk

/-- The greatest number, behind a name. -/
def mx : Int := 18446744073709551615
theorem mx_eq : mx = 18446744073709551615 := rfl

def addS (a b : Int) : Int := if a + b ≤ mx then a + b else mx
def subS (a b : Int) : Int := if a < b then 0 else a - b
/-- Doubled k times. -/
def dbN (a : Int) : Nat → Int
  | 0 => a
  | k + 1 => addS (dbN a k) (dbN a k)
def dblS (a n : Int) : Int := dbN a n.toNat
def delS (base limit n jitter : Int) : Int := addS (min limit (dblS base n)) jitter

theorem addS_bd {a b : Int} (ha : 0 ≤ a) (hb : 0 ≤ b) : 0 ≤ addS a b ∧ addS a b ≤ mx := by
  unfold addS mx; split <;> omega
theorem addS_self0 : addS 0 0 = 0 := rfl
theorem dbN_bd {a : Int} (h0 : 0 ≤ a) (h1 : a ≤ mx) : ∀ k, 0 ≤ dbN a k ∧ dbN a k ≤ mx
  | 0 => ⟨h0, h1⟩
  | k + 1 => addS_bd (dbN_bd h0 h1 k).1 (dbN_bd h0 h1 k).1
theorem dbN_zero : ∀ k, dbN 0 k = 0
  | 0 => rfl
  | k + 1 => by rw [dbN, dbN_zero k]; rfl
theorem addS_mx : addS mx mx = mx := rfl
theorem dbN_mx : ∀ k, dbN mx k = mx
  | 0 => rfl
  | k + 1 => by rw [dbN, dbN_mx k]; rfl
theorem dbN_add (a : Int) (j : Nat) : ∀ k, dbN a (j + k) = dbN (dbN a j) k
  | 0 => rfl
  | k + 1 => by rw [← Nat.add_assoc, dbN, dbN_add a j k, dbN]
theorem dbN_pow {a : Int} (h0 : 0 ≤ a) (h1 : a ≤ mx) : ∀ k : Nat, dbN a k = if a * (2 ^ k : Nat) ≤ mx then a * (2 ^ k : Nat) else mx
  | 0 => by simp [dbN, h1]
  | k + 1 => by
    rw [dbN, dbN_pow h0 h1 k]
    have e : a * ((2 ^ (k + 1) : Nat) : Int) = a * ((2 ^ k : Nat) : Int) + a * ((2 ^ k : Nat) : Int) := by
      rw [Nat.pow_succ, Int.natCast_mul, ← Int.mul_assoc]; omega
    have p : 0 ≤ a * ((2 ^ k : Nat) : Int) := Int.mul_nonneg h0 (Int.natCast_nonneg _)
    rw [e]
    generalize a * ((2 ^ k : Nat) : Int) = t at *
    unfold addS mx at *
    split <;> split <;> first | omega | (split <;> omega)

/-! The bits of a number that is not 0. -/
theorem len_bd (x : Int) (h0 : 0 < x) (h1 : x ≤ mx) : Lib.bitLen x.toNat ≤ 64 ∧ ((2 ^ (Lib.bitLen x.toNat) : Nat) : Int) ≤ 2 * x ∧ x < ((2 ^ (Lib.bitLen x.toNat) : Nat) : Int) := by
  have key : ∀ k : Nat, k ≤ 64 → ∀ n : Nat, n ≠ 0 → n < 2 ^ k → Lib.bitLen n ≤ k ∧ 2 ^ (Lib.bitLen n) ≤ 2 * n ∧ n < 2 ^ (Lib.bitLen n) := by
    intro k
    induction k with
    | zero => intro _ n h0 h; simp at h; omega
    | succ k ih =>
      intro hk n h0 h
      have hlt : n < 2 ^ 64 := Nat.lt_of_lt_of_le h (Nat.pow_le_pow_right (by omega) hk)
      rw [Lib.bitLen_half n h0 hlt]
      by_cases h2 : n / 2 = 0
      · have : n = 1 := by omega
        subst this
        have e : Lib.bitLen (1 / 2) = 0 := rfl
        rw [e]; refine ⟨by omega, by decide, by decide⟩
      · have hh : n / 2 < 2 ^ k := by rw [Nat.pow_succ] at h; omega
        obtain ⟨a, b, c⟩ := ih (by omega) (n / 2) h2 hh
        generalize Lib.bitLen (n / 2) = l at *
        rw [Nat.add_comm 1 l, Nat.pow_succ]
        omega
  unfold mx at h1
  have hx : x = (x.toNat : Int) := by omega
  obtain ⟨a, b, c⟩ := key 64 (by omega) x.toNat (by omega) (by omega)
  generalize 2 ^ (Lib.bitLen x.toNat) = t at *
  omega

/-- More doublings than leading zeros: too great. -/
theorem dbl_over {a n : Int} (h0 : 0 < a) (h1 : a ≤ mx) (h : 64 - (Lib.bitLen a.toNat : Int) < n) : dblS a n = mx := by
  obtain ⟨l, p, q⟩ := len_bd a h0 h1
  unfold dblS
  obtain ⟨k, hk⟩ : ∃ k : Nat, n.toNat = (65 - Lib.bitLen a.toNat) + k := ⟨n.toNat - (65 - Lib.bitLen a.toNat), by omega⟩
  rw [hk, dbN_add]
  have e : dbN a (65 - Lib.bitLen a.toNat) = mx := by
    rw [dbN_pow (by omega) h1]
    have t : ((2 ^ 65 : Nat) : Int) ≤ 2 * (a * ((2 ^ (65 - Lib.bitLen a.toNat) : Nat) : Int)) := by
      have e2 : (2 : Nat) ^ 65 = 2 ^ Lib.bitLen a.toNat * 2 ^ (65 - Lib.bitLen a.toNat) := by rw [← Nat.pow_add]; congr 1; omega
      rw [e2, Int.natCast_mul, ← Int.mul_assoc]
      exact Int.mul_le_mul_of_nonneg_right p (Int.natCast_nonneg _)
    generalize a * ((2 ^ (65 - Lib.bitLen a.toNat) : Nat) : Int) = t' at *
    have : ((2 ^ 65 : Nat) : Int) = 36893488147419103232 := by decide
    unfold mx
    rw [if_neg (by omega)]
  rw [e, dbN_mx]

/-- At most as many as leading zeros: the product fits. -/
theorem dbl_fits {a n : Int} (h0 : 0 < a) (h1 : a ≤ mx) (h : ¬ 64 - (Lib.bitLen a.toNat : Int) < n) : dblS a n = a * ((2 ^ n.toNat : Nat) : Int) ∧ a * ((2 ^ n.toNat : Nat) : Int) ≤ mx := by
  obtain ⟨l, p, q⟩ := len_bd a h0 h1
  have t : a * ((2 ^ n.toNat : Nat) : Int) ≤ mx := by
    have t2 : a * ((2 ^ n.toNat : Nat) : Int) ≤ (((2 ^ Lib.bitLen a.toNat : Nat) : Int) - 1) * ((2 ^ n.toNat : Nat) : Int) :=
      Int.mul_le_mul_of_nonneg_right (by omega) (Int.natCast_nonneg _)
    have e2 : ((2 ^ Lib.bitLen a.toNat : Nat) : Int) * ((2 ^ n.toNat : Nat) : Int) = ((2 ^ (Lib.bitLen a.toNat + n.toNat) : Nat) : Int) := by rw [Nat.pow_add, Int.natCast_mul]
    have e3 : 2 ^ (Lib.bitLen a.toNat + n.toNat) ≤ 2 ^ 64 := Nat.pow_le_pow_right (by omega) (by omega)
    have e4 : 0 < 2 ^ n.toNat := Nat.pow_pos (by omega)
    have e5 : (2 : Nat) ^ 64 = 18446744073709551616 := by decide
    rw [e5] at e3
    rw [Int.sub_mul, e2] at t2
    generalize a * ((2 ^ n.toNat : Nat) : Int) = u at *
    unfold mx
    omega
  refine ⟨?_, t⟩
  unfold dblS
  rw [dbN_pow (by omega) h1, if_pos t]

theorem dblS_neg {a n : Int} (h : n ≤ 0) : dblS a n = a := by
  unfold dblS; rw [show n.toNat = 0 by omega]; rfl
theorem dblS_zero (n : Int) : dblS 0 n = 0 := dbN_zero _
theorem dblS_bd {a : Int} (h0 : 0 ≤ a) (h1 : a ≤ mx) (n : Int) : 0 ≤ dblS a n ∧ dblS a n ≤ mx := dbN_bd h0 h1 _
theorem delS_bd {a l j : Int} (h0 : 0 ≤ a) (h1 : a ≤ mx) (l0 : 0 ≤ l) (j0 : 0 ≤ j) (n : Int) : 0 ≤ delS a l n j ∧ delS a l n j ≤ mx := by
  have := (dblS_bd h0 h1 n).1
  exact addS_bd (by omega) j0

/-! ### The laws -/
theorem addS_comm (a b : Int) : addS a b = addS b a := by unfold addS; rw [Int.add_comm]
theorem addS_assoc {a b c : Int} (ha : 0 ≤ a) (hb : 0 ≤ b) (hc : 0 ≤ c) (ha1 : a ≤ mx) (hb1 : b ≤ mx) (hc1 : c ≤ mx) : addS (addS a b) c = addS a (addS b c) := by
  unfold addS mx at *; split <;> split <;> (try split) <;> (try split) <;> omega
theorem add_sub {a b : Int} (ha : 0 ≤ a) (hb : 0 ≤ b) (ha1 : a ≤ mx) (hb1 : b ≤ mx) : addS (subS (max a b) (min a b)) (min a b) = max a b := by
  unfold addS subS mx at *; split <;> split <;> omega
theorem addS_mono {a b c d : Int} (h : a ≤ c) (h' : b ≤ d) : addS a b ≤ addS c d := by
  unfold addS; split <;> split <;> omega
theorem addS_ge {a b : Int} (hb : 0 ≤ b) (ha : a ≤ mx) : a ≤ addS a b := by
  unfold addS; split <;> omega
theorem dbN_mono {a b : Int} (h : a ≤ b) : ∀ k, dbN a k ≤ dbN b k
  | 0 => h
  | k + 1 => addS_mono (dbN_mono h k) (dbN_mono h k)
theorem dbN_grows {a : Int} (h0 : 0 ≤ a) (h1 : a ≤ mx) (j : Nat) : ∀ k, dbN a j ≤ dbN a (j + k)
  | 0 => Int.le_refl _
  | k + 1 => by
    have := dbN_grows h0 h1 j k
    have b := dbN_bd h0 h1 (j + k)
    have := addS_ge b.1 b.2
    rw [← Nat.add_assoc, dbN]; omega
theorem dblS_mono {a b : Int} (h : a ≤ b) (n : Int) : dblS a n ≤ dblS b n := dbN_mono h _
theorem dblS_grows {a n m : Int} (h0 : 0 ≤ a) (h1 : a ≤ mx) (h : n ≤ m) : dblS a n ≤ dblS a m := by
  unfold dblS
  obtain ⟨k, hk⟩ : ∃ k : Nat, m.toNat = n.toNat + k := ⟨m.toNat - n.toNat, by omega⟩
  rw [hk]; exact dbN_grows h0 h1 _ _
theorem dblS_dblS {a n m : Int} (hn : 0 ≤ n) (hm : 0 ≤ m) : dblS (dblS a n) m = dblS a (n + m) := by
  unfold dblS; rw [show (n + m).toNat = n.toNat + m.toNat by omega, dbN_add]
theorem dblS_one (a : Int) : dblS a 1 = addS a a := rfl
theorem dblS_nil (a : Int) : dblS a 0 = a := rfl

theorem grow_base {a l n j m : Int} (hm : 0 ≤ m) (ha1 : a ≤ mx) : ¬ delS (addS a m) l n j < delS a l n j := by
  have h := dblS_mono (addS_ge hm ha1) n
  have : delS a l n j ≤ delS (addS a m) l n j := addS_mono (by omega) (Int.le_refl _)
  omega
theorem grow_limit {a l n j m : Int} (hm : 0 ≤ m) (hl1 : l ≤ mx) : ¬ delS a (addS l m) n j < delS a l n j := by
  have h := addS_ge hm hl1
  have : delS a l n j ≤ delS a (addS l m) n j := addS_mono (by omega) (Int.le_refl _)
  omega
theorem grow_n {a l n j k : Int} (ha : 0 ≤ a) (ha1 : a ≤ mx) (hk : 0 ≤ k) : ¬ delS a l (n + k) j < delS a l n j := by
  have h := dblS_grows ha ha1 (n := n) (m := n + k) (by omega)
  have : delS a l n j ≤ delS a l (n + k) j := addS_mono (by omega) (Int.le_refl _)
  omega
theorem grow_j {a l n j m : Int} (hm : 0 ≤ m) (hj1 : j ≤ mx) : ¬ delS a l n (addS j m) < delS a l n j := by
  have h := addS_ge hm hj1
  have : delS a l n j ≤ delS a l n (addS j m) := addS_mono (Int.le_refl _) (by omega)
  omega
theorem del_ge {a l n j : Int} (ha : 0 ≤ a) (ha1 : a ≤ mx) (hl : 0 ≤ l) (hl1 : l ≤ mx) (hj : 0 ≤ j) (hj1 : j ≤ mx) : min a l ≤ delS a l n j ∧ j ≤ delS a l n j := by
  have h : a ≤ dblS a n := by
    unfold dblS; have := dbN_grows ha ha1 0 n.toNat; rw [Nat.zero_add] at this; exact this
  have b := dblS_bd ha ha1 n
  have e1 : min l (dblS a n) ≤ delS a l n j := addS_ge hj (by omega)
  have e2 : j ≤ delS a l n j := by unfold delS; rw [addS_comm]; exact addS_ge (by omega) hj1
  omega
theorem del_cap {a l n j k : Int} (ha : 0 ≤ a) (ha1 : a ≤ mx) (hk : 0 ≤ k) (h : ¬ dblS a n < l) : delS a l (n + k) j = addS l j := by
  have h2 := dblS_grows ha ha1 (n := n) (m := n + k) (by omega)
  unfold delS; rw [show min l (dblS a (n + k)) = l by omega]
end Go.Proofs.Ythfedompmjhacaa.Tk
