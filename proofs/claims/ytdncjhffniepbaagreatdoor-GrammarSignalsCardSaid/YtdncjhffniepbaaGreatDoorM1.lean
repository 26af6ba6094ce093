/-
  Several texts, one behind the other: LxMath, LxCalls, LxMem, LxLoops, LxSpan, LxOne, LxTok, LxAll.
-/
import Derived.Test.YtdncjhffniepbaaGreatDoorProg
import Derived.WalkKit
import Derived.WalkLawsBesides
import Derived.WalkSpells
import Derived.Below
import Derived.Lib.Hide
import Derived.Outline
import Derived.ArgAppend
import Derived.OwnWalk
import Derived.Deep.AppendLies
import Derived.Deep.Draws
import Derived.Deep.LoopGhost
import Derived.Deep.QuietTactic
import Derived.BigQuiet
import Derived.Laws.IdiomStrings
import Derived.Laws.BytesString
import Derived.Deep.RegionLaw
/- (LxMath)
  Plain mathematics of layer 5: the tokens of a text. Nothing of the program is imported.
-/
namespace Go.Proofs.YtdncjhffniepbaaGreatDoor.Lx

/-- Bytes. -/
def By (l : List Int) : Prop := ∀ x ∈ l, 0 ≤ x ∧ x ≤ 255
theorem By.nil : By [] := fun x h => by simp at h
theorem By.append {l m : List Int} (h : By l) (k : By m) : By (l ++ m) := fun x hx => (List.mem_append.1 hx).elim (h x) (k x)
theorem By.one {x : Int} (h : 0 ≤ x ∧ x ≤ 255) : By [x] := fun y hy => by simp at hy; subst hy; exact h
theorem By.take {l : List Int} (h : By l) (k : Nat) : By (l.take k) := fun x hx => h x (List.mem_of_mem_take hx)
theorem By.drop {l : List Int} (h : By l) (k : Nat) : By (l.drop k) := fun x hx => h x (List.mem_of_mem_drop hx)

def letter (b : Int) : Bool := decide (65 ≤ b ∧ b ≤ 90 ∨ 97 ≤ b ∧ b ≤ 122 ∨ b = 95)
def digit (b : Int) : Bool := decide (48 ≤ b ∧ b ≤ 57)
def half (b : Int) : Option Int :=
  if 48 ≤ b ∧ b ≤ 57 then some (b - 48) else if 97 ≤ b ∧ b ≤ 102 then some (b - 87) else if 65 ≤ b ∧ b ≤ 70 then some (b - 55) else none
theorem half_bd {b x : Int} (h : half b = some x) : 0 ≤ x ∧ x ≤ 15 := by
  unfold half at h
  split at h
  · simp at h; omega
  split at h
  · simp at h; omega
  split at h
  · simp at h; omega
  · simp at h
/-- \x and two digits. -/
def hexPart : List Int → Option (Int × Nat)
  | h :: l :: _ => match half h, half l with
    | some x, some y => some (16 * x + y, 4)
    | _, _ => none
  | _ => none
/-- What a \ and what is behind it stand for. -/
def escPart : List Int → Option (Int × Nat)
  | [] => none
  | b :: r => if b = 34 ∨ b = 92 then some (b, 2) else if b = 110 then some (10, 2) else if b = 116 then some (9, 2) else if b = 120 then hexPart r else none
/-- A part of a string: the byte that it stands for, how many bytes it has. -/
def part : List Int → Option (Int × Nat)
  | [] => none
  | a :: r => if a < 32 ∨ a = 34 then none else if a = 92 then escPart r else some (a, 1)
theorem escPart_cons (b : Int) (r : List Int) : escPart (b :: r) = if b = 34 ∨ b = 92 then some (b, 2) else if b = 110 then some (10, 2) else if b = 116 then some (9, 2) else if b = 120 then hexPart r else none := rfl
theorem part_cons (a : Int) (r : List Int) : part (a :: r) = if a < 32 ∨ a = 34 then none else if a = 92 then escPart r else some (a, 1) := rfl
theorem hexPart_ok {x y u v : Int} {r : List Int} (hx : half x = some u) (hy : half y = some v) : hexPart (x :: y :: r) = some (16 * u + v, 4) := by simp [hexPart, hx, hy]
theorem hexPart_no1 {x y : Int} {r : List Int} (hx : half x = none) : hexPart (x :: y :: r) = none := by simp [hexPart, hx]
theorem hexPart_no2 {x y : Int} {r : List Int} (hy : half y = none) : hexPart (x :: y :: r) = none := by
  cases hx : half x <;> simp [hexPart, hx, hy]
theorem hexPart_inv {r : List Int} {b : Int} {n : Nat} (h : hexPart r = some (b, n)) : n = 4 ∧ 2 ≤ r.length ∧ 0 ≤ b ∧ b ≤ 255 := by
  match r, h with
  | [], h => simp [hexPart] at h
  | [_], h => simp [hexPart] at h
  | x :: y :: r, h =>
    cases hx : half x with
    | none => rw [hexPart_no1 hx] at h; simp at h
    | some u =>
      cases hy : half y with
      | none => rw [hexPart_no2 hy] at h; simp at h
      | some v =>
        rw [hexPart_ok hx hy] at h
        have := half_bd hx; have := half_bd hy
        simp at h ⊢
        omega
theorem escPart_inv {r : List Int} {b : Int} {n : Nat} (h : escPart r = some (b, n)) : 2 ≤ n ∧ n ≤ r.length + 1 ∧ (By r → 0 ≤ b ∧ b ≤ 255) := by
  match r, h with
  | [], h => simp [escPart] at h
  | x :: r, h =>
    rw [escPart_cons] at h
    split at h
    · simp at h; exact ⟨by omega, by simp; omega, fun hb => by have := hb x (by simp); omega⟩
    split at h
    · simp at h; exact ⟨by omega, by simp; omega, fun _ => by omega⟩
    split at h
    · simp at h; exact ⟨by omega, by simp; omega, fun _ => by omega⟩
    split at h
    · have := hexPart_inv h; exact ⟨by omega, by simp; omega, fun _ => by omega⟩
    · simp at h
theorem part_inv {l : List Int} {b : Int} {n : Nat} (h : part l = some (b, n)) : 1 ≤ n ∧ n ≤ l.length ∧ (By l → 0 ≤ b ∧ b ≤ 255) := by
  match l, h with
  | [], h => simp [part] at h
  | a :: r, h =>
    rw [part_cons] at h
    split at h
    · simp at h
    split at h
    · have := escPart_inv h; exact ⟨by omega, by simp; omega, fun hb => this.2.2 fun x hx => hb x (by simp [hx])⟩
    · simp at h; exact ⟨by omega, by simp; omega, fun hb => by have := hb a (by simp); omega⟩
theorem part_len {l : List Int} {b : Int} {n : Nat} (h : part l = some (b, n)) : 1 ≤ n ∧ n ≤ l.length := ⟨(part_inv h).1, (part_inv h).2.1⟩
theorem part_by {l : List Int} (hl : By l) {b : Int} {n : Nat} (h : part l = some (b, n)) : 0 ≤ b ∧ b ≤ 255 := (part_inv h).2.2 hl

/-- A string behind its first mark: what it stands for, how many bytes it has with the last mark. -/
def quoF : Nat → List Int → Option (List Int × Nat)
  | 0, _ => none
  | _ + 1, [] => none
  | f + 1, a :: r => if a = 34 then some ([], 1) else
    match part (a :: r) with
    | none => none
    | some (b, n) => match quoF f ((a :: r).drop n) with
      | none => none
      | some (t, m) => some (b :: t, n + m)
theorem quoF_more : ∀ (f g : Nat) (l : List Int), l.length < f → l.length < g → quoF f l = quoF g l
  | 0, _, _, h, _ => by omega
  | _ + 1, 0, _, _, h => by omega
  | _ + 1, _ + 1, [], _, _ => rfl
  | f + 1, g + 1, a :: r, h, k => by
    unfold quoF
    split
    · rfl
    · cases hp : part (a :: r) with
      | none => rfl
      | some bn =>
        obtain ⟨b, n⟩ := bn
        have := part_len hp
        simp only
        rw [quoF_more f g ((a :: r).drop n) (by rw [List.length_drop]; simp at *; omega) (by rw [List.length_drop]; simp at *; omega)]
def quo (l : List Int) : Option (List Int × Nat) := quoF (l.length + 1) l
theorem quo_nil : quo [] = none := rfl
theorem quo_end (r : List Int) : quo (34 :: r) = some ([], 1) := by unfold quo quoF; simp
theorem quo_bad {l : List Int} (h0 : l ≠ []) (h1 : l.head? ≠ some 34) (h : part l = none) : quo l = none := by
  match l, h0, h1, h with
  | a :: r, _, h1, h =>
    simp at h1
    unfold quo quoF
    rw [if_neg h1, h]
theorem quo_part {l : List Int} {b : Int} {n : Nat} (h1 : l.head? ≠ some 34) (h : part l = some (b, n)) : quo l = (quo (l.drop n)).map fun x => (b :: x.1, n + x.2) := by
  match l, h1, h with
  | [], _, h => simp [part] at h
  | a :: r, h1, h =>
    have hn := part_len h
    simp at h1
    have e : quo (a :: r) = match quoF (a :: r).length ((a :: r).drop n) with
      | none => none
      | some (t, m) => some (b :: t, n + m) := by
      unfold quo
      rw [quoF.eq_3, if_neg h1, h]
    rw [e]
    have e2 : quoF (a :: r).length ((a :: r).drop n) = quo ((a :: r).drop n) := by
      unfold quo
      exact quoF_more _ _ _ (by rw [List.length_drop]; omega) (by omega)
    rw [e2]
    cases quo ((a :: r).drop n) <;> rfl

/-- A pattern behind its first slash. -/
def sla : List Int → Option (List Int × Nat)
  | [] => none
  | [a] => if a = 47 then some ([], 1) else none
  | a :: b :: r => if a = 47 then some ([], 1) else if a < 32 then none else
    if a = 92 then (if b < 32 then none else (sla r).map fun x => ((if b = 47 then [47] else [92, b]) ++ x.1, x.2 + 2))
    else (sla (b :: r)).map fun x => (a :: x.1, x.2 + 1)

/-- Blanks and comments ahead. -/
def blank (a : Int) : Bool := decide (a = 32 ∨ a = 9 ∨ a = 10 ∨ a = 13)
def skipS : Bool → List Int → Nat
  | _, [] => 0
  | false, a :: r => if blank a then skipS false r + 1 else if a = 35 then skipS true r + 1 else 0
  | true, a :: r => if a = 10 then skipS false r + 1 else skipS true r + 1
def skip (l : List Int) : Nat := skipS false l
theorem skipS_le : ∀ (c : Bool) (l : List Int), skipS c l ≤ l.length
  | _, [] => by simp [skipS]
  | false, a :: r => by
    have := skipS_le false r; have := skipS_le true r
    unfold skipS; repeat' split
    all_goals (simp <;> omega)
  | true, a :: r => by
    have := skipS_le false r; have := skipS_le true r
    unfold skipS; split <;> simp <;> omega

/-- Line and column behind some bytes. -/
def adv : Int × Int → List Int → Int × Int
  | p, [] => p
  | p, a :: r => adv (if a = 10 then (p.1 + 1, 1) else (p.1, p.2 + 1)) r
theorem adv_append (p : Int × Int) (l m : List Int) : adv p (l ++ m) = adv (adv p l) m := by
  induction l generalizing p with
  | nil => rfl
  | cons a r ih => simp [adv, ih]

/-- Words and numbers. -/
def inWord (b : Int) : Bool := digit b || (letter b || decide (b = 45))
def spanL (w : Bool) (l : List Int) : Nat := (l.takeWhile (if w then inWord else digit)).length
theorem spanL_le (w : Bool) (l : List Int) : spanL w l ≤ l.length := by
  unfold spanL; exact List.Sublist.length_le (List.takeWhile_sublist _)

/-- What begins here: a token (its kind, its text, how many bytes it has), or which fault. -/
inductive One where
  | tok (kind : Int) (text : List Int) (n : Nat)
  | bad (code : Int)
def one : List Int → One
  | [] => .bad 50
  | a :: r =>
    if letter a then .tok 1 ((a :: r).take (spanL true (a :: r))) (spanL true (a :: r))
    else if digit a then (if 18 < spanL false (a :: r) ∨ 1 < spanL false (a :: r) ∧ a = 48 then .bad 53 else .tok 2 ((a :: r).take (spanL false (a :: r))) (spanL false (a :: r)))
    else if a = 34 then (match quo r with | none => .bad 51 | some x => .tok 3 x.1 (x.2 + 1))
    else if a = 47 then (match sla r with | none => .bad 52 | some x => .tok 4 x.1 (x.2 + 1))
    else if a = 123 ∨ a = 125 ∨ a = 44 ∨ a = 61 then .tok 5 [a] 1
    else .bad 50
end Go.Proofs.YtdncjhffniepbaaGreatDoor.Lx
/- (LxCalls)
  Layer 5: strings as lists of bytes; the contracts of the reference's small functions.
-/
namespace Go.Proofs.YtdncjhffniepbaaGreatDoor.Lx
open Go.RowKit

/-- A string's bytes. -/
def ch (s : ByteArray) : List Int := s.data.toList.map fun b => (b.toNat : Int)
theorem ch_length (s : ByteArray) : (ch s).length = s.size := by unfold ch; rw [List.length_map, Array.length_toList]; rfl
theorem ch_By (s : ByteArray) : By (ch s) := by
  intro x hx
  obtain ⟨b, _, rfl⟩ := List.mem_map.1 hx
  have := b.toNat_lt
  omega
theorem ch_at {s : ByteArray} {k : Nat} {x : Int} (h : (ch s)[k]? = some x) : ∃ hk : k < s.size, ((s[k]'hk).toNat : Int) = x := by
  have hk : k < s.size := by rw [← ch_length]; exact (List.getElem?_eq_some_iff.1 h).1
  refine ⟨hk, ?_⟩
  unfold ch at h
  rw [List.getElem?_map] at h
  have e : s.data.toList[k]? = some (s[k]'hk) := by
    rw [List.getElem?_eq_getElem (by rw [Array.length_toList]; exact hk)]
    rfl
  rw [e] at h
  simpa using h
theorem ch_extract (s : ByteArray) (i j : Nat) : ch (s.extract i j) = ((ch s).take j).drop i := by
  unfold ch
  rw [ByteArray.data_extract, Array.toList_extract, List.extract_eq_drop_take', List.map_drop, List.map_take]
theorem ch_drop (s : ByteArray) (k : Nat) : ch (s.extract k s.size) = (ch s).drop k := by
  rw [ch_extract, List.take_of_length_le (by rw [ch_length]; exact Nat.le_refl _)]
theorem ch_take (s : ByteArray) (k : Nat) : ch (s.extract 0 k) = (ch s).take k := by rw [ch_extract]; simp
theorem ch_inj {s t : ByteArray} (h : ch s = ch t) : s = t := by
  have e : s.data.toList = t.data.toList := by
    have := h
    unfold ch at this
    exact List.map_inj_right (fun a b hab => UInt8.toNat_inj.1 (by exact_mod_cast hab)) |>.1 this
  cases s; cases t
  simp only [ByteArray.mk.injEq]
  exact Array.toList_inj.1 e
def bytesOf (l : List Int) : ByteArray := ⟨(l.map fun x => UInt8.ofNat x.toNat).toArray⟩
theorem ch_bytesOf {l : List Int} (h : By l) : ch (bytesOf l) = l := by
  unfold ch bytesOf
  simp only [List.map_map]
  conv => rhs; rw [← List.map_id l]
  refine List.map_congr_left fun x hx => ?_
  have := h x hx
  simp
  omega
theorem bytesOf_ch (s : ByteArray) : bytesOf (ch s) = s := ch_inj (ch_bytesOf (ch_By s))

theorem ret_b {a b : Bool} (h : a = b) : Ending.returned (.bool a) = .returned (.bool b) := by rw [h]
theorem ret_i {a b : Int} (h : a = b) : Ending.returned (.int .i64 a) = .returned (.int .i64 b) := by rw [h]

theorem letter_any (b : Int) (w : World) : Calls Tryz.prog 54 #[.int .u8 b] w fun e w' => e = .returned (.bool (letter b)) ∧ w = w' := by
  by_cases h : b = 95
  · subst h
    go_enter Tryz.func54, Tryz.ntmps54
    go_wp2
    go_ret
    exact ⟨ret_b (by decide), rfl⟩
  · have h' : (b == 95) = false := beq_eq_false_iff_ne.2 h
    go_enter Tryz.func54, Tryz.ntmps54
    go_wp2
    all_goals
      go_ret
      exact ⟨ret_b (by unfold letter; rw [Bool.eq_iff_iff]; simp only [decide_eq_true_eq, Bool.or_eq_true, Bool.false_eq_true, false_iff, true_iff, or_false, h]; omega), rfl⟩
theorem digit_any (b : Int) (w : World) : Calls Tryz.prog 56 #[.int .u8 b] w fun e w' => e = .returned (.bool (digit b)) ∧ w = w' := by
  go_enter Tryz.func56, Tryz.ntmps56
  go_wp2
  all_goals
    go_ret
    exact ⟨ret_b (by unfold digit; rw [Bool.eq_iff_iff]; simp only [decide_eq_true_eq, Bool.false_eq_true, false_iff]; omega), rfl⟩
/-- What half returns. -/
def halfV (b : Int) : Value := match half b with
  | some x => .tuple #[.int .u8 x, .bool true]
  | none => .tuple #[.int .u8 0, .bool false]
theorem ret_t {a b : Value} (h : a = b) : Ending.returned a = .returned b := by rw [h]
theorem half_any (b : Int) (h0 : 0 ≤ b) (h1 : b ≤ 255) (w : World) : Calls Tryz.prog 106 #[.int .u8 b] w fun e w' => e = .returned (halfV b) ∧ w = w' := by
  have HD := Lib.hid (fun W => digit_any b W)
  rcases (show (48 ≤ b ∧ b ≤ 57) ∨ ((b < 48 ∨ 57 < b) ∧ 97 ≤ b ∧ b ≤ 102) ∨ ((b < 48 ∨ 57 < b) ∧ (b < 97 ∨ 102 < b) ∧ 65 ≤ b ∧ b ≤ 70) ∨ ((b < 48 ∨ 57 < b) ∧ (b < 97 ∨ 102 < b) ∧ (b < 65 ∨ 70 < b)) by omega) with h | ⟨h, h2⟩ | ⟨h, h2, h3⟩ | ⟨h, h2, h3⟩
  · have E : Hid (half b = _) := Lib.hid (by unfold half; rw [if_pos h])
    rw [show digit b = true by unfold digit; exact decide_eq_true (by omega)] at HD
    go_enter Tryz.func106, Tryz.ntmps106
    go_wp2_with (go_at_call 56; ((with_reducible refine (HD.out _).mono ?_); rintro e w' ⟨rfl, rfl⟩))
    all_goals
      first
        | omega
        | (go_ret2; exact ⟨ret_t (by unfold halfV; rw [E.out]; simp <;> omega), rfl⟩)
  · have E : Hid (half b = _) := Lib.hid (by unfold half; rw [if_neg (by omega), if_pos h2])
    rw [show digit b = false by unfold digit; exact decide_eq_false (by omega)] at HD
    go_enter Tryz.func106, Tryz.ntmps106
    go_wp2_with (go_at_call 56; ((with_reducible refine (HD.out _).mono ?_); rintro e w' ⟨rfl, rfl⟩))
    all_goals
      first
        | omega
        | (go_ret2; exact ⟨ret_t (by unfold halfV; rw [E.out]; simp <;> omega), rfl⟩)
  · have E : Hid (half b = _) := Lib.hid (by unfold half; rw [if_neg (by omega), if_neg (by omega), if_pos h3])
    rw [show digit b = false by unfold digit; exact decide_eq_false (by omega)] at HD
    go_enter Tryz.func106, Tryz.ntmps106
    go_wp2_with (go_at_call 56; ((with_reducible refine (HD.out _).mono ?_); rintro e w' ⟨rfl, rfl⟩))
    all_goals
      first
        | omega
        | (go_ret2; exact ⟨ret_t (by unfold halfV; rw [E.out]; simp <;> omega), rfl⟩)
  · have E : Hid (half b = _) := Lib.hid (by unfold half; rw [if_neg (by omega), if_neg (by omega), if_neg (by omega)])
    rw [show digit b = false by unfold digit; exact decide_eq_false (by omega)] at HD
    go_enter Tryz.func106, Tryz.ntmps106
    go_wp2_with (go_at_call 56; ((with_reducible refine (HD.out _).mono ?_); rintro e w' ⟨rfl, rfl⟩))
    all_goals
      first
        | omega
        | (go_ret2; exact ⟨ret_t (by unfold halfV; rw [E.out]; simp <;> omega), rfl⟩)

/-- What part returns. -/
def partV (l : List Int) : Value := match part l with
  | some x => .tuple #[.int .u8 x.1, .int .i64 x.2]
  | none => .tuple #[.int .u8 0, .int .i64 0]
theorem partV_some {l : List Int} {b : Int} {n : Nat} (h : part l = some (b, n)) : partV l = .tuple #[.int .u8 b, .int .i64 n] := by unfold partV; rw [h]
theorem partV_none {l : List Int} (h : part l = none) : partV l = .tuple #[.int .u8 0, .int .i64 0] := by unfold partV; rw [h]
set_option maxRecDepth 100000 in
set_option maxHeartbeats 1000000 in
theorem part_any {s : ByteArray} {l : List Int} (hs : ch s = l) (w : World) : Calls Tryz.prog 86 #[.string s] w fun e w' => e = .returned (partV l) ∧ w = w' := by
  have hby : By l := by rw [← hs]; exact ch_By s
  have hsz : s.size = l.length := by rw [← hs, ch_length]
  have hat : ∀ k x, l[k]? = some x → ∃ hk : k < s.size, ((s[k]'hk).toNat : Int) = x := fun k x h => ch_at (by rw [hs]; exact h)
  clear hs
  cases l with
  | nil =>
    have hz : s.size = 0 := hsz
    rw [partV_none (show part [] = none from rfl)]
    clear hsz hby hat
    go_enter Tryz.func86, Tryz.ntmps86
    go_wp2_with fail
    go_ret2
    exact ⟨ret_t rfl, rfl⟩
  | cons a r =>
    have ha := hby a (by simp)
    obtain ⟨h0, x0⟩ := hat 0 a rfl
    have hz0 : (s.size == 0) = false := beq_eq_false_iff_ne.2 (by omega)
    have hz1 : (0 : Int) < (s.size : Int) := by omega
    have hz2 : ((s.size : Int) == 0) = false := beq_eq_false_iff_ne.2 (by omega)
    by_cases h32 : a < 32
    · rw [partV_none (by rw [part_cons, if_pos (.inl h32)])]
      clear hby hsz hat
      go_enter Tryz.func86, Tryz.ntmps86
      go_wp2_with fail
      go_ret2
      exact ⟨ret_t rfl, rfl⟩
    by_cases h34 : a = 34
    · rw [partV_none (by rw [part_cons, if_pos (.inr h34)])]
      subst h34
      clear hby hsz hat
      go_enter Tryz.func86, Tryz.ntmps86
      go_wp2_with fail
      go_ret2
      exact ⟨ret_t rfl, rfl⟩
    have hq : (a == 34) = false := beq_eq_false_iff_ne.2 h34
    have hge : 32 ≤ a := by omega
    by_cases h92 : a = 92
    · subst h92
      have e0 : part (92 :: r) = escPart r := by rw [part_cons, if_neg (by omega), if_pos rfl]
      cases r with
      | nil =>
        have hs2 : (s.size : Int) < 2 := by simp at hsz; omega
        rw [partV_none (by rw [e0]; rfl)]
        clear hby hsz hat
        go_enter Tryz.func86, Tryz.ntmps86
        go_wp2_with fail
        go_ret2
        exact ⟨ret_t rfl, rfl⟩
      | cons b r =>
        have hb := hby b (by simp)
        obtain ⟨h1, x1⟩ := hat 1 b rfl
        have hs2 : (2 : Int) ≤ (s.size : Int) := by simp at hsz; omega
        rw [escPart_cons] at e0
        by_cases b34 : b = 34
        · subst b34
          rw [if_pos (.inl rfl)] at e0
          rw [partV_some e0]
          clear hby hsz hat
          go_enter Tryz.func86, Tryz.ntmps86
          go_wp2_with fail
          go_ret2
          exact ⟨ret_t rfl, rfl⟩
        by_cases b92 : b = 92
        · subst b92
          rw [if_pos (.inr rfl)] at e0
          rw [partV_some e0]
          clear hby hsz hat
          go_enter Tryz.func86, Tryz.ntmps86
          go_wp2_with fail
          go_ret2
          exact ⟨ret_t rfl, rfl⟩
        by_cases b110 : b = 110
        · subst b110
          rw [if_neg (by omega), if_pos rfl] at e0
          rw [partV_some e0]
          clear hby hsz hat
          go_enter Tryz.func86, Tryz.ntmps86
          go_wp2_with fail
          go_ret2
          exact ⟨ret_t rfl, rfl⟩
        by_cases b116 : b = 116
        · subst b116
          rw [if_neg (by omega), if_neg (by omega), if_pos rfl] at e0
          rw [partV_some e0]
          clear hby hsz hat
          go_enter Tryz.func86, Tryz.ntmps86
          go_wp2_with fail
          go_ret2
          exact ⟨ret_t rfl, rfl⟩
        have q34 : (b == 34) = false := beq_eq_false_iff_ne.2 b34
        have q92 : (b == 92) = false := beq_eq_false_iff_ne.2 b92
        have q110 : (b == 110) = false := beq_eq_false_iff_ne.2 b110
        have q116 : (b == 116) = false := beq_eq_false_iff_ne.2 b116
        rw [if_neg (by omega), if_neg b110, if_neg b116] at e0
        by_cases b120 : b = 120
        · subst b120
          rw [if_pos rfl] at e0
          cases r with
          | nil =>
            have hs4 : (s.size : Int) < 4 := by simp at hsz; omega
            rw [partV_none (by rw [e0]; rfl)]
            clear hsz hby hat
            go_enter Tryz.func86, Tryz.ntmps86
            go_wp2_with fail
            go_ret2
            exact ⟨ret_t rfl, rfl⟩
          | cons x r =>
          cases r with
          | nil =>
            have hs4 : (s.size : Int) < 4 := by simp at hsz; omega
            rw [partV_none (by rw [e0]; rfl)]
            clear hsz hby hat
            go_enter Tryz.func86, Tryz.ntmps86
            go_wp2_with fail
            go_ret2
            exact ⟨ret_t rfl, rfl⟩
          | cons y r =>
            have hx := hby x (by simp)
            have hy := hby y (by simp)
            obtain ⟨h2, x2⟩ := hat 2 x rfl
            obtain ⟨h3, x3⟩ := hat 3 y rfl
            have hs4 : (4 : Int) ≤ (s.size : Int) := by simp at hsz; omega
            have HX := Lib.hid (fun W => half_any x hx.1 hx.2 W)
            have HY := Lib.hid (fun W => half_any y hy.1 hy.2 W)
            unfold halfV at HX HY
            cases hu : half x with
            | none =>
              rw [hu] at HX
              rw [hexPart_no1 hu] at e0
              rw [partV_none e0]
              cases hv : half y with
              | none =>
                rw [hv] at HY
                clear hby hsz hat
                go_enter Tryz.func86, Tryz.ntmps86
                go_wp2_with (first | (go_at_call 106; ((with_reducible refine (HX.out _).mono ?_); rintro e w' ⟨rfl, rfl⟩)) | (go_at_call 106; ((with_reducible refine (HY.out _).mono ?_); rintro e w' ⟨rfl, rfl⟩)))
                go_ret2
                exact ⟨ret_t rfl, rfl⟩
              | some v =>
                rw [hv] at HY
                clear hby hsz hat
                go_enter Tryz.func86, Tryz.ntmps86
                go_wp2_with (first | (go_at_call 106; ((with_reducible refine (HX.out _).mono ?_); rintro e w' ⟨rfl, rfl⟩)) | (go_at_call 106; ((with_reducible refine (HY.out _).mono ?_); rintro e w' ⟨rfl, rfl⟩)))
                go_ret2
                exact ⟨ret_t rfl, rfl⟩
            | some u =>
              rw [hu] at HX
              have hu2 := half_bd hu
              cases hv : half y with
              | none =>
                rw [hv] at HY
                rw [hexPart_no2 hv] at e0
                rw [partV_none e0]
                clear hby hsz hat
                go_enter Tryz.func86, Tryz.ntmps86
                go_wp2_with (first | (go_at_call 106; ((with_reducible refine (HX.out _).mono ?_); rintro e w' ⟨rfl, rfl⟩)) | (go_at_call 106; ((with_reducible refine (HY.out _).mono ?_); rintro e w' ⟨rfl, rfl⟩)))
                go_ret2
                exact ⟨ret_t rfl, rfl⟩
              | some v =>
                rw [hv] at HY
                have hv2 := half_bd hv
                rw [hexPart_ok hu hv] at e0
                rw [partV_some e0]
                clear hby hsz hat
                go_enter Tryz.func86, Tryz.ntmps86
                go_wp2_with (first | (go_at_call 106; ((with_reducible refine (HX.out _).mono ?_); rintro e w' ⟨rfl, rfl⟩)) | (go_at_call 106; ((with_reducible refine (HY.out _).mono ?_); rintro e w' ⟨rfl, rfl⟩)))
                go_ret2
                exact ⟨ret_t rfl, rfl⟩
        · have q120 : (b == 120) = false := beq_eq_false_iff_ne.2 b120
          rw [if_neg b120] at e0
          rw [partV_none e0]
          clear hby hsz hat
          go_enter Tryz.func86, Tryz.ntmps86
          go_wp2_with fail
          go_ret2
          exact ⟨ret_t rfl, rfl⟩
    · have hne : (a != 92) = true := bne_iff_ne.2 h92
      rw [partV_some (show part (a :: r) = some (a, 1) by rw [part_cons, if_neg (by omega), if_neg h92])]
      clear hby hsz hat
      go_enter Tryz.func86, Tryz.ntmps86
      go_wp2_with fail
      go_ret2
      exact ⟨ret_t rfl, rfl⟩
end Go.Proofs.YtdncjhffniepbaaGreatDoor.Lx
/- (LxMem)
  Layer 5: bytes in memory: as they are read, and as the call's own.
-/
namespace Go.Proofs.YtdncjhffniepbaaGreatDoor.Lx
open Go.RowKit

theorem Tryz.info3 : (Tryz.prog.info? 3).map (fun i => (i.zero, i.size, i.bytes)) = some (some (.int .i64 0), 1, 8) := by kernel_rfl
theorem Tryz.info5 : (Tryz.prog.info? 5).map (fun i => (i.zero, i.size, i.bytes)) = some (some (.int .u8 0), 1, 1) := by kernel_rfl

/-- A slice's type and its element's: ints or bytes. -/
structure Elt (ts e : TypeId) (k : IntKind) : Prop where
  under : Tryz.prog.underlying ts = some (.slice e)
  info : ∃ i, Tryz.prog.info? e = some i ∧ i.zero = some (.int k 0) ∧ i.size = 1 ∧ i.bytes ≤ 8
theorem elByte : Elt 53 5 .u8 := ⟨Tryz.underlying53, by obtain ⟨i, h1, h2, h3, h4⟩ := info_parts Tryz.info5; exact ⟨i, h1, h2, h3, by omega⟩⟩

theorem heap_lt {w : World} {k : Nat} {o : Obj} (h : w.heap[k]? = some o) : k < w.heap.size := (Array.getElem?_eq_some_iff.1 h).1
theorem below_drewN (w : World) (m : Nat) : Below w.heap.size w (w.drewN m) := ⟨rfl, rfl, rfl, Nat.le_refl _, fun _ _ => rfl⟩

/-- Numbers as they are read. -/
def Rd (k : IntKind) (w : World) (A : Option Addr) (l : List Int) : Prop :=
  0 < l.length → ∃ g off, A = some ⟨g, off, none⟩ ∧ ∀ j x, l[j]? = some x → w.cell? ⟨g, off + j, none⟩ = some (.int k x)
theorem Rd.below {k : IntKind} {w w' : World} {A : Option Addr} {l : List Int} (h : Rd k w A l) (hb : Below w.heap.size w w') : Rd k w' A l :=
  fun hn => by obtain ⟨g, off, hA, hk⟩ := h hn; exact ⟨g, off, hA, fun j x hx => (hb.cell (World.block_lt_of_cell? w _ (hk j x hx))).trans (hk j x hx)⟩
/-- A slice value that reads as a list. -/
def Lst (k : IntKind) (w : World) (v : Value) (l : List Int) : Prop := ∃ A c, v = .slice A l.length c ∧ Rd k w A l ∧ (A = none → c = 0) ∧ l.length ≤ c ∧ c ≤ maxLen
theorem Lst.below {k : IntKind} {w w' : World} {v : Value} {l : List Int} (h : Lst k w v l) (hb : Below w.heap.size w w') : Lst k w' v l := by
  obtain ⟨A, c, h1, h2, h3⟩ := h; exact ⟨A, c, h1, h2.below hb, h3⟩
theorem Lst.drewN {k : IntKind} {w : World} {v : Value} {l : List Int} (h : Lst k w v l) (m : Nat) : Lst k (w.drewN m) v l := h
theorem Lst.nil (k : IntKind) (w : World) : Lst k w (.slice none 0 0) [] := ⟨none, 0, rfl, fun h => by simp at h, fun _ => rfl, Nat.le_refl _, Nat.zero_le _⟩

/-- What an operation may turn: nothing below block B; of the blocks that were there rows of other types than e stay. -/
structure Fr (e : TypeId) (B : Nat) (w w' : World) : Prop where
  bel : Below B w w'
  keep : ∀ (k : Nat) (cs : Array Value) (t : TypeId) (f : Nat × Nat), w.heap[k]? = some (.cells cs t f) → t ≠ e → w'.heap[k]? = some (.cells cs t f)
theorem Fr.refl (e : TypeId) (B : Nat) (w : World) : Fr e B w w := ⟨Below.refl _ _, fun _ _ _ _ h _ => h⟩
theorem Fr.trans {e : TypeId} {B : Nat} {a b c : World} (h : Fr e B a b) (k : Fr e B b c) : Fr e B a c :=
  ⟨h.bel.trans k.bel, fun i cs t f hi h1 => k.keep i cs t f (h.keep i cs t f hi h1) h1⟩
theorem Fr.of_below {e : TypeId} {B : Nat} {w w' : World} (h : Below w.heap.size w w') (hB : B ≤ w.heap.size) : Fr e B w w' :=
  ⟨h.mono hB, fun k _ _ _ hk _ => (h.block k (heap_lt hk)).trans hk⟩
theorem Fr.of_grown {e : TypeId} {B : Nat} {w w' : World} {row : Option Nat} (h : w.grownBy w' row) (hB : B ≤ w.heap.size) (hr : ∀ g, row = some g → B ≤ g ∧ ∀ cs t f, w.heap[g]? = some (.cells cs t f) → t = e) : Fr e B w w' :=
  ⟨(Below.refl _ _).grown h hB fun g e => (hr g e).1, fun k cs t f hk h1 => (h.block k (heap_lt hk) (fun e => h1 ((hr k e.symm).2 cs t f hk))).trans hk⟩

/-- A slice of the call's own. -/
def Own (e : TypeId) (k : IntKind) (w : World) (B : Nat) (v : Value) (l : List Int) : Prop := w.ownsRow B e 1 v l.length (l.map (Value.int k))
theorem Own.nil (e : TypeId) (k : IntKind) (w : World) (B : Nat) : Own e k w B (.slice none 0 0) [] := World.ownsRow_nil w B e 1
theorem Own.below {e : TypeId} {k : IntKind} {w w' : World} {B : Nat} {v : Value} {l : List Int} (h : Own e k w B v l) (hb : Below w.heap.size w w') : Own e k w' B v l := by
  refine ⟨h.1, ?_⟩
  rcases h.2 with h | ⟨g, cap, cur, h1, h2, h3, h4⟩
  · exact .inl h
  · exact .inr ⟨g, cap, cur, h1, h2, (hb.block g (heap_lt h3)).trans h3, h4⟩
theorem Own.mono {e : TypeId} {k : IntKind} {w : World} {B B' : Nat} {v : Value} {l : List Int} (h : Own e k w B v l) (hB : B' ≤ B) : Own e k w B' v l := by
  refine ⟨h.1, ?_⟩
  rcases h.2 with h | ⟨g, cap, cur, h1, h2, h3⟩
  · exact .inl h
  · exact .inr ⟨g, cap, cur, h1, Nat.le_trans hB h2, h3⟩
theorem Own.fr {e e' : TypeId} {k : IntKind} {w w' : World} {B B' : Nat} {v : Value} {l : List Int} (h : Own e k w B v l) (hf : Fr e' B' w w') (hne : e ≠ e') : Own e k w' B v l := by
  refine ⟨h.1, ?_⟩
  rcases h.2 with h | ⟨g, cap, cur, h1, h2, h3, h4⟩
  · exact .inl h
  · exact .inr ⟨g, cap, cur, h1, h2, hf.keep g _ _ _ h3 hne, h4⟩
theorem Own.block {e : TypeId} {k : IntKind} {w : World} {B : Nat} {v : Value} {l : List Int} (h : Own e k w B v l) : ∀ g, v.ownBlock = some g → B ≤ g ∧ ∀ cs t f, w.heap[g]? = some (.cells cs t f) → t = e := by
  intro g hg
  rcases h.2 with ⟨h1, _⟩ | ⟨g', cap, cur, h1, h2, h3, h4⟩
  · rw [h1] at hg; simp [Value.ownBlock] at hg
  · rw [h1] at hg; simp [Value.ownBlock] at hg; subst hg
    exact ⟨h2, fun cs t f hc => by rw [h3] at hc; injection hc with hc; injection hc with _ e2; exact e2.symm⟩
theorem Own.lst {e : TypeId} {k : IntKind} {w : World} {B : Nat} {v : Value} {l : List Int} (h : Own e k w B v l) : Lst k w v l := by
  rcases h.2 with ⟨h1, h0⟩ | ⟨g, cap, cur, h1, h2, h3, hle, hm, _, ht⟩
  · have : l = [] := List.eq_nil_of_length_eq_zero h0
    subst this
    rw [h1]; exact Lst.nil k w
  · refine ⟨_, cap, h1, fun hn => ⟨g, 0, rfl, fun j x hx => ?_⟩, fun e => by simp at e, hle, hm⟩
    have hj : j < l.length := (List.getElem?_eq_some_iff.1 hx).1
    rw [cell_of_row w g _ cur _ _ h3, Nat.zero_add]
    have e : (l.map (Value.int k))[j]? = some (.int k x) := by rw [List.getElem?_map, hx]; rfl
    rw [← ht, List.getElem?_take, if_pos (by simpa using hj)] at e
    simpa using e
theorem Own.form {e : TypeId} {k : IntKind} {w : World} {B : Nat} {v : Value} {l : List Int} (h : Own e k w B v l) : ∃ A c, v = .slice A l.length c := by
  obtain ⟨A, c, hv, _⟩ := h.lst; exact ⟨A, c, hv⟩

/-- An append of a list that reads. -/
theorem run_app {ts e : TypeId} {k : IntKind} (E : Elt ts e k) {w : World} {B : Nat} {v x : Value} {l m : List Int} (h : Own e k w B v l) (hx : Lst k w x m) (hl : l.length + m.length ≤ 1000000) (hB : B ≤ w.heap.size) (ty : TypeId) :
    ∃ v' w', (Builtin.append_ #[ts, ts] ty #[v, x]).run Tryz.prog w = .ok v' w' ∧ Own e k w' B v' (l ++ m) ∧ Fr e B w w' := by
  obtain ⟨i, hi, hz, h1, hb⟩ := E.info
  obtain ⟨A, c, rfl, hr, hA, _⟩ := hx
  cases A with
  | none =>
    have : m = [] := by
      rcases Nat.eq_zero_or_pos m.length with e | e
      · exact List.eq_nil_of_length_eq_zero e
      · obtain ⟨_, _, e', _⟩ := hr e; simp at e'
    subst this
    obtain rfl := hA rfl
    exact ⟨v, w, run_append_owned_none w B ts ty e i 1 E.under hi v _ _ h, by simpa using h, Fr.refl _ _ _⟩
  | some ad =>
    have hnews : ∀ j u, (m.map (Value.int k))[j]? = some u → w.cell? (ad.add j) = some u := by
      intro j u hu
      rw [List.getElem?_map] at hu
      cases hj : m[j]? with
      | none => rw [hj] at hu; simp at hu
      | some y =>
        rw [hj] at hu
        obtain ⟨g, off, e1, e2⟩ := hr (by have := (List.getElem?_eq_some_iff.1 hj).1; omega)
        simp at e1; subst e1
        rw [Addr.add_lit, e2 j y hj]; exact hu
    obtain ⟨v', w', hrun, h2, h3, _⟩ := run_append_own (P := Tryz.prog) w B ts ty e i (.int k 0) 1 i.bytes E.under hi hz h1 rfl rfl (by decide) v l.length (l.map (Value.int k)) h ad m.length c (m.map (Value.int k)) (by simp) hnews
      (fun u hu => by obtain ⟨y, _, rfl⟩ := List.mem_map.1 hu; rfl) (by unfold maxLen; omega) (Nat.le_trans (Nat.mul_le_mul_left _ hb) (by omega)) hB
    exact ⟨v', w', hrun, by unfold Own; rw [List.length_append, List.map_append]; exact h2, Fr.of_grown h3 hB h.block⟩
theorem wpList_app {w : World} {ops : Array Oper} {rest : List Oper} {o : Oper} {a : Act} {Q : Exit → Act → World → Prop} (hgd : o.guard = none) (s y : Operand) {ts e : TypeId} {k : IntKind}
    (ho : o.op = .call { callee := .builtin .append, args := #[s, y], argTypes := #[ts, ts] }) (E : Elt ts e k)
    {B : Nat} {v x : Value} {l m : List Int} (hs : a.eval s = v) (h : Own e k w B v l) (hy : a.eval y = x) (hx : Lst k w x m) (hl : l.length + m.length ≤ 1000000) (hB : B ≤ w.heap.size)
    (hK : ∀ v' w', Own e k w' B v' (l ++ m) → Fr e B w w' → wpList Tryz.prog ops Q rest (a.put o.dst v') w') : wpList Tryz.prog ops Q (o :: rest) a w := by
  refine wpList_plain hgd fun K hK' => ?_
  obtain ⟨v', w', hrun, r1, r2⟩ := run_app E h hx hl hB o.type
  unfold Oper.wp
  simp [execOp, ho, resolve, invoke, builtin, hs, hy, hrun, Result.andThen]
  exact hK' _ _ (hK v' w' r1 r2)
theorem step_app {w : World} {ops : Array Oper} {o : Oper} {a : Act} {K : Act → World → Prop} {Q : Exit → Act → World → Prop} {F : Prop} (hgd : o.guard = none) (s y : Operand) {ts e : TypeId} {k : IntKind}
    (ho : o.op = .call { callee := .builtin .append, args := #[s, y], argTypes := #[ts, ts] }) (E : Elt ts e k)
    {B : Nat} {v x : Value} {l m : List Int} (hs : a.eval s = v) (h : Own e k w B v l) (hy : a.eval y = x) (hx : Lst k w x m) (hl : l.length + m.length ≤ 1000000) (hB : B ≤ w.heap.size)
    (hK : ∀ v' w', Own e k w' B v' (l ++ m) → Fr e B w w' → K (a.put o.dst v') w') : if Region.wanted o (yielded ops a.tmps) = true then Oper.wp Tryz.prog o a w K Q else F := by
  have hw : Region.wanted o (yielded ops a.tmps) = true := by unfold Region.wanted; rw [hgd]
  rw [if_pos hw]
  obtain ⟨v', w', hrun, r1, r2⟩ := run_app E h hx hl hB o.type
  unfold Oper.wp
  simp [execOp, ho, resolve, invoke, builtin, hs, hy, hrun, Result.andThen]
  exact hK v' w' r1 r2

theorem wpList_want {P : Program} {w : World} {ops : Array Oper} {rest : List Oper} {o : Oper} {a : Act} {Q : Exit → Act → World → Prop} (hw : Region.wanted o (yielded ops a.tmps) = true)
    (h : ∀ K : Act → World → Prop, (∀ a w, wpList P ops Q rest a w → K a w) → Oper.wp P o a w K Q) : wpList P ops Q (o :: rest) a w :=
  wpList_step fun K hK => by rw [if_pos hw]; exact h K hK
theorem wpList_app_w {w : World} {ops : Array Oper} {rest : List Oper} {o : Oper} {a : Act} {Q : Exit → Act → World → Prop} (hw : Region.wanted o (yielded ops a.tmps) = true) (s y : Operand) {ts e : TypeId} {k : IntKind}
    (ho : o.op = .call { callee := .builtin .append, args := #[s, y], argTypes := #[ts, ts] }) (E : Elt ts e k)
    {B : Nat} {v x : Value} {l m : List Int} (hs : a.eval s = v) (h : Own e k w B v l) (hy : a.eval y = x) (hx : Lst k w x m) (hl : l.length + m.length ≤ 1000000) (hB : B ≤ w.heap.size)
    (hK : ∀ v' w', Own e k w' B v' (l ++ m) → Fr e B w w' → wpList Tryz.prog ops Q rest (a.put o.dst v') w') : wpList Tryz.prog ops Q (o :: rest) a w := by
  refine wpList_want hw fun K hK' => ?_
  obtain ⟨v', w', hrun, r1, r2⟩ := run_app E h hx hl hB o.type
  unfold Oper.wp
  simp [execOp, ho, resolve, invoke, builtin, hs, hy, hrun, Result.andThen]
  exact hK' _ _ (hK v' w' r1 r2)

/-- A slice of which no more than its elements may be appended to (x[:n:n]) and a list: a row of the call's own. -/
theorem run_app_tight {ts e : TypeId} {k : IntKind} (E : Elt ts e k) {w : World} {A : Option Addr} {x : Value} {l m : List Int} (h : Rd k w A l) (hA : A = none → l = []) (hx : Lst k w x m) (hm : 0 < m.length) (hl : l.length + m.length ≤ 1000000) (ty : TypeId) :
    ∃ v' w', (Builtin.append_ #[ts, ts] ty #[.slice A l.length l.length, x]).run Tryz.prog w = .ok v' w' ∧ Own e k w' w.heap.size v' (l ++ m) ∧ Below w.heap.size w w' := by
  cases A with
  | none =>
    obtain rfl := hA rfl
    obtain ⟨v', w', h1, h2, h3⟩ := run_app E (Own.nil e k w w.heap.size) hx (by simpa using hl) (Nat.le_refl _) ty
    exact ⟨v', w', h1, h2, h3.bel⟩
  | some b =>
    obtain ⟨i, hi, hz, h1, hb⟩ := E.info
    obtain ⟨A2, c, rfl, hr, hA2, _⟩ := hx
    obtain ⟨g, off, rfl, hcells⟩ := hr hm
    have holds : ∀ j u, (l.map (Value.int k))[j]? = some u → w.cell? (b.add j) = some u := by
      intro j u hu
      rw [List.getElem?_map] at hu
      cases hj : l[j]? with
      | none => rw [hj] at hu; simp at hu
      | some y =>
        rw [hj] at hu
        obtain ⟨g, off, e1, e2⟩ := h (by have := (List.getElem?_eq_some_iff.1 hj).1; omega)
        simp at e1; subst e1
        rw [Addr.add_lit, e2 j y hj]; exact hu
    have hnews : ∀ j u, (m.map (Value.int k))[j]? = some u → w.cell? ((⟨g, off, none⟩ : Addr).add j) = some u := by
      intro j u hu
      rw [List.getElem?_map] at hu
      cases hj : m[j]? with
      | none => rw [hj] at hu; simp at hu
      | some y => rw [hj] at hu; rw [Addr.add_lit, hcells j y hj]; exact hu
    obtain ⟨v', w', hrun, h2, h3⟩ := run_append_arg_grows (P := Tryz.prog) w ts ty e i (.int k 0) 1 i.bytes E.under hi hz h1 rfl rfl (by decide) b l.length l.length (l.map (Value.int k)) (by simp) holds ⟨g, off, none⟩ m.length c (m.map (Value.int k)) (by simp) hnews
      (by omega) (by unfold maxLen; omega) (Nat.le_trans (Nat.mul_le_mul_left _ hb) (by omega))
    exact ⟨v', w', hrun, by unfold Own; rw [List.length_append, List.map_append]; exact h2, (Below.refl _ _).grown h3 (Nat.le_refl _) fun g e => by simp at e⟩
theorem wpList_app_tight {w : World} {ops : Array Oper} {rest : List Oper} {o : Oper} {a : Act} {Q : Exit → Act → World → Prop} (hgd : o.guard = none) (s y : Operand) {ts e : TypeId} {k : IntKind}
    (ho : o.op = .call { callee := .builtin .append, args := #[s, y], argTypes := #[ts, ts] }) (E : Elt ts e k)
    {A : Option Addr} {x : Value} {l m : List Int} (hs : a.eval s = .slice A l.length l.length) (h : Rd k w A l) (hA : A = none → l = []) (hy : a.eval y = x) (hx : Lst k w x m) (hm : 0 < m.length) (hl : l.length + m.length ≤ 1000000)
    (hK : ∀ v' w', Own e k w' w.heap.size v' (l ++ m) → Below w.heap.size w w' → wpList Tryz.prog ops Q rest (a.put o.dst v') w') : wpList Tryz.prog ops Q (o :: rest) a w := by
  refine wpList_plain hgd fun K hK' => ?_
  obtain ⟨v', w', hrun, r1, r2⟩ := run_app_tight E h hA hx hm hl o.type
  unfold Oper.wp
  simp [execOp, ho, resolve, invoke, builtin, hs, hy, hrun, Result.andThen]
  exact hK' _ _ (hK v' w' r1 r2)

/-- Literals. -/
theorem lst_row {k : IntKind} {w : World} {g : Nat} {t : TypeId} {fr : Nat × Nat} (l : List Int) (h : w.heap[g]? = some (.cells (l.map (Value.int k)).toArray t fr)) (hl : l.length ≤ 1000000) : Lst k w (.slice (some ⟨g, 0, none⟩) l.length l.length) l :=
  ⟨_, _, rfl, fun _ => ⟨g, 0, rfl, fun j x hx => by rw [cell_of_row w g _ _ _ _ h, Nat.zero_add]; simp [List.getElem?_map, hx]⟩, fun e => by simp at e, Nat.le_refl _, by unfold maxLen; omega⟩
theorem lst_one {k : IntKind} (w : World) (x : Int) (t : TypeId) : Lst k (w.alloc (.cells #[.int k x] t)) (.slice (some ⟨w.heap.size, 0, none⟩) 1 1) [x] :=
  lst_row [x] (heap_alloc_new w _) (by simp)
theorem own_lit (e : TypeId) (k : IntKind) (w : World) {B : Nat} (hB : B ≤ w.heap.size) : Own e k (w.alloc (.cells #[] e)) B (.slice (some ⟨w.heap.size, 0, none⟩) 0 0) [] :=
  ⟨rfl, .inr ⟨w.heap.size, 0, #[], rfl, hB, heap_alloc_new w _, Nat.le_refl _, Nat.zero_le _, rfl, rfl⟩⟩

/-- string(b). -/
theorem conv_lst {w : World} {v : Value} {l : List Int} (h : Lst .u8 w v l) (hb : By l) : (convert 53 9 v).run Tryz.prog w = .ok (.string (bytesOf l)) w := by
  obtain ⟨A, c, rfl, hr, hA, _⟩ := h
  cases A with
  | none =>
    have : l = [] := by
      rcases Nat.eq_zero_or_pos l.length with e | e
      · exact List.eq_nil_of_length_eq_zero e
      · obtain ⟨_, _, e', _⟩ := hr e; simp at e'
    subst this
    obtain rfl := hA rfl
    rw [run_convert_bytes_string w _ _ _ _ _ _ Tryz.underlying53 Tryz.underlying5 Tryz.underlying9]; rfl
  | some ad =>
    have := run_convert_bytes_back (P := Tryz.prog) w 53 9 5 ad c (l.map fun x => UInt8.ofNat x.toNat) Tryz.underlying53 Tryz.underlying5 Tryz.underlying9 (fun j hj => by
      simp at hj
      obtain ⟨g, off, e1, e2⟩ := hr (by omega)
      simp at e1; subst e1
      rw [Addr.add_lit, e2 j l[j] (List.getElem?_eq_getElem hj)]
      obtain ⟨x0, x1⟩ := hb l[j] (List.getElem_mem _)
      simp
      omega)
    unfold bytesOf; simpa using this

/-- Bools and draws. -/
def BPost (w : World) (b : Bool) (e : Ending) (w' : World) : Prop := e = .returned (.bool b) ∧ Below w.heap.size w w'
def QPost (w : World) (v : Value) (e : Ending) (w' : World) : Prop := e = .returned v ∧ ∃ m, w' = w.drewN m
def LPost (k : IntKind) (w : World) (l : List Int) (e : Ending) (w' : World) : Prop := ∃ v', e = .returned v' ∧ Lst k w' v' l ∧ Below w.heap.size w w'
theorem i64_bd {x : Int} (h : (Lit.int .i64 x).wf = true) : -9223372036854775808 ≤ x ∧ x ≤ 9223372036854775807 := by
  simp [Lit.wf, IntKind.min, IntKind.max, IntKind.signed, IntKind.bits] at h
  omega
theorem u8_bd {x : Int} (h : (Lit.int .u8 x).wf = true) : 0 ≤ x ∧ x ≤ 255 := by
  simp [Lit.wf, IntKind.min, IntKind.max, IntKind.signed, IntKind.bits] at h
  omega
end Go.Proofs.YtdncjhffniepbaaGreatDoor.Lx
/- (LxLoops)
  Layer 5, the reference: strings and patterns, blanks, places, words.
-/
namespace Go.Proofs.YtdncjhffniepbaaGreatDoor.Lx
open Go.RowKit

theorem balloc (w : World) (o : Obj) : Below w.heap.size w (w.alloc o) := (Below.refl _ _).alloc (Nat.le_refl _) _
theorem drop_at {l : List Int} {k : Nat} {x : Int} (h : l[k]? = some x) : l.drop k = x :: l.drop (k + 1) := by
  obtain ⟨hk, e⟩ := List.getElem?_eq_some_iff.1 h
  rw [List.drop_eq_getElem_cons hk, e]
theorem own_snoc {e : TypeId} {k : IntKind} {w : World} {B : Nat} {v : Value} {l : List Int} {x : Int} (h : Own e k w B v (l ++ [x])) : ∃ A c, v = .slice A (l.length + 1) c := by
  obtain ⟨A, c, hv⟩ := h.form
  exact ⟨A, c, by rw [hv, List.length_append]; rfl⟩
/-- What quoted and slashed return. -/
def cutV (x : Option (List Int × Nat)) : Value := match x with
  | some x => .tuple #[.string (bytesOf x.1), .int .i64 x.2]
  | none => .tuple #[.string ⟨#[]⟩, .int .i64 (-1)]
def VPost (w : World) (v : Value) (e : Ending) (w' : World) : Prop := e = .returned v ∧ Below w.heap.size w w'
/-- What is to come makes the whole. -/
def Rest (q : List Int → Option (List Int × Nat)) (l out : List Int) (k : Nat) : Prop := q l = (q (l.drop k)).map fun x => (out ++ x.1, k + x.2)
theorem Rest.start (q : List Int → Option (List Int × Nat)) (l : List Int) : Rest q l [] 0 := by
  unfold Rest
  rw [List.drop_zero]
  cases q l <;> simp
theorem Rest.none {q : List Int → Option (List Int × Nat)} {l out : List Int} {k : Nat} (h : Rest q l out k) (hn : q (l.drop k) = .none) : q l = .none := by rw [h, hn]; rfl
theorem Rest.done {q : List Int → Option (List Int × Nat)} {l out : List Int} {k : Nat} (h : Rest q l out k) (hn : q (l.drop k) = some ([], 1)) : q l = some (out, k + 1) := by rw [h, hn]; simp
theorem Rest.step {q : List Int → Option (List Int × Nat)} {l out o2 : List Int} {k n : Nat} (h : Rest q l out k) (hn : q (l.drop k) = (q (l.drop (k + n))).map fun x => (o2 ++ x.1, x.2 + n)) : Rest q l (out ++ o2) (k + n) := by
  unfold Rest at *
  rw [h, hn]
  cases q (l.drop (k + n)) <;> simp
  omega
theorem quo_step {l : List Int} {k n : Nat} {b : Int} (h1 : (l.drop k).head? ≠ some 34) (h : part (l.drop k) = some (b, n)) : quo (l.drop k) = (quo (l.drop (k + n))).map fun x => ([b] ++ x.1, x.2 + n) := by
  rw [quo_part h1 h, List.drop_drop]
  congr 1
  funext x
  simp
  omega

set_option maxRecDepth 100000 in
set_option maxHeartbeats 2000000 in
theorem quoted_any {s : ByteArray} {l : List Int} (hs : ch s = l) (hn : l.length ≤ 100000) (w : World) : Calls Tryz.prog 57 #[.string s] w (VPost w (cutV (quo l))) := by
  have HBY : Hid (By l) := Lib.hid (by rw [← hs]; exact ch_By s)
  have HSZ : Hid (s.size = l.length) := Lib.hid (by rw [← hs, ch_length])
  have HAT : Hid (∀ k x, l[k]? = some x → ∃ hk : k < s.size, ((s[k]'hk).toNat : Int) = x) := Lib.hid (fun k x h => ch_at (by rw [hs]; exact h))
  have HP := Lib.hid (fun (k : Nat) (W : World) => part_any (s := s.extract k s.size) (l := l.drop k) (by rw [ch_drop, hs]) W)
  clear hs
  go_enter Tryz.func57, Tryz.ntmps57
  go_wp2_with fail
  go_loopg [4, 5, 6, 7] (l.length + 1) (fun g' ov i _ _ wr => ∃ (k : Nat) (out : List Int), i = .int .i64 k ∧ k ≤ l.length ∧ l.length - k + 1 ≤ g' ∧ Own 5 .u8 wr w.heap.size ov out ∧ By out ∧ out.length ≤ k ∧ Below w.heap.size w wr ∧ Rest quo l out k)
  case atStart => exact ⟨0, [], rfl, Nat.zero_le _, by omega, Own.nil _ _ _ _, By.nil, Nat.le_refl _, Below.refl _ _, Rest.start _ _⟩
  case round =>
    obtain ⟨k, out, rfl, hk, hg, hown, hbo, hol, hbel, hrest⟩ := hrel
    obtain ⟨wo, rfl⟩ : ∃ wo : World, wo = wr := ⟨_, rfl⟩
    have O0 := Lib.hid hown
    have BO := Lib.hid hbo
    have BW := Lib.hid hbel
    have HR := Lib.hid hrest
    have hcv := conv_lst hown.lst hbo
    obtain ⟨Ao, co, rfl⟩ := hown.form
    clear hown hbo hbel hrest
    by_cases hkn : k < l.length
    · obtain ⟨x, hx⟩ : ∃ x, l[k]? = some x := ⟨l[k], List.getElem?_eq_getElem hkn⟩
      obtain ⟨hks, x0⟩ := HAT.out k x hx
      have hki : (k : Int) < (s.size : Int) := by omega
      have hdr := drop_at hx
      by_cases h34 : x = 34
      · subst h34
        have E := Lib.hid (HR.out.done (by rw [hdr]; exact quo_end _))
        have hge : ¬ s.size ≤ k := by omega
        clear hx hdr
        have hcv2 := hcv
        go_wp2_with fail
        go_ret2
        exact ⟨ret_t (by rw [E.out]; unfold cutV; simp), BW.out⟩
      · have hne : (x != 34) = true := bne_iff_ne.2 h34
        have hhd : (l.drop k).head? ≠ some 34 := by rw [hdr]; simpa using h34
        cases hp : part (l.drop k) with
        | none =>
          have HPk := Lib.hid (HP.out k)
          rw [partV_none hp] at HPk
          have E := Lib.hid (HR.out.none (quo_bad (by rw [hdr]; simp) hhd hp))
          clear hx hdr hhd hp hcv
          go_wp2_with (go_at_call 86; ((with_reducible refine (HPk.out _).mono ?_); rintro e w' ⟨rfl, rfl⟩))
          go_ret2
          exact ⟨ret_t (by rw [E.out]; rfl), BW.out⟩
        | some bn =>
          obtain ⟨b, n⟩ := bn
          have HPk := Lib.hid (HP.out k)
          rw [partV_some hp] at HPk
          obtain ⟨n1, n2⟩ := part_len hp
          rw [List.length_drop] at n2
          have hbb := part_by (HBY.out.drop k) hp
          have HBB := Lib.hid hbb
          have HR2 := Lib.hid (HR.out.step (quo_step hhd hp))
          have hn0 : ((n : Int) == 0) = false := beq_eq_false_iff_ne.2 (by omega)
          clear hx hdr hhd hp hcv hbb
          go_wp2_with (first
            | (go_at_call 86; ((with_reducible refine (HPk.out _).mono ?_); rintro e w' ⟨rfl, rfl⟩))
            | (at_builtin; refine wpList_app rfl _ _ rfl elByte rfl (O0.out.below (balloc _ _)) rfl (lst_one _ b 5) (by simp; omega) (by have := BW.out.size; simp; omega) ?_; intro v5 w5 hO hF; obtain ⟨A5, c5, hv5⟩ := own_snoc hO; subst hv5; have O5 := Lib.hid hO; have B5 := Lib.hid ((BW.out.alloc BW.out.size _).trans hF.bel); clear hO hF))
          go_roundg (l.length - (k + n) + 1)
          case measure => omega
          case rel => exact ⟨k + n, out ++ [b], by go_num, by omega, Nat.le_refl _, by have := O5.out; simpa using this, BO.out.append (By.one HBB.out), by simp; omega, B5.out, HR2.out⟩
    · obtain rfl : k = l.length := by omega
      have E := Lib.hid (HR.out.none (by rw [List.drop_length]; exact quo_nil))
      have hki : ¬ l.length < s.size := by have := HSZ.out; omega
      have hki2 : decide ((l.length : Int) < (s.size : Int)) = false := decide_eq_false (by omega)
      have hki3 : (s.size : Int) ≤ (l.length : Int) := by omega
      clear hcv
      go_wp2_with fail
      go_ret2
      exact ⟨ret_t (by rw [E.out]; rfl), BW.out⟩

/-! ### blanks and comments -/
theorem blank_yes {a : Int} (h : a = 32 ∨ a = 9 ∨ a = 10 ∨ a = 13) : blank a = true := decide_eq_true h
theorem blank_no {a : Int} (h1 : a ≠ 32) (h2 : a ≠ 9) (h3 : a ≠ 10) (h4 : a ≠ 13) : blank a = false := decide_eq_false (by omega)
theorem skipS_f (a : Int) (r : List Int) : skipS false (a :: r) = if blank a then skipS false r + 1 else if a = 35 then skipS true r + 1 else 0 := rfl
theorem skipS_t (a : Int) (r : List Int) : skipS true (a :: r) = if a = 10 then skipS false r + 1 else skipS true r + 1 := rfl
def Sk (c : Bool) (l : List Int) (k : Nat) : Prop := skip l = k + skipS c (l.drop k)
theorem Sk.blank {l : List Int} {k : Nat} {x : Int} (h : Sk false l k) (hx : l[k]? = some x) (hb : blank x = true) : Sk false l (k + 1) := by
  unfold Sk at *; rw [drop_at hx] at h; rw [h, skipS_f, if_pos hb]; omega
theorem Sk.stop {l : List Int} {k : Nat} {x : Int} (h : Sk false l k) (hx : l[k]? = some x) (hb : Lx.blank x = false) (h35 : x ≠ 35) : skip l = k := by
  unfold Sk at *; rw [drop_at hx] at h; rw [h, skipS_f, if_neg (by simp [hb]), if_neg h35]; rfl
theorem Sk.enter {l : List Int} {k : Nat} (h : Sk false l k) (hx : l[k]? = some 35) : Sk true l k := by
  unfold Sk at *; rw [drop_at hx] at *; rw [h]; simp [skipS, Lx.blank]
theorem Sk.more {l : List Int} {k : Nat} {x : Int} (h : Sk true l k) (hx : l[k]? = some x) (hb : x ≠ 10) : Sk true l (k + 1) := by
  unfold Sk at *; rw [drop_at hx] at h; rw [h, skipS_t, if_neg hb]; omega
theorem Sk.leave {l : List Int} {k : Nat} (h : Sk true l k) (hx : l[k]? = some 10) : Sk false l k := by
  unfold Sk at *; rw [drop_at hx] at *; rw [h]; simp [skipS, Lx.blank]
theorem Sk.over {c : Bool} {l : List Int} (h : Sk c l l.length) : skip l = l.length := by
  unfold Sk at h; rw [h, List.drop_length]; cases c <;> rfl
theorem Sk.flip {l : List Int} (h : Sk true l l.length) : Sk false l l.length := by
  unfold Sk at *; rw [h, List.drop_length]; rfl

set_option maxRecDepth 100000 in
set_option maxHeartbeats 2000000 in
theorem skip_any {s : ByteArray} {l : List Int} (hs : ch s = l) (hn : l.length ≤ 100000) (w : World) : Calls Tryz.prog 35 #[.string s] w fun e w' => e = .returned (.int .i64 (skip l)) ∧ w = w' := by
  have HSZ : Hid (s.size = l.length) := Lib.hid (by rw [← hs, ch_length])
  have HAT : Hid (∀ k x, l[k]? = some x → ∃ hk : k < s.size, ((s[k]'hk).toNat : Int) = x) := Lib.hid (fun k x h => ch_at (by rw [hs]; exact h))
  clear hs
  go_enter Tryz.func35, Tryz.ntmps35
  go_wp2_with fail
  go_loopg [3] (l.length + 1) (fun g' i wr => ∃ (k : Nat), i = .int .i64 k ∧ k ≤ l.length ∧ l.length - k + 1 ≤ g' ∧ Sk false l k ∧ wr = w)
  case atStart => exact ⟨0, rfl, Nat.zero_le _, by omega, by unfold Sk; simp [skip], rfl⟩
  case round =>
    obtain ⟨k, rfl, hk, hg, hsk, rfl⟩ := hrel
    have SK := Lib.hid hsk
    clear hsk
    by_cases hkn : k < l.length
    · obtain ⟨x, hx⟩ : ∃ x, l[k]? = some x := ⟨l[k], List.getElem?_eq_getElem hkn⟩
      obtain ⟨hks, x0⟩ := HAT.out k x hx
      have hki : (k : Int) < (s.size : Int) := by omega
      have HX := Lib.hid hx
      clear hx
      by_cases hb : x = 32 ∨ x = 9 ∨ x = 10 ∨ x = 13
      · have S1 := Lib.hid (SK.out.blank HX.out (blank_yes hb))
        rcases hb with rfl | rfl | rfl | rfl
        · go_wp2_with fail
          go_roundg (l.length - (k + 1) + 1)
          case measure => omega
          case rel => exact ⟨k + 1, by go_num, by omega, Nat.le_refl _, S1.out, rfl⟩
        · go_wp2_with fail
          go_roundg (l.length - (k + 1) + 1)
          case measure => omega
          case rel => exact ⟨k + 1, by go_num, by omega, Nat.le_refl _, S1.out, rfl⟩
        · go_wp2_with fail
          go_roundg (l.length - (k + 1) + 1)
          case measure => omega
          case rel => exact ⟨k + 1, by go_num, by omega, Nat.le_refl _, S1.out, rfl⟩
        · go_wp2_with fail
          go_roundg (l.length - (k + 1) + 1)
          case measure => omega
          case rel => exact ⟨k + 1, by go_num, by omega, Nat.le_refl _, S1.out, rfl⟩
      · have b1 : (x == 32) = false := beq_eq_false_iff_ne.2 (by omega)
        have b2 : (x == 9) = false := beq_eq_false_iff_ne.2 (by omega)
        have b3 : (x == 10) = false := beq_eq_false_iff_ne.2 (by omega)
        have b4 : (x == 13) = false := beq_eq_false_iff_ne.2 (by omega)
        have HBN := Lib.hid (blank_no (show x ≠ 32 by omega) (by omega) (by omega) (by omega))
        clear hb
        by_cases h35 : x = 35
        · subst h35
          have S1 := Lib.hid (SK.out.enter HX.out)
          go_wp2_with fail
          go_loopg [3] (l.length - k + 1) (fun g' i wr2 => ∃ (m : Nat), i = .int .i64 m ∧ k ≤ m ∧ m ≤ l.length ∧ l.length - m + 1 ≤ g' ∧ Sk true l m ∧ wr2 = wr)
          case atStart => exact ⟨k, rfl, Nat.le_refl _, hk, by omega, S1.out, rfl⟩
          case round =>
            obtain ⟨m, rfl, hkm, hm, hg2, hsk2, rfl⟩ := hrel
            have SM := Lib.hid hsk2
            clear hsk2
            by_cases hmn : m < l.length
            · obtain ⟨y, hy⟩ : ∃ y, l[m]? = some y := ⟨l[m], List.getElem?_eq_getElem hmn⟩
              obtain ⟨hms, y0⟩ := HAT.out m y hy
              have hmi : (m : Int) < (s.size : Int) := by omega
              have HYM := Lib.hid hy
              by_cases h10 : y = 10
              · subst h10
                have hlt : k < m := by
                  rcases Nat.lt_or_ge k m with h | h
                  · exact h
                  · obtain rfl : m = k := by omega
                    have := HX.out
                    rw [HYM.out] at this
                    simp at this
                have S2 := Lib.hid (SM.out.leave HYM.out)
                clear hy
                go_wp2_with fail
                go_roundg (l.length - m + 1)
                case measure => omega
                case rel => exact ⟨m, rfl, hm, Nat.le_refl _, S2.out, rfl⟩
              · have hne : (y != 10) = true := bne_iff_ne.2 h10
                have S2 := Lib.hid (SM.out.more HYM.out h10)
                clear hy
                go_wp2_with fail
                go_roundg (l.length - (m + 1) + 1)
                case measure => omega
                case rel => exact ⟨m + 1, by go_num, by omega, by omega, Nat.le_refl _, S2.out, rfl⟩
            · obtain rfl : m = l.length := by omega
              have hmi : (s.size : Int) ≤ (l.length : Int) := by have := HSZ.out; omega
              have hmi2 : decide ((l.length : Int) < (s.size : Int)) = false := decide_eq_false (by omega)
              have S2 := Lib.hid SM.out.flip
              go_wp2_with fail
              go_roundg (l.length - l.length + 1)
              case measure => omega
              case rel => exact ⟨l.length, rfl, Nat.le_refl _, Nat.le_refl _, S2.out, rfl⟩
        · have b5 : (x == 35) = false := beq_eq_false_iff_ne.2 h35
          have E := Lib.hid (SK.out.stop HX.out HBN.out h35)
          go_wp2_with fail
          go_ret
          exact ⟨ret_i (by rw [E.out]), rfl⟩
    · obtain rfl : k = l.length := by omega
      have E := Lib.hid SK.out.over
      have hmi : (s.size : Int) ≤ (l.length : Int) := by have := HSZ.out; omega
      go_wp2_with fail
      go_ret
      exact ⟨ret_i (by rw [E.out]), rfl⟩

/-! ### places -/
theorem adv_bd : ∀ (l : List Int) (p : Int × Int) (M : Int), 1 ≤ p.1 → 1 ≤ p.2 → p.1 ≤ M → p.2 ≤ M → 1 ≤ (adv p l).1 ∧ 1 ≤ (adv p l).2 ∧ (adv p l).1 ≤ M + l.length ∧ (adv p l).2 ≤ M + l.length
  | [], p, M, h1, h2, h3, h4 => by simp [adv]; omega
  | a :: r, p, M, h1, h2, h3, h4 => by
    have := adv_bd r (if a = 10 then (p.1 + 1, 1) else (p.1, p.2 + 1)) (M + 1) (by split <;> simp <;> omega) (by split <;> simp <;> omega) (by split <;> simp <;> omega) (by split <;> simp <;> omega)
    simp only [adv, List.length_cons]
    omega
theorem take_snoc' {l : List Int} {k : Nat} {x : Int} (h : l[k]? = some x) : l.take (k + 1) = l.take k ++ [x] := by rw [List.take_add_one, h]; rfl
def placeV (p : Int × Int) : Value := .tuple #[.int .i64 p.1, .int .i64 p.2]
set_option maxRecDepth 100000 in
set_option maxHeartbeats 1000000 in
theorem where_any {s : ByteArray} {l : List Int} (hs : ch s = l) (hn : l.length ≤ 100000) {m : Nat} (hm : m ≤ l.length) (w : World) : Calls Tryz.prog 36 #[.string s, .int .i64 m] w fun e w' => e = .returned (placeV (adv (1, 1) (l.take m))) ∧ w = w' := by
  have HSZ : Hid (s.size = l.length) := Lib.hid (by rw [← hs, ch_length])
  have HAT : Hid (∀ k x, l[k]? = some x → ∃ hk : k < s.size, ((s[k]'hk).toNat : Int) = x) := Lib.hid (fun k x h => ch_at (by rw [hs]; exact h))
  clear hs
  go_enter Tryz.func36, Tryz.ntmps36
  go_wp2_with fail
  go_loopg [6, 7, 8] (m + 1) (fun g' li co i wr => ∃ (k : Nat), i = .int .i64 k ∧ k ≤ m ∧ m - k + 1 ≤ g' ∧ li = .int .i64 (adv (1, 1) (l.take k)).1 ∧ co = .int .i64 (adv (1, 1) (l.take k)).2 ∧ wr = w)
  case atStart => exact ⟨0, rfl, Nat.zero_le _, by omega, rfl, rfl, rfl⟩
  case round =>
    obtain ⟨k, rfl, hk, hg, rfl, rfl, rfl⟩ := hrel
    by_cases hkn : k < m
    · obtain ⟨x, hx⟩ : ∃ x, l[k]? = some x := ⟨l[k], List.getElem?_eq_getElem (by omega)⟩
      obtain ⟨hks, x0⟩ := HAT.out k x hx
      have hki : (k : Int) < (m : Int) := by omega
      have hks2 : (k : Int) < (s.size : Int) := by omega
      obtain ⟨p1, p2, p3, p4⟩ := adv_bd (l.take k) (1, 1) 1 (by simp) (by simp) (by simp) (by simp)
      rw [List.length_take] at p3 p4
      have HE := Lib.hid ((congrArg (adv (1, 1)) (take_snoc' hx)).trans (adv_append _ _ _))
      generalize adv (1, 1) (l.take k) = p at *
      obtain ⟨p, q⟩ := p
      simp only at p1 p2 p3 p4
      have P3 : p ≤ 1000000 := by omega
      have P4 : q ≤ 1000000 := by omega
      clear hx p3 p4
      by_cases h10 : x = 10
      · subst h10
        go_wp2_with fail
        go_roundg (m - (k + 1) + 1)
        case measure => omega
        case rel => exact ⟨k + 1, by go_num, by omega, Nat.le_refl _, by rw [HE.out]; simp [adv], by rw [HE.out]; simp [adv], rfl⟩
      · have hb : (x == 10) = false := beq_eq_false_iff_ne.2 h10
        have HN := Lib.hid h10
        go_wp2_with fail
        go_roundg (m - (k + 1) + 1)
        case measure => omega
        case rel => exact ⟨k + 1, by go_num, by omega, Nat.le_refl _, by rw [HE.out]; simp [adv, HN.out], by rw [HE.out]; simp [adv, HN.out], rfl⟩
    · obtain rfl : k = m := by omega
      go_wp2_with fail
      go_ret2
      exact ⟨rfl, rfl⟩
end Go.Proofs.YtdncjhffniepbaaGreatDoor.Lx
/- (LxSpan)
  Layer 5, the reference: words and numbers; patterns.
-/
namespace Go.Proofs.YtdncjhffniepbaaGreatDoor.Lx
open Go.RowKit

def pw (w : Bool) : Int → Bool := if w then inWord else digit
def Sp (w : Bool) (l : List Int) (k : Nat) : Prop := spanL w l = k + spanL w (l.drop k)
theorem spanL_cons (w : Bool) (a : Int) (r : List Int) : spanL w (a :: r) = if pw w a then spanL w r + 1 else 0 := by
  unfold spanL pw
  rw [List.takeWhile_cons]
  cases w <;> (simp only [Bool.false_eq_true, if_false, if_true]; split <;> simp)
theorem Sp.more {w : Bool} {l : List Int} {k : Nat} {x : Int} (h : Sp w l k) (hx : l[k]? = some x) (hp : pw w x = true) : Sp w l (k + 1) := by
  unfold Sp at *; rw [drop_at hx, spanL_cons, if_pos hp] at h; omega
theorem Sp.stop {w : Bool} {l : List Int} {k : Nat} {x : Int} (h : Sp w l k) (hx : l[k]? = some x) (hp : pw w x = false) : spanL w l = k := by
  unfold Sp at *; rw [drop_at hx, spanL_cons, if_neg (by simp [hp])] at h; exact h
theorem Sp.over {w : Bool} {l : List Int} (h : Sp w l l.length) : spanL w l = l.length := by
  unfold Sp at h; rw [h, List.drop_length]; rfl

set_option maxRecDepth 100000 in
set_option maxHeartbeats 2000000 in
theorem span_any {s : ByteArray} {l : List Int} (hs : ch s = l) (hn : l.length ≤ 100000) (f : Bool) (w : World) : Calls Tryz.prog 55 #[.string s, .bool f] w fun e w' => e = .returned (.int .i64 (spanL f l)) ∧ w = w' := by
  have HSZ : Hid (s.size = l.length) := Lib.hid (by rw [← hs, ch_length])
  have HAT : Hid (∀ k x, l[k]? = some x → ∃ hk : k < s.size, ((s[k]'hk).toNat : Int) = x) := Lib.hid (fun k x h => ch_at (by rw [hs]; exact h))
  have HD := Lib.hid (fun (x : Int) (W : World) => digit_any x W)
  have HL := Lib.hid (fun (x : Int) (W : World) => letter_any x W)
  clear hs
  go_enter Tryz.func55, Tryz.ntmps55
  go_wp2_with fail
  go_loopg [5] (l.length + 1) (fun g' i wr => ∃ (k : Nat), i = .int .i64 k ∧ k ≤ l.length ∧ l.length - k + 1 ≤ g' ∧ Sp f l k ∧ wr = w)
  case atStart => exact ⟨0, rfl, Nat.zero_le _, by omega, by unfold Sp; simp, rfl⟩
  case round =>
    obtain ⟨k, rfl, hk, hg, hsk, rfl⟩ := hrel
    have SK := Lib.hid hsk
    clear hsk
    by_cases hkn : k < l.length
    · obtain ⟨x, hx⟩ : ∃ x, l[k]? = some x := ⟨l[k], List.getElem?_eq_getElem hkn⟩
      obtain ⟨hks, x0⟩ := HAT.out k x hx
      have hki : (k : Int) < (s.size : Int) := by omega
      have HX := Lib.hid hx
      have HDx := Lib.hid (HD.out x)
      have HLx := Lib.hid (HL.out x)
      clear hx
      cases hd : digit x with
      | true =>
        rw [hd] at HDx
        cases f with
        | true =>
          have S1 := Lib.hid (SK.out.more HX.out (by simp [pw, inWord, hd]))
          go_wp2_with (first | (go_at_call 56; ((with_reducible refine (HDx.out _).mono ?_); rintro e w' ⟨rfl, rfl⟩)) | (go_at_call 54; ((with_reducible refine (HLx.out _).mono ?_); rintro e w' ⟨rfl, rfl⟩)))
          go_roundg (l.length - (k + 1) + 1)
          case measure => omega
          case rel => exact ⟨k + 1, by go_num, by omega, Nat.le_refl _, S1.out, rfl⟩
        | false =>
          have S1 := Lib.hid (SK.out.more HX.out (by simp [pw, hd]))
          go_wp2_with (first | (go_at_call 56; ((with_reducible refine (HDx.out _).mono ?_); rintro e w' ⟨rfl, rfl⟩)) | (go_at_call 54; ((with_reducible refine (HLx.out _).mono ?_); rintro e w' ⟨rfl, rfl⟩)))
          go_roundg (l.length - (k + 1) + 1)
          case measure => omega
          case rel => exact ⟨k + 1, by go_num, by omega, Nat.le_refl _, S1.out, rfl⟩
      | false =>
        rw [hd] at HDx
        cases f with
        | false =>
          have E := Lib.hid (SK.out.stop HX.out (by simp [pw, hd]))
          go_wp2_with (first | (go_at_call 56; ((with_reducible refine (HDx.out _).mono ?_); rintro e w' ⟨rfl, rfl⟩)) | (go_at_call 54; ((with_reducible refine (HLx.out _).mono ?_); rintro e w' ⟨rfl, rfl⟩)))
          go_ret
          exact ⟨ret_i (by rw [E.out]), rfl⟩
        | true =>
          cases hl : letter x with
          | true =>
            rw [hl] at HLx
            have S1 := Lib.hid (SK.out.more HX.out (by simp [pw, inWord, hl]))
            go_wp2_with (first | (go_at_call 56; ((with_reducible refine (HDx.out _).mono ?_); rintro e w' ⟨rfl, rfl⟩)) | (go_at_call 54; ((with_reducible refine (HLx.out _).mono ?_); rintro e w' ⟨rfl, rfl⟩)))
            go_roundg (l.length - (k + 1) + 1)
            case measure => omega
            case rel => exact ⟨k + 1, by go_num, by omega, Nat.le_refl _, S1.out, rfl⟩
          | false =>
            rw [hl] at HLx
            by_cases h45 : x = 45
            · subst h45
              have S1 := Lib.hid (SK.out.more HX.out (by decide))
              go_wp2_with (first | (go_at_call 56; ((with_reducible refine (HDx.out _).mono ?_); rintro e w' ⟨rfl, rfl⟩)) | (go_at_call 54; ((with_reducible refine (HLx.out _).mono ?_); rintro e w' ⟨rfl, rfl⟩)))
              go_roundg (l.length - (k + 1) + 1)
              case measure => omega
              case rel => exact ⟨k + 1, by go_num, by omega, Nat.le_refl _, S1.out, rfl⟩
            · have q45 : (x == 45) = false := beq_eq_false_iff_ne.2 h45
              have HN45 := Lib.hid h45
              clear h45
              have E := Lib.hid (SK.out.stop HX.out (by simp [pw, inWord, hd, hl, HN45.out]))
              go_wp2_with (first | (go_at_call 56; ((with_reducible refine (HDx.out _).mono ?_); rintro e w' ⟨rfl, rfl⟩)) | (go_at_call 54; ((with_reducible refine (HLx.out _).mono ?_); rintro e w' ⟨rfl, rfl⟩)))
              go_ret
              exact ⟨ret_i (by rw [E.out]), rfl⟩
    · obtain rfl : k = l.length := by omega
      have E := Lib.hid SK.out.over
      have hmi : (s.size : Int) ≤ (l.length : Int) := by have := HSZ.out; omega
      go_wp2_with fail
      go_ret
      exact ⟨ret_i (by rw [E.out]), rfl⟩

/-! ### patterns -/
theorem sla_end (r : List Int) : sla (47 :: r) = some ([], 1) := by cases r <;> simp [sla]
theorem sla_low {a : Int} {r : List Int} (h : a < 32) (h47 : a ≠ 47) : sla (a :: r) = none := by
  cases r with
  | nil => simp [sla, h47]
  | cons b r => simp [sla, h47, h]
theorem sla_bs1 : sla [92] = none := by decide
theorem sla_bs2 {b : Int} {r : List Int} (h : b < 32) : sla (92 :: b :: r) = none := by simp [sla, h]
theorem sla_esc {b : Int} {r : List Int} (h : ¬ b < 32) : sla (92 :: b :: r) = (sla r).map fun x => ((if b = 47 then [47] else [92, b]) ++ x.1, x.2 + 2) := by simp [sla, h]
theorem sla_one {a : Int} {r : List Int} (h47 : a ≠ 47) (h32 : ¬ a < 32) (h92 : a ≠ 92) : sla (a :: r) = (sla r).map fun x => ([a] ++ x.1, x.2 + 1) := by
  cases r with
  | nil => simp [sla, h47]
  | cons b r => simp [sla, h47, h32, h92]
theorem lst_two {k : IntKind} (w : World) (x y : Int) (t : TypeId) : Lst k (w.alloc (.cells #[.int k x, .int k y] t)) (.slice (some ⟨w.heap.size, 0, none⟩) 2 2) [x, y] :=
  lst_row [x, y] (heap_alloc_new w _) (by simp)
theorem own_snoc2 {e : TypeId} {k : IntKind} {w : World} {B : Nat} {v : Value} {l : List Int} {x y : Int} (h : Own e k w B v (l ++ [x, y])) : ∃ A c, v = .slice A (l.length + 2) c := by
  obtain ⟨A, c, hv⟩ := h.form
  exact ⟨A, c, by rw [hv, List.length_append]; rfl⟩

set_option maxRecDepth 100000 in
set_option maxHeartbeats 4000000 in
theorem slashed_any {s : ByteArray} {l : List Int} (hs : ch s = l) (hn : l.length ≤ 100000) (w : World) : Calls Tryz.prog 58 #[.string s] w (VPost w (cutV (sla l))) := by
  have HBY : Hid (By l) := Lib.hid (by rw [← hs]; exact ch_By s)
  have HSZ : Hid (s.size = l.length) := Lib.hid (by rw [← hs, ch_length])
  have HAT : Hid (∀ k x, l[k]? = some x → ∃ hk : k < s.size, ((s[k]'hk).toNat : Int) = x) := Lib.hid (fun k x h => ch_at (by rw [hs]; exact h))
  clear hs
  go_enter Tryz.func58, Tryz.ntmps58
  go_wp2_with fail
  go_loopg [4, 5] (l.length + 1) (fun g' ov i wr => ∃ (k : Nat) (out : List Int), i = .int .i64 k ∧ k ≤ l.length ∧ l.length - k + 1 ≤ g' ∧ Own 5 .u8 wr w.heap.size ov out ∧ By out ∧ out.length ≤ k ∧ Below w.heap.size w wr ∧ Rest sla l out k)
  case atStart => exact ⟨0, [], rfl, Nat.zero_le _, by omega, Own.nil _ _ _ _, By.nil, Nat.le_refl _, Below.refl _ _, Rest.start _ _⟩
  case round =>
    obtain ⟨k, out, rfl, hk, hg, hown, hbo, hol, hbel, hrest⟩ := hrel
    obtain ⟨wo, rfl⟩ : ∃ wo : World, wo = wr := ⟨_, rfl⟩
    have O0 := Lib.hid hown
    have BO := Lib.hid hbo
    have BW := Lib.hid hbel
    have HR := Lib.hid hrest
    have hcv := conv_lst hown.lst hbo
    obtain ⟨Ao, co, rfl⟩ := hown.form
    clear hown hbo hbel hrest
    by_cases hkn : k < l.length
    · obtain ⟨x, hx⟩ : ∃ x, l[k]? = some x := ⟨l[k], List.getElem?_eq_getElem hkn⟩
      obtain ⟨hks, x0⟩ := HAT.out k x hx
      have hki : (k : Int) < (s.size : Int) := by omega
      have HXB := Lib.hid (HBY.out x (List.mem_of_getElem? hx))
      have HDR := Lib.hid (drop_at hx)
      clear hx
      by_cases h47 : x = 47
      · subst h47
        have E := Lib.hid (HR.out.done (by rw [HDR.out]; exact sla_end _))
        have hge : ¬ s.size ≤ k := by omega
        go_wp2_with fail
        go_ret2
        exact ⟨ret_t (by rw [E.out]; unfold cutV; simp), BW.out⟩
      have n47 : (x != 47) = true := bne_iff_ne.2 h47
      have HN47 := Lib.hid h47
      clear h47
      by_cases h32 : x < 32
      · have E := Lib.hid (HR.out.none (by rw [HDR.out]; exact sla_low h32 HN47.out))
        clear hcv
        go_wp2_with fail
        go_ret2
        exact ⟨ret_t (by rw [E.out]; rfl), BW.out⟩
      have h32' : 32 ≤ x := by omega
      have HN32 := Lib.hid h32
      clear h32
      by_cases h92 : x = 92
      · subst h92
        clear hcv
        by_cases hk1 : k + 1 < l.length
        · obtain ⟨y, hy⟩ : ∃ y, l[k + 1]? = some y := ⟨l[k + 1], List.getElem?_eq_getElem hk1⟩
          obtain ⟨hks1, y0⟩ := HAT.out (k + 1) y hy
          have hki1 : (k : Int) + 1 < (s.size : Int) := by omega
          have HYB := Lib.hid (HBY.out y (List.mem_of_getElem? hy))
          have HDR2 := Lib.hid (HDR.out.trans (congrArg (92 :: ·) (drop_at hy)))
          clear hy
          by_cases y32 : y < 32
          · have E := Lib.hid (HR.out.none (by rw [HDR2.out]; exact sla_bs2 y32))
            go_wp2_with fail
            go_ret2
            exact ⟨ret_t (by rw [E.out]; rfl), BW.out⟩
          have y32' : 32 ≤ y := by omega
          have HR2 := Lib.hid (HR.out.step (n := 2) (by rw [HDR2.out]; exact sla_esc y32))
          clear y32
          by_cases y47 : y = 47
          · subst y47
            go_wp2_with (at_builtin; refine wpList_app rfl _ _ rfl elByte rfl (O0.out.below (balloc _ _)) rfl (lst_one _ 47 5) (by simp; omega) (by have := BW.out.size; simp; omega) ?_; intro v5 w5 hO hF; obtain ⟨A5, c5, hv5⟩ := own_snoc hO; subst hv5; have O5 := Lib.hid hO; have B5 := Lib.hid ((BW.out.alloc BW.out.size _).trans hF.bel); clear hO hF)
            go_roundg (l.length - (k + 2) + 1)
            case measure => omega
            case rel => exact ⟨k + 2, out ++ [47], by go_num, by omega, Nat.le_refl _, by have := O5.out; simpa using this, BO.out.append (By.one (by omega)), by simp; omega, B5.out, by have := HR2.out; simpa using this⟩
          · have yb : (y == 47) = false := beq_eq_false_iff_ne.2 y47
            have HY47 := Lib.hid y47
            clear y47
            go_wp2_with fail
            have hw2 : IntKind.i64.wrap ((k : Int) + 2) = (k : Int) + 2 := by rw [IntKind.wrap_i64]; omega
            have hw1 : IntKind.i64.wrap ((k : Int) + 1) = (k : Int) + 1 := by rw [IntKind.wrap_i64]; omega
            have hw0 : (0 : Int) ≤ (k : Int) + 1 := by omega
            have hwt : ((k : Int) + 1).toNat = k + 1 := by omega
            go_region_law (refine step_app rfl (.tmp 71) (.tmp 79) rfl elByte (B := w.heap.size) rfl (O0.out.below (balloc wo (.cells #[.int .u8 92, .int .u8 y] 5)).drew) rfl ((lst_two wo 92 y 5).below (Below.refl _ _).drew) ?h1 ?h2 ?_; (case h1 => (simp; omega)); (case h2 => (have := BW.out.size; simp; omega)); intro v5 w5 hO hF; obtain ⟨A5, c5, hv5⟩ := own_snoc2 hO; subst hv5; have O5 := Lib.hid hO; have B5 := Lib.hid ((BW.out.alloc BW.out.size (.cells #[.int .u8 92, .int .u8 y] 5)).drew.trans hF.bel); clear hO hF)
            all_goals
              clear hw2 hw1 hw0 hwt
              go_wp2_with fail
              go_roundg (l.length - (k + 2) + 1)
              case measure => omega
              case rel => exact ⟨k + 2, out ++ [92, y], by go_num, by omega, Nat.le_refl _, by have := O5.out; simpa using this, BO.out.append (fun z hz => by have := HYB.out; simp at hz; omega), by simp; omega, B5.out, by have := HR2.out; rw [if_neg HY47.out] at this; exact this⟩
        · have hk2 : (s.size : Int) ≤ (k : Int) + 1 := by have := HSZ.out; omega
          have E := Lib.hid (HR.out.none (by rw [HDR.out, List.drop_of_length_le (by omega)]; exact sla_bs1))
          go_wp2_with fail
          go_ret2
          exact ⟨ret_t (by rw [E.out]; rfl), BW.out⟩
      · have b92 : (x == 92) = false := beq_eq_false_iff_ne.2 h92
        have HR2 := Lib.hid (HR.out.step (n := 1) (by rw [HDR.out]; exact sla_one HN47.out HN32.out h92))
        clear hcv h92
        go_wp2_with (at_builtin; refine wpList_app rfl _ _ rfl elByte rfl (O0.out.below (balloc _ _)) rfl (lst_one _ x 5) (by simp; omega) (by have := BW.out.size; simp; omega) ?_; intro v5 w5 hO hF; obtain ⟨A5, c5, hv5⟩ := own_snoc hO; subst hv5; have O5 := Lib.hid hO; have B5 := Lib.hid ((BW.out.alloc BW.out.size _).trans hF.bel); clear hO hF)
        go_roundg (l.length - (k + 1) + 1)
        case measure => omega
        case rel => exact ⟨k + 1, out ++ [x], by go_num, by omega, Nat.le_refl _, by have := O5.out; simpa using this, BO.out.append (By.one HXB.out), by simp; omega, B5.out, HR2.out⟩
    · obtain rfl : k = l.length := by omega
      have E := Lib.hid (HR.out.none (by rw [List.drop_length]; rfl))
      have hki2 : decide ((l.length : Int) < (s.size : Int)) = false := decide_eq_false (by have := HSZ.out; omega)
      have hki3 : (s.size : Int) ≤ (l.length : Int) := by have := HSZ.out; omega
      clear hcv
      go_wp2_with fail
      go_ret2
      exact ⟨ret_t (by rw [E.out]; rfl), BW.out⟩
end Go.Proofs.YtdncjhffniepbaaGreatDoor.Lx
/- (LxOne)
  Layer 5, the reference: one token.
-/
namespace Go.Proofs.YtdncjhffniepbaaGreatDoor.Lx
open Go.RowKit

def oneV (o : One) : Value := match o with
  | .tok k t n => .tuple #[.int .i64 k, .string (bytesOf t), .int .i64 n, .int .i64 0]
  | .bad c => .tuple #[.int .i64 0, .string ⟨#[]⟩, .int .i64 0, .int .i64 c]
theorem one_letter {a : Int} {r : List Int} (h : letter a = true) : one (a :: r) = .tok 1 ((a :: r).take (spanL true (a :: r))) (spanL true (a :: r)) := by simp [one, h]
theorem one_digit {a : Int} {r : List Int} (h : letter a = false) (k : digit a = true) : one (a :: r) = if 18 < spanL false (a :: r) ∨ 1 < spanL false (a :: r) ∧ a = 48 then .bad 53 else .tok 2 ((a :: r).take (spanL false (a :: r))) (spanL false (a :: r)) := by simp [one, h, k]
theorem one_str {r : List Int} : one (34 :: r) = match quo r with | none => .bad 51 | some x => .tok 3 x.1 (x.2 + 1) := by simp [one, letter, digit] <;> (cases quo r <;> rfl)
theorem one_pat {r : List Int} : one (47 :: r) = match sla r with | none => .bad 52 | some x => .tok 4 x.1 (x.2 + 1) := by simp [one, letter, digit] <;> (cases sla r <;> rfl)
theorem one_sign {a : Int} {r : List Int} (h : a = 123 ∨ a = 125 ∨ a = 44 ∨ a = 61) : one (a :: r) = .tok 5 [a] 1 := by
  rcases h with rfl | rfl | rfl | rfl <;> simp [one, letter, digit]
theorem one_char {a : Int} {r : List Int} (h : letter a = false) (k : digit a = false) (h1 : a ≠ 34) (h2 : a ≠ 47) (h3 : ¬ (a = 123 ∨ a = 125 ∨ a = 44 ∨ a = 61)) : one (a :: r) = .bad 50 := by
  simp only [one, h, k, if_neg h1, if_neg h2, if_neg h3, Bool.false_eq_true, if_false]
theorem take_str {s : ByteArray} {l : List Int} (hs : ch s = l) (n : Nat) : Value.string (s.extract 0 n) = .string (bytesOf (l.take n)) := by
  rw [← hs, ← ch_take, bytesOf_ch]
theorem sla_len : ∀ (l : List Int) {t : List Int} {n : Nat}, sla l = some (t, n) → 1 ≤ n ∧ n ≤ l.length
  | [], t, n, h => by simp [sla] at h
  | [a], t, n, h => by
    unfold sla at h; split at h
    · simp at h; simp; omega
    · simp at h
  | a :: b :: r, t, n, h => by
    unfold sla at h
    split at h
    · simp at h; simp; omega
    split at h
    · simp at h
    split at h
    · split at h
      · simp at h
      · obtain ⟨⟨t2, n2⟩, h2, h3⟩ := Option.map_eq_some_iff.1 h
        have := sla_len r h2
        simp at h3 ⊢; omega
    · obtain ⟨⟨t2, n2⟩, h2, h3⟩ := Option.map_eq_some_iff.1 h
      have := sla_len (b :: r) h2
      simp at h3 this ⊢; omega
theorem quoF_len : ∀ (f : Nat) (l : List Int) {t : List Int} {n : Nat}, quoF f l = some (t, n) → 1 ≤ n ∧ n ≤ l.length
  | 0, _, _, _, h => by simp [quoF] at h
  | _ + 1, [], _, _, h => by simp [quoF] at h
  | f + 1, a :: r, t, n, h => by
    rw [quoF.eq_3] at h
    split at h
    · simp at h; simp; omega
    · cases hp : part (a :: r) with
      | none => rw [hp] at h; simp at h
      | some bn =>
        obtain ⟨b, m⟩ := bn
        rw [hp] at h
        have hm := part_len hp
        cases hq : quoF f ((a :: r).drop m) with
        | none => simp only [hq] at h; simp at h
        | some x =>
          obtain ⟨t2, n2⟩ := x
          simp only [hq] at h
          have := quoF_len f _ hq
          rw [List.length_drop] at this
          simp at h; omega
theorem quo_len {l t : List Int} {n : Nat} (h : quo l = some (t, n)) : 1 ≤ n ∧ n ≤ l.length := quoF_len _ _ h

set_option maxRecDepth 100000 in
set_option maxHeartbeats 4000000 in
theorem one_any {s : ByteArray} {a : Int} {r : List Int} (hs : ch s = a :: r) (hn : (a :: r).length ≤ 100000) (w : World) : Calls Tryz.prog 37 #[.string s] w (VPost w (oneV (one (a :: r)))) := by
  have hsz : s.size = (a :: r).length := by rw [← hs, ch_length]
  obtain ⟨h0, x0⟩ := ch_at (s := s) (k := 0) (x := a) (by rw [hs]; rfl)
  have hdr : ch (s.extract 1 s.size) = r := by rw [ch_drop, hs]; rfl
  have HL := Lib.hid (fun W => letter_any a W)
  have HD := Lib.hid (fun W => digit_any a W)
  have HS1 := Lib.hid (fun W => span_any hs hn true W)
  have HS2 := Lib.hid (fun W => span_any hs hn false W)
  have HT := Lib.hid (fun n => take_str hs n)
  have l1 := spanL_le true (a :: r)
  have l2 := spanL_le false (a :: r)
  have HQ := Lib.hid (fun W => quoted_any hdr (by simp at hn; omega) W)
  have HP := Lib.hid (fun W => slashed_any hdr (by simp at hn; omega) W)
  unfold VPost at HQ HP
  have i1 : (1 : Int) ≤ (s.size : Int) := by omega
  have hrl : r.length ≤ 100000 := by simp at hn; omega
  clear hs hdr hn
  cases hl : letter a with
  | true =>
    rw [one_letter hl]
    rw [hl] at HL
    generalize spanL true (a :: r) = n at *
    have hns : (n : Int) ≤ (s.size : Int) := by omega
    clear hsz hl l2 HS2
    go_enter Tryz.func37, Tryz.ntmps37
    go_wp2_with (first | (go_at_call 54; ((with_reducible refine (HL.out _).mono ?_); rintro e w' ⟨rfl, rfl⟩)) | (go_at_call 55; ((with_reducible refine (HS1.out _).mono ?_); rintro e w' ⟨rfl, rfl⟩)))
    go_quiet (fail)
    go_wp2_with fail
    refine bodyPost_ret (v := .tuple #[.int .i64 1, .string (s.extract 0 n), .int .i64 n, .int .i64 0]) (by simp [results, Tryz.results37, go_sem]) rfl ?_
    exact ⟨ret_t (by unfold oneV; rw [HT.out]), below_drewN _ _⟩
  | false =>
    rw [hl] at HL
    cases hd : digit a with
    | true =>
      rw [one_digit hl hd]
      rw [hd] at HD
      generalize spanL false (a :: r) = n at *
      have hns : (n : Int) ≤ (s.size : Int) := by omega
      clear hsz hl hd l1 HS1
      by_cases h18 : 18 < n
      · rw [if_pos (.inl h18)]
        have h18' : (18 : Int) < (n : Int) := by omega
        clear h18
        go_enter Tryz.func37, Tryz.ntmps37
        go_wp2_with (first | (first | (go_at_call 54; ((with_reducible refine (HL.out _).mono ?_); rintro e w' ⟨rfl, rfl⟩)) | (go_at_call 56; ((with_reducible refine (HD.out _).mono ?_); rintro e w' ⟨rfl, rfl⟩))) | (go_at_call 55; ((with_reducible refine (HS2.out _).mono ?_); rintro e w' ⟨rfl, rfl⟩)))
        refine bodyPost_ret (v := .tuple #[.int .i64 0, .string ⟨#[]⟩, .int .i64 0, .int .i64 53]) (by simp [results, Tryz.results37, go_sem]) rfl ?_
        exact ⟨rfl, Below.refl _ _⟩
      · have h18' : (n : Int) ≤ 18 := by omega
        by_cases h1 : 1 < n
        · have h1' : (1 : Int) < (n : Int) := by omega
          by_cases h48 : a = 48
          · rw [if_pos (.inr ⟨h1, h48⟩)]
            subst h48
            clear h18 h1
            go_enter Tryz.func37, Tryz.ntmps37
            go_wp2_with (first | (first | (go_at_call 54; ((with_reducible refine (HL.out _).mono ?_); rintro e w' ⟨rfl, rfl⟩)) | (go_at_call 56; ((with_reducible refine (HD.out _).mono ?_); rintro e w' ⟨rfl, rfl⟩))) | (go_at_call 55; ((with_reducible refine (HS2.out _).mono ?_); rintro e w' ⟨rfl, rfl⟩)))
            refine bodyPost_ret (v := .tuple #[.int .i64 0, .string ⟨#[]⟩, .int .i64 0, .int .i64 53]) (by simp [results, Tryz.results37, go_sem]) rfl ?_
            exact ⟨rfl, Below.refl _ _⟩
          · rw [if_neg (by omega)]
            have hq : (a == 48) = false := beq_eq_false_iff_ne.2 h48
            clear h18 h1 h48
            go_enter Tryz.func37, Tryz.ntmps37
            go_wp2_with (first | (first | (go_at_call 54; ((with_reducible refine (HL.out _).mono ?_); rintro e w' ⟨rfl, rfl⟩)) | (go_at_call 56; ((with_reducible refine (HD.out _).mono ?_); rintro e w' ⟨rfl, rfl⟩))) | (go_at_call 55; ((with_reducible refine (HS2.out _).mono ?_); rintro e w' ⟨rfl, rfl⟩)))
            go_quiet (fail)
            go_wp2_with fail
            refine bodyPost_ret (v := .tuple #[.int .i64 2, .string (s.extract 0 n), .int .i64 n, .int .i64 0]) (by simp [results, Tryz.results37, go_sem]) rfl ?_
            exact ⟨ret_t (by unfold oneV; rw [HT.out]), below_drewN _ _⟩
        · rw [if_neg (by omega)]
          have h1' : (n : Int) ≤ 1 := by omega
          clear h18 h1
          go_enter Tryz.func37, Tryz.ntmps37
          go_wp2_with (first | (first | (go_at_call 54; ((with_reducible refine (HL.out _).mono ?_); rintro e w' ⟨rfl, rfl⟩)) | (go_at_call 56; ((with_reducible refine (HD.out _).mono ?_); rintro e w' ⟨rfl, rfl⟩))) | (go_at_call 55; ((with_reducible refine (HS2.out _).mono ?_); rintro e w' ⟨rfl, rfl⟩)))
          go_quiet (fail)
          go_wp2_with fail
          refine bodyPost_ret (v := .tuple #[.int .i64 2, .string (s.extract 0 n), .int .i64 n, .int .i64 0]) (by simp [results, Tryz.results37, go_sem]) rfl ?_
          exact ⟨ret_t (by unfold oneV; rw [HT.out]), below_drewN _ _⟩
    | false =>
      rw [hd] at HD
      clear HS1 HS2 l1 l2 hsz
      by_cases h34 : a = 34
      · subst h34
        rw [one_str]
        cases hq : quo r with
        | none =>
          simp only [hq, cutV] at HQ
          clear hl hd
          go_enter Tryz.func37, Tryz.ntmps37
          go_wp2_with (first | (first | (go_at_call 54; ((with_reducible refine (HL.out _).mono ?_); rintro e w' ⟨rfl, rfl⟩)) | (go_at_call 56; ((with_reducible refine (HD.out _).mono ?_); rintro e w' ⟨rfl, rfl⟩))) | (go_at_call 57; ((with_reducible refine (HQ.out _).mono ?_); rintro e w2 ⟨rfl, hb⟩; have B2 := Lib.hid hb; clear hb)))
          refine bodyPost_ret (v := .tuple #[.int .i64 0, .string ⟨#[]⟩, .int .i64 0, .int .i64 51]) (by simp [results, Tryz.results37, go_sem]) rfl ?_
          exact ⟨rfl, B2.out⟩
        | some x =>
          obtain ⟨t, n⟩ := x
          simp only [hq, cutV] at HQ
          have hx := quo_len hq
          have hx0 : (0 : Int) ≤ (n : Int) := by omega
          clear hl hd hq
          go_enter Tryz.func37, Tryz.ntmps37
          go_wp2_with (first | (first | (go_at_call 54; ((with_reducible refine (HL.out _).mono ?_); rintro e w' ⟨rfl, rfl⟩)) | (go_at_call 56; ((with_reducible refine (HD.out _).mono ?_); rintro e w' ⟨rfl, rfl⟩))) | (go_at_call 57; ((with_reducible refine (HQ.out _).mono ?_); rintro e w2 ⟨rfl, hb⟩; have B2 := Lib.hid hb; clear hb)))
          refine bodyPost_ret (v := .tuple #[.int .i64 3, .string (bytesOf t), .int .i64 ((n : Int) + 1), .int .i64 0]) (by simp [results, Tryz.results37, go_sem]) rfl ?_
          exact ⟨ret_t (by unfold oneV; simp), B2.out⟩
      have n34 : (a == 34) = false := beq_eq_false_iff_ne.2 h34
      by_cases h47 : a = 47
      · subst h47
        rw [one_pat]
        cases hq : sla r with
        | none =>
          simp only [hq, cutV] at HP
          clear hl hd
          go_enter Tryz.func37, Tryz.ntmps37
          go_wp2_with (first | (first | (go_at_call 54; ((with_reducible refine (HL.out _).mono ?_); rintro e w' ⟨rfl, rfl⟩)) | (go_at_call 56; ((with_reducible refine (HD.out _).mono ?_); rintro e w' ⟨rfl, rfl⟩))) | (go_at_call 58; ((with_reducible refine (HP.out _).mono ?_); rintro e w2 ⟨rfl, hb⟩; have B2 := Lib.hid hb; clear hb)))
          refine bodyPost_ret (v := .tuple #[.int .i64 0, .string ⟨#[]⟩, .int .i64 0, .int .i64 52]) (by simp [results, Tryz.results37, go_sem]) rfl ?_
          exact ⟨rfl, B2.out⟩
        | some x =>
          obtain ⟨t, n⟩ := x
          simp only [hq, cutV] at HP
          have hx := sla_len _ hq
          have hx0 : (0 : Int) ≤ (n : Int) := by omega
          clear hl hd hq
          go_enter Tryz.func37, Tryz.ntmps37
          go_wp2_with (first | (first | (go_at_call 54; ((with_reducible refine (HL.out _).mono ?_); rintro e w' ⟨rfl, rfl⟩)) | (go_at_call 56; ((with_reducible refine (HD.out _).mono ?_); rintro e w' ⟨rfl, rfl⟩))) | (go_at_call 58; ((with_reducible refine (HP.out _).mono ?_); rintro e w2 ⟨rfl, hb⟩; have B2 := Lib.hid hb; clear hb)))
          refine bodyPost_ret (v := .tuple #[.int .i64 4, .string (bytesOf t), .int .i64 ((n : Int) + 1), .int .i64 0]) (by simp [results, Tryz.results37, go_sem]) rfl ?_
          exact ⟨ret_t (by unfold oneV; simp), B2.out⟩
      have n47 : (a == 47) = false := beq_eq_false_iff_ne.2 h47
      by_cases hsg : a = 123 ∨ a = 125 ∨ a = 44 ∨ a = 61
      · rw [one_sign hsg]
        have hT1 := HT.out 1
        rw [List.take_succ_cons, List.take_zero] at hT1
        have HT1 := Lib.hid hT1
        clear hT1 hl hd h34 h47
        rcases hsg with rfl | rfl | rfl | rfl
        · go_enter Tryz.func37, Tryz.ntmps37
          go_wp2_with (first | (go_at_call 54; ((with_reducible refine (HL.out _).mono ?_); rintro e w' ⟨rfl, rfl⟩)) | (go_at_call 56; ((with_reducible refine (HD.out _).mono ?_); rintro e w' ⟨rfl, rfl⟩)))
          go_quiet (fail)
          go_wp2_with fail
          refine bodyPost_ret (v := .tuple #[.int .i64 5, .string (s.extract 0 1), .int .i64 1, .int .i64 0]) (by simp [results, Tryz.results37, go_sem]) rfl ?_
          exact ⟨ret_t (by unfold oneV; rw [HT1.out]; simp), below_drewN _ _⟩
        · go_enter Tryz.func37, Tryz.ntmps37
          go_wp2_with (first | (go_at_call 54; ((with_reducible refine (HL.out _).mono ?_); rintro e w' ⟨rfl, rfl⟩)) | (go_at_call 56; ((with_reducible refine (HD.out _).mono ?_); rintro e w' ⟨rfl, rfl⟩)))
          go_quiet (fail)
          go_wp2_with fail
          refine bodyPost_ret (v := .tuple #[.int .i64 5, .string (s.extract 0 1), .int .i64 1, .int .i64 0]) (by simp [results, Tryz.results37, go_sem]) rfl ?_
          exact ⟨ret_t (by unfold oneV; rw [HT1.out]; simp), below_drewN _ _⟩
        · go_enter Tryz.func37, Tryz.ntmps37
          go_wp2_with (first | (go_at_call 54; ((with_reducible refine (HL.out _).mono ?_); rintro e w' ⟨rfl, rfl⟩)) | (go_at_call 56; ((with_reducible refine (HD.out _).mono ?_); rintro e w' ⟨rfl, rfl⟩)))
          go_quiet (fail)
          go_wp2_with fail
          refine bodyPost_ret (v := .tuple #[.int .i64 5, .string (s.extract 0 1), .int .i64 1, .int .i64 0]) (by simp [results, Tryz.results37, go_sem]) rfl ?_
          exact ⟨ret_t (by unfold oneV; rw [HT1.out]; simp), below_drewN _ _⟩
        · go_enter Tryz.func37, Tryz.ntmps37
          go_wp2_with (first | (go_at_call 54; ((with_reducible refine (HL.out _).mono ?_); rintro e w' ⟨rfl, rfl⟩)) | (go_at_call 56; ((with_reducible refine (HD.out _).mono ?_); rintro e w' ⟨rfl, rfl⟩)))
          go_quiet (fail)
          go_wp2_with fail
          refine bodyPost_ret (v := .tuple #[.int .i64 5, .string (s.extract 0 1), .int .i64 1, .int .i64 0]) (by simp [results, Tryz.results37, go_sem]) rfl ?_
          exact ⟨ret_t (by unfold oneV; rw [HT1.out]; simp), below_drewN _ _⟩
      · rw [one_char hl hd h34 h47 hsg]
        have q1 : (a == 123) = false := beq_eq_false_iff_ne.2 (by omega)
        have q2 : (a == 125) = false := beq_eq_false_iff_ne.2 (by omega)
        have q3 : (a == 44) = false := beq_eq_false_iff_ne.2 (by omega)
        have q4 : (a == 61) = false := beq_eq_false_iff_ne.2 (by omega)
        clear hl hd h34 h47 hsg
        go_enter Tryz.func37, Tryz.ntmps37
        go_wp2_with (first | (go_at_call 54; ((with_reducible refine (HL.out _).mono ?_); rintro e w' ⟨rfl, rfl⟩)) | (go_at_call 56; ((with_reducible refine (HD.out _).mono ?_); rintro e w' ⟨rfl, rfl⟩)))
        refine bodyPost_ret (v := .tuple #[.int .i64 0, .string ⟨#[]⟩, .int .i64 0, .int .i64 50]) (by simp [results, Tryz.results37, go_sem]) rfl ?_
        exact ⟨rfl, Below.refl _ _⟩
end Go.Proofs.YtdncjhffniepbaaGreatDoor.Lx
/- (LxTok)
  Layer 5: tokens, as mathematics and in memory.
-/
namespace Go.Proofs.YtdncjhffniepbaaGreatDoor.Lx
open Go.RowKit

structure Tok where
  kind : Int
  text : List Int
  line : Int
  col : Int
/-- A fault: its code, its place. -/
abbrev Flt := Int × Int × Int
/-- The tokens from here on, where c have been read. -/
def lexC : Nat → Nat → List Int → Int × Int → Except Flt (List Tok)
  | 0, _, _, _ => .error (0, 0, 0)
  | f + 1, c, l, p =>
    if (l.drop (skip l)).length = 0 then .ok [⟨6, [], (adv p (l.take (skip l))).1, (adv p (l.take (skip l))).2⟩] else
    match one (l.drop (skip l)) with
    | .bad e => .error (e, adv p (l.take (skip l)))
    | .tok k t n => if 2000 ≤ c then .error (1, adv p (l.take (skip l))) else
      (lexC f (c + 1) (l.drop (skip l + n)) (adv p (l.take (skip l + n)))).map fun r => ⟨k, t, (adv p (l.take (skip l))).1, (adv p (l.take (skip l))).2⟩ :: r
def all (l : List Int) : Except Flt (List Tok) := if 8192 < l.length then .error (1, 0, 0) else lexC (l.length + 1) 0 l (1, 1)
def allT (l : List Int) : List Tok := match all l with | .ok ts => ts | .error _ => []
def allF (l : List Int) : Flt := match all l with | .ok _ => (0, 0, 0) | .error f => f

theorem spanL_pos {w : Bool} {a : Int} {r : List Int} (h : pw w a = true) : 1 ≤ spanL w (a :: r) := by rw [spanL_cons, if_pos h]; omega
theorem one_len {l : List Int} {k : Int} {t : List Int} {n : Nat} (h : one l = .tok k t n) : 1 ≤ n ∧ n ≤ l.length := by
  match l, h with
  | [], h => simp [one] at h
  | a :: r, h =>
    cases hl : letter a with
    | true =>
      rw [one_letter hl] at h
      simp only [One.tok.injEq] at h
      rw [← h.2.2]
      exact ⟨spanL_pos (by simp [pw, inWord, hl]), spanL_le _ _⟩
    | false =>
      cases hd : digit a with
      | true =>
        rw [one_digit hl hd] at h
        split at h
        · simp at h
        · simp only [One.tok.injEq] at h
          rw [← h.2.2]
          exact ⟨spanL_pos (by simp [pw, hd]), spanL_le _ _⟩
      | false =>
        by_cases h34 : a = 34
        · subst h34
          rw [one_str] at h
          cases hq : quo r with
          | none => rw [hq] at h; simp at h
          | some x =>
            obtain ⟨t2, n2⟩ := x
            rw [hq] at h
            have := quo_len hq
            simp at h ⊢; omega
        by_cases h47 : a = 47
        · subst h47
          rw [one_pat] at h
          cases hq : sla r with
          | none => rw [hq] at h; simp at h
          | some x =>
            obtain ⟨t2, n2⟩ := x
            rw [hq] at h
            have := sla_len _ hq
            simp at h ⊢; omega
        by_cases hs : a = 123 ∨ a = 125 ∨ a = 44 ∨ a = 61
        · rw [one_sign hs] at h
          simp at h ⊢; omega
        · rw [one_char hl hd h34 h47 hs] at h; simp at h

/-! ### in memory -/
def Tok.cells (t : Tok) : List Value := [.int .i64 t.kind, .string (bytesOf t.text), .int .i64 t.line, .int .i64 t.col]
def flatT : List Tok → List Value
  | [] => []
  | t :: r => t.cells ++ flatT r
theorem flatT_append (a b : List Tok) : flatT (a ++ b) = flatT a ++ flatT b := by
  induction a with
  | nil => rfl
  | cons t r ih => simp [flatT, ih]
theorem flatT_length (a : List Tok) : (flatT a).length = a.length * 4 := by
  induction a with
  | nil => rfl
  | cons t r ih => simp [flatT, ih, Tok.cells]; omega
theorem flatT_at : ∀ (a : List Tok) (k : Nat) (t : Tok) (j : Nat) (u : Value), a[k]? = some t → t.cells[j]? = some u → (flatT a)[k * 4 + j]? = some u
  | [], k, t, j, u, h, _ => by simp at h
  | x :: r, 0, t, j, u, h, hu => by
    simp at h; subst h
    have hj : j < x.cells.length := (List.getElem?_eq_some_iff.1 hu).1
    simp only [flatT, Nat.zero_mul, Nat.zero_add]
    rw [List.getElem?_append_left hj]; exact hu
  | x :: r, k + 1, t, j, u, h, hu => by
    simp at h
    have := flatT_at r k t j u h hu
    simp only [flatT]
    rw [List.getElem?_append_right (by simp [Tok.cells]; omega)]
    rw [← this]; congr 1; simp [Tok.cells]; omega
theorem Tryz.info38 : (Tryz.prog.info? 38).map (fun i => (i.zero, i.size, i.bytes)) = some (some (.agg #[.int .i64 0, .string ⟨#[]⟩, .int .i64 0, .int .i64 0]), 4, 40) := by kernel_rfl

/-- Tokens that are read. -/
def TokAt (w : World) (A : Option Addr) (ts : List Tok) : Prop :=
  0 < ts.length → ∃ g off, A = some ⟨g, off, none⟩ ∧ ∀ k t, ts[k]? = some t →
    w.cell? ⟨g, off + k * 4, none⟩ = some (.int .i64 t.kind) ∧ w.cell? ⟨g, off + k * 4 + 1, none⟩ = some (.string (bytesOf t.text)) ∧ w.cell? ⟨g, off + k * 4 + 2, none⟩ = some (.int .i64 t.line) ∧ w.cell? ⟨g, off + k * 4 + 3, none⟩ = some (.int .i64 t.col)
theorem TokAt.below {w w' : World} {A : Option Addr} {ts : List Tok} (h : TokAt w A ts) (hb : Below w.heap.size w w') : TokAt w' A ts := fun hn => by
  obtain ⟨g, off, hA, hc⟩ := h hn
  refine ⟨g, off, hA, fun k t ht => ?_⟩
  obtain ⟨a, b, c, d⟩ := hc k t ht
  exact ⟨(hb.cell (World.block_lt_of_cell? w _ a)).trans a, (hb.cell (World.block_lt_of_cell? w _ b)).trans b, (hb.cell (World.block_lt_of_cell? w _ c)).trans c, (hb.cell (World.block_lt_of_cell? w _ d)).trans d⟩
def TLst (w : World) (v : Value) (ts : List Tok) : Prop := ∃ A c, v = .slice A ts.length c ∧ TokAt w A ts ∧ (A = none → c = 0) ∧ ts.length ≤ c ∧ c ≤ maxLen
theorem TLst.below {w w' : World} {v : Value} {ts : List Tok} (h : TLst w v ts) (hb : Below w.heap.size w w') : TLst w' v ts := by
  obtain ⟨A, c, h1, h2, h3⟩ := h; exact ⟨A, c, h1, h2.below hb, h3⟩
theorem TLst.nil (w : World) : TLst w (.slice none 0 0) [] := ⟨none, 0, rfl, fun h => by simp at h, fun _ => rfl, Nat.le_refl _, Nat.zero_le _⟩
/-- Tokens of the call's own. -/
def TOwn (w : World) (B : Nat) (v : Value) (ts : List Tok) : Prop := w.ownsRow B 38 4 v ts.length (flatT ts)
theorem TOwn.nil (w : World) (B : Nat) : TOwn w B (.slice none 0 0) [] := World.ownsRow_nil w B _ 4
theorem TOwn.below {w w' : World} {B : Nat} {v : Value} {ts : List Tok} (h : TOwn w B v ts) (hb : Below w.heap.size w w') : TOwn w' B v ts := by
  refine ⟨h.1, ?_⟩
  rcases h.2 with h | ⟨g, cap, cur, h1, h2, h3, h4⟩
  · exact .inl h
  · exact .inr ⟨g, cap, cur, h1, h2, (hb.block g (heap_lt h3)).trans h3, h4⟩
theorem TOwn.block {w : World} {B : Nat} {v : Value} {ts : List Tok} (h : TOwn w B v ts) : ∀ g, v.ownBlock = some g → B ≤ g ∧ ∀ cs t f, w.heap[g]? = some (.cells cs t f) → t = 38 := by
  intro g hg
  rcases h.2 with ⟨h1, _⟩ | ⟨g', cap, cur, h1, h2, h3, h4⟩
  · rw [h1] at hg; simp [Value.ownBlock] at hg
  · rw [h1] at hg; simp [Value.ownBlock] at hg; subst hg
    exact ⟨h2, fun cs t f hc => by rw [h3] at hc; injection hc with hc; injection hc with _ e2; exact e2.symm⟩
theorem TOwn.lst {w : World} {B : Nat} {v : Value} {ts : List Tok} (h : TOwn w B v ts) : TLst w v ts := by
  rcases h.2 with ⟨h1, h0⟩ | ⟨g, cap, cur, h1, h2, h3, hle, hm, _, ht⟩
  · have : ts = [] := List.eq_nil_of_length_eq_zero h0
    subst this
    rw [h1]; exact TLst.nil w
  · refine ⟨_, cap, h1, fun hn => ⟨g, 0, rfl, fun k t hk => ?_⟩, fun e => by simp at e, hle, hm⟩
    have hkl : k < ts.length := (List.getElem?_eq_some_iff.1 hk).1
    have key : ∀ j u, t.cells[j]? = some u → w.cell? ⟨g, 0 + k * 4 + j, none⟩ = some u := by
      intro j u hu
      have e := flatT_at ts k t j u hk hu
      have hj : j < 4 := by have := (List.getElem?_eq_some_iff.1 hu).1; simpa [Tok.cells] using this
      rw [cell_of_row w g _ cur _ _ h3, Nat.zero_add]
      rw [← ht, List.getElem?_take, if_pos (by omega)] at e
      simpa using e
    exact ⟨by have := key 0 _ rfl; simpa using this, key 1 _ rfl, key 2 _ rfl, key 3 _ rfl⟩
theorem TOwn.form {w : World} {B : Nat} {v : Value} {ts : List Tok} (h : TOwn w B v ts) : ∃ A c, v = .slice A ts.length c := by
  obtain ⟨A, c, hv, _⟩ := h.lst; exact ⟨A, c, hv⟩
theorem TOwn.fr {e : TypeId} {w w' : World} {B B' : Nat} {v : Value} {ts : List Tok} (h : TOwn w B v ts) (hf : Fr e B' w w') (hne : 38 ≠ e) : TOwn w' B v ts := by
  refine ⟨h.1, ?_⟩
  rcases h.2 with h | ⟨g, cap, cur, h1, h2, h3, h4⟩
  · exact .inl h
  · exact .inr ⟨g, cap, cur, h1, h2, hf.keep g _ _ _ h3 hne, h4⟩
/-- One token more. -/
theorem run_app_tok {w : World} {B : Nat} {v : Value} {ts : List Tok} (t : Tok) (h : TOwn w B v ts) (g c : Nat) (hg : w.heap[g]? = some (.cells t.cells.toArray 38 (0, 0))) (hl : ts.length ≤ 100000) (hB : B ≤ w.heap.size) (ty : TypeId) :
    ∃ v' w', (Builtin.append_ #[29, 29] ty #[v, .slice (some ⟨g, 0, none⟩) 1 c]).run Tryz.prog w = .ok v' w' ∧ TOwn w' B v' (ts ++ [t]) ∧ Fr 38 B w w' := by
  obtain ⟨i, hi, hz, h1, hb⟩ := info_parts Tryz.info38
  have hnews : ∀ j u, t.cells[j]? = some u → w.cell? ((⟨g, 0, none⟩ : Addr).add j) = some u := by
    intro j u hu
    rw [Addr.add_lit, cell_of_row w g _ _ _ _ hg, Nat.zero_add]
    simpa using hu
  obtain ⟨v', w', hrun, h2, h3, _⟩ := run_append_own (P := Tryz.prog) w B 29 ty 38 i (.agg #[.int .i64 0, .string ⟨#[]⟩, .int .i64 0, .int .i64 0]) 4 40 Tryz.underlying29 hi hz h1 hb rfl (by decide) v ts.length (flatT ts) h ⟨g, 0, none⟩ 1 c t.cells rfl hnews
    (fun u hu => by simp [Tok.cells] at hu; rcases hu with rfl | rfl | rfl | rfl <;> rfl) (by unfold maxLen; omega) (by omega) hB
  refine ⟨v', w', hrun, ?_, Fr.of_grown h3 hB h.block⟩
  unfold TOwn
  rw [List.length_append, flatT_append]
  simpa [flatT] using h2
theorem wpList_app_tok {w : World} {ops : Array Oper} {rest : List Oper} {o : Oper} {a : Act} {Q : Exit → Act → World → Prop} (hgd : o.guard = none) (s y : Operand)
    (ho : o.op = .call { callee := .builtin .append, args := #[s, y], argTypes := #[29, 29] })
    {B : Nat} {v : Value} {ts : List Tok} (t : Tok) (hs : a.eval s = v) (h : TOwn w B v ts) (g c : Nat) (hy : a.eval y = .slice (some ⟨g, 0, none⟩) 1 c) (hg : w.heap[g]? = some (.cells t.cells.toArray 38 (0, 0))) (hl : ts.length ≤ 100000) (hB : B ≤ w.heap.size)
    (hK : ∀ v' w', TOwn w' B v' (ts ++ [t]) → Fr 38 B w w' → wpList Tryz.prog ops Q rest (a.put o.dst v') w') : wpList Tryz.prog ops Q (o :: rest) a w := by
  refine wpList_plain hgd fun K hK' => ?_
  obtain ⟨v', w', hrun, r1, r2⟩ := run_app_tok t h g c hg hl hB o.type
  unfold Oper.wp
  simp [execOp, ho, resolve, invoke, builtin, hs, hy, hrun, Result.andThen]
  exact hK' _ _ (hK v' w' r1 r2)
theorem tok_snoc {w : World} {B : Nat} {v : Value} {ts : List Tok} {t : Tok} (h : TOwn w B v (ts ++ [t])) : ∃ A c, v = .slice A (ts.length + 1) c := by
  obtain ⟨A, c, hv⟩ := h.form
  exact ⟨A, c, by rw [hv, List.length_append]; rfl⟩
end Go.Proofs.YtdncjhffniepbaaGreatDoor.Lx
/- (LxAll)
  Layer 5, the reference: the contract of All.
-/
namespace Go.Proofs.YtdncjhffniepbaaGreatDoor.Lx
open Go.RowKit

/-- What All returns. -/
def APost (w : World) (ts : List Tok) (f : Flt) (e : Ending) (w' : World) : Prop :=
  ∃ v', e = .returned (.tuple #[v', .agg #[.int .i64 f.1, .int .i64 f.2.1, .int .i64 f.2.2]]) ∧ TLst w' v' ts ∧ Below w.heap.size w w'
/-- What is to come makes the whole. -/
def Inv (R : Except Flt (List Tok)) (l : List Int) (out : List Tok) (k : Nat) : Prop :=
  ∃ f, l.length - k < f ∧ R = (lexC f out.length (l.drop k) (adv (1, 1) (l.take k))).map fun r => out ++ r
theorem adv_take {l : List Int} {k n : Nat} : adv (adv (1, 1) (l.take k)) ((l.drop k).take n) = adv (1, 1) (l.take (k + n)) := by
  rw [← adv_append, List.take_add]
theorem Inv.start (l : List Int) : Inv (lexC (l.length + 1) 0 l (1, 1)) l [] 0 := ⟨l.length + 1, by omega, by
  simp only [List.length_nil, List.drop_zero, List.take_zero, adv, List.nil_append]
  cases lexC (l.length + 1) 0 l (1, 1) <;> rfl⟩
theorem lexC_end {f c : Nat} {l : List Int} {p : Int × Int} (h : (l.drop (skip l)).length = 0) : lexC (f + 1) c l p = .ok [⟨6, [], (adv p (l.take (skip l))).1, (adv p (l.take (skip l))).2⟩] := by
  unfold lexC; rw [if_pos h]
theorem lexC_bad {f c : Nat} {l : List Int} {p : Int × Int} {e : Int} (h : (l.drop (skip l)).length ≠ 0) (h1 : one (l.drop (skip l)) = .bad e) : lexC (f + 1) c l p = .error (e, adv p (l.take (skip l))) := by
  unfold lexC; rw [if_neg h, h1]
theorem lexC_lim {f c : Nat} {l : List Int} {p : Int × Int} {k : Int} {t : List Int} {n : Nat} (h : (l.drop (skip l)).length ≠ 0) (h1 : one (l.drop (skip l)) = .tok k t n) (hc : 2000 ≤ c) : lexC (f + 1) c l p = .error (1, adv p (l.take (skip l))) := by
  unfold lexC; rw [if_neg h, h1]; simp [hc]
theorem lexC_tok {f c : Nat} {l : List Int} {p : Int × Int} {k : Int} {t : List Int} {n : Nat} (h : (l.drop (skip l)).length ≠ 0) (h1 : one (l.drop (skip l)) = .tok k t n) (hc : ¬ 2000 ≤ c) :
    lexC (f + 1) c l p = (lexC f (c + 1) (l.drop (skip l + n)) (adv p (l.take (skip l + n)))).map fun r => ⟨k, t, (adv p (l.take (skip l))).1, (adv p (l.take (skip l))).2⟩ :: r := by
  conv => lhs; unfold lexC
  rw [if_neg h, h1]; simp [hc]
variable {R : Except Flt (List Tok)} {l : List Int} {out : List Tok} {k m : Nat}
theorem Inv.done (h : Inv R l out k) (hm : m = k + skip (l.drop k)) (he : (l.drop m).length = 0) : R = .ok (out ++ [⟨6, [], (adv (1, 1) (l.take m)).1, (adv (1, 1) (l.take m)).2⟩]) := by
  obtain ⟨f, hf, h⟩ := h
  subst hm
  obtain ⟨f, rfl⟩ : ∃ g, f = g + 1 := ⟨f - 1, by omega⟩
  rw [h, lexC_end (by rw [List.drop_drop]; exact he), adv_take]; rfl
theorem Inv.bad (h : Inv R l out k) (hm : m = k + skip (l.drop k)) (he : (l.drop m).length ≠ 0) {e : Int} (h1 : one (l.drop m) = .bad e) : R = .error (e, adv (1, 1) (l.take m)) := by
  obtain ⟨f, hf, h⟩ := h
  subst hm
  obtain ⟨f, rfl⟩ : ∃ g, f = g + 1 := ⟨f - 1, by omega⟩
  rw [h, lexC_bad (by rw [List.drop_drop]; exact he) (by rw [List.drop_drop]; exact h1), adv_take]; rfl
theorem Inv.lim (h : Inv R l out k) (hm : m = k + skip (l.drop k)) (he : (l.drop m).length ≠ 0) {a : Int} {t : List Int} {n : Nat} (h1 : one (l.drop m) = .tok a t n) (hc : 2000 ≤ out.length) : R = .error (1, adv (1, 1) (l.take m)) := by
  obtain ⟨f, hf, h⟩ := h
  subst hm
  obtain ⟨f, rfl⟩ : ∃ g, f = g + 1 := ⟨f - 1, by omega⟩
  rw [h, lexC_lim (by rw [List.drop_drop]; exact he) (by rw [List.drop_drop]; exact h1) hc, adv_take]; rfl
theorem Inv.more (h : Inv R l out k) (hm : m = k + skip (l.drop k)) (he : (l.drop m).length ≠ 0) {a : Int} {t : List Int} {n : Nat} (h1 : one (l.drop m) = .tok a t n) (hc : ¬ 2000 ≤ out.length) :
    Inv R l (out ++ [⟨a, t, (adv (1, 1) (l.take m)).1, (adv (1, 1) (l.take m)).2⟩]) (m + n) := by
  obtain ⟨f, hf, h⟩ := h
  have hn := one_len h1
  rw [List.length_drop] at hn he
  obtain ⟨f, rfl⟩ : ∃ g, f = g + 1 := ⟨f - 1, by omega⟩
  refine ⟨f, by omega, ?_⟩
  rw [h, lexC_tok (by rw [List.drop_drop, ← hm, List.length_drop]; exact he) (by rw [List.drop_drop, ← hm]; exact h1) hc]
  rw [List.drop_drop, adv_take, adv_take, ← Nat.add_assoc, ← hm, List.length_append]
  simp only [List.length_cons, List.length_nil, Nat.zero_add]
  cases lexC f (out.length + 1) (l.drop (m + n)) (adv (1, 1) (l.take (m + n))) <;> simp [Except.map]

theorem one_code {l : List Int} {e : Int} (h : one l = .bad e) : e ≠ 0 := by
  match l, h with
  | [], h => simp [one] at h; omega
  | a :: r, h =>
    cases hl : letter a with
    | true => rw [one_letter hl] at h; simp at h
    | false =>
      cases hd : digit a with
      | true =>
        rw [one_digit hl hd] at h
        split at h
        · simp at h; omega
        · simp at h
      | false =>
        by_cases h34 : a = 34
        · subst h34
          rw [one_str] at h
          cases hq : quo r with
          | none => rw [hq] at h; simp at h; omega
          | some x => rw [hq] at h; simp at h
        by_cases h47 : a = 47
        · subst h47
          rw [one_pat] at h
          cases hq : sla r with
          | none => rw [hq] at h; simp at h; omega
          | some x => rw [hq] at h; simp at h
        by_cases hs : a = 123 ∨ a = 125 ∨ a = 44 ∨ a = 61
        · rw [one_sign hs] at h; simp at h
        · rw [one_char hl hd h34 h47 hs] at h; simp at h; omega
theorem res3 (w : World) (R : Nat) (a b c x y z : Value) (t : TypeId) (h : w.heap[R]? = some (.cells #[a, b, c] t (0, 0))) : (((w.setCell ⟨R, 0, none⟩ x).setCell ⟨R, 1, none⟩ y).setCell ⟨R, 2, none⟩ z).heap[R]? = some (.cells #[x, y, z] t (0, 0)) := by
  simp [World.setCell, Array.getElem?_modify, h]
theorem below3 {B : Nat} {w0 w : World} (h : Below B w0 w) {R : Nat} (hR : B ≤ R) (x y z : Value) : Below B w0 (((w.setCell ⟨R, 0, none⟩ x).setCell ⟨R, 1, none⟩ y).setCell ⟨R, 2, none⟩ z) :=
  ((h.setCell hR x).setCell hR y).setCell hR z
theorem tlst3 {w : World} {R : Nat} {a b c x y z : Value} {t : TypeId} (h : w.heap[R]? = some (.cells #[a, b, c] t (0, 0))) (ht : t ≠ 38) {B : Nat} {v : Value} {ts : List Tok} (ho : TOwn w B v ts) : TLst (((w.setCell ⟨R, 0, none⟩ x).setCell ⟨R, 1, none⟩ y).setCell ⟨R, 2, none⟩ z) v ts := by
  have hk : TOwn (((w.setCell ⟨R, 0, none⟩ x).setCell ⟨R, 1, none⟩ y).setCell ⟨R, 2, none⟩ z) B v ts := by
    refine ⟨ho.1, ?_⟩
    rcases ho.2 with h1 | ⟨g, cap, cur, h1, h2, h3, h4⟩
    · exact .inl h1
    · refine .inr ⟨g, cap, cur, h1, h2, ?_, h4⟩
      have hne : g ≠ R := fun e => by subst e; rw [h] at h3; injection h3 with h3; injection h3 with _ e2; exact ht e2
      rw [heap_setCell_other _ _ _ _ hne, heap_setCell_other _ _ _ _ hne, heap_setCell_other _ _ _ _ hne, h3]
  exact hk.lst

theorem tlst_res {w : World} {R : Nat} {u v2 u2 : Value} {t : TypeId} (h : w.heap[R]? = some (.cells #[.int .i64 0, .int .i64 0, .int .i64 0] t (0, 0))) {v : Value} {ts : List Tok} (ho : TLst w v ts) : TLst (((w.setCell ⟨R, 0, none⟩ u).setCell ⟨R, 1, none⟩ v2).setCell ⟨R, 2, none⟩ u2) v ts := by
  obtain ⟨A, c, e1, e2, e3⟩ := ho
  refine ⟨A, c, e1, fun hn => ?_, e3⟩
  obtain ⟨g, off, e4, e5⟩ := e2 hn
  refine ⟨g, off, e4, fun k t ht => ?_⟩
  have hne : g ≠ R := by
    intro e
    subst e
    have := (e5 k t ht).2.1
    rw [cell_of_row _ _ _ _ _ _ h] at this
    match off + k * 4 + 1, this with
    | 0, this => simp at this
    | 1, this => simp at this
    | 2, this => simp at this
    | n + 3, this => simp at this
  have hk : ∀ o, (((w.setCell ⟨R, 0, none⟩ u).setCell ⟨R, 1, none⟩ v2).setCell ⟨R, 2, none⟩ u2).cell? ⟨g, o, none⟩ = w.cell? ⟨g, o, none⟩ := fun o =>
    World.cell?_of_block (by rw [heap_setCell_other _ _ _ _ hne, heap_setCell_other _ _ _ _ hne, heap_setCell_other _ _ _ _ hne])
  obtain ⟨a, b, c, d⟩ := e5 k t ht
  exact ⟨(hk _).trans a, (hk _).trans b, (hk _).trans c, (hk _).trans d⟩

set_option maxRecDepth 100000 in
set_option maxHeartbeats 4000000 in
theorem all_any {s : ByteArray} {l : List Int} (hs : ch s = l) (hn : l.length ≤ 100000) (w : World) : Calls Tryz.prog 17 #[.string s] w (APost w (allT l) (allF l)) := by
  have hsz : s.size = l.length := by rw [← hs, ch_length]
  have HSZ := Lib.hid hsz
  have HSK := Lib.hid (fun (k : Nat) (hk : k ≤ l.length) (W : World) => skip_any (s := s.extract k s.size) (l := l.drop k) (by rw [ch_drop, hs]) (by rw [List.length_drop]; omega) W)
  have HW := Lib.hid (fun (k : Nat) (hk : k ≤ l.length) (W : World) => where_any hs hn hk W)
  have HO := Lib.hid (fun (k : Nat) (a : Int) (r : List Int) (hk : k ≤ l.length) (e : l.drop k = a :: r) (W : World) => one_any (s := s.extract k s.size) (a := a) (r := r) (by rw [ch_drop, hs, e]) (by rw [← e, List.length_drop]; omega) W)
  have k1 := heap_alloc_new w (.cells #[.int .i64 0, .int .i64 0, .int .i64 0] 32)
  have K1 := Lib.hid k1
  have B1 := Lib.hid (balloc w (.cells #[.int .i64 0, .int .i64 0, .int .i64 0] 32))
  clear hs
  by_cases hbig : 8192 < l.length
  · have E1 : Hid (allT l = []) := Lib.hid (by unfold allT all; rw [if_pos hbig])
    have E2 : Hid (allF l = (1, 0, 0)) := Lib.hid (by unfold allF all; rw [if_pos hbig])
    have hb : (8192 : Int) < (s.size : Int) := by omega
    clear hsz k1
    rw [E1.out, E2.out]
    go_enter Tryz.func17, Tryz.ntmps17
    go_wp2_with fail
    have hb9 := heap_alloc_new w (.cells #[.int .i64 1, .int .i64 0, .int .i64 0] 32)
    refine bodyPost_ret (v := .tuple #[.slice none 0 0, .agg #[.int .i64 1, .int .i64 0, .int .i64 0]]) (by simp [results, Tryz.results17, go_sem, cell_of_row _ w.heap.size 0 _ _ _ hb9, cell_of_row _ w.heap.size 1 _ _ _ hb9, cell_of_row _ w.heap.size 2 _ _ _ hb9]) rfl ?_
    exact ⟨_, rfl, TLst.nil _, balloc w _⟩
  · have E : Hid (all l = lexC (l.length + 1) 0 l (1, 1)) := Lib.hid (by unfold all; rw [if_neg hbig])
    have hb : (s.size : Int) ≤ 8192 := by omega
    clear hsz k1
    go_enter Tryz.func17, Tryz.ntmps17
    go_wp2_with fail
    go_loopg [4, 5, 6, 7, 8, 9, 10, 11] (l.length + 1) (fun g' ov at_ _ _ _ _ _ _ wr => ∃ (k : Nat) (out : List Tok), at_ = .int .i64 k ∧ k ≤ l.length ∧ l.length - k + 1 ≤ g' ∧ out.length ≤ 2000 ∧ TOwn wr w.heap.size ov out ∧ Below w.heap.size w wr ∧ wr.heap[w.heap.size]? = some (.cells #[.int .i64 0, .int .i64 0, .int .i64 0] 32 (0, 0)) ∧ Inv (all l) l out k)
    case atStart => exact ⟨0, [], rfl, Nat.zero_le _, by omega, by simp, TOwn.nil _ _, B1.out, K1.out, by rw [E.out]; exact Inv.start l⟩
    case round =>
      obtain ⟨k, out, rfl, hk, hg, hol, hown, hbel, hres, hinv⟩ := hrel
      obtain ⟨wo, rfl⟩ : ∃ wo : World, wo = wr := ⟨_, rfl⟩
      have O0 := Lib.hid hown
      have BW := Lib.hid hbel
      have KR := Lib.hid hres
      have I0 := Lib.hid hinv
      obtain ⟨Ao, co, rfl⟩ := hown.form
      have hsl := skipS_le false (l.drop k)
      rw [List.length_drop] at hsl
      have HSKk := Lib.hid (HSK.out k hk)
      obtain ⟨n0, hn0⟩ : ∃ n, n = skip (l.drop k) := ⟨_, rfl⟩
      have HM : Hid (k + n0 = k + skip (l.drop k)) := Lib.hid (by rw [hn0])
      have hml : k + n0 ≤ l.length := by unfold skip at hn0; omega
      rw [← hn0] at HSKk
      have HWm := Lib.hid (HW.out (k + n0) hml)
      unfold placeV at HWm
      rw [Int.natCast_add] at HWm
      obtain ⟨p1, p2, p3, p4⟩ := adv_bd (l.take (k + n0)) (1, 1) 1 (by simp) (by simp) (by simp) (by simp)
      have hki : (k : Int) ≤ (s.size : Int) := by have := HSZ.out; omega
      have hmi : (k : Int) + (n0 : Int) ≤ (s.size : Int) := by have := HSZ.out; omega
      clear hown hbel hres hinv hsl hn0
      by_cases hend : k + n0 = l.length
      · have E3 := Lib.hid (I0.out.done HM.out (by rw [hend]; simp))
        generalize adv (1, 1) (l.take (k + n0)) = p at *
        obtain ⟨pl, pc⟩ := p
        have hge : (s.size : Int) ≤ (k : Int) + (n0 : Int) := by have := HSZ.out; omega
        have E4 : Hid (allT l = out ++ [⟨6, [], pl, pc⟩]) := Lib.hid (by unfold allT; rw [E3.out])
        have E5 : Hid (allF l = (0, 0, 0)) := Lib.hid (by unfold allF; rw [E3.out])
        clear p1 p2 p3 p4 hend
        go_wp2_with (first
          | (go_at_call 35; ((with_reducible refine (HSKk.out _).mono ?_); rintro e w' ⟨rfl, rfl⟩))
          | (go_at_call 36; ((with_reducible refine (HWm.out _).mono ?_); rintro e w' ⟨rfl, rfl⟩))
          | (at_builtin; refine wpList_app_tok rfl _ _ rfl ⟨6, [], pl, pc⟩ rfl (O0.out.below (balloc wo _)) wo.heap.size 1 rfl (heap_alloc_new wo _) (by omega) (by have := BW.out.size; simp; omega) ?_; intro v5 w5 hO hF; obtain ⟨A5, c5, hv5⟩ := tok_snoc hO; subst hv5; have O5 := Lib.hid hO; have B5 := Lib.hid ((BW.out.alloc BW.out.size _).trans hF.bel); have kr := hF.keep _ _ _ _ ((Below.heap_alloc wo _ _ (heap_lt KR.out)).trans KR.out) (by decide); have K5 := Lib.hid kr; have d0 := cell_of_row _ _ 0 _ _ _ kr; have d1 := cell_of_row _ _ 1 _ _ _ kr; have d2 := cell_of_row _ _ 2 _ _ _ kr; have f0 := frozen_of_row _ _ 0 _ _ kr; have f1 := frozen_of_row _ _ 1 _ _ kr; have f2 := frozen_of_row _ _ 2 _ _ kr; clear hO hF kr))
        have hb9 := res3 w5 w.heap.size (.int .i64 0) (.int .i64 0) (.int .i64 0) (.int .i64 0) (.int .i64 0) (.int .i64 0) _ K5.out
        refine bodyPost_ret (v := .tuple #[.slice A5 (out.length + 1) c5, .agg #[.int .i64 0, .int .i64 0, .int .i64 0]]) (by simp [results, Tryz.results17, go_sem, cell_of_row _ w.heap.size 0 _ _ _ hb9, cell_of_row _ w.heap.size 1 _ _ _ hb9, cell_of_row _ w.heap.size 2 _ _ _ hb9]) rfl ?_
        exact ⟨_, by rw [E5.out], by rw [E4.out]; exact tlst3 K5.out (by decide) O5.out, below3 B5.out (Nat.le_refl _) _ _ _⟩
      · have hlt : (k : Int) + (n0 : Int) < (s.size : Int) := by have := HSZ.out; omega
        have hlen : (l.drop (k + n0)).length ≠ 0 := by rw [List.length_drop]; omega
        obtain ⟨a, r, har⟩ : ∃ a r, l.drop (k + n0) = a :: r := by
          cases h : l.drop (k + n0) with
          | nil => rw [h] at hlen; simp at hlen
          | cons a r => exact ⟨a, r, rfl⟩
        have HOk := Lib.hid (HO.out (k + n0) a r hml har)
        rw [← har] at HOk
        unfold VPost at HOk
        cases ho : one (l.drop (k + n0)) with
        | bad e =>
          simp only [ho, oneV] at HOk
          have he0 := one_code ho
          have q0 : (e == 0) = false := beq_eq_false_iff_ne.2 he0
          have q1 : (e != 0) = true := bne_iff_ne.2 he0
          have E3 := Lib.hid (I0.out.bad HM.out hlen ho)
          generalize adv (1, 1) (l.take (k + n0)) = p at *
          obtain ⟨pl, pc⟩ := p
          have E4 : Hid (allT l = []) := Lib.hid (by unfold allT; rw [E3.out])
          have E5 : Hid (allF l = (e, pl, pc)) := Lib.hid (by unfold allF; rw [E3.out])
          clear p1 p2 p3 p4 hend hlen har ho he0
          go_wp2_with (first
            | (go_at_call 35; ((with_reducible refine (HSKk.out _).mono ?_); rintro e w' ⟨rfl, rfl⟩))
            | (go_at_call 36; ((with_reducible refine (HWm.out _).mono ?_); rintro e w' ⟨rfl, rfl⟩))
            | (go_at_call 37; ((with_reducible refine (HOk.out _).mono ?_); rintro e w8 ⟨rfl, hb8⟩; have B8 := Lib.hid (BW.out.trans (hb8.mono BW.out.size)); have k8 := (hb8.block _ (heap_lt KR.out)).trans KR.out; have K8 := Lib.hid k8; have O8 := Lib.hid (O0.out.below hb8); have d0 := cell_of_row _ _ 0 _ _ _ k8; have d1 := cell_of_row _ _ 1 _ _ _ k8; have d2 := cell_of_row _ _ 2 _ _ _ k8; have f0 := frozen_of_row _ _ 0 _ _ k8; have f1 := frozen_of_row _ _ 1 _ _ k8; have f2 := frozen_of_row _ _ 2 _ _ k8; clear hb8 k8)))
          have hb9 := res3 w8 w.heap.size (.int .i64 0) (.int .i64 0) (.int .i64 0) (.int .i64 e) (.int .i64 pl) (.int .i64 pc) _ K8.out
          refine bodyPost_ret (v := .tuple #[.slice none 0 0, .agg #[.int .i64 e, .int .i64 pl, .int .i64 pc]]) (by simp [results, Tryz.results17, go_sem, cell_of_row _ w.heap.size 0 _ _ _ hb9, cell_of_row _ w.heap.size 1 _ _ _ hb9, cell_of_row _ w.heap.size 2 _ _ _ hb9]) rfl ?_
          exact ⟨_, by rw [E5.out], by rw [E4.out]; exact TLst.nil _, below3 B8.out (Nat.le_refl _) _ _ _⟩
        | tok kk t n =>
          simp only [ho, oneV] at HOk
          have hnl := one_len ho
          rw [List.length_drop] at hnl
          by_cases hlim : 2000 ≤ out.length
          · have hlim' : (2000 : Int) ≤ (out.length : Int) := by omega
            have E3 := Lib.hid (I0.out.lim HM.out hlen ho hlim)
            generalize adv (1, 1) (l.take (k + n0)) = p at *
            obtain ⟨pl, pc⟩ := p
            have E4 : Hid (allT l = []) := Lib.hid (by unfold allT; rw [E3.out])
            have E5 : Hid (allF l = (1, pl, pc)) := Lib.hid (by unfold allF; rw [E3.out])
            clear p1 p2 p3 p4 hend hlen har ho hlim
            go_wp2_with (first
              | (go_at_call 35; ((with_reducible refine (HSKk.out _).mono ?_); rintro e w' ⟨rfl, rfl⟩))
              | (go_at_call 36; ((with_reducible refine (HWm.out _).mono ?_); rintro e w' ⟨rfl, rfl⟩))
              | (go_at_call 37; ((with_reducible refine (HOk.out _).mono ?_); rintro e w8 ⟨rfl, hb8⟩; have B8 := Lib.hid (BW.out.trans (hb8.mono BW.out.size)); have k8 := (hb8.block _ (heap_lt KR.out)).trans KR.out; have K8 := Lib.hid k8; have O8 := Lib.hid (O0.out.below hb8); have d0 := cell_of_row _ _ 0 _ _ _ k8; have d1 := cell_of_row _ _ 1 _ _ _ k8; have d2 := cell_of_row _ _ 2 _ _ _ k8; have f0 := frozen_of_row _ _ 0 _ _ k8; have f1 := frozen_of_row _ _ 1 _ _ k8; have f2 := frozen_of_row _ _ 2 _ _ k8; clear hb8 k8)))
            have hb9 := res3 w8 w.heap.size (.int .i64 0) (.int .i64 0) (.int .i64 0) (.int .i64 1) (.int .i64 pl) (.int .i64 pc) _ K8.out
            refine bodyPost_ret (v := .tuple #[.slice none 0 0, .agg #[.int .i64 1, .int .i64 pl, .int .i64 pc]]) (by simp [results, Tryz.results17, go_sem, cell_of_row _ w.heap.size 0 _ _ _ hb9, cell_of_row _ w.heap.size 1 _ _ _ hb9, cell_of_row _ w.heap.size 2 _ _ _ hb9]) rfl ?_
            exact ⟨_, by rw [E5.out], by rw [E4.out]; exact TLst.nil _, below3 B8.out (Nat.le_refl _) _ _ _⟩
          · have hlim' : decide ((2000 : Int) ≤ (out.length : Int)) = false := decide_eq_false (by omega)
            have I1 := Lib.hid (I0.out.more HM.out hlen ho hlim)
            generalize adv (1, 1) (l.take (k + n0)) = p at *
            obtain ⟨pl, pc⟩ := p
            have hlim2 : out.length < 2000 := by omega
            clear p1 p2 p3 p4 hend hlen har ho hlim
            go_wp2_with (first
              | (go_at_call 35; ((with_reducible refine (HSKk.out _).mono ?_); rintro e w' ⟨rfl, rfl⟩))
              | (go_at_call 36; ((with_reducible refine (HWm.out _).mono ?_); rintro e w' ⟨rfl, rfl⟩))
              | (go_at_call 37; ((with_reducible refine (HOk.out _).mono ?_); rintro e w8 ⟨rfl, hb8⟩; have B8 := Lib.hid (BW.out.trans (hb8.mono BW.out.size)); have k8 := (hb8.block _ (heap_lt KR.out)).trans KR.out; have K8 := Lib.hid k8; have O8 := Lib.hid (O0.out.below hb8); have d0 := cell_of_row _ _ 0 _ _ _ k8; have d1 := cell_of_row _ _ 1 _ _ _ k8; have d2 := cell_of_row _ _ 2 _ _ _ k8; have f0 := frozen_of_row _ _ 0 _ _ k8; have f1 := frozen_of_row _ _ 1 _ _ k8; have f2 := frozen_of_row _ _ 2 _ _ k8; clear hb8 k8))
              | (at_builtin; refine wpList_app_tok rfl _ _ rfl ⟨kk, t, pl, pc⟩ rfl (O8.out.below (balloc w8 _)) w8.heap.size 1 rfl (heap_alloc_new w8 _) (by omega) (by have := B8.out.size; simp; omega) ?_; intro v5 w5 hO hF; obtain ⟨A5, c5, hv5⟩ := tok_snoc hO; subst hv5; have O5 := Lib.hid hO; have B5 := Lib.hid ((B8.out.alloc B8.out.size _).trans hF.bel); have K5 := Lib.hid (hF.keep _ _ _ _ ((Below.heap_alloc w8 _ _ (heap_lt K8.out)).trans K8.out) (by decide)); clear hO hF))
            go_roundg (l.length - (k + n0 + n) + 1)
            case measure => omega
            case rel => exact ⟨k + n0 + n, out ++ [⟨kk, t, pl, pc⟩], by go_num, by omega, Nat.le_refl _, by simp; omega, by have := O5.out; simpa using this, B5.out, K5.out, I1.out⟩
end Go.Proofs.YtdncjhffniepbaaGreatDoor.Lx
