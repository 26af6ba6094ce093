/-
  Layer 5, the program: the small functions of the lexer: classes of bytes, columns, faults, leading bytes.
-/
import Derived.Test.YtjhcbcadagljlaaDoorLxQuote
namespace Go.Proofs.YtjhcbcadagljlaaDoor.Lx
open Go.RowKit

theorem gstart_any (b : Int) (w : World) : Calls Tryd.prog 35 #[.int .u8 b] w fun e w' => e = .returned (.bool (letter b)) ∧ w = w' := by
  by_cases h : b = 95
  · subst h
    go_enter Tryd.func35, Tryd.ntmps35
    go_wp2
    go_ret
    exact ⟨ret_b (by decide), rfl⟩
  · have h' : (b == 95) = false := beq_eq_false_iff_ne.2 h
    go_enter Tryd.func35, Tryd.ntmps35
    go_wp2
    all_goals
      go_ret
      exact ⟨ret_b (by unfold letter; rw [Bool.eq_iff_iff]; simp only [decide_eq_true_eq, Bool.or_eq_true, Bool.false_eq_true, false_iff, true_iff, or_false, h]; omega), rfl⟩
theorem gdigit_any (b : Int) (w : World) : Calls Tryd.prog 38 #[.int .u8 b] w fun e w' => e = .returned (.bool (digit b)) ∧ w = w' := by
  go_enter Tryd.func38, Tryd.ntmps38
  go_wp2
  all_goals
    go_ret
    exact ⟨ret_b (by unfold digit; rw [Bool.eq_iff_iff]; simp only [decide_eq_true_eq, Bool.false_eq_true, false_iff]; omega), rfl⟩
theorem inWord_eq (b : Int) : inWord b = (letter b || digit b || decide (b = 45)) := by
  unfold inWord
  cases letter b <;> cases digit b <;> rfl
theorem gword_any (b : Int) (w : World) : Calls Tryd.prog 37 #[.int .u8 b] w fun e w' => e = .returned (.bool (inWord b)) ∧ w = w' := by
  have HS := Lib.hid (fun W => gstart_any b W)
  have HD := Lib.hid (fun W => gdigit_any b W)
  have E := Lib.hid (inWord_eq b)
  cases hl : letter b with
  | true =>
    rw [hl] at HS E
    go_enter Tryd.func37, Tryd.ntmps37
    go_wp2_with (first | (go_at_call 35; ((with_reducible refine (HS.out _).mono ?_); rintro e w' ⟨rfl, rfl⟩)) | (go_at_call 38; ((with_reducible refine (HD.out _).mono ?_); rintro e w' ⟨rfl, rfl⟩)))
    go_ret
    exact ⟨ret_b (by rw [E.out]; simp), rfl⟩
  | false =>
    rw [hl] at HS E
    cases hd : digit b with
    | true =>
      rw [hd] at HD E
      go_enter Tryd.func37, Tryd.ntmps37
      go_wp2_with (first | (go_at_call 35; ((with_reducible refine (HS.out _).mono ?_); rintro e w' ⟨rfl, rfl⟩)) | (go_at_call 38; ((with_reducible refine (HD.out _).mono ?_); rintro e w' ⟨rfl, rfl⟩)))
      go_ret
      exact ⟨ret_b (by rw [E.out]; simp), rfl⟩
    | false =>
      rw [hd] at HD E
      by_cases h : b = 45
      · subst h
        go_enter Tryd.func37, Tryd.ntmps37
        go_wp2_with (first | (go_at_call 35; ((with_reducible refine (HS.out _).mono ?_); rintro e w' ⟨rfl, rfl⟩)) | (go_at_call 38; ((with_reducible refine (HD.out _).mono ?_); rintro e w' ⟨rfl, rfl⟩)))
        go_ret
        exact ⟨ret_b (by rw [E.out]; simp), rfl⟩
      · have h' : (b == 45) = false := beq_eq_false_iff_ne.2 h
        have HN := Lib.hid h
        clear h
        go_enter Tryd.func37, Tryd.ntmps37
        go_wp2_with (first | (go_at_call 35; ((with_reducible refine (HS.out _).mono ?_); rintro e w' ⟨rfl, rfl⟩)) | (go_at_call 38; ((with_reducible refine (HD.out _).mono ?_); rintro e w' ⟨rfl, rfl⟩)))
        go_ret
        exact ⟨ret_b (by rw [E.out]; simp [HN.out]), rfl⟩

/-- A scanner in memory. -/
abbrev ScnO (s : ByteArray) (k ln st : Int) : Obj := .cells #[.string s, .int .i64 k, .int .i64 ln, .int .i64 st] 62 (0, 0)
theorem column_any {b : Nat} {s : ByteArray} {k ln st : Int} (w : World) (hb : w.heap[b]? = some (ScnO s k ln st)) (h0 : 0 ≤ st) (h1 : st ≤ k) (h2 : k ≤ 100000) :
    Calls Tryd.prog 34 #[.pointer (some ⟨b, 0, none⟩)] w (QPost w (.int .i64 (k - st + 1))) := by
  have d1 := cell_of_row _ _ 1 _ _ _ hb
  have d3 := cell_of_row _ _ 3 _ _ _ hb
  clear hb
  go_enter Tryd.func34, Tryd.ntmps34
  go_wp2_with fail
  go_quiet (fail)
  go_wp2_with fail
  go_ret
  exact ⟨rfl, _, rfl⟩
/-- A fault as an error. -/
def fltV (f : Flt) : Value := .iface 45 (.agg #[.int .i64 f.1, .int .i64 f.2.1, .int .i64 f.2.2])
theorem fault_any {b : Nat} {s : ByteArray} {k ln st : Int} (w : World) (hb : w.heap[b]? = some (ScnO s k ln st)) (h0 : 0 ≤ st) (h1 : st ≤ k) (h2 : k ≤ 100000) (c : Int) :
    Calls Tryd.prog 39 #[.pointer (some ⟨b, 0, none⟩), .int .i64 c] w (QPost w (fltV (c, ln, k - st + 1))) := by
  have HC := Lib.hid (fun n => column_any (w.drewN n) hb h0 h1 h2)
  have d2 := cell_of_row _ _ 2 _ _ _ hb
  clear hb
  go_enter Tryd.func39, Tryd.ntmps39
  go_wp2_with fail
  go_quiet ((go_at_call 34; exact Calls.quiet_of (HC.out _)))
  go_wp2_with fail
  go_ret
  exact ⟨rfl, _, rfl⟩
end Go.Proofs.YtjhcbcadagljlaaDoor.Lx
