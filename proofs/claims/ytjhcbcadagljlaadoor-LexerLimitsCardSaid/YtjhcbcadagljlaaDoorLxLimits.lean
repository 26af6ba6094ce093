/-
  What happens at the greatest numbers of bytes and tokens: as the reference has it.
-/
import Derived.Test.YtjhcbcadagljlaaDoorLxParts
import Derived.Lib.AppendStr
namespace Go.Proofs.YtjhcbcadagljlaaDoor.Lx
open Go.RowKit

theorem tmod_cases (v n : Int) (h0 : 1 ≤ n) : (v.tmod n = v % n ∧ 0 ≤ v.tmod n) ∨ (v.tmod n + n = v % n ∧ v.tmod n < 0 ∧ -n < v.tmod n) := by
  have e0 := Int.emod_nonneg v (show n ≠ 0 by omega)
  have e1 := Int.emod_lt_of_pos v (show 0 < n by omega)
  have e2 := Int.tmod_eq_emod (a := v) (b := n)
  have e3 : (n.natAbs : Int) = n := Int.natAbs_of_nonneg (by omega)
  split at e2
  · left; constructor
    · omega
    · omega
  · rename_i h
    right
    have hne : v % n ≠ 0 := fun e => h (.inr (Int.dvd_of_emod_eq_zero e))
    rw [e3] at e2
    exact ⟨by omega, by omega, by omega⟩
theorem mod_any (v n : Int) (h0 : 1 ≤ n) (h1 : n ≤ 2000000) (hv0 : -9223372036854775808 ≤ v) (hv1 : v ≤ 9223372036854775807) (w : World) :
    Calls Tryd.prog 10 #[.int .i64 v, .int .i64 n] w fun e w' => e = .returned (.int .i64 (v % n)) ∧ w = w' := by
  have hn0 : (n == 0) = false := beq_eq_false_iff_ne.2 (by omega)
  by_cases hv : 0 ≤ v
  · have e0 := Int.emod_nonneg v (show n ≠ 0 by omega)
    have hd : decide (v % n < 0) = false := decide_eq_false (by omega)
    go_enter Tryd.func10, Tryd.ntmps10
    go_wp2
    go_ret
    exact ⟨rfl, rfl⟩
  · rcases tmod_cases v n h0 with ⟨e1, e2⟩ | ⟨e1, e2, e3⟩
    · have hd : decide (v.tmod n < 0) = false := decide_eq_false (by omega)
      have E1 := Lib.hid e1
      clear e1
      go_enter Tryd.func10, Tryd.ntmps10
      go_wp2
      go_ret
      exact ⟨ret_i E1.out, rfl⟩
    · have hd : decide (v.tmod n < 0) = true := decide_eq_true e2
      have E1 := Lib.hid e1
      clear e1
      go_enter Tryd.func10, Tryd.ntmps10
      go_wp2
      go_ret
      exact ⟨ret_i E1.out, rfl⟩


theorem strCells_ch (s : ByteArray) : Lib.strCells s = (ch s).map (Value.int .u8) := by
  unfold Lib.strCells ch
  rw [List.map_map]
  rfl
/-- A string appended to bytes of the call's own. -/
theorem wpList_app_str {w : World} {ops : Array Oper} {rest : List Oper} {o : Oper} {a : Act} {Q : Exit → Act → World → Prop} (hgd : o.guard = none) (s y : Operand)
    (ho : o.op = .call { callee := .builtin .append, args := #[s, y], argTypes := #[24, 9] })
    {B : Nat} {v : Value} {l : List Int} (hs : a.eval s = v) (h : Own 5 .u8 w B v l) (t : ByteArray) (hy : a.eval y = .string t) (hl : l.length + t.size ≤ 1000000) (hB : B ≤ w.heap.size)
    (hK : ∀ v' w', Own 5 .u8 w' B v' (l ++ ch t) → Fr 5 B w w' → wpList Tryd.prog ops Q rest (a.put o.dst v') w') : wpList Tryd.prog ops Q (o :: rest) a w := by
  obtain ⟨i, hi, hz, h1, h2⟩ := info_parts Tryd.info5
  refine Lib.wpList_append_own_string w hgd s y 24 9 ho B 5 i Tryd.underlying24 Tryd.underlying9 hi hz h1 h2 v l.length (l.map (Value.int .u8)) hs h t hy (by unfold maxLen; omega) (by omega) hB fun v' w' r1 r2 _ => hK v' w' ?_ (Fr.of_grown r2 hB h.block)
  unfold Own
  rw [List.length_append, ch_length, List.map_append, ← strCells_ch]
  exact r1

theorem ch_two : ch ⟨#[123, 32]⟩ = [123, 32] := by decide
theorem own_two {e : TypeId} {k : IntKind} {w : World} {B : Nat} {v : Value} {l : List Int} (h : Own e k w B v (l ++ ch ⟨#[123, 32]⟩)) : ∃ A c, v = .slice A (l.length + 2) c := by
  obtain ⟨A, c, hv⟩ := h.form
  exact ⟨A, c, by rw [hv, List.length_append, ch_two]; rfl⟩
theorem own_two_own {e : TypeId} {k : IntKind} {w : World} {B : Nat} {v : Value} {l : List Int} (h : Own e k w B v (l ++ ch ⟨#[123, 32]⟩)) : Own e k w B v (l ++ [123, 32]) := by rw [ch_two] at h; exact h

set_option maxRecDepth 100000 in
set_option maxHeartbeats 4000000 in
theorem LexerLimits_law {n : Int} (h0 : -9223372036854775808 ≤ n) (h1 : n ≤ 9223372036854775807) (w : World) (het : ET w) : Calls Tryd.prog 4 #[.int .i64 n] w (BPost w true) := by
  have HS := Lib.hid (fun W h => sane_any W h)
  have HET := Lib.hid het
  clear het
  have HM := Lib.hid (fun W => mod_any n 3 (by omega) (by omega) h0 h1 W)
  have e0 := Int.emod_nonneg n (show (3 : Int) ≠ 0 by omega)
  have e1 := Int.emod_lt_of_pos n (show (0 : Int) < 3 by omega)
  generalize n % 3 = m at *
  obtain ⟨m, rfl⟩ := Int.eq_ofNat_of_zero_le e0
  have hm : m ≤ 2 := by omega
  clear h0 h1 e0 e1
  go_enter Tryd.func4, Tryd.ntmps4
  go_wp2_with (first
    | (go_at_call 6; ((with_reducible refine (HS.out _ HET.out).mono ?_); rintro e w1 ⟨rfl, hb1⟩; have B1 := Lib.hid hb1; clear hb1))
    | (go_at_call 10; ((with_reducible refine (HM.out _).mono ?_); rintro e w' ⟨rfl, rfl⟩)))
  go_loopg [4, 6] (1999 + m + 1) (fun g' ov i wr => ∃ (k : Nat) (l : List Int), i = .int .i64 k ∧ k ≤ 1999 + m ∧ 1999 + m - k + 1 ≤ g' ∧ Own 5 .u8 wr w1.heap.size ov l ∧ By l ∧ l.length ≤ 2 * k ∧ Below w1.heap.size w1 wr)
  case atStart => exact ⟨0, [], rfl, Nat.zero_le _, by omega, Own.nil _ _ _ _, By.nil, by simp, Below.refl _ _⟩
  case round =>
    obtain ⟨k, l1, rfl, hk, hg, hown, hby, hlen, hbel⟩ := hrel
    obtain ⟨wo, rfl⟩ : ∃ wo : World, wo = wr := ⟨_, rfl⟩
    have O1 := Lib.hid hown
    have Y1 := Lib.hid hby
    have BW1 := Lib.hid hbel
    obtain ⟨A1, c1, rfl⟩ := hown.form
    clear hown hby hbel
    by_cases hkn : k < 1999 + m
    · have hki : (k : Int) < 1999 + (m : Int) := by omega
      go_wp2_with (at_builtin; refine wpList_app_str rfl _ _ rfl rfl O1.out ⟨#[123, 32]⟩ rfl (by change l1.length + 2 ≤ 1000000; omega) BW1.out.size ?_; intro v5 w5 hO hF; obtain ⟨A5, c5, hv5⟩ := own_two hO; subst hv5; have O5 := Lib.hid (own_two_own hO); have B5 := Lib.hid (BW1.out.trans hF.bel); clear hO hF)
      go_roundg (1999 + m - (k + 1) + 1)
      case measure => omega
      case rel => exact ⟨k + 1, l1 ++ [123, 32], by go_num, by omega, Nat.le_refl _, O5.out, Y1.out.append ((By.one (x := 123) (by omega)).append (By.one (x := 32) (by omega))), by rw [List.length_append]; simp only [List.length_cons, List.length_nil]; omega, B5.out⟩
    · obtain rfl : k = 1999 + m := by omega
      have hki : ¬ (((1999 + m : Nat) : Int) < 1999 + (m : Int)) := by omega
      have hki2 : decide (((1999 + m : Nat) : Int) < 1999 + (m : Int)) = false := decide_eq_false hki
      go_wp2_with fail
      go_loopg [5, 7] (8191 + m + 1) (fun g' ov i wr => ∃ (k : Nat) (l : List Int), i = .int .i64 k ∧ k ≤ 8191 + m ∧ 8191 + m - k + 1 ≤ g' ∧ Own 5 .u8 wr wo.heap.size ov l ∧ By l ∧ l.length ≤ k ∧ Below wo.heap.size wo wr)
      case atStart => exact ⟨0, [], rfl, Nat.zero_le _, by omega, Own.nil _ _ _ _, By.nil, by simp, Below.refl _ _⟩
      case round =>
        obtain ⟨k, l2, rfl, hk2, hg2, hown, hby, hlen2, hbel⟩ := hrel
        obtain ⟨w2, rfl⟩ : ∃ w2 : World, w2 = wr := ⟨_, rfl⟩
        have O2 := Lib.hid hown
        have Y2 := Lib.hid hby
        have BW2 := Lib.hid hbel
        obtain ⟨A2, c2, rfl⟩ := hown.form
        clear hown hby hbel
        by_cases hkn2 : k < 8191 + m
        · have hki3 : (k : Int) < 8191 + (m : Int) := by omega
          go_wp2_with (at_builtin; refine wpList_app rfl _ _ rfl elByte rfl (O2.out.below (balloc w2 _)) rfl (lst_one w2 32 5) (by simp; omega) (by have := BW2.out.size; simp; omega) ?_; intro v5 w5 hO hF; obtain ⟨A5, c5, hv5⟩ := own_snoc hO; subst hv5; have O5 := Lib.hid hO; have B5 := Lib.hid ((BW2.out.alloc BW2.out.size _).trans hF.bel); clear hO hF)
          go_roundg (8191 + m - (k + 1) + 1)
          case measure => omega
          case rel => exact ⟨k + 1, l2 ++ [32], by go_num, by omega, Nat.le_refl _, by have := O5.out; simpa using this, Y2.out.append (By.one (by omega)), by simp; omega, B5.out⟩
        · obtain rfl : k = 8191 + m := by omega
          have hki4 : decide (((8191 + m : Nat) : Int) < 8191 + (m : Int)) = false := decide_eq_false (by omega)
          have cv1 := conv_lst ((O1.out.below BW2.out).lst) Y1.out
          have cv2 := conv_lst O2.out.lst Y2.out
          have z1 := bytesOf_size l1
          have z2 := bytesOf_size l2
          have hz1 : (bytesOf l1).size ≤ 5000 := by omega
          have hz2 : (bytesOf l2).size ≤ 9000 := by omega
          clear z1 z2
          have T3 := Lib.hid (strs_lit w2 [bytesOf l1, bytesOf l1 ++ ⟨#[34]⟩, bytesOf l2] 9 (by
            intro s hs
            simp only [List.mem_cons, List.not_mem_nil, or_false] at hs
            rcases hs with rfl | rfl | rfl
            · omega
            · simp only [ByteArray.size_append]; change (bytesOf l1).size + 1 ≤ 10000; omega
            · omega))
          have B3 := Lib.hid ((B1.out.trans (BW1.out.mono B1.out.size)).trans ((BW2.out.alloc BW2.out.size (.cells (([bytesOf l1, bytesOf l1 ++ ⟨#[34]⟩, bytesOf l2] : List ByteArray).map Value.string).toArray 9)).mono (by have := B1.out.size; have := BW1.out.size; omega)))
          simp only [List.map_cons, List.map_nil, List.length_cons, List.length_nil, Nat.zero_add, Nat.reduceAdd] at T3 B3
          go_wp2_with fail
          clear cv1 cv2
          generalize hw3 : w2.alloc (.cells #[.string (bytesOf l1), .string (bytesOf l1 ++ ⟨#[34]⟩), .string (bytesOf l2)] 9) = w3 at *
          clear hw3
          go_loopg [9, 10, 11, 12, 13, 44] (3 + 1) (fun g' _ _ _ _ _ i wr => ∃ (k : Nat), i = .int .i64 k ∧ k ≤ 3 ∧ 3 - k + 1 ≤ g' ∧ Below w3.heap.size w3 wr)
          case atStart => exact ⟨0, rfl, by omega, by omega, Below.refl _ _⟩
          case round =>
            obtain ⟨k, rfl, hk, hg, hbw⟩ := hrel
            obtain ⟨wo, rfl⟩ : ∃ wo : World, wo = wr := ⟨_, rfl⟩
            by_cases hkn : k < 3
            · have hki : (k : Int) < 3 := by omega
              obtain ⟨s, dx, hsz⟩ := (T3.out.below hbw) k hkn
              have BW := Lib.hid hbw
              have H1 := Lib.hid (fun W (h : ET W) => prog_all (s := s) rfl (by rw [ch_length]; omega) W h)
              have H2 := Lib.hid (fun W => all_any (s := s) rfl (by rw [ch_length]; omega) W)
              generalize allT (ch s) = ts at *
              generalize allF (ch s) = f at *
              obtain ⟨c, p, q⟩ := f
              clear hbw
              go_wp2_with (first
                | (go_at_call 7; ((with_reducible refine (H1.out _ ((HET.out.below B3.out).below BW.out)).mono ?_); rintro e w4 ⟨v4, rfl, hv4, hb4⟩; have k4 := heap_alloc_new w4 (.cells #[.int .i64 c, .int .i64 p, .int .i64 q] 29); have K4 := Lib.hid k4; have V4 := Lib.hid (hv4.below (balloc w4 (.cells #[.int .i64 c, .int .i64 p, .int .i64 q] 29))); have B4 := Lib.hid (hb4.alloc hb4.size (.cells #[.int .i64 c, .int .i64 p, .int .i64 q] 29)); obtain ⟨A4, c4, rfl, _⟩ := hv4; clear hb4 k4))
                | (go_at_call 8; ((with_reducible refine (H2.out _).mono ?_); rintro e w5 ⟨v5, rfl, hv5, hb5⟩; have b5 := hb5.trans ((balloc w5 (.cells #[.int .i64 c, .int .i64 p, .int .i64 q] 29)).mono hb5.size); have k4 := (b5.block _ (heap_lt K4.out)).trans K4.out; have k5 := heap_alloc_new w5 (.cells #[.int .i64 c, .int .i64 p, .int .i64 q] 29); have d0 := cell_of_row _ _ 0 _ _ _ k4; have d1 := cell_of_row _ _ 1 _ _ _ k4; have d2 := cell_of_row _ _ 2 _ _ _ k4; have V5 := Lib.hid (hv5.below (balloc w5 (.cells #[.int .i64 c, .int .i64 p, .int .i64 q] 29))); have V4' := Lib.hid (V4.out.below b5); have B5 := Lib.hid (B4.out.trans (b5.mono B4.out.size)); have HSM := Lib.hid (tsame_any V4'.out V5.out); obtain ⟨A5, c5, rfl, _⟩ := hv5; clear hb5 b5 k4 k5))
                | (go_at_call 9; ((with_reducible refine HSM.out.mono ?_); rintro e w6 ⟨rfl, q6, hw⟩; have B6 : Hid (Below wo.heap.size wo w6) := Lib.hid (by rw [hw]; exact B5.out.trans ((below_drewN _ _).mono B5.out.size)); clear hw)))
              go_roundg (3 - (k + 1) + 1)
              case measure => omega
              case rel => exact ⟨k + 1, by go_num, by omega, Nat.le_refl _, BW.out.trans (B6.out.mono BW.out.size)⟩
            · obtain rfl : k = 3 := by omega
              go_wp2_with fail
              go_ret
              exact ⟨rfl, B3.out.trans (hbw.mono B3.out.size)⟩
end Go.Proofs.YtjhcbcadagljlaaDoor.Lx
