/-
  Several texts, one behind the other: LxQuote, LxG1, LxG2, LxG3, LxG4, LxG5, LxG6, LxG7, LxG8, LxG9, LxG10, LxG11.
-/
import Derived.Test.YtdncjhffniepbaaGreatDoorM1
import Derived.Test.YtdncjhffniepbaaGreatDoorShelf
import Derived.Lib.FrozenHead2
import Derived.BigRegion
import Derived.Deep.RegionWith
import Derived.Deep.CutRange
/- (LxQuote)
  Layer 5, the reference: the contracts of Quote and Same.
-/
namespace Go.Proofs.YtdncjhffniepbaaGreatDoor.Lx
open Go.RowKit

def hexd (d : Int) : Int := if d < 10 then 48 + d else 87 + d
def quoB (b : Int) : List Int := if b = 34 ∨ b = 92 then [92, b] else if b = 10 then [92, 110] else if b = 9 then [92, 116] else if b < 32 ∨ b = 127 then [92, 120, hexd (b / 16), hexd (b % 16)] else [b]
def quoBs : List Int → List Int
  | [] => []
  | b :: r => quoB b ++ quoBs r
def quoteL (l : List Int) : List Int := 34 :: (quoBs l ++ [34])
theorem quoBs_append (a b : List Int) : quoBs (a ++ b) = quoBs a ++ quoBs b := by
  induction a with
  | nil => rfl
  | cons x r ih => simp [quoBs, ih]
theorem quoBs_snoc (a : List Int) (b : Int) : quoBs (a ++ [b]) = quoBs a ++ quoB b := by rw [quoBs_append]; simp [quoBs]
theorem quoB_le (b : Int) : (quoB b).length ≤ 4 := by unfold quoB; repeat' split
                                                      all_goals simp
theorem quoBs_le (l : List Int) : (quoBs l).length ≤ 4 * l.length := by
  induction l with
  | nil => simp [quoBs]
  | cons b r ih => have := quoB_le b; simp [quoBs]; omega
theorem quoB_By {b : Int} (h : 0 ≤ b ∧ b ≤ 255) : By (quoB b) := by
  unfold quoB hexd; repeat' split
  all_goals (intro x hx; simp at hx; omega)
theorem quoBs_By {l : List Int} (h : By l) : By (quoBs l) := by
  induction l with
  | nil => exact By.nil
  | cons b r ih => exact (quoB_By (h b (by simp))).append (ih fun x hx => h x (by simp [hx]))
theorem quoB_mark {b : Int} (h : b = 34 ∨ b = 92) : quoB b = [92, b] := by unfold quoB; rw [if_pos h]
theorem quoB_nl : quoB 10 = [92, 110] := by decide
theorem quoB_tab : quoB 9 = [92, 116] := by decide
theorem quoB_low {b : Int} (h1 : b ≠ 10) (h2 : b ≠ 9) (h : b < 32 ∨ b = 127) : quoB b = [92, 120, hexd (b / 16), hexd (b % 16)] := by
  unfold quoB; rw [if_neg (by omega), if_neg h1, if_neg h2, if_pos h]
theorem quoB_self {b : Int} (h0 : ¬ (b = 34 ∨ b = 92)) (h : ¬ (b < 32 ∨ b = 127)) : quoB b = [b] := by
  unfold quoB; rw [if_neg h0, if_neg (by omega), if_neg (by omega), if_neg h]
/-! what is quoted is read back -/
theorem half_hexd {d : Int} (h0 : 0 ≤ d) (h1 : d ≤ 15) : half (hexd d) = some d := by
  unfold hexd half
  by_cases h : d < 10
  · rw [if_pos h, if_pos (by omega)]; congr 1; omega
  · rw [if_neg h, if_neg (by omega), if_pos (by omega)]; congr 1; omega
theorem part_quoB {b : Int} (hb : 0 ≤ b ∧ b ≤ 255) (r : List Int) : part (quoB b ++ r) = some (b, (quoB b).length) ∧ (quoB b ++ r).head? ≠ some 34 := by
  by_cases h1 : b = 34 ∨ b = 92
  · rw [quoB_mark h1]
    refine ⟨?_, by simp⟩
    simp only [List.cons_append, List.nil_append]
    rw [part_cons, if_neg (by omega), if_pos rfl, escPart_cons, if_pos h1]; rfl
  by_cases h2 : b = 10
  · subst h2; rw [quoB_nl]; exact ⟨by simp [part, escPart], by simp⟩
  by_cases h3 : b = 9
  · subst h3; rw [quoB_tab]; exact ⟨by simp [part, escPart], by simp⟩
  by_cases h4 : b < 32 ∨ b = 127
  · rw [quoB_low h2 h3 h4]
    refine ⟨?_, by simp⟩
    simp only [List.cons_append, List.nil_append]
    rw [part_cons, if_neg (by omega), if_pos rfl, escPart_cons, if_neg (by omega), if_neg (by omega), if_neg (by omega), if_pos rfl, hexPart_ok (half_hexd (by omega) (by omega)) (half_hexd (by omega) (by omega))]
    congr 1
    simp
    omega
  · rw [quoB_self h1 h4]
    simp only [List.cons_append, List.nil_append]
    refine ⟨?_, by simp; omega⟩
    rw [part_cons, if_neg (by omega), if_neg (by omega)]; rfl
theorem quo_quoBs {l : List Int} (h : By l) (r : List Int) : quo (quoBs l ++ 34 :: r) = some (l, (quoBs l).length + 1) := by
  induction l with
  | nil => simp only [quoBs, List.nil_append]; rw [quo_end]; rfl
  | cons b t ih =>
    have hb := h b (by simp)
    obtain ⟨p1, p2⟩ := part_quoB hb (quoBs t ++ 34 :: r)
    simp only [quoBs, List.append_assoc]
    rw [quo_part p2 p1, List.drop_left, ih fun x hx => h x (by simp [hx])]
    simp
    omega
theorem one_quote {l : List Int} (h : By l) : one (quoteL l) = .tok 3 l ((quoBs l).length + 2) := by
  unfold quoteL
  rw [one_str, quo_quoBs h]
theorem quoteL_length (l : List Int) : (quoteL l).length = (quoBs l).length + 2 := by unfold quoteL; simp
theorem all_quote {l : List Int} (h : By l) (hn : (quoteL l).length ≤ 8192) : ∃ a b, all (quoteL l) = .ok [⟨3, l, 1, 1⟩, ⟨6, [], a, b⟩] := by
  have hs : skip (quoteL l) = 0 := by unfold quoteL skip; rw [skipS_f]; simp [blank]
  have hlen : ((quoteL l).drop (skip (quoteL l))).length ≠ 0 := by rw [hs, List.drop_zero, quoteL_length]; omega
  have h1 : one ((quoteL l).drop (skip (quoteL l))) = .tok 3 l ((quoBs l).length + 2) := by rw [hs, List.drop_zero]; exact one_quote h
  unfold all
  rw [if_neg (by omega), lexC_tok hlen h1 (by omega)]
  rw [hs, ← quoteL_length]
  simp only [Nat.zero_add, List.drop_length]
  obtain ⟨f, hf⟩ : ∃ f, (quoteL l).length = f + 1 := ⟨(quoBs l).length + 1, by rw [quoteL_length]⟩
  rw [show (quoteL l).length = f + 1 from hf, lexC_end (by simp)]
  exact ⟨_, _, rfl⟩

def DIG : ByteArray := ⟨#[48, 49, 50, 51, 52, 53, 54, 55, 56, 57, 97, 98, 99, 100, 101, 102]⟩
theorem lst_many {k : IntKind} (w : World) (l : List Int) (t : TypeId) (hl : l.length ≤ 1000000) : Lst k (w.alloc (.cells (l.map (Value.int k)).toArray t)) (.slice (some ⟨w.heap.size, 0, none⟩) l.length l.length) l :=
  lst_row l (heap_alloc_new w _) hl
theorem own_len {e : TypeId} {k : IntKind} {w : World} {B : Nat} {v : Value} {l m : List Int} (h : Own e k w B v (l ++ m)) : ∃ A c, v = .slice A (l.length + m.length) c := by
  obtain ⟨A, c, hv⟩ := h.form
  exact ⟨A, c, by rw [hv, List.length_append]⟩

theorem dig_at (n : Nat) (hn : n < 16) : (((⟨#[48, 49, 50, 51, 52, 53, 54, 55, 56, 57, 97, 98, 99, 100, 101, 102]⟩ : ByteArray)[n]'hn).toNat : Int) = hexd n := by
  have : ∀ m : Fin 16, (((⟨#[48, 49, 50, 51, 52, 53, 54, 55, 56, 57, 97, 98, 99, 100, 101, 102]⟩ : ByteArray)[m.val]'m.isLt).toNat : Int) = hexd (m.val : Int) := by decide +kernel
  exact this ⟨n, hn⟩
theorem quo_u8 {x : Int} (h0 : 0 ≤ x) (h1 : x ≤ 255) : IntKind.u8.wrap (x.tdiv 16) = x / 16 ∧ x.tmod 16 = x % 16 := by
  rw [Int.tdiv_eq_ediv_of_nonneg h0, Int.tmod_eq_emod_of_nonneg h0, IntKind.wrap_u8]
  omega
set_option maxRecDepth 100000 in
set_option maxHeartbeats 4000000 in
theorem quote_any {s : ByteArray} {l : List Int} (hs : ch s = l) (hn : l.length ≤ 10000) (w : World) : Calls Tryz.prog 96 #[.string s] w (VPost w (.string (bytesOf (quoteL l)))) := by
  have HBY : Hid (By l) := Lib.hid (by rw [← hs]; exact ch_By s)
  have HSZ : Hid (s.size = l.length) := Lib.hid (by rw [← hs, ch_length])
  have HAT : Hid (∀ k x, l[k]? = some x → ∃ hk : k < s.size, ((s[k]'hk).toNat : Int) = x) := Lib.hid (fun k x h => ch_at (by rw [hs]; exact h))
  clear hs
  have hown0 : Own 5 .u8 (w.alloc (.cells #[.int .u8 34] 5)) w.heap.size (.slice (some ⟨w.heap.size, 0, none⟩) 1 1) [34] := ⟨rfl, .inr ⟨w.heap.size, 1, #[.int .u8 34], rfl, Nat.le_refl _, heap_alloc_new w _, Nat.le_refl _, by unfold maxLen; omega, rfl, rfl⟩⟩
  have OO := Lib.hid hown0
  clear hown0
  go_enter Tryz.func96, Tryz.ntmps96
  go_wp2_with fail
  go_loopg [4, 5, 6] (l.length + 1) (fun g' ov i _ wr => ∃ (k : Nat), i = .int .i64 k ∧ k ≤ l.length ∧ l.length - k + 1 ≤ g' ∧ Own 5 .u8 wr w.heap.size ov (34 :: quoBs (l.take k)) ∧ Below w.heap.size w wr)
  case atStart => exact ⟨0, rfl, Nat.zero_le _, by omega, OO.out, balloc w _⟩
  case round =>
    obtain ⟨k, rfl, hk, hg, hown, hbel⟩ := hrel
    obtain ⟨wo, rfl⟩ : ∃ wo : World, wo = wr := ⟨_, rfl⟩
    have O0 := Lib.hid hown
    have BW := Lib.hid hbel
    obtain ⟨Ao, co, rfl⟩ := hown.form
    have hql := quoBs_le (l.take k)
    rw [List.length_take] at hql
    have hq1 : (34 :: quoBs (l.take k)).length ≤ 50000 := by simp; omega
    clear hown hbel hql
    by_cases hkn : k < l.length
    · obtain ⟨x, hx⟩ : ∃ x, l[k]? = some x := ⟨l[k], List.getElem?_eq_getElem hkn⟩
      obtain ⟨hks, x0⟩ := HAT.out k x hx
      have hki : (k : Int) < (s.size : Int) := by omega
      have HXB := Lib.hid (HBY.out x (List.mem_of_getElem? hx))
      have HT : Hid (34 :: quoBs (l.take (k + 1)) = (34 :: quoBs (l.take k)) ++ quoB x) := Lib.hid (by rw [take_snoc' hx, quoBs_snoc]; rfl)
      generalize 34 :: quoBs (l.take k) = o at *
      clear hx
      by_cases hmk : x = 34 ∨ x = 92
      · have HQ := Lib.hid (quoB_mark hmk)
        rcases hmk with rfl | rfl
        · go_wp2_with (at_builtin; refine wpList_app rfl _ _ rfl elByte rfl (O0.out.below (balloc wo _)) rfl (lst_two wo 92 34 5) (by simp; omega) (by have := BW.out.size; simp; omega) ?_; intro v5 w5 hO hF; obtain ⟨A5, c5, hv5⟩ := own_len hO; simp only [List.length_cons, List.length_nil, Nat.zero_add, Nat.reduceAdd] at hv5; subst hv5; have O5 := Lib.hid hO; have B5 := Lib.hid ((BW.out.alloc BW.out.size _).trans hF.bel); clear hO hF)
          go_roundg (l.length - (k + 1) + 1)
          case measure => omega
          case rel => exact ⟨k + 1, by go_num, by omega, Nat.le_refl _, by rw [HT.out, HQ.out]; exact O5.out, B5.out⟩
        · go_wp2_with (at_builtin; refine wpList_app rfl _ _ rfl elByte rfl (O0.out.below (balloc wo _)) rfl (lst_two wo 92 92 5) (by simp; omega) (by have := BW.out.size; simp; omega) ?_; intro v5 w5 hO hF; obtain ⟨A5, c5, hv5⟩ := own_len hO; simp only [List.length_cons, List.length_nil, Nat.zero_add, Nat.reduceAdd] at hv5; subst hv5; have O5 := Lib.hid hO; have B5 := Lib.hid ((BW.out.alloc BW.out.size _).trans hF.bel); clear hO hF)
          go_roundg (l.length - (k + 1) + 1)
          case measure => omega
          case rel => exact ⟨k + 1, by go_num, by omega, Nat.le_refl _, by rw [HT.out, HQ.out]; exact O5.out, B5.out⟩
      by_cases h10 : x = 10
      · subst h10
        have HQ := Lib.hid quoB_nl
        go_wp2_with (at_builtin; refine wpList_app rfl _ _ rfl elByte rfl (O0.out.below (balloc wo _)) rfl (lst_two wo 92 110 5) (by simp; omega) (by have := BW.out.size; simp; omega) ?_; intro v5 w5 hO hF; obtain ⟨A5, c5, hv5⟩ := own_len hO; simp only [List.length_cons, List.length_nil, Nat.zero_add, Nat.reduceAdd] at hv5; subst hv5; have O5 := Lib.hid hO; have B5 := Lib.hid ((BW.out.alloc BW.out.size _).trans hF.bel); clear hO hF)
        go_roundg (l.length - (k + 1) + 1)
        case measure => omega
        case rel => exact ⟨k + 1, by go_num, by omega, Nat.le_refl _, by rw [HT.out, HQ.out]; exact O5.out, B5.out⟩
      by_cases h9 : x = 9
      · subst h9
        have HQ := Lib.hid quoB_tab
        go_wp2_with (at_builtin; refine wpList_app rfl _ _ rfl elByte rfl (O0.out.below (balloc wo _)) rfl (lst_two wo 92 116 5) (by simp; omega) (by have := BW.out.size; simp; omega) ?_; intro v5 w5 hO hF; obtain ⟨A5, c5, hv5⟩ := own_len hO; simp only [List.length_cons, List.length_nil, Nat.zero_add, Nat.reduceAdd] at hv5; subst hv5; have O5 := Lib.hid hO; have B5 := Lib.hid ((BW.out.alloc BW.out.size _).trans hF.bel); clear hO hF)
        go_roundg (l.length - (k + 1) + 1)
        case measure => omega
        case rel => exact ⟨k + 1, by go_num, by omega, Nat.le_refl _, by rw [HT.out, HQ.out]; exact O5.out, B5.out⟩
      have q34 : (x == 34) = false := beq_eq_false_iff_ne.2 (by omega)
      have q92 : (x == 92) = false := beq_eq_false_iff_ne.2 (by omega)
      have q10 : (x == 10) = false := beq_eq_false_iff_ne.2 h10
      have q9 : (x == 9) = false := beq_eq_false_iff_ne.2 h9
      by_cases hlow : x < 32 ∨ x = 127
      · have HQ := Lib.hid (quoB_low h10 h9 hlow)
        have hx0 := HXB.out.1
        have hx1 := HXB.out.2
        have hx2 : x ≤ 127 := by omega
        rcases hlow with hlow | h127
        · clear hmk h10 h9
          go_wp2_with fail
          obtain ⟨hw1, hw2⟩ := quo_u8 hx0 hx1
          obtain ⟨n1, hn1⟩ := Int.eq_ofNat_of_zero_le (show 0 ≤ x / 16 by omega)
          obtain ⟨n2, hn2⟩ := Int.eq_ofNat_of_zero_le (show 0 ≤ x % 16 by omega)
          have hb1 : n1 < 16 := by omega
          have hb2 : n2 < 16 := by omega
          have hc1 : (n1 : Int) < 16 := by omega
          have hc2 : (n2 : Int) < 16 := by omega
          rw [hn1, hn2] at HQ
          rw [hn1] at hw1
          rw [hn2] at hw2
          have ht1 := dig_at n1 hb1
          have ht2 := dig_at n2 hb2
          have h1B := lst_many (k := .u8) wo [92, 120, hexd (n1 : Int), hexd (n2 : Int)] 5 (by simp)
          generalize hexd (n1 : Int) = e1 at *
          generalize hexd (n2 : Int) = e2 at *
          have LB := Lib.hid h1B
          clear h1B hn1 hn2
          go_region_law (refine step_app rfl (.tmp 51) (.tmp 60) rfl elByte (B := w.heap.size) rfl (O0.out.below (balloc wo (.cells #[.int .u8 92, .int .u8 120, .int .u8 e1, .int .u8 e2] 5)).drew) rfl (LB.out.below (Below.refl _ _).drew) ?h1 ?h2 ?_; (case h1 => (simp; omega)); (case h2 => (have := BW.out.size; simp; omega)); intro v5 w5 hO hF; obtain ⟨A5, c5, hv5⟩ := own_len hO; simp only [List.length_cons, List.length_nil, Nat.zero_add, Nat.reduceAdd] at hv5; subst hv5; have O5 := Lib.hid hO; have B5 := Lib.hid ((BW.out.alloc BW.out.size (.cells #[.int .u8 92, .int .u8 120, .int .u8 e1, .int .u8 e2] 5)).drew.trans hF.bel); clear hO hF)
          all_goals
            clear hw1 hw2 ht1 ht2
            go_wp2_with fail
            go_roundg (l.length - (k + 1) + 1)
            case measure => omega
            case rel => exact ⟨k + 1, by go_num, by omega, Nat.le_refl _, by rw [HT.out, HQ.out]; exact O5.out, B5.out⟩
        · have q127 : (x == 127) = true := by simp [h127]
          have hge : 32 ≤ x := by omega
          clear hmk h10 h9 h127
          go_wp2_with fail
          obtain ⟨hw1, hw2⟩ := quo_u8 hx0 hx1
          obtain ⟨n1, hn1⟩ := Int.eq_ofNat_of_zero_le (show 0 ≤ x / 16 by omega)
          obtain ⟨n2, hn2⟩ := Int.eq_ofNat_of_zero_le (show 0 ≤ x % 16 by omega)
          have hb1 : n1 < 16 := by omega
          have hb2 : n2 < 16 := by omega
          have hc1 : (n1 : Int) < 16 := by omega
          have hc2 : (n2 : Int) < 16 := by omega
          rw [hn1, hn2] at HQ
          rw [hn1] at hw1
          rw [hn2] at hw2
          have ht1 := dig_at n1 hb1
          have ht2 := dig_at n2 hb2
          have h1B := lst_many (k := .u8) wo [92, 120, hexd (n1 : Int), hexd (n2 : Int)] 5 (by simp)
          generalize hexd (n1 : Int) = e1 at *
          generalize hexd (n2 : Int) = e2 at *
          have LB := Lib.hid h1B
          clear h1B hn1 hn2
          go_region_law (refine step_app rfl (.tmp 51) (.tmp 60) rfl elByte (B := w.heap.size) rfl (O0.out.below (balloc wo (.cells #[.int .u8 92, .int .u8 120, .int .u8 e1, .int .u8 e2] 5)).drew) rfl (LB.out.below (Below.refl _ _).drew) ?h1 ?h2 ?_; (case h1 => (simp; omega)); (case h2 => (have := BW.out.size; simp; omega)); intro v5 w5 hO hF; obtain ⟨A5, c5, hv5⟩ := own_len hO; simp only [List.length_cons, List.length_nil, Nat.zero_add, Nat.reduceAdd] at hv5; subst hv5; have O5 := Lib.hid hO; have B5 := Lib.hid ((BW.out.alloc BW.out.size (.cells #[.int .u8 92, .int .u8 120, .int .u8 e1, .int .u8 e2] 5)).drew.trans hF.bel); clear hO hF)
          all_goals
            clear hw1 hw2 ht1 ht2
            go_wp2_with fail
            go_roundg (l.length - (k + 1) + 1)
            case measure => omega
            case rel => exact ⟨k + 1, by go_num, by omega, Nat.le_refl _, by rw [HT.out, HQ.out]; exact O5.out, B5.out⟩

      · have HQ := Lib.hid (quoB_self hmk hlow)
        have q127 : (x == 127) = false := beq_eq_false_iff_ne.2 (by omega)
        have hge : 32 ≤ x := by omega
        clear hmk hlow h10 h9
        go_wp2_with (at_builtin; refine wpList_app rfl _ _ rfl elByte rfl (O0.out.below (balloc wo _)) rfl (lst_one wo x 5) (by simp; omega) (by have := BW.out.size; simp; omega) ?_; intro v5 w5 hO hF; obtain ⟨A5, c5, hv5⟩ := own_len hO; simp only [List.length_cons, List.length_nil, Nat.zero_add] at hv5; subst hv5; have O5 := Lib.hid hO; have B5 := Lib.hid ((BW.out.alloc BW.out.size _).trans hF.bel); clear hO hF)
        go_roundg (l.length - (k + 1) + 1)
        case measure => omega
        case rel => exact ⟨k + 1, by go_num, by omega, Nat.le_refl _, by rw [HT.out, HQ.out]; exact O5.out, B5.out⟩
    · obtain rfl : k = l.length := by omega
      have hki2 : (s.size : Int) ≤ (l.length : Int) := by have := HSZ.out; omega
      have HTL := Lib.hid (List.take_length (l := l))
      rw [HTL.out] at O0 hq1 ⊢
      have HBQ := Lib.hid (quoBs_By HBY.out)
      generalize hob : 34 :: quoBs l = o at *
      have HOB := Lib.hid hob
      clear hob
      go_wp2_with (at_builtin; refine wpList_app rfl _ _ rfl elByte rfl (O0.out.below (balloc wo _)) rfl (lst_one wo 34 5) (by simp; omega) (by have := BW.out.size; simp; omega) ?_; intro v5 w5 hO hF; have hcv := conv_lst hO.lst (by rw [← HOB.out]; exact ((By.one (x := 34) (by omega)).append HBQ.out).append (By.one (by omega))); obtain ⟨A5, c5, hv5⟩ := own_snoc hO; subst hv5; have B5 := Lib.hid ((BW.out.alloc BW.out.size _).trans hF.bel); clear hO hF)
      go_ret
      exact ⟨ret_t (by rw [← HOB.out]; rfl), B5.out⟩
end Go.Proofs.YtdncjhffniepbaaGreatDoor.Lx
/- (LxG1)
  Layer 5, the program: the small functions of the lexer: classes of bytes, columns, faults, leading bytes.
-/
namespace Go.Proofs.YtdncjhffniepbaaGreatDoor.Lx
open Go.RowKit

theorem gstart_any (b : Int) (w : World) : Calls Tryz.prog 74 #[.int .u8 b] w fun e w' => e = .returned (.bool (letter b)) ∧ w = w' := by
  by_cases h : b = 95
  · subst h
    go_enter Tryz.func74, Tryz.ntmps74
    go_wp2
    go_ret
    exact ⟨ret_b (by decide), rfl⟩
  · have h' : (b == 95) = false := beq_eq_false_iff_ne.2 h
    go_enter Tryz.func74, Tryz.ntmps74
    go_wp2
    all_goals
      go_ret
      exact ⟨ret_b (by unfold letter; rw [Bool.eq_iff_iff]; simp only [decide_eq_true_eq, Bool.or_eq_true, Bool.false_eq_true, false_iff, true_iff, or_false, h]; omega), rfl⟩
theorem gdigit_any (b : Int) (w : World) : Calls Tryz.prog 77 #[.int .u8 b] w fun e w' => e = .returned (.bool (digit b)) ∧ w = w' := by
  go_enter Tryz.func77, Tryz.ntmps77
  go_wp2
  all_goals
    go_ret
    exact ⟨ret_b (by unfold digit; rw [Bool.eq_iff_iff]; simp only [decide_eq_true_eq, Bool.false_eq_true, false_iff]; omega), rfl⟩
theorem inWord_eq (b : Int) : inWord b = (letter b || digit b || decide (b = 45)) := by
  unfold inWord
  cases letter b <;> cases digit b <;> rfl
theorem gword_any (b : Int) (w : World) : Calls Tryz.prog 76 #[.int .u8 b] w fun e w' => e = .returned (.bool (inWord b)) ∧ w = w' := by
  have HS := Lib.hid (fun W => gstart_any b W)
  have HD := Lib.hid (fun W => gdigit_any b W)
  have E := Lib.hid (inWord_eq b)
  cases hl : letter b with
  | true =>
    rw [hl] at HS E
    go_enter Tryz.func76, Tryz.ntmps76
    go_wp2_with (first | (go_at_call 74; ((with_reducible refine (HS.out _).mono ?_); rintro e w' ⟨rfl, rfl⟩)) | (go_at_call 77; ((with_reducible refine (HD.out _).mono ?_); rintro e w' ⟨rfl, rfl⟩)))
    go_ret
    exact ⟨ret_b (by rw [E.out]; simp), rfl⟩
  | false =>
    rw [hl] at HS E
    cases hd : digit b with
    | true =>
      rw [hd] at HD E
      go_enter Tryz.func76, Tryz.ntmps76
      go_wp2_with (first | (go_at_call 74; ((with_reducible refine (HS.out _).mono ?_); rintro e w' ⟨rfl, rfl⟩)) | (go_at_call 77; ((with_reducible refine (HD.out _).mono ?_); rintro e w' ⟨rfl, rfl⟩)))
      go_ret
      exact ⟨ret_b (by rw [E.out]; simp), rfl⟩
    | false =>
      rw [hd] at HD E
      by_cases h : b = 45
      · subst h
        go_enter Tryz.func76, Tryz.ntmps76
        go_wp2_with (first | (go_at_call 74; ((with_reducible refine (HS.out _).mono ?_); rintro e w' ⟨rfl, rfl⟩)) | (go_at_call 77; ((with_reducible refine (HD.out _).mono ?_); rintro e w' ⟨rfl, rfl⟩)))
        go_ret
        exact ⟨ret_b (by rw [E.out]; simp), rfl⟩
      · have h' : (b == 45) = false := beq_eq_false_iff_ne.2 h
        have HN := Lib.hid h
        clear h
        go_enter Tryz.func76, Tryz.ntmps76
        go_wp2_with (first | (go_at_call 74; ((with_reducible refine (HS.out _).mono ?_); rintro e w' ⟨rfl, rfl⟩)) | (go_at_call 77; ((with_reducible refine (HD.out _).mono ?_); rintro e w' ⟨rfl, rfl⟩)))
        go_ret
        exact ⟨ret_b (by rw [E.out]; simp [HN.out]), rfl⟩

/-- A scanner in memory. -/
abbrev ScnO (s : ByteArray) (k ln st : Int) : Obj := .cells #[.string s, .int .i64 k, .int .i64 ln, .int .i64 st] 87 (0, 0)
theorem column_any {b : Nat} {s : ByteArray} {k ln st : Int} (w : World) (hb : w.heap[b]? = some (ScnO s k ln st)) (h0 : 0 ≤ st) (h1 : st ≤ k) (h2 : k ≤ 100000) :
    Calls Tryz.prog 73 #[.pointer (some ⟨b, 0, none⟩)] w (QPost w (.int .i64 (k - st + 1))) := by
  have d1 := cell_of_row _ _ 1 _ _ _ hb
  have d3 := cell_of_row _ _ 3 _ _ _ hb
  clear hb
  go_enter Tryz.func73, Tryz.ntmps73
  go_wp2_with fail
  go_quiet (fail)
  go_wp2_with fail
  go_ret
  exact ⟨rfl, _, rfl⟩
/-- A fault as an error. -/
def fltV (f : Flt) : Value := .iface 62 (.agg #[.int .i64 f.1, .int .i64 f.2.1, .int .i64 f.2.2])
theorem fault_any {b : Nat} {s : ByteArray} {k ln st : Int} (w : World) (hb : w.heap[b]? = some (ScnO s k ln st)) (h0 : 0 ≤ st) (h1 : st ≤ k) (h2 : k ≤ 100000) (c : Int) :
    Calls Tryz.prog 78 #[.pointer (some ⟨b, 0, none⟩), .int .i64 c] w (QPost w (fltV (c, ln, k - st + 1))) := by
  have HC := Lib.hid (fun n => column_any (w.drewN n) hb h0 h1 h2)
  have d2 := cell_of_row _ _ 2 _ _ _ hb
  clear hb
  go_enter Tryz.func78, Tryz.ntmps78
  go_wp2_with fail
  go_quiet ((go_at_call 73; exact Calls.quiet_of (HC.out _)))
  go_wp2_with fail
  go_ret
  exact ⟨rfl, _, rfl⟩
end Go.Proofs.YtdncjhffniepbaaGreatDoor.Lx
/- (LxG2)
  Layer 5, the program: bytes are gathered in a strings.Builder; the parts of patterns; leading bytes.
-/
namespace Go.Proofs.YtdncjhffniepbaaGreatDoor.Lx
open Go.RowKit

/-- A Builder in block b that holds l; its rows lie at B or above. -/
def Bld (w : World) (B b : Nat) (l : List Int) : Prop := Lib.IsBuilderF 159 5 B b (l.map (Value.int .u8)) w
theorem bld_new (w : World) : Bld (w.alloc (.cells #[.pointer none, .slice none 0 0] 159)) w.heap.size w.heap.size [] :=
  .inl ⟨Nat.le_refl _, _, heap_alloc_new w _, World.ownsRowF_of (World.ownsRow_nil _ _ _ _), by simp [Value.ownBlock]⟩
theorem builder_info : (Tryz.prog.info? 159).map (fun i => i.size) = some 2 := by kernel_rfl

set_option maxRecDepth 100000 in
set_option maxHeartbeats 1000000 in
theorem check_any {B b : Nat} {l : List Value} (w : World) (h : Lib.IsBuilderF 159 5 B b l w) : Calls Tryz.prog 114 #[.pointer (some ⟨b, 0, none⟩)] w fun e w' => e = .returned (.tuple #[]) ∧ (Lib.BuilderAtF 159 5 B b (.pointer (some ⟨b, 0, none⟩)) l w' ∧ Below B w w') := by
  obtain ⟨j, hj, hjs⟩ := Option.map_eq_some_iff.1 builder_info
  rcases h with h | h
  · have c0 := h.cell0
    have hsh := h.shape
    have hfz := h.frozen0
    have H := Lib.hid h
    clear h
    go_enter Tryz.func114, Tryz.ntmps114
    go_wp2
    rw [Lib.run_to_unsafe w ⟨b, 0, none⟩ Tryz.underlying157 Tryz.underlying92 hj (by rw [hjs]; decide) hsh (Nat.zero_lt_succ 1)]
    simp only [Result.andThen]
    rw [Oper.upon_value]
    go_wp2
    rw [run_callFunc_extern Tryz.func128 (by kernel_rfl) (by kernel_rfl) (by kernel_rfl) (e := Extern.AbiNoEscape.same) (by kernel_rfl), Lib.run_noEscape]
    simp only [Result.andThen]
    rw [Oper.upon_value]
    go_wp2
    rw [Lib.run_from_unsafe w ⟨b, 0, none⟩ Tryz.underlying92 Tryz.underlying157 hj hsh (by kernel_rfl)]
    simp only [Result.andThen]
    rw [Oper.upon_value]
    go_wp2
    go_end0
    exact ⟨rfl, H.out.used _, (Below.refl B w).setCell (p := ⟨b, 0, none⟩) H.out.1 _⟩
  · have c0 := h.cell0
    have H := Lib.hid h
    clear h
    go_enter Tryz.func114, Tryz.ntmps114
    go_wp2
    rw [Lib.run_neq_ptr_same w _ Tryz.underlying157 hj]
    go_wp2
    go_end0
    exact ⟨rfl, H.out, Below.refl B _⟩

theorem elByteInfo : ∃ i, Tryz.prog.info? 5 = some i ∧ i.zero = some (.int .u8 0) ∧ i.size = 1 ∧ i.bytes = 1 := by
  obtain ⟨i, h1, h2, h3, h4⟩ := info_parts Tryz.info5
  exact ⟨i, h1, h2, h3, h4⟩
set_option maxRecDepth 100000 in
set_option maxHeartbeats 2000000 in
/-- A string more. -/
theorem bld_str {B b : Nat} {l m : List Int} {w : World} {s : ByteArray} (hs : ch s = m) (h : Bld w B b l) (hl : l.length + m.length ≤ 1000000) (hB : B ≤ w.heap.size) :
    Calls Tryz.prog 102 #[.pointer (some ⟨b, 0, none⟩), .string s] w fun e w' => e = .returned (.tuple #[.int .i64 m.length, .nilIface]) ∧ Bld w' B b (l ++ m) ∧ Below B w w' := by
  obtain ⟨i0, hi, hz0, hz1, hz2⟩ := elByteInfo
  have hsz : s.size = m.length := by rw [← hs, ch_length]
  have hsc : Lib.strCells s = m.map (Value.int .u8) := by rw [← hs]; unfold Lib.strCells ch; simp
  have HC := Lib.hid (check_any w h)
  clear h hs
  go_enter Tryz.func102, Tryz.ntmps102
  go_wp2_with (go_at_call 114; refine HC.out.mono ?_)
  rintro e w1 ⟨rfl, h1, hb1⟩
  obtain ⟨hBb, v, hbk, hown, hne⟩ := h1
  have hlt := heap_lt hbk
  have c1 := cell_of_row _ _ 1 _ _ _ hbk
  go_wp2_with (at_builtin; refine Lib.wpList_append_own_stringF _ rfl _ _ 53 9 rfl B 5 i0 Tryz.underlying53 Tryz.underlying9 hi hz0 hz1 hz2 _ _ _ rfl hown s rfl ?k3 ?k4 ?k5 ?_)
  case k3 => simp; unfold maxLen; omega
  case k4 => simp; omega
  case k5 => have := hb1.size; omega
  intro v' w2 hown' hgrow _
  have hb2 : w2.heap[b]? = some (.cells #[.pointer (some ⟨b, 0, none⟩), v] 159 (0, 0)) := by
    rw [hgrow.block b hlt (fun e => hne e.symm)]
    exact hbk
  have d1 := cell_of_row _ _ 1 _ _ _ hb2
  have f1 : w2.frozen? ⟨b, 1, none⟩ = false := Lib.frozen_of_heap hb2 1
  obtain ⟨ao, n', cap, rfl⟩ : ∃ ao n' cap, v' = .slice ao n' cap := by
    rcases hown'.2 with ⟨hv, _⟩ | ⟨g, cap, cur, fz, hv, _⟩
    · exact ⟨_, _, _, hv⟩
    · exact ⟨_, _, _, hv⟩
  have HP : Hid (Lib.BuilderAtF 159 5 B b (.pointer (some ⟨b, 0, none⟩)) ((l ++ m).map (Value.int .u8)) (w2.setCell ⟨b, 1, none⟩ (.slice ao n' cap))) :=
    Lib.hid (Lib.BuilderAtF.put hBb hb2 (by simpa using hown') (by decide))
  have HB : Hid (Below B w (w2.setCell ⟨b, 1, none⟩ (.slice ao n' cap))) :=
    Lib.hid ((hb1.grown hgrow (by have := hb1.size; omega) (fun k hk => (hown.lt k hk).1)).setCell (p := ⟨b, 1, none⟩) hBb _)

  clear hown hown' hgrow
  go_wp2
  go_ret2
  exact ⟨rfl, .inr HP.out, HB.out⟩
/-- What has been gathered. -/
theorem bld_string {B b : Nat} {l : List Int} {w : World} (h : Bld w B b l) (hl : By l) (hB : B ≤ w.heap.size) :
    Calls Tryz.prog 103 #[.pointer (some ⟨b, 0, none⟩)] w fun e w' => e = .returned (.string (bytesOf l)) ∧ Below B w w' := by
  have e : l.map (Value.int .u8) = Lib.byteCells (l.map fun x => UInt8.ofNat x.toNat) := by
    unfold Lib.byteCells
    rw [List.map_map]
    refine List.map_congr_left fun x hx => ?_
    have := hl x hx
    simp
    omega
  unfold Bld at h
  rw [e] at h
  refine (Tryz.Builder_String_any_k B b _ w h hB).mono ?_
  rintro e w' ⟨rfl, _, hb, _⟩
  exact ⟨rfl, hb⟩
end Go.Proofs.YtdncjhffniepbaaGreatDoor.Lx
/- (LxG3)
  Layer 5, the program: leading bytes of a kind.
-/
namespace Go.Proofs.YtdncjhffniepbaaGreatDoor.Lx
open Go.RowKit

theorem take_bytes {s : ByteArray} {l : List Int} (hs : ch s = l) (n : Nat) : s.extract 0 n = bytesOf (l.take n) := by
  rw [← hs, ← ch_take, bytesOf_ch]

set_option maxRecDepth 100000 in
set_option maxHeartbeats 2000000 in
theorem lead_word {s : ByteArray} {l : List Int} (hs : ch s = l) (hn : l.length ≤ 100000) (w : World) : Calls Tryz.prog 75 #[.string s, .func (.func 76) #[] #[]] w (VPost w (.string (bytesOf (l.take (spanL true l))))) := by
  have HSZ : Hid (s.size = l.length) := Lib.hid (by rw [← hs, ch_length])
  have HAT : Hid (∀ k x, l[k]? = some x → ∃ hk : k < s.size, ((s[k]'hk).toNat : Int) = x) := Lib.hid (fun k x h => ch_at (by rw [hs]; exact h))
  have HT := Lib.hid (fun n => take_bytes hs n)
  have HD := Lib.hid (fun (x : Int) (W : World) => gword_any x W)
  clear hs
  go_enter Tryz.func75, Tryz.ntmps75
  go_wp2_with fail
  go_loopg [5] (l.length + 1) (fun g' i wr => ∃ (k : Nat), i = .int .i64 k ∧ k ≤ l.length ∧ l.length - k + 1 ≤ g' ∧ Sp true l k ∧ wr = w)
  case atStart => exact ⟨0, rfl, Nat.zero_le _, by omega, by unfold Sp; simp, rfl⟩
  case round =>
    obtain ⟨k, rfl, hk, hg, hsk, rfl⟩ := hrel
    have SK := Lib.hid hsk
    clear hsk
    have hks2 : (k : Int) ≤ (s.size : Int) := by have := HSZ.out; omega
    by_cases hkn : k < l.length
    · obtain ⟨x, hx⟩ : ∃ x, l[k]? = some x := ⟨l[k], List.getElem?_eq_getElem hkn⟩
      obtain ⟨hks, x0⟩ := HAT.out k x hx
      have hki : (k : Int) < (s.size : Int) := by omega
      have HX := Lib.hid hx
      have HDx := Lib.hid (HD.out x)
      clear hx
      cases hd : inWord x with
      | true =>
        rw [hd] at HDx
        have S1 := Lib.hid (SK.out.more HX.out (by simp [pw, hd]))
        go_wp2_with (go_at_call 76; (refine (HDx.out _).mono ?_; rintro e w' ⟨rfl, rfl⟩))
        go_roundg (l.length - (k + 1) + 1)
        case measure => omega
        case rel => exact ⟨k + 1, by go_num, by omega, Nat.le_refl _, S1.out, rfl⟩
      | false =>
        rw [hd] at HDx
        have E := Lib.hid (SK.out.stop HX.out (by simp [pw, hd]))
        go_wp2_with (go_at_call 76; (refine (HDx.out _).mono ?_; rintro e w' ⟨rfl, rfl⟩))
        go_ret
        exact ⟨ret_t (by rw [E.out, ← HT.out]; rfl), Below.refl _ _⟩
    · obtain rfl : k = l.length := by omega
      have E := Lib.hid SK.out.over
      have hmi : (s.size : Int) ≤ (l.length : Int) := by have := HSZ.out; omega
      have hmi2 : decide ((l.length : Int) < (s.size : Int)) = false := decide_eq_false (by omega)
      go_wp2_with fail
      go_ret
      exact ⟨ret_t (by rw [E.out, ← HT.out]; rfl), Below.refl _ _⟩

set_option maxRecDepth 100000 in
set_option maxHeartbeats 2000000 in
theorem lead_number {s : ByteArray} {l : List Int} (hs : ch s = l) (hn : l.length ≤ 100000) (w : World) : Calls Tryz.prog 75 #[.string s, .func (.func 77) #[] #[]] w (VPost w (.string (bytesOf (l.take (spanL false l))))) := by
  have HSZ : Hid (s.size = l.length) := Lib.hid (by rw [← hs, ch_length])
  have HAT : Hid (∀ k x, l[k]? = some x → ∃ hk : k < s.size, ((s[k]'hk).toNat : Int) = x) := Lib.hid (fun k x h => ch_at (by rw [hs]; exact h))
  have HT := Lib.hid (fun n => take_bytes hs n)
  have HD := Lib.hid (fun (x : Int) (W : World) => gdigit_any x W)
  clear hs
  go_enter Tryz.func75, Tryz.ntmps75
  go_wp2_with fail
  go_loopg [5] (l.length + 1) (fun g' i wr => ∃ (k : Nat), i = .int .i64 k ∧ k ≤ l.length ∧ l.length - k + 1 ≤ g' ∧ Sp false l k ∧ wr = w)
  case atStart => exact ⟨0, rfl, Nat.zero_le _, by omega, by unfold Sp; simp, rfl⟩
  case round =>
    obtain ⟨k, rfl, hk, hg, hsk, rfl⟩ := hrel
    have SK := Lib.hid hsk
    clear hsk
    have hks2 : (k : Int) ≤ (s.size : Int) := by have := HSZ.out; omega
    by_cases hkn : k < l.length
    · obtain ⟨x, hx⟩ : ∃ x, l[k]? = some x := ⟨l[k], List.getElem?_eq_getElem hkn⟩
      obtain ⟨hks, x0⟩ := HAT.out k x hx
      have hki : (k : Int) < (s.size : Int) := by omega
      have HX := Lib.hid hx
      have HDx := Lib.hid (HD.out x)
      clear hx
      cases hd : digit x with
      | true =>
        rw [hd] at HDx
        have S1 := Lib.hid (SK.out.more HX.out (by simp [pw, hd]))
        go_wp2_with (go_at_call 77; (refine (HDx.out _).mono ?_; rintro e w' ⟨rfl, rfl⟩))
        go_roundg (l.length - (k + 1) + 1)
        case measure => omega
        case rel => exact ⟨k + 1, by go_num, by omega, Nat.le_refl _, S1.out, rfl⟩
      | false =>
        rw [hd] at HDx
        have E := Lib.hid (SK.out.stop HX.out (by simp [pw, hd]))
        go_wp2_with (go_at_call 77; (refine (HDx.out _).mono ?_; rintro e w' ⟨rfl, rfl⟩))
        go_ret
        exact ⟨ret_t (by rw [E.out, ← HT.out]; rfl), Below.refl _ _⟩
    · obtain rfl : k = l.length := by omega
      have E := Lib.hid SK.out.over
      have hmi : (s.size : Int) ≤ (l.length : Int) := by have := HSZ.out; omega
      have hmi2 : decide ((l.length : Int) < (s.size : Int)) = false := decide_eq_false (by omega)
      go_wp2_with fail
      go_ret
      exact ⟨ret_t (by rw [E.out, ← HT.out]; rfl), Below.refl _ _⟩
end Go.Proofs.YtdncjhffniepbaaGreatDoor.Lx
/- (LxG4)
  Layer 5, the program: strconv.ParseUint at two bytes, base 16.
-/
namespace Go.Proofs.YtdncjhffniepbaaGreatDoor.Lx
open Go.RowKit

def low (c : Int) : Int := if c / 32 % 2 = 1 then c else c + 32
theorem low_all : ∀ n : Fin 256, bits .or .u8 (n.val : Int) 32 = low (n.val : Int) := by decide +kernel
theorem low_eq {c : Int} (h0 : 0 ≤ c) (h1 : c ≤ 255) : bits .or .u8 c 32 = low c := by
  have := low_all ⟨c.toNat, by omega⟩
  simp only at this
  rwa [Int.toNat_of_nonneg h0] at this
theorem glow_any {c : Int} (h0 : 0 ≤ c) (h1 : c ≤ 255) (w : World) : Calls Tryz.prog 129 #[.int .u8 c] w fun e w' => e = .returned (.int .u8 (low c)) ∧ w = w' := by
  refine (Tryz.internal_strconv_lower c w).mono ?_
  rintro e w' ⟨rfl, rfl⟩
  exact ⟨by rw [low_eq h0 h1], rfl⟩

def hex2 (x y : Int) : Option Int := match half x, half y with
  | some u, some v => some (16 * u + v)
  | _, _ => none
def HexAt (x y : Int) (k : Nat) (r : Int) : Prop := (k = 0 ∧ r = 0) ∨ (k = 1 ∧ half x = some r) ∨ (k = 2 ∧ hex2 x y = some r)
theorem HexAt.bd {x y : Int} {k : Nat} {r : Int} (h : HexAt x y k r) (hk : k < 2) : 0 ≤ r ∧ r ≤ 15 := by
  rcases h with ⟨_, rfl⟩ | ⟨_, h⟩ | ⟨h, _⟩
  · omega
  · exact half_bd h
  · omega
theorem HexAt.done {x y : Int} {r : Int} (h : HexAt x y 2 r) : hex2 x y = some r := by
  rcases h with ⟨h, _⟩ | ⟨h, _⟩ | ⟨_, h⟩
  · omega
  · omega
  · exact h
theorem HexAt.bad {x y : Int} {k : Nat} {r z : Int} (h : HexAt x y k r) (hz : [x, y][k]? = some z) (hh : half z = none) : hex2 x y = none := by
  match k, hz with
  | 0, hz => simp at hz; subst hz; unfold hex2; rw [hh]
  | 1, hz => simp at hz; subst hz; unfold hex2; rw [hh]; cases half x <;> rfl
theorem HexAt.more {x y : Int} {k : Nat} {r z d : Int} (h : HexAt x y k r) (hz : [x, y][k]? = some z) (hh : half z = some d) : HexAt x y (k + 1) (r * 16 + d) := by
  match k, hz with
  | 0, hz =>
    simp at hz; subst hz
    rcases h with ⟨_, rfl⟩ | ⟨h, _⟩ | ⟨h, _⟩
    · exact .inr (.inl ⟨rfl, by simpa using hh⟩)
    · omega
    · omega
  | 1, hz =>
    simp at hz; subst hz
    rcases h with ⟨h, _⟩ | ⟨_, h⟩ | ⟨h, _⟩
    · omega
    · refine .inr (.inr ⟨rfl, ?_⟩)
      unfold hex2
      rw [h, hh]
      simp only [Option.some.injEq]
      omega
    · omega
theorem half_dig {z : Int} (h0 : 48 ≤ z) (h1 : z ≤ 57) : half z = some (z - 48) := by unfold half; rw [if_pos ⟨h0, h1⟩]
theorem half_let {z : Int} (_h : z < 48 ∨ 57 < z) (h0 : 97 ≤ low z) (h1 : low z ≤ 102) : half z = some (low z - 87) := by
  unfold low at *
  unfold half
  rw [if_neg (by omega)]
  by_cases h2 : 97 ≤ z ∧ z ≤ 102
  · rw [if_pos h2]; congr 1; split <;> omega
  · rw [if_neg h2, if_pos (by split at h0 <;> omega)]; congr 1; split <;> omega
theorem half_not {z : Int} (_hb : 0 ≤ z ∧ z ≤ 255) (_h : z < 48 ∨ 57 < z) (h0 : low z < 97 ∨ 102 < low z) : half z = none := by
  unfold low at *
  unfold half
  rw [if_neg (by omega), if_neg (by split at h0 <;> omega), if_neg (by split at h0 <;> omega)]
def puV (x y : Int) : Value := match hex2 x y with
  | some v => .tuple #[.int .u64 v, .nilIface]
  | none => .tuple #[.int .u64 0, .iface 179 (.int .i64 2)]

theorem conv_two {s : ByteArray} {x y : Int} (hs : ch s = [x, y]) (w : World) : ∃ cap w', (convert 9 53 (.string s)).run Tryz.prog w = .ok (.slice (some ⟨w.heap.size, 0, none⟩) 2 cap) w' ∧ Below w.heap.size w w' ∧ w'.cell? ⟨w.heap.size, 0, none⟩ = some (.int .u8 x) ∧ w'.cell? ⟨w.heap.size, 1, none⟩ = some (.int .u8 y) := by
  have hsz : s.size = 2 := by rw [← ch_length, hs]; rfl
  have hsd : s.data.size = 2 := hsz
  have h := run_bytes_of_string (P := Tryz.prog) w 9 53 5 s Tryz.underlying9 Tryz.underlying53 Tryz.underlying5
  obtain ⟨h0, x0⟩ := ch_at (s := s) (k := 0) (x := x) (by rw [hs]; rfl)
  obtain ⟨h1, x1⟩ := ch_at (s := s) (k := 1) (x := y) (by rw [hs]; rfl)
  have r0 := bytesRow_at s (grownCap w s.size 0 5) 0 (by omega)
  have r1 := bytesRow_at s (grownCap w s.size 0 5) 1 (by omega)
  have q0 : ((s.data[0]'(by omega)).toNat : Int) = x := x0
  have q1 : ((s.data[1]'(by omega)).toNat : Int) = y := x1
  rw [q0] at r0
  rw [q1] at r1
  rw [hsz] at h r0 r1
  refine ⟨_, _, h, ((Below.refl _ _).drew).alloc (Nat.le_refl _) _, ?_, ?_⟩
  · exact (cell_of_row _ _ 0 _ _ _ (heap_alloc_new w.drew _)).trans r0
  · exact (cell_of_row _ _ 1 _ _ _ (heap_alloc_new w.drew _)).trans r1

set_option maxRecDepth 100000 in
set_option maxHeartbeats 4000000 in
theorem pu_any {s : ByteArray} {x y : Int} (hs : ch s = [x, y]) (w : World) : Calls Tryz.prog 115 #[.string s, .int .i64 16, .int .i64 8] w (VPost w (puV x y)) := by
  have HBY : Hid (By [x, y]) := Lib.hid (by rw [← hs]; exact ch_By s)
  have hsz : s.size = 2 := by rw [← ch_length, hs]; rfl
  have hse : s.toList.isEmpty = false := by
    rw [← decide_eq_emptyBytes]
    refine decide_eq_false fun e => ?_
    rw [e] at hsz
    simp at hsz
  obtain ⟨cap, w1, hcv, hb1, c0, c1⟩ := conv_two hs w
  have B1 := Lib.hid hb1
  have HCL : Hid (∀ (k : Nat) (z : Int), [x, y][k]? = some z → w1.cell? ⟨w.heap.size, k, none⟩ = some (.int .u8 z)) := by
    refine Lib.hid fun k z hz => ?_
    match k, hz with
    | 0, hz => simp at hz; subst hz; exact c0
    | 1, hz => simp at hz; subst hz; exact c1
  have HL := Lib.hid (fun (c : Int) (h0 : 0 ≤ c) (h1 : c ≤ 255) (W : World) => glow_any h0 h1 W)
  clear hs hb1 c0 c1
  go_enter Tryz.func115, Tryz.ntmps115
  go_wp2_with fail
  go_loopg [12, 13, 15, 16, 17, 101] (2 + 1) (fun g' un n _ _ _ i wr => ∃ (k : Nat) (r : Int), un = .bool false ∧ n = .int .u64 r ∧ i = .int .i64 k ∧ k ≤ 2 ∧ 2 - k + 1 ≤ g' ∧ HexAt x y k r ∧ wr = w1)
  case atStart => exact ⟨0, 0, rfl, rfl, rfl, by omega, by omega, .inl ⟨rfl, rfl⟩, rfl⟩
  case round =>
    obtain ⟨k, r, rfl, rfl, rfl, hk, hg, hx, rfl⟩ := hrel
    have HX := Lib.hid hx
    clear hx
    by_cases hk2 : k < 2
    · obtain ⟨z, hz⟩ : ∃ z, [x, y][k]? = some z := ⟨[x, y][k], List.getElem?_eq_getElem hk2⟩
      have HZ := Lib.hid hz
      obtain ⟨z0, z1⟩ := HBY.out z (List.mem_of_getElem? hz)
      have hcell := HCL.out k z hz
      obtain ⟨r0, r1⟩ := HX.out.bd hk2
      have hki : (k : Int) < 2 := by omega
      have HLz := Lib.hid (HL.out z z0 z1)
      clear hz
      by_cases hd : 48 ≤ z ∧ z ≤ 57
      · obtain ⟨d0, d1⟩ := hd
        have HM := Lib.hid (HX.out.more HZ.out (half_dig d0 d1))
        go_wp2_with (go_at_call 129; ((with_reducible refine (HLz.out _).mono ?_); rintro e w' ⟨rfl, rfl⟩))
        go_roundg (2 - (k + 1) + 1)
        case measure => omega
        case rel => exact ⟨k + 1, r * 16 + (z - 48), rfl, by go_num, by go_num, by omega, Nat.le_refl _, HM.out, rfl⟩
      · have hd' : z < 48 ∨ 57 < z := by omega
        by_cases h95 : z = 95
        · subst h95
          have HN : Hid (hex2 x y = none) := Lib.hid (HX.out.bad HZ.out (by decide))
          have E : Hid (puV x y = .tuple #[.int .u64 0, .iface 179 (.int .i64 2)]) := Lib.hid (by unfold puV; rw [HN.out])
          rw [show low 95 = 127 by decide] at HLz
          clear hd hd'
          go_wp2_with (go_at_call 129; ((with_reducible refine (HLz.out _).mono ?_); rintro e w' ⟨rfl, rfl⟩))
          go_ret2
          exact ⟨ret_t E.out.symm, B1.out⟩
        have q95 : (z == 95) = false := beq_eq_false_iff_ne.2 h95
        clear h95
        by_cases hl : 97 ≤ low z ∧ low z ≤ 102
        · obtain ⟨l0, l1⟩ := hl
          have HM := Lib.hid (HX.out.more HZ.out (half_let hd' l0 l1))
          generalize low z = lz at *
          rcases hd' with hd' | hd'
          · clear hd
            go_wp2_with (go_at_call 129; ((with_reducible refine (HLz.out _).mono ?_); rintro e w' ⟨rfl, rfl⟩))
            go_roundg (2 - (k + 1) + 1)
            case measure => omega
            case rel => exact ⟨k + 1, r * 16 + (lz - 87), rfl, by go_num, by go_num, by omega, Nat.le_refl _, HM.out, rfl⟩
          · clear hd
            go_wp2_with (go_at_call 129; ((with_reducible refine (HLz.out _).mono ?_); rintro e w' ⟨rfl, rfl⟩))
            go_roundg (2 - (k + 1) + 1)
            case measure => omega
            case rel => exact ⟨k + 1, r * 16 + (lz - 87), rfl, by go_num, by go_num, by omega, Nat.le_refl _, HM.out, rfl⟩
        · have HN : Hid (hex2 x y = none) := Lib.hid (HX.out.bad HZ.out (half_not ⟨z0, z1⟩ hd' (by omega)))
          have E : Hid (puV x y = .tuple #[.int .u64 0, .iface 179 (.int .i64 2)]) := Lib.hid (by unfold puV; rw [HN.out])
          have lb : 0 ≤ low z ∧ low z ≤ 287 := by unfold low; split <;> omega
          generalize low z = lz at *
          obtain ⟨lb0, lb1⟩ := lb
          have hl' : lz < 97 ∨ 102 < lz := by omega
          clear hl hd
          go_wp2_with (go_at_call 129; ((with_reducible refine (HLz.out _).mono ?_); rintro e w' ⟨rfl, rfl⟩))
          all_goals
            first
              | omega
              | (go_ret2; exact ⟨ret_t E.out.symm, B1.out⟩)
    · obtain rfl : k = 2 := by omega
      have E : Hid (puV x y = .tuple #[.int .u64 r, .nilIface]) := Lib.hid (by unfold puV; rw [HX.out.done])
      go_wp2_with fail
      go_ret2
      exact ⟨ret_t E.out.symm, B1.out⟩
end Go.Proofs.YtdncjhffniepbaaGreatDoor.Lx
/- (LxG5)
  Layer 5, the program: the parts of strings.
-/
namespace Go.Proofs.YtdncjhffniepbaaGreatDoor.Lx
open Go.RowKit

/-- What the package-level variables hold that are read. -/
structure ET (w : World) : Prop where
  et : w.cell? ⟨0, 0, none⟩ = some (.iface 133 (.agg #[.pointer (some ⟨7, 58, none⟩)]))
  es : ∃ t p, w.cell? ⟨2, 0, none⟩ = some (.iface t p)
theorem ET.below {w w' : World} (h : ET w) (hb : Below w.heap.size w w') : ET w' := by
  obtain ⟨t, p, hp⟩ := h.es
  exact ⟨(hb.cell (World.block_lt_of_cell? w _ h.et)).trans h.et, t, p, (hb.cell (World.block_lt_of_cell? w _ hp)).trans hp⟩
theorem ET.of {w0 w w' : World} (h : ET w0) (hb : Below w0.heap.size w0 w) (hc : Below w.heap.size w w') : ET w' := (h.below hb).below hc

def UPost (w : World) (x y : Int) (e : Ending) (w' : World) : Prop :=
  Below w.heap.size w w' ∧ ((∃ v, hex2 x y = some v ∧ e = .returned (.tuple #[.int .u64 v, .nilIface])) ∨ (hex2 x y = none ∧ ∃ t p, e = .returned (.tuple #[.int .u64 0, .iface t p])))
theorem UPost.ok {w w' : World} {x y v : Int} {e : Ending} (h : UPost w x y e w') (hv : hex2 x y = some v) : e = .returned (.tuple #[.int .u64 v, .nilIface]) := by
  rcases h.2 with ⟨u, hu, he⟩ | ⟨hu, _⟩
  · rw [hv] at hu
    obtain rfl := Option.some.inj hu
    exact he
  · rw [hv] at hu; simp at hu
theorem UPost.bad {w w' : World} {x y : Int} {e : Ending} (h : UPost w x y e w') (hv : hex2 x y = none) : ∃ t p, e = .returned (.tuple #[.int .u64 0, .iface t p]) := by
  rcases h.2 with ⟨u, hu, _⟩ | ⟨_, he⟩
  · rw [hv] at hu; simp at hu
  · exact he
theorem hexPart_hex2 (x y : Int) (r : List Int) : hexPart (x :: y :: r) = (hex2 x y).map fun v => (v, 4) := by
  unfold hex2
  cases hu : half x with
  | none => rw [hexPart_no1 hu]; rfl
  | some u =>
    cases hv : half y with
    | none => rw [hexPart_no2 hv]; rfl
    | some v => rw [hexPart_ok hu hv]; rfl
theorem hex2_bd {x y v : Int} (hv : hex2 x y = some v) : 0 ≤ v ∧ v ≤ 255 := by
  unfold hex2 at hv
  cases hu : half x with
  | none => rw [hu] at hv; simp at hv
  | some p =>
    cases hw : half y with
    | none => rw [hu, hw] at hv; simp at hv
    | some q =>
      rw [hu, hw] at hv
      have := half_bd hu
      have := half_bd hw
      simp at hv
      omega
set_option maxRecDepth 100000 in
set_option maxHeartbeats 2000000 in
theorem uint_any {s : ByteArray} {x y : Int} (hs : ch s = [x, y]) (w : World) (h : ET w) : Calls Tryz.prog 104 #[.string s, .int .i64 16, .int .i64 8] w (UPost w x y) := by
  have hsz : s.size = 2 := by rw [← ch_length, hs]; rfl
  have HP := Lib.hid (fun W => pu_any hs W)
  unfold VPost puV at HP
  have H := Lib.hid h
  clear hs h
  cases hh : hex2 x y with
  | some v =>
    rw [hh] at HP
    have E := Lib.hid hh
    clear hh
    go_enter Tryz.func104, Tryz.ntmps104
    go_wp2_with (go_at_call 115; ((with_reducible refine (HP.out _).mono ?_); rintro e w1 ⟨rfl, hb1⟩; have B1 := Lib.hid hb1; clear hb1))
    go_ret2
    exact ⟨B1.out, .inl ⟨v, E.out, rfl⟩⟩
  | none =>
    rw [hh] at HP
    have E := Lib.hid hh
    clear hh
    go_enter Tryz.func104, Tryz.ntmps104
    go_wp2_with (first
      | (go_at_call 115; ((with_reducible refine (HP.out _).mono ?_); rintro e w1 ⟨rfl, hb1⟩; have B1 := Lib.hid hb1; clear hb1))
      | (go_at_call 116; ((obtain ⟨t0, p0, hp0⟩ := (H.out.below B1.out).es); (refine (Tryz.strconv_toError_syntax _ _ _ _ (.iface t0 p0) _ (by omega) hp0 (.inr ⟨_, _, rfl⟩)).mono ?_); rintro e w2 ⟨N, rfl, _, _, hb2⟩; have B2 := Lib.hid (B1.out.trans (hb2.mono B1.out.size)); clear hb2 hp0)))
    go_ret2
    exact ⟨B2.out, .inr ⟨E.out, _, _, rfl⟩⟩

/-- What stringPart returns. -/
def spV (l : List Int) : Value := match part l with
  | some x => .tuple #[.string (bytesOf [x.1]), .int .i64 x.2]
  | none => .tuple #[.string ⟨#[]⟩, .int .i64 0]
theorem spV_some {l : List Int} {b : Int} {n : Nat} (h : part l = some (b, n)) : spV l = .tuple #[.string (bytesOf [b]), .int .i64 n] := by unfold spV; rw [h]
theorem spV_none {l : List Int} (h : part l = none) : spV l = .tuple #[.string ⟨#[]⟩, .int .i64 0] := by unfold spV; rw [h]
theorem empty_no {s : ByteArray} (h : 0 < s.size) : s.toList.isEmpty = false := by
  rw [← decide_eq_emptyBytes]
  refine decide_eq_false fun e => ?_
  rw [e] at h
  simp at h
theorem empty_yes {s : ByteArray} (h : s.size = 0) : s.toList.isEmpty = true := by
  rw [← decide_eq_emptyBytes]
  have e1 : ch s = [] := List.eq_nil_of_length_eq_zero (by rw [ch_length]; exact h)
  have e2 : ch ByteArray.empty = [] := List.eq_nil_of_length_eq_zero (by rw [ch_length]; rfl)
  exact decide_eq_true (ch_inj (e1.trans e2.symm))
theorem cut_bytes {s : ByteArray} {l m : List Int} (hs : ch s = l) {i j : Nat} (h : (l.take j).drop i = m) : s.extract i j = bytesOf m := by
  rw [← h, ← hs, ← ch_extract, bytesOf_ch]
set_option maxRecDepth 100000 in
set_option maxHeartbeats 2000000 in
theorem spart_any {s : ByteArray} {l : List Int} (hs : ch s = l) (w : World) (h : ET w) : Calls Tryz.prog 80 #[.string s] w (VPost w (spV l)) := by
  have hby : By l := by rw [← hs]; exact ch_By s
  have hsz : s.size = l.length := by rw [← hs, ch_length]
  have hat : ∀ k x, l[k]? = some x → ∃ hk : k < s.size, ((s[k]'hk).toNat : Int) = x := fun k x h => ch_at (by rw [hs]; exact h)
  have HET := Lib.hid h
  clear h
  cases l with
  | nil =>
    have hz : s.size = 0 := hsz
    have hse := empty_yes hz
    have E := Lib.hid (spV_none (show part [] = none from rfl))
    clear hsz hby hat hs
    go_enter Tryz.func80, Tryz.ntmps80
    go_wp2_with fail
    go_ret2
    exact ⟨ret_t (by rw [E.out]; rfl), Below.refl _ _⟩
  | cons a r =>
    have ha := hby a (by simp)
    obtain ⟨h0, x0⟩ := hat 0 a rfl
    have hz1 : (0 : Int) < (s.size : Int) := by omega
    have hse := empty_no h0
    by_cases h32 : a < 32
    · have E := Lib.hid (spV_none (show part (a :: r) = none by rw [part_cons, if_pos (.inl h32)]))
      clear hsz hby hat hs
      go_enter Tryz.func80, Tryz.ntmps80
      go_wp2_with fail
      go_ret2
      exact ⟨ret_t (by rw [E.out]; rfl), Below.refl _ _⟩
    by_cases h34 : a = 34
    · have E := Lib.hid (spV_none (show part (a :: r) = none by rw [part_cons, if_pos (.inr h34)]))
      subst h34
      clear hsz hby hat hs
      go_enter Tryz.func80, Tryz.ntmps80
      go_wp2_with fail
      go_ret2
      exact ⟨ret_t (by rw [E.out]; rfl), Below.refl _ _⟩
    have hq : (a == 34) = false := beq_eq_false_iff_ne.2 h34
    have hge : 32 ≤ a := by omega
    by_cases h92 : a = 92
    · subst h92
      have e0 : part (92 :: r) = escPart r := by rw [part_cons, if_neg (by omega), if_pos rfl]
      cases r with
      | nil =>
        have hs1 : s.size = 1 := hsz
        have E := Lib.hid (spV_none (show part [92] = none by rw [e0]; rfl))
        clear hsz hby hat hs
        go_enter Tryz.func80, Tryz.ntmps80
        go_wp2_with fail
        go_ret2
        exact ⟨ret_t (by rw [E.out]; rfl), Below.refl _ _⟩
      | cons b r =>
        have hb := hby b (by simp)
        obtain ⟨h1, x1⟩ := hat 1 b rfl
        have hs2 : (2 : Int) ≤ (s.size : Int) := by simp at hsz; omega
        have hs1 : ((s.size : Int) == 1) = false := beq_eq_false_iff_ne.2 (by omega)
        have HC := Lib.hid (cut_bytes (i := 1) (j := 2) (m := [b]) hs (by simp))
        rw [escPart_cons] at e0
        by_cases b34 : b = 34
        · subst b34
          rw [if_pos (.inl rfl)] at e0
          have E := Lib.hid (spV_some e0)
          clear hsz hby hat hs
          go_enter Tryz.func80, Tryz.ntmps80
          go_wp2_with fail
          go_ret2
          exact ⟨ret_t (by rw [E.out, ← HC.out]; rfl), Below.refl _ _⟩
        by_cases b92 : b = 92
        · subst b92
          rw [if_pos (.inr rfl)] at e0
          have E := Lib.hid (spV_some e0)
          clear hsz hby hat hs
          go_enter Tryz.func80, Tryz.ntmps80
          go_wp2_with fail
          go_ret2
          exact ⟨ret_t (by rw [E.out, ← HC.out]; rfl), Below.refl _ _⟩
        by_cases b110 : b = 110
        · subst b110
          rw [if_neg (by omega), if_pos rfl] at e0
          have E := Lib.hid (spV_some e0)
          clear hsz hby hat hs
          go_enter Tryz.func80, Tryz.ntmps80
          go_wp2_with fail
          go_ret2
          exact ⟨ret_t (by rw [E.out]; rfl), Below.refl _ _⟩
        by_cases b116 : b = 116
        · subst b116
          rw [if_neg (by omega), if_neg (by omega), if_pos rfl] at e0
          have E := Lib.hid (spV_some e0)
          clear hsz hby hat hs
          go_enter Tryz.func80, Tryz.ntmps80
          go_wp2_with fail
          go_ret2
          exact ⟨ret_t (by rw [E.out]; rfl), Below.refl _ _⟩
        have q34 : (b == 34) = false := beq_eq_false_iff_ne.2 b34
        have q92 : (b == 92) = false := beq_eq_false_iff_ne.2 b92
        have q110 : (b == 110) = false := beq_eq_false_iff_ne.2 b110
        have q116 : (b == 116) = false := beq_eq_false_iff_ne.2 b116
        rw [if_neg (by omega), if_neg b110, if_neg b116] at e0
        by_cases b120 : b = 120
        · subst b120
          rw [if_pos rfl] at e0
          cases r with
          | nil =>
            have hs4 : (s.size : Int) < 4 := by simp at hsz; omega
            have E := Lib.hid (spV_none (show part [92, 120] = none by rw [e0]; rfl))
            clear hsz hby hat hs
            go_enter Tryz.func80, Tryz.ntmps80
            go_wp2_with fail
            go_ret2
            exact ⟨ret_t (by rw [E.out]; rfl), Below.refl _ _⟩
          | cons x r =>
          cases r with
          | nil =>
            have hs4 : (s.size : Int) < 4 := by simp at hsz; omega
            have E := Lib.hid (spV_none (show part [92, 120, x] = none by rw [e0]; rfl))
            clear hsz hby hat hs
            go_enter Tryz.func80, Tryz.ntmps80
            go_wp2_with fail
            go_ret2
            exact ⟨ret_t (by rw [E.out]; rfl), Below.refl _ _⟩
          | cons y r =>
            have hx := hby x (by simp)
            have hy := hby y (by simp)
            have hs4 : (4 : Int) ≤ (s.size : Int) := by simp at hsz; omega
            have hxy : ch (s.extract 2 4) = [x, y] := by rw [ch_extract, hs]; simp
            have HU := Lib.hid (fun W h => uint_any hxy W h)
            have e1 := hexPart_hex2 x y r
            rw [e1] at e0
            have hv2 := fun v (hv : hex2 x y = some v) => hex2_bd hv
            clear hsz hby hat hs e1 hxy
            cases hh : hex2 x y with
            | none =>
              rw [hh] at e0
              have E := Lib.hid (spV_none e0)
              have HH := Lib.hid hh
              clear e0 hh hv2
              go_enter Tryz.func80, Tryz.ntmps80
              go_wp2_with (go_at_call 104; ((refine (HU.out _ HET.out).mono ?_); rintro e w1 ⟨hb1, he⟩; have B1 := Lib.hid hb1; clear hb1; obtain ⟨t1, p1, rfl⟩ := UPost.bad ⟨B1.out, he⟩ HH.out; clear he))
              go_ret2
              exact ⟨ret_t (by rw [E.out]; rfl), B1.out⟩
            | some v =>
              rw [hh] at e0
              have E := Lib.hid (spV_some e0)
              have HH := Lib.hid hh
              obtain ⟨v0, v1⟩ := hv2 v hh
              clear e0 hh hv2
              go_enter Tryz.func80, Tryz.ntmps80
              go_wp2_with (go_at_call 104; ((refine (HU.out _ HET.out).mono ?_); rintro e w1 ⟨hb1, he⟩; have B1 := Lib.hid hb1; clear hb1; obtain rfl := UPost.ok ⟨B1.out, he⟩ HH.out; clear he; have hcv := conv_lst (lst_one w1 v 5) (By.one ⟨v0, v1⟩)))
              go_ret2
              exact ⟨ret_t (by rw [E.out]; rfl), B1.out.trans ((balloc w1 _).mono B1.out.size)⟩
        · have q120 : (b == 120) = false := beq_eq_false_iff_ne.2 b120
          rw [if_neg b120] at e0
          have E := Lib.hid (spV_none e0)
          clear hsz hby hat hs
          go_enter Tryz.func80, Tryz.ntmps80
          go_wp2_with fail
          go_ret2
          exact ⟨ret_t (by rw [E.out]; rfl), Below.refl _ _⟩
    · have hne : (a != 92) = true := bne_iff_ne.2 h92
      have E := Lib.hid (spV_some (show part (a :: r) = some (a, 1) by rw [part_cons, if_neg (by omega), if_neg h92]))
      have HC := Lib.hid (cut_bytes (i := 0) (j := 1) (m := [a]) hs (by simp))
      clear hsz hby hat hs
      go_enter Tryz.func80, Tryz.ntmps80
      go_wp2_with fail
      go_ret2
      exact ⟨ret_t (by rw [E.out, ← HC.out]; rfl), Below.refl _ _⟩
end Go.Proofs.YtdncjhffniepbaaGreatDoor.Lx
/- (LxG6)
  Layer 5, the program: the parts of patterns.
-/
namespace Go.Proofs.YtdncjhffniepbaaGreatDoor.Lx
open Go.RowKit

/-- A part of a pattern: what it stands for, how many bytes it has. -/
def ppart : List Int → Option (List Int × Nat)
  | [] => none
  | [a] => if a < 32 ∨ a = 47 then none else if a = 92 then none else some ([a], 1)
  | a :: b :: _ => if a < 32 ∨ a = 47 then none else if a = 92 then (if b < 32 then none else if b = 47 then some ([47], 2) else some ([92, b], 2)) else some ([a], 1)
theorem ppart_s1 (a : Int) : ppart [a] = if a < 32 ∨ a = 47 then none else if a = 92 then none else some ([a], 1) := rfl
theorem ppart_s2 (a b : Int) (r : List Int) : ppart (a :: b :: r) = if a < 32 ∨ a = 47 then none else if a = 92 then (if b < 32 then none else if b = 47 then some ([47], 2) else some ([92, b], 2)) else some ([a], 1) := rfl
theorem ppart_low {a : Int} {r : List Int} (h : a < 32 ∨ a = 47) : ppart (a :: r) = none := by
  cases r with
  | nil => rw [ppart_s1, if_pos h]
  | cons b r => rw [ppart_s2, if_pos h]
theorem ppart_one {a : Int} {r : List Int} (h : ¬ (a < 32 ∨ a = 47)) (h92 : a ≠ 92) : ppart (a :: r) = some ([a], 1) := by
  cases r with
  | nil => rw [ppart_s1, if_neg h, if_neg h92]
  | cons b r => rw [ppart_s2, if_neg h, if_neg h92]
theorem ppart_bs : ppart [92] = none := by decide
theorem ppart_bs2 {b : Int} {r : List Int} : ppart (92 :: b :: r) = if b < 32 then none else if b = 47 then some ([47], 2) else some ([92, b], 2) := by
  rw [ppart_s2, if_neg (by omega), if_pos rfl]
theorem ppart_len {l t : List Int} {n : Nat} (h : ppart l = some (t, n)) : 1 ≤ n ∧ n ≤ l.length ∧ t.length ≤ n ∧ (By l → By t) := by
  match l, h with
  | [], h => simp [ppart] at h
  | [a], h =>
    rw [ppart_s1] at h
    split at h
    · simp at h
    split at h
    · simp at h
    · simp at h; obtain ⟨rfl, rfl⟩ := h; exact ⟨by omega, by simp, by simp, fun hb => hb⟩
  | a :: b :: r, h =>
    rw [ppart_s2] at h
    split at h
    · simp at h
    split at h
    · split at h
      · simp at h
      split at h
      · simp at h; obtain ⟨rfl, rfl⟩ := h; exact ⟨by omega, by simp, by simp, fun _ => By.one (by omega)⟩
      · simp at h; obtain ⟨rfl, rfl⟩ := h; exact ⟨by omega, by simp, by simp, fun hb => (By.one (x := 92) (by omega)).append (By.one (hb b (by simp)))⟩
    · simp at h; obtain ⟨rfl, rfl⟩ := h; exact ⟨by omega, by simp, by simp, fun hb => By.one (hb a (by simp))⟩
/-- What patternPart returns. -/
def ppV (l : List Int) : Value := match ppart l with
  | some x => .tuple #[.string (bytesOf x.1), .int .i64 x.2]
  | none => .tuple #[.string ⟨#[]⟩, .int .i64 0]
theorem ppV_some {l t : List Int} {n : Nat} (h : ppart l = some (t, n)) : ppV l = .tuple #[.string (bytesOf t), .int .i64 n] := by unfold ppV; rw [h]
theorem ppV_none {l : List Int} (h : ppart l = none) : ppV l = .tuple #[.string ⟨#[]⟩, .int .i64 0] := by unfold ppV; rw [h]
set_option maxRecDepth 100000 in
set_option maxHeartbeats 2000000 in
theorem ppart_any {s : ByteArray} {l : List Int} (hs : ch s = l) (w : World) : Calls Tryz.prog 81 #[.string s] w (VPost w (ppV l)) := by
  have hsz : s.size = l.length := by rw [← hs, ch_length]
  have hat : ∀ k x, l[k]? = some x → ∃ hk : k < s.size, ((s[k]'hk).toNat : Int) = x := fun k x h => ch_at (by rw [hs]; exact h)
  cases l with
  | nil =>
    have hz : s.size = 0 := hsz
    have hse := empty_yes hz
    have E := Lib.hid (ppV_none (show ppart [] = none from rfl))
    clear hsz hat hs
    go_enter Tryz.func81, Tryz.ntmps81
    go_wp2_with fail
    go_ret2
    exact ⟨ret_t (by rw [E.out]; rfl), Below.refl _ _⟩
  | cons a r =>
    obtain ⟨h0, x0⟩ := hat 0 a rfl
    have hz1 : (0 : Int) < (s.size : Int) := by omega
    have hse := empty_no h0
    by_cases h32 : a < 32
    · have E := Lib.hid (ppV_none (ppart_low (r := r) (.inl h32)))
      clear hsz hat hs
      go_enter Tryz.func81, Tryz.ntmps81
      go_wp2_with fail
      go_ret2
      exact ⟨ret_t (by rw [E.out]; rfl), Below.refl _ _⟩
    by_cases h47 : a = 47
    · have E := Lib.hid (ppV_none (ppart_low (r := r) (.inr h47)))
      subst h47
      clear hsz hat hs
      go_enter Tryz.func81, Tryz.ntmps81
      go_wp2_with fail
      go_ret2
      exact ⟨ret_t (by rw [E.out]; rfl), Below.refl _ _⟩
    have hq : (a == 47) = false := beq_eq_false_iff_ne.2 h47
    have hge : 32 ≤ a := by omega
    by_cases h92 : a = 92
    · subst h92
      cases r with
      | nil =>
        have hs1 : s.size = 1 := hsz
        have E := Lib.hid (ppV_none ppart_bs)
        clear hsz hat hs
        go_enter Tryz.func81, Tryz.ntmps81
        go_wp2_with fail
        go_ret2
        exact ⟨ret_t (by rw [E.out]; rfl), Below.refl _ _⟩
      | cons b r =>
        obtain ⟨h1, x1⟩ := hat 1 b rfl
        have hs2 : (2 : Int) ≤ (s.size : Int) := by simp at hsz; omega
        have hs1 : ((s.size : Int) == 1) = false := beq_eq_false_iff_ne.2 (by omega)
        have e0 := ppart_bs2 (b := b) (r := r)
        by_cases b32 : b < 32
        · rw [if_pos b32] at e0
          have E := Lib.hid (ppV_none e0)
          clear hsz hat hs e0
          go_enter Tryz.func81, Tryz.ntmps81
          go_wp2_with fail
          go_ret2
          exact ⟨ret_t (by rw [E.out]; rfl), Below.refl _ _⟩
        rw [if_neg b32] at e0
        have bge : 32 ≤ b := by omega
        by_cases b47 : b = 47
        · subst b47
          rw [if_pos rfl] at e0
          have E := Lib.hid (ppV_some e0)
          clear hsz hat hs e0
          go_enter Tryz.func81, Tryz.ntmps81
          go_wp2_with fail
          go_ret2
          exact ⟨ret_t (by rw [E.out]; rfl), Below.refl _ _⟩
        · rw [if_neg b47] at e0
          have E := Lib.hid (ppV_some e0)
          have HC := Lib.hid (cut_bytes (i := 0) (j := 2) (m := [92, b]) hs (by simp))
          have q47 : (b == 47) = false := beq_eq_false_iff_ne.2 b47
          clear hsz hat hs e0
          go_enter Tryz.func81, Tryz.ntmps81
          go_wp2_with fail
          go_ret2
          exact ⟨ret_t (by rw [E.out, ← HC.out]; rfl), Below.refl _ _⟩
    · have hne : (a != 92) = true := bne_iff_ne.2 h92
      have E := Lib.hid (ppV_some (ppart_one (r := r) (by omega) h92))
      have HC := Lib.hid (cut_bytes (i := 0) (j := 1) (m := [a]) hs (by simp))
      clear hsz hat hs
      go_enter Tryz.func81, Tryz.ntmps81
      go_wp2_with fail
      go_ret2
      exact ⟨ret_t (by rw [E.out, ← HC.out]; rfl), Below.refl _ _⟩
end Go.Proofs.YtdncjhffniepbaaGreatDoor.Lx
/- (LxG7)
  Layer 5, the program: what is enclosed: strings and patterns.
-/
namespace Go.Proofs.YtdncjhffniepbaaGreatDoor.Lx
open Go.RowKit

/-- A part of a string, with its text as bytes. -/
def spart (l : List Int) : Option (List Int × Nat) := (part l).map fun x => ([x.1], x.2)
theorem spV_spart_some {l t : List Int} {n : Nat} (h : spart l = some (t, n)) : spV l = .tuple #[.string (bytesOf t), .int .i64 n] := by
  unfold spart at h
  cases hp : part l with
  | none => rw [hp] at h; simp at h
  | some x => rw [hp] at h; simp at h; obtain ⟨rfl, rfl⟩ := h; unfold spV; rw [hp]
theorem spV_spart_none {l : List Int} (h : spart l = none) : spV l = .tuple #[.string ⟨#[]⟩, .int .i64 0] := by
  unfold spart at h
  cases hp : part l with
  | none => exact spV_none hp
  | some x => rw [hp] at h; simp at h
theorem spart_len {l t : List Int} {n : Nat} (h : spart l = some (t, n)) : 1 ≤ n ∧ n ≤ l.length ∧ t.length ≤ n ∧ (By l → By t) := by
  unfold spart at h
  cases hp : part l with
  | none => rw [hp] at h; simp at h
  | some x =>
    obtain ⟨b, m⟩ := x
    rw [hp] at h; simp at h; obtain ⟨rfl, rfl⟩ := h
    have := part_inv hp
    exact ⟨this.1, this.2.1, by simp; omega, fun hb => By.one (this.2.2 hb)⟩
theorem spart_mark (r : List Int) : spart (34 :: r) = none := by unfold spart; rw [part_cons, if_pos (.inr rfl)]; rfl
theorem spart_bad {l : List Int} (h0 : l ≠ []) (h1 : l.head? ≠ some 34) (h : spart l = none) : quo l = none := by
  unfold spart at h
  exact quo_bad h0 h1 (by cases hp : part l with
    | none => rfl
    | some x => rw [hp] at h; simp at h)
theorem spart_step {l t : List Int} {k n : Nat} (h : spart (l.drop k) = some (t, n)) : quo (l.drop k) = (quo (l.drop (k + n))).map fun x => (t ++ x.1, x.2 + n) := by
  have h1 : (l.drop k).head? ≠ some 34 := by
    intro e
    cases hd : l.drop k with
    | nil => rw [hd] at e; simp at e
    | cons a r => rw [hd] at e h; simp at e; subst e; rw [spart_mark] at h; simp at h
  unfold spart at h
  cases hp : part (l.drop k) with
  | none => rw [hp] at h; simp at h
  | some x =>
    obtain ⟨b, m⟩ := x
    rw [hp] at h; simp at h; obtain ⟨rfl, rfl⟩ := h
    exact quo_step h1 hp
theorem ppart_mark (r : List Int) : ppart (47 :: r) = none := ppart_low (.inr rfl)
theorem ppart_bad {l : List Int} (h0 : l ≠ []) (h1 : l.head? ≠ some 47) (h : ppart l = none) : sla l = none := by
  match l, h0, h1, h with
  | a :: r, _, h1, h =>
    simp at h1
    by_cases h32 : a < 32
    · exact sla_low h32 h1
    by_cases h92 : a = 92
    · subst h92
      cases r with
      | nil => exact sla_bs1
      | cons b r =>
        rw [ppart_bs2] at h
        by_cases hb : b < 32
        · exact sla_bs2 hb
        · rw [if_neg hb] at h
          split at h <;> simp at h
    · rw [ppart_one (by omega) h92] at h; simp at h
theorem ppart_step {l t : List Int} {k n : Nat} (h : ppart (l.drop k) = some (t, n)) : sla (l.drop k) = (sla (l.drop (k + n))).map fun x => (t ++ x.1, x.2 + n) := by
  rw [← List.drop_drop]
  cases hd : l.drop k with
  | nil => rw [hd] at h; simp [ppart] at h
  | cons a r =>
    rw [hd] at h
    by_cases h0 : a < 32 ∨ a = 47
    · rw [ppart_low h0] at h; simp at h
    by_cases h92 : a = 92
    · subst h92
      cases r with
      | nil => rw [ppart_bs] at h; simp at h
      | cons b r =>
        rw [ppart_bs2] at h
        by_cases hb : b < 32
        · rw [if_pos hb] at h; simp at h
        rw [if_neg hb] at h
        rw [sla_esc hb]
        by_cases b47 : b = 47
        · subst b47
          rw [if_pos rfl] at h
          simp at h; obtain ⟨rfl, rfl⟩ := h; rfl
        · rw [if_neg b47] at h
          simp at h; obtain ⟨rfl, rfl⟩ := h
          simp only [if_neg b47]; rfl
    · rw [ppart_one h0 h92] at h
      simp at h; obtain ⟨rfl, rfl⟩ := h
      exact sla_one (by omega) (by omega) h92
/-- What enclosed returns. -/
def encV (o : Option (List Int × Nat)) : Value := match o with
  | some x => .tuple #[.string (bytesOf x.1), .int .i64 (x.2 + 1)]
  | none => .tuple #[.string ⟨#[]⟩, .int .i64 0]
theorem drN {B : Nat} {w w' : World} (h : Below B w w') (m : Nat) : Below B w (w'.drewN m) := ⟨h.1, h.2, h.3, h.4, h.5⟩
/-- A Builder that nobody else turns. -/
theorem bld_below {w w' : World} {B b : Nat} {l : List Int} (h : Bld w B b l) (hb : Below w.heap.size w w') (_hB : B ≤ w.heap.size) : Bld w' B b l := by
  have key : ∀ p, Lib.BuilderAtF 159 5 B b p (l.map (Value.int .u8)) w → Lib.BuilderAtF 159 5 B b p (l.map (Value.int .u8)) w' := by
    rintro p ⟨h1, v, h2, h3, h4⟩
    refine ⟨h1, v, (hb.block b (heap_lt h2)).trans h2, ⟨h3.1, ?_⟩, h4⟩
    rcases h3.2 with h | ⟨g, cap, cur, fz, e1, e2, e3, e4⟩
    · exact .inl h
    · exact .inr ⟨g, cap, cur, fz, e1, e2, (hb.block g (heap_lt e3)).trans e3, e4⟩
  rcases h with h | h
  · exact .inl (key _ h)
  · exact .inr (key _ h)

set_option maxRecDepth 100000 in
set_option maxHeartbeats 4000000 in
theorem enc_str {s : ByteArray} {r : List Int} (hs : ch s = 34 :: r) (hn : r.length ≤ 100000) (w : World) (h : ET w) : Calls Tryz.prog 79 #[.string s, .func (.func 80) #[] #[]] w (VPost w (encV (quo r))) := by
  have HBY : Hid (By r) := Lib.hid (by have := ch_By s; rw [hs] at this; exact fun x hx => this x (by simp [hx]))
  have HSZ : Hid (s.size = r.length + 1) := Lib.hid (by rw [← ch_length, hs]; rfl)
  have HAT : Hid (∀ k x, r[k]? = some x → ∃ hk : k + 1 < s.size, ((s[k + 1]'hk).toNat : Int) = x) := Lib.hid (fun k x h => ch_at (by rw [hs]; exact h))
  obtain ⟨h0, x0⟩ := ch_at (s := s) (k := 0) (x := 34) (by rw [hs]; rfl)
  have HET := Lib.hid h
  have HP := Lib.hid (fun (k : Nat) (W : World) (hb : Below w.heap.size w W) => spart_any (s := s.extract (k + 1) s.size) (l := r.drop k) (by rw [ch_drop, hs]; rfl) W (HET.out.below hb))
  unfold VPost at HP
  clear hs h
  have B0 := Lib.hid (balloc w (.cells #[.pointer none, .slice none 0 0] 159))
  have K0 := Lib.hid (bld_new w)
  go_enter Tryz.func79, Tryz.ntmps79
  go_wp2_with fail
  go_loopg [7, 8, 9] (r.length + 1) (fun g' i _ _ wr => ∃ (k : Nat) (out : List Int), i = .int .i64 (k + 1) ∧ k ≤ r.length ∧ r.length - k + 1 ≤ g' ∧ Bld wr w.heap.size w.heap.size out ∧ By out ∧ out.length ≤ k ∧ Below w.heap.size w wr ∧ Rest quo r out k)
  case atStart => exact ⟨0, [], rfl, Nat.zero_le _, by omega, K0.out, By.nil, Nat.le_refl _, B0.out, Rest.start _ _⟩
  case round =>
    obtain ⟨k, out, rfl, hk, hg, hown, hbo, hol, hbel, hrest⟩ := hrel
    obtain ⟨wo, rfl⟩ : ∃ wo : World, wo = wr := ⟨_, rfl⟩
    have O0 := Lib.hid hown
    have BO := Lib.hid hbo
    have BW := Lib.hid hbel
    have HR := Lib.hid hrest
    have hks2 : (k : Int) + 1 ≤ (s.size : Int) := by have := HSZ.out; omega
    have HPk := Lib.hid (fun W hb => HP.out k W hb)
    clear hown hbo hbel hrest
    cases hp : spart (r.drop k) with
    | none =>
      rw [spV_spart_none hp] at HPk
      by_cases hkn : k < r.length
      · obtain ⟨x, hx⟩ : ∃ x, r[k]? = some x := ⟨r[k], List.getElem?_eq_getElem hkn⟩
        obtain ⟨hks, x1⟩ := HAT.out k x hx
        have hdr := drop_at hx
        have hneq : ((k : Int) + 1 == (s.size : Int)) = false := beq_eq_false_iff_ne.2 (by omega)
        have hki : (k : Int) + 1 < (s.size : Int) := by omega
        by_cases hm : x = 34
        · subst hm
          have E := Lib.hid (HR.out.done (by rw [hdr]; exact quo_end _))
          clear hx hdr hp
          go_wp2_with (first
            | (go_at_call 80; ((refine (HPk.out _ BW.out).mono ?_); rintro e w1 ⟨rfl, hb1⟩; have B1 := Lib.hid (BW.out.trans (hb1.mono BW.out.size)); have O1 : Hid (Bld w1 w.heap.size w.heap.size out) := Lib.hid (bld_below O0.out hb1 BW.out.size); clear hb1)))
          go_quiet (fail)
          go_wp2_with (go_at_call 103; ((refine (bld_string (show Bld (w1.drewN _) w.heap.size w.heap.size out from O1.out) BO.out B1.out.size).mono ?_); rintro e w2 ⟨rfl, hb2⟩; have B2 := Lib.hid ((drN B1.out _).trans hb2); clear hb2))
          go_ret2
          exact ⟨ret_t (by rw [E.out]; rfl), B2.out⟩
        · have hne : (x != 34) = true := bne_iff_ne.2 hm
          have E := Lib.hid (HR.out.none (spart_bad (by rw [hdr]; simp) (by rw [hdr]; simpa using hm) hp))
          clear hx hdr hp
          go_wp2_with (first
            | (go_at_call 80; ((refine (HPk.out _ BW.out).mono ?_); rintro e w1 ⟨rfl, hb1⟩; have B1 := Lib.hid (BW.out.trans (hb1.mono BW.out.size)); clear hb1)))
          go_quiet (fail)
          go_wp2_with fail
          go_ret2
          exact ⟨ret_t (by rw [E.out]; rfl), drN B1.out _⟩
      · obtain rfl : k = r.length := by omega
        have E := Lib.hid (HR.out.none (by rw [List.drop_length]; exact quo_nil))
        have heq : ((r.length : Int) + 1 == (s.size : Int)) = true := beq_iff_eq.2 (by have := HSZ.out; omega)
        clear hp
        go_wp2_with (first
          | (go_at_call 80; ((refine (HPk.out _ BW.out).mono ?_); rintro e w1 ⟨rfl, hb1⟩; have B1 := Lib.hid (BW.out.trans (hb1.mono BW.out.size)); clear hb1)))
        go_quiet (fail)
        go_wp2_with fail
        go_ret2
        exact ⟨ret_t (by rw [E.out]; rfl), drN B1.out _⟩
    | some tn =>
      obtain ⟨t, n⟩ := tn
      rw [spV_spart_some hp] at HPk
      obtain ⟨n1, n2, n3, n4⟩ := spart_len hp
      rw [List.length_drop] at n2
      have HT := Lib.hid (n4 (HBY.out.drop k))
      have HR2 := Lib.hid (HR.out.step (spart_step hp))
      have hn0 : ((n : Int) == 0) = false := beq_eq_false_iff_ne.2 (by omega)
      clear hp n4
      go_wp2_with (first
        | (go_at_call 80; ((refine (HPk.out _ BW.out).mono ?_); rintro e w1 ⟨rfl, hb1⟩; have B1 := Lib.hid (BW.out.trans (hb1.mono BW.out.size)); have O1 : Hid (Bld w1 w.heap.size w.heap.size out) := Lib.hid (bld_below O0.out hb1 BW.out.size); clear hb1))
        | (go_at_call 102; ((with_reducible refine (bld_str (ch_bytesOf HT.out) O1.out (by omega) B1.out.size).mono ?_); rintro e w2 ⟨rfl, ho2, hb2⟩; have O2 := Lib.hid ho2; have B2 := Lib.hid (B1.out.trans hb2); clear hb2 ho2)))
      go_roundg (r.length - (k + n) + 1)
      case measure => omega
      case rel => exact ⟨k + n, out ++ t, by go_num, by omega, Nat.le_refl _, O2.out, BO.out.append HT.out, by simp; omega, B2.out, HR2.out⟩

set_option maxRecDepth 100000 in
set_option maxHeartbeats 4000000 in
theorem enc_pat {s : ByteArray} {r : List Int} (hs : ch s = 47 :: r) (hn : r.length ≤ 100000) (w : World) (h : ET w) : Calls Tryz.prog 79 #[.string s, .func (.func 81) #[] #[]] w (VPost w (encV (sla r))) := by
  have HBY : Hid (By r) := Lib.hid (by have := ch_By s; rw [hs] at this; exact fun x hx => this x (by simp [hx]))
  have HSZ : Hid (s.size = r.length + 1) := Lib.hid (by rw [← ch_length, hs]; rfl)
  have HAT : Hid (∀ k x, r[k]? = some x → ∃ hk : k + 1 < s.size, ((s[k + 1]'hk).toNat : Int) = x) := Lib.hid (fun k x h => ch_at (by rw [hs]; exact h))
  obtain ⟨h0, x0⟩ := ch_at (s := s) (k := 0) (x := 47) (by rw [hs]; rfl)
  have HET := Lib.hid h
  have HP := Lib.hid (fun (k : Nat) (W : World) (hb : Below w.heap.size w W) => ppart_any (s := s.extract (k + 1) s.size) (l := r.drop k) (by rw [ch_drop, hs]; rfl) W)
  unfold VPost at HP
  clear hs h
  have B0 := Lib.hid (balloc w (.cells #[.pointer none, .slice none 0 0] 159))
  have K0 := Lib.hid (bld_new w)
  go_enter Tryz.func79, Tryz.ntmps79
  go_wp2_with fail
  go_loopg [7, 8, 9] (r.length + 1) (fun g' i _ _ wr => ∃ (k : Nat) (out : List Int), i = .int .i64 (k + 1) ∧ k ≤ r.length ∧ r.length - k + 1 ≤ g' ∧ Bld wr w.heap.size w.heap.size out ∧ By out ∧ out.length ≤ k ∧ Below w.heap.size w wr ∧ Rest sla r out k)
  case atStart => exact ⟨0, [], rfl, Nat.zero_le _, by omega, K0.out, By.nil, Nat.le_refl _, B0.out, Rest.start _ _⟩
  case round =>
    obtain ⟨k, out, rfl, hk, hg, hown, hbo, hol, hbel, hrest⟩ := hrel
    obtain ⟨wo, rfl⟩ : ∃ wo : World, wo = wr := ⟨_, rfl⟩
    have O0 := Lib.hid hown
    have BO := Lib.hid hbo
    have BW := Lib.hid hbel
    have HR := Lib.hid hrest
    have hks2 : (k : Int) + 1 ≤ (s.size : Int) := by have := HSZ.out; omega
    have HPk := Lib.hid (fun W hb => HP.out k W hb)
    clear hown hbo hbel hrest
    cases hp : ppart (r.drop k) with
    | none =>
      rw [ppV_none hp] at HPk
      by_cases hkn : k < r.length
      · obtain ⟨x, hx⟩ : ∃ x, r[k]? = some x := ⟨r[k], List.getElem?_eq_getElem hkn⟩
        obtain ⟨hks, x1⟩ := HAT.out k x hx
        have hdr := drop_at hx
        have hneq : ((k : Int) + 1 == (s.size : Int)) = false := beq_eq_false_iff_ne.2 (by omega)
        have hki : (k : Int) + 1 < (s.size : Int) := by omega
        by_cases hm : x = 47
        · subst hm
          have E := Lib.hid (HR.out.done (by rw [hdr]; exact sla_end _))
          clear hx hdr hp
          go_wp2_with (first
            | (go_at_call 81; ((refine (HPk.out _ BW.out).mono ?_); rintro e w1 ⟨rfl, hb1⟩; have B1 := Lib.hid (BW.out.trans (hb1.mono BW.out.size)); have O1 : Hid (Bld w1 w.heap.size w.heap.size out) := Lib.hid (bld_below O0.out hb1 BW.out.size); clear hb1)))
          go_quiet (fail)
          go_wp2_with (go_at_call 103; ((refine (bld_string (show Bld (w1.drewN _) w.heap.size w.heap.size out from O1.out) BO.out B1.out.size).mono ?_); rintro e w2 ⟨rfl, hb2⟩; have B2 := Lib.hid ((drN B1.out _).trans hb2); clear hb2))
          go_ret2
          exact ⟨ret_t (by rw [E.out]; rfl), B2.out⟩
        · have hne : (x != 47) = true := bne_iff_ne.2 hm
          have E := Lib.hid (HR.out.none (ppart_bad (by rw [hdr]; simp) (by rw [hdr]; simpa using hm) hp))
          clear hx hdr hp
          go_wp2_with (first
            | (go_at_call 81; ((refine (HPk.out _ BW.out).mono ?_); rintro e w1 ⟨rfl, hb1⟩; have B1 := Lib.hid (BW.out.trans (hb1.mono BW.out.size)); clear hb1)))
          go_quiet (fail)
          go_wp2_with fail
          go_ret2
          exact ⟨ret_t (by rw [E.out]; rfl), drN B1.out _⟩
      · obtain rfl : k = r.length := by omega
        have E := Lib.hid (HR.out.none (by rw [List.drop_length]; exact (rfl : sla [] = none)))
        have heq : ((r.length : Int) + 1 == (s.size : Int)) = true := beq_iff_eq.2 (by have := HSZ.out; omega)
        clear hp
        go_wp2_with (first
          | (go_at_call 81; ((refine (HPk.out _ BW.out).mono ?_); rintro e w1 ⟨rfl, hb1⟩; have B1 := Lib.hid (BW.out.trans (hb1.mono BW.out.size)); clear hb1)))
        go_quiet (fail)
        go_wp2_with fail
        go_ret2
        exact ⟨ret_t (by rw [E.out]; rfl), drN B1.out _⟩
    | some tn =>
      obtain ⟨t, n⟩ := tn
      rw [ppV_some hp] at HPk
      obtain ⟨n1, n2, n3, n4⟩ := ppart_len hp
      rw [List.length_drop] at n2
      have HT := Lib.hid (n4 (HBY.out.drop k))
      have HR2 := Lib.hid (HR.out.step (ppart_step hp))
      have hn0 : ((n : Int) == 0) = false := beq_eq_false_iff_ne.2 (by omega)
      clear hp n4
      go_wp2_with (first
        | (go_at_call 81; ((refine (HPk.out _ BW.out).mono ?_); rintro e w1 ⟨rfl, hb1⟩; have B1 := Lib.hid (BW.out.trans (hb1.mono BW.out.size)); have O1 : Hid (Bld w1 w.heap.size w.heap.size out) := Lib.hid (bld_below O0.out hb1 BW.out.size); clear hb1))
        | (go_at_call 102; ((with_reducible refine (bld_str (ch_bytesOf HT.out) O1.out (by omega) B1.out.size).mono ?_); rintro e w2 ⟨rfl, ho2, hb2⟩; have O2 := Lib.hid ho2; have B2 := Lib.hid (B1.out.trans hb2); clear hb2 ho2)))
      go_roundg (r.length - (k + n) + 1)
      case measure => omega
      case rel => exact ⟨k + n, out ++ t, by go_num, by omega, Nat.le_refl _, O2.out, BO.out.append HT.out, by simp; omega, B2.out, HR2.out⟩
end Go.Proofs.YtdncjhffniepbaaGreatDoor.Lx
/- (LxG8)
  Layer 5, the program: strings.Cut at a line feed; places.
-/
namespace Go.Proofs.YtdncjhffniepbaaGreatDoor.Lx
open Go.RowKit

/-- How many bytes stand before the first line feed. -/
def nl : List Int → Nat
  | [] => 0
  | a :: r => if a = 10 then 0 else nl r + 1
theorem nl_le : ∀ l : List Int, nl l ≤ l.length
  | [] => Nat.le_refl _
  | a :: r => by have := nl_le r; unfold nl; split <;> simp <;> omega
theorem nl_ne : ∀ (l : List Int) (i : Nat), i < nl l → ∃ x, l[i]? = some x ∧ x ≠ 10
  | [], i, h => by simp [nl] at h
  | a :: r, i, h => by
    unfold nl at h
    split at h
    · omega
    · cases i with
      | zero => exact ⟨a, rfl, by assumption⟩
      | succ i => obtain ⟨x, h1, h2⟩ := nl_ne r i (by omega); exact ⟨x, by simpa using h1, h2⟩
theorem nl_c (a : Int) (r : List Int) : nl (a :: r) = if a = 10 then 0 else nl r + 1 := rfl
theorem index_nl (s : ByteArray) : Lib.indexByte s.data.toList 10 = if nl (ch s) < (ch s).length then (nl (ch s) : Int) else -1 := by
  unfold ch
  generalize s.data.toList = l
  induction l with
  | nil => rfl
  | cons b l ih =>
    unfold Lib.indexByte
    rw [List.map_cons, nl_c, List.length_cons]
    by_cases hb : b = 10
    · subst hb; simp
    · have h1 : (b == 10) = false := beq_eq_false_iff_ne.2 hb
      have h2 : ¬ (b.toNat : Int) = 10 := by
        intro e
        exact hb (UInt8.toNat_inj.1 (by rw [show (10 : UInt8).toNat = 10 from rfl]; omega))
      rw [h1, ih, if_neg h2]
      generalize List.map (fun b : UInt8 => (b.toNat : Int)) l = ms
      generalize nl ms = n
      generalize ms.length = k
      by_cases h3 : n < k
      · have h4 : ((n : Int) == -1) = false := beq_eq_false_iff_ne.2 (by omega)
        rw [if_pos h3, h4, if_pos (show n + 1 < k + 1 by omega)]
        simp
      · rw [if_neg h3, if_neg (show ¬ n + 1 < k + 1 by omega)]
        rfl

set_option maxRecDepth 100000 in
set_option maxHeartbeats 2000000 in
theorem cutl_any {s : ByteArray} {m : List Int} (hs : ch s = m) (hn : m.length ≤ 100000) : ∃ t r b, t.size = nl m ∧ ∀ W : World, Calls Tryz.prog 101 #[.string s, .string ⟨#[10]⟩] W (QPost W (.tuple #[.string t, .string r, .bool b])) := by
  have hI := index_nl s
  rw [hs] at hI
  have hsz : s.size = m.length := by rw [← hs, ch_length]
  have HI := Lib.hid (fun W => Tryz.stringslite_Index_one s 10 W)
  rw [hI] at HI
  have hle := nl_le m
  by_cases h : nl m < m.length
  · refine ⟨s.extract 0 (nl m), s.extract (nl m + 1) s.size, true, ?_, fun W => ?_⟩
    · rw [ByteArray.size_extract]; omega
    rw [if_pos h] at HI
    generalize nl m = n at *
    have h1 : (n : Int) ≤ (s.size : Int) := by omega
    have h2 : (n : Int) + 1 ≤ (s.size : Int) := by omega
    clear hs hI hsz
    go_enter Tryz.func101, Tryz.ntmps101
    go_wp2_with (go_at_call 113; ((refine (HI.out _).mono ?_); rintro e w1 ⟨rfl, rfl⟩))
    go_quiet (fail)
    go_wp2_with fail
    refine bodyPost_ret (v := .tuple #[.string (s.extract 0 n), .string (s.extract (n + 1) s.size), .bool true]) (by simp [results, Tryz.results101, go_sem]) rfl ?_
    exact ⟨rfl, _, rfl⟩
  · refine ⟨s, ⟨#[]⟩, false, by omega, fun W => ?_⟩
    rw [if_neg h] at HI
    clear hs hI
    go_enter Tryz.func101, Tryz.ntmps101
    go_wp2_with (go_at_call 113; ((refine (HI.out _).mono ?_); rintro e w1 ⟨rfl, rfl⟩))
    refine bodyPost_ret (v := .tuple #[.string s, .string ⟨#[]⟩, .bool false]) (by simp [results, Tryz.results101, go_sem]) rfl ?_
    exact ⟨rfl, 0, rfl⟩
set_option maxRecDepth 100000 in
theorem cut_any {s : ByteArray} {m : List Int} (hs : ch s = m) (hn : m.length ≤ 100000) : ∃ t r b, t.size = nl m ∧ ∀ W : World, Calls Tryz.prog 72 #[.string s, .string ⟨#[10]⟩] W (QPost W (.tuple #[.string t, .string r, .bool b])) := by
  obtain ⟨t, r, b, h1, h2⟩ := cutl_any hs hn
  have HC := Lib.hid h2
  refine ⟨t, r, b, h1, fun W => ?_⟩
  clear hs h1 h2
  go_enter Tryz.func72, Tryz.ntmps72
  go_wp2_with (go_at_call 101; ((refine (HC.out _).mono ?_); rintro e w1 ⟨rfl, q, rfl⟩))
  refine bodyPost_ret (v := .tuple #[.string t, .string r, .bool b]) (by simp [results, Tryz.results72, go_sem]) rfl ?_
  exact ⟨rfl, _, rfl⟩

/-! ### places -/
/-- The scanner stands at k, in line ln, which begins at st. -/
def Pos (l : List Int) (k : Nat) (ln st : Int) : Prop := adv (1, 1) (l.take k) = (ln, (k : Int) - st + 1) ∧ 0 ≤ st ∧ st ≤ k ∧ 1 ≤ ln ∧ ln ≤ k + 1
theorem Pos.start (l : List Int) : Pos l 0 1 0 := ⟨rfl, by omega, by omega, by omega, by omega⟩
theorem Pos.nl {l : List Int} {k : Nat} {ln st : Int} (h : Pos l k ln st) (hx : l[k]? = some 10) : Pos l (k + 1) (ln + 1) (k + 1) := by
  obtain ⟨h1, h2, h3, h4, h5⟩ := h
  refine ⟨?_, by omega, by omega, by omega, by omega⟩
  rw [take_snoc' hx, adv_append, h1]
  simp only [adv, if_true, Prod.mk.injEq, true_and]
  omega
theorem Pos.step {l : List Int} {k : Nat} {ln st x : Int} (h : Pos l k ln st) (hx : l[k]? = some x) (h10 : x ≠ 10) : Pos l (k + 1) ln st := by
  obtain ⟨h1, h2, h3, h4, h5⟩ := h
  refine ⟨?_, by omega, by omega, by omega, by omega⟩
  rw [take_snoc' hx, adv_append, h1]
  simp only [adv, if_neg h10, Prod.mk.injEq, true_and]
  omega
theorem Pos.run {l : List Int} {k : Nat} {ln st : Int} (h : Pos l k ln st) : ∀ j, (∀ i, i < j → ∃ x, l[k + i]? = some x ∧ x ≠ 10) → Pos l (k + j) ln st
  | 0, _ => h
  | j + 1, hj => by
    have h1 := Pos.run h j fun i hi => hj i (by omega)
    obtain ⟨x, hx, hne⟩ := hj j (by omega)
    exact h1.step hx hne
theorem Pos.bytes {l : List Int} {k : Nat} {ln st : Int} (h : Pos l k ln st) (hk : k ≤ l.length) : 1 ≤ ln ∧ ln ≤ l.length + 1 ∧ 0 ≤ st ∧ st ≤ l.length := by
  obtain ⟨_, h2, h3, h4, h5⟩ := h
  omega

/-- A skip has come to k. -/
def SkA (l : List Int) (k0 k : Nat) : Prop := k0 + skip (l.drop k0) = k + skip (l.drop k)
theorem SkA.blank {l : List Int} {k0 k : Nat} {x : Int} (h : SkA l k0 k) (hx : l[k]? = some x) (hb : Lx.blank x = true) : SkA l k0 (k + 1) := by
  unfold SkA at *
  rw [h, drop_at hx]
  unfold skip
  rw [skipS_f, if_pos hb]
  omega
theorem skipS_nl : ∀ l : List Int, skipS true l = Lx.nl l + skipS false (l.drop (Lx.nl l))
  | [] => rfl
  | a :: r => by
    rw [skipS_t]
    unfold Lx.nl
    by_cases h : a = 10
    · rw [if_pos h, if_pos h, Nat.zero_add]
      subst h
      simp only [List.drop_zero]
      rw [skipS_f, if_pos (by decide)]
    · rw [if_neg h, if_neg h, skipS_nl r, List.drop_succ_cons]
      omega
theorem nl_cons {a : Int} {r : List Int} (h : ¬ a = 10) : nl (a :: r) = nl r + 1 := by rw [nl_c, if_neg h]
theorem SkA.comment {l : List Int} {k0 k : Nat} (h : SkA l k0 k) (hx : l[k]? = some 35) : SkA l k0 (k + Lx.nl (l.drop k)) := by
  unfold SkA at *
  rw [h, ← List.drop_drop, drop_at hx, nl_cons (by omega), List.drop_succ_cons]
  unfold skip
  rw [skipS_f, if_neg (by decide), if_pos rfl, skipS_nl]
  omega
theorem SkA.stop {l : List Int} {k0 k : Nat} {x : Int} (h : SkA l k0 k) (hx : l[k]? = some x) (hb : Lx.blank x = false) (h35 : x ≠ 35) : k = k0 + skip (l.drop k0) := by
  unfold SkA at h
  rw [h, drop_at hx]
  unfold skip
  rw [skipS_f, if_neg (by simp [hb]), if_neg h35]
  rfl
theorem SkA.over {l : List Int} {k0 : Nat} (h : SkA l k0 l.length) : l.length = k0 + skip (l.drop k0) := by
  unfold SkA at h
  rw [h, List.drop_length]
  rfl
theorem fr_set {e : TypeId} {B b i : Nat} {w : World} {cs : Array Value} {f : Nat × Nat} (h : w.heap[b]? = some (.cells cs e f)) (hB : B ≤ b) (v : Value) : Fr e B w (w.setCell ⟨b, i, none⟩ v) := by
  refine ⟨(Below.refl B w).setCell (p := ⟨b, i, none⟩) hB v, fun k c t g hk hne => ?_⟩
  have hkb : k ≠ b := fun e => by subst e; rw [h] at hk; injection hk with hk; injection hk with _ e2; exact hne e2.symm
  rw [heap_setCell_other _ _ _ _ hkb]; exact hk
end Go.Proofs.YtdncjhffniepbaaGreatDoor.Lx
/- (LxG9)
  Layer 5, the program: blanks and comments are skipped.
-/
namespace Go.Proofs.YtdncjhffniepbaaGreatDoor.Lx
open Go.RowKit

/-- Behind skip. -/
def SkPost (w : World) (B b : Nat) (s : ByteArray) (l : List Int) (k0 : Nat) (e : Ending) (w' : World) : Prop :=
  e = .returned (.tuple #[]) ∧ ∃ (ln st : Int), w'.heap[b]? = some (ScnO s ((k0 + skip (l.drop k0) : Nat) : Int) ln st) ∧ Pos l (k0 + skip (l.drop k0)) ln st ∧ Fr 87 B w w'
theorem scn_at {w : World} {b : Nat} {s : ByteArray} {k ln st : Int} (h : w.heap[b]? = some (ScnO s k ln st)) (v : Int) : (w.setCell ⟨b, 1, none⟩ (.int .i64 v)).heap[b]? = some (ScnO s v ln st) := by
  simp [World.setCell, Array.getElem?_modify, h]
theorem scn_line {w : World} {b : Nat} {s : ByteArray} {k ln st : Int} (h : w.heap[b]? = some (ScnO s k ln st)) (v : Int) : (w.setCell ⟨b, 2, none⟩ (.int .i64 v)).heap[b]? = some (ScnO s k v st) := by
  simp [World.setCell, Array.getElem?_modify, h]
theorem scn_start {w : World} {b : Nat} {s : ByteArray} {k ln st : Int} (h : w.heap[b]? = some (ScnO s k ln st)) (v : Int) : (w.setCell ⟨b, 3, none⟩ (.int .i64 v)).heap[b]? = some (ScnO s k ln v) := by
  simp [World.setCell, Array.getElem?_modify, h]

/-- A quiet call behind draws. -/
theorem quiet_at {P : Program} {f : FuncId} {args : Array Value} {w : World} {a n : Nat} {v : Value} (h : Calls P f args (w.drewN (a + n)) (QPost (w.drewN (a + n)) v)) : Calls P f args (w.drewN (a + n)) fun e w'' => e = .returned v ∧ ∃ m, w'' = w.drewN (a + m) :=
  h.mono fun _ _ ⟨he, m, hm⟩ => ⟨he, n + m, by rw [hm, World.drewN_drewN, Nat.add_assoc]⟩
theorem fr_drN {e : TypeId} {B : Nat} (w : World) (m : Nat) : Fr e B w (w.drewN m) := ⟨drN (Below.refl _ _) m, fun _ _ _ _ h _ => h⟩
theorem fr_one {w : World} {B b : Nat} {s : ByteArray} {k ln st : Int} (h : w.heap[b]? = some (ScnO s k ln st)) (hB : B ≤ b) (m : Nat) (v : Int) : Fr 87 B w ((w.drewN m).setCell ⟨b, 1, none⟩ (.int .i64 v)) :=
  (fr_drN w m).trans (fr_set (w := w.drewN m) h hB _)
theorem fr_line {w : World} {B b : Nat} {s : ByteArray} {k ln st : Int} (h : w.heap[b]? = some (ScnO s k ln st)) (hB : B ≤ b) (m : Nat) (x y v : Int) : Fr 87 B w ((((w.drewN m).setCell ⟨b, 2, none⟩ (.int .i64 x)).setCell ⟨b, 3, none⟩ (.int .i64 y)).setCell ⟨b, 1, none⟩ (.int .i64 v)) :=
  (((fr_drN w m).trans (fr_set (w := w.drewN m) h hB _)).trans (fr_set (scn_line (w := w.drewN m) h x) hB _)).trans (fr_set (scn_start (scn_line (w := w.drewN m) h x) y) hB _)
theorem fr_two {w : World} {B b : Nat} {s : ByteArray} {k ln st : Int} (h : w.heap[b]? = some (ScnO s k ln st)) (hB : B ≤ b) (m : Nat) (x v : Int) : Fr 87 B w (((w.drewN m).setCell ⟨b, 1, none⟩ (.int .i64 x)).setCell ⟨b, 1, none⟩ (.int .i64 v)) :=
  ((fr_drN w m).trans (fr_set (w := w.drewN m) h hB _)).trans (fr_set (scn_at (w := w.drewN m) h x) hB _)

set_option maxRecDepth 100000 in
set_option maxHeartbeats 8000000 in
theorem gskip_any {s : ByteArray} {l : List Int} (hs : ch s = l) (hn : l.length ≤ 100000) {B b k0 : Nat} {ln0 st0 : Int} (w : World) (hb : w.heap[b]? = some (ScnO s k0 ln0 st0)) (hB : B ≤ b) (hk0 : k0 ≤ l.length) (hp : Pos l k0 ln0 st0) :
    Calls Tryz.prog 48 #[.pointer (some ⟨b, 0, none⟩)] w (SkPost w B b s l k0) := by
  have HSZ : Hid (s.size = l.length) := Lib.hid (by rw [← hs, ch_length])
  have HAT : Hid (∀ k x, l[k]? = some x → ∃ hk : k < s.size, ((s[k]'hk).toNat : Int) = x) := Lib.hid (fun k x h => ch_at (by rw [hs]; exact h))
  have HC := Lib.hid (fun (k : Nat) => cut_any (s := s.extract k s.size) (m := l.drop k) (by rw [ch_drop, hs]) (by rw [List.length_drop]; omega))
  have HB := Lib.hid hb
  have HP := Lib.hid hp
  clear hs hb hp
  go_enter Tryz.func48, Tryz.ntmps48
  go_wp2_with fail
  go_loopg [2, 3, 4, 31, 49, 53] (l.length + 1) (fun g' _ _ _ _ _ _ wr => ∃ (k : Nat) (ln st : Int), wr.heap[b]? = some (ScnO s k ln st) ∧ k ≤ l.length ∧ l.length - k + 1 ≤ g' ∧ Pos l k ln st ∧ SkA l k0 k ∧ Fr 87 B w wr)
  case atStart => exact ⟨k0, ln0, st0, HB.out, hk0, by omega, HP.out, rfl, Fr.refl _ _ _⟩
  case round =>
    obtain ⟨k, ln, st, hrow, hk, hg, hp, hsk, hfr⟩ := hrel
    obtain ⟨wo, rfl⟩ : ∃ wo : World, wo = wr := ⟨_, rfl⟩
    have R0 := Lib.hid hrow
    have P0 := Lib.hid hp
    have S0 := Lib.hid hsk
    have F0 := Lib.hid hfr
    obtain ⟨b1, b2, b3, b4⟩ := hp.bytes hk
    have d0 := cell_of_row _ _ 0 _ _ _ hrow
    have d1 := cell_of_row _ _ 1 _ _ _ hrow
    have d2 := cell_of_row _ _ 2 _ _ _ hrow
    have d3 := cell_of_row _ _ 3 _ _ _ hrow
    have f1 := frozen_of_row _ _ 1 _ _ hrow
    have f2 := frozen_of_row _ _ 2 _ _ hrow
    have f3 := frozen_of_row _ _ 3 _ _ hrow
    clear hrow hp hsk hfr
    have hks2 : (k : Int) ≤ (s.size : Int) := by have := HSZ.out; omega
    by_cases hkn : k < l.length
    · obtain ⟨x, hx⟩ : ∃ x, l[k]? = some x := ⟨l[k], List.getElem?_eq_getElem hkn⟩
      obtain ⟨hks, x0⟩ := HAT.out k x hx
      have hki : (k : Int) < (s.size : Int) := by omega
      have HX := Lib.hid hx
      clear hx
      by_cases h10 : x = 10
      · subst h10
        have P1 := Lib.hid (P0.out.nl HX.out)
        have S1 := Lib.hid (S0.out.blank HX.out (by decide))
        go_wp2_with fail
        go_quiet (fail)
        go_wp2_with fail
        go_quiet (fail)
        go_wp2_with fail
        go_region
        go_wp2_with fail
        go_roundg (l.length - (k + 1) + 1)
        case measure => omega
        case rel => exact ⟨k + 1, ln + 1, (k : Int) + 1, scn_at (scn_start (scn_line (w := wo.drewN _) R0.out _) _) _, by omega, Nat.le_refl _, P1.out, S1.out, F0.out.trans (fr_line R0.out hB _ _ _ _)⟩
      by_cases h32 : x = 32
      · subst h32
        have P1 := Lib.hid (P0.out.step HX.out (by decide))
        have S1 := Lib.hid (S0.out.blank HX.out (by decide))
        go_wp2_with fail
        go_quiet (fail)
        go_wp2_with fail
        go_quiet (fail)
        go_wp2_with fail
        go_roundg (l.length - (k + 1) + 1)
        case measure => omega
        case rel => exact ⟨k + 1, ln, st, by have := scn_at (w := wo.drewN 0) R0.out ((k : Int) + 1); exact this, by omega, Nat.le_refl _, P1.out, S1.out, F0.out.trans (fr_one R0.out hB _ _)⟩
      by_cases h9 : x = 9
      · subst h9
        have P1 := Lib.hid (P0.out.step HX.out (by decide))
        have S1 := Lib.hid (S0.out.blank HX.out (by decide))
        go_wp2_with fail
        go_quiet (fail)
        go_wp2_with fail
        go_quiet (fail)
        go_wp2_with fail
        go_roundg (l.length - (k + 1) + 1)
        case measure => omega
        case rel => exact ⟨k + 1, ln, st, by have := scn_at (w := wo.drewN 0) R0.out ((k : Int) + 1); exact this, by omega, Nat.le_refl _, P1.out, S1.out, F0.out.trans (fr_one R0.out hB _ _)⟩
      by_cases h13 : x = 13
      · subst h13
        have P1 := Lib.hid (P0.out.step HX.out (by decide))
        have S1 := Lib.hid (S0.out.blank HX.out (by decide))
        go_wp2_with fail
        go_quiet (fail)
        go_wp2_with fail
        go_quiet (fail)
        go_wp2_with fail
        go_roundg (l.length - (k + 1) + 1)
        case measure => omega
        case rel => exact ⟨k + 1, ln, st, by have := scn_at (w := wo.drewN 0) R0.out ((k : Int) + 1); exact this, by omega, Nat.le_refl _, P1.out, S1.out, F0.out.trans (fr_one R0.out hB _ _)⟩
      have q10 : (x == 10) = false := beq_eq_false_iff_ne.2 h10
      have q32 : (x == 32) = false := beq_eq_false_iff_ne.2 h32
      have q9 : (x == 9) = false := beq_eq_false_iff_ne.2 h9
      have q13 : (x == 13) = false := beq_eq_false_iff_ne.2 h13
      by_cases h35 : x = 35
      · subst h35
        obtain ⟨t, r, bb, ht, hcut⟩ := HC.out k
        have HCk := Lib.hid hcut
        have hnl := nl_le (l.drop k)
        rw [List.length_drop] at hnl
        have hnl1 : 1 ≤ nl (l.drop k) := by rw [drop_at HX.out, nl_cons (by omega)]; omega
        have P1 : Hid (Pos l (k + nl (l.drop k)) ln st) := Lib.hid (P0.out.run _ fun i hi => by
          obtain ⟨y, h1, h2⟩ := nl_ne _ i hi
          rw [List.getElem?_drop] at h1
          exact ⟨y, h1, h2⟩)
        have S1 := Lib.hid (S0.out.comment HX.out)
        generalize nl (l.drop k) = c at *
        clear h10 h32 h9 h13 hcut
        go_wp2_with fail
        go_quiet (fail)
        go_wp2_with fail
        go_quiet (fail)
        go_wp2_with fail
        go_quiet ((go_at_call 72; exact quiet_at (HCk.out _)))
        go_wp2_with fail
        go_roundg (l.length - (k + c) + 1)
        case measure => omega
        case rel => exact ⟨k + c, ln, st, by rw [show ((k + c : Nat) : Int) = (k : Int) + ((c : Int) - 1) + 1 by omega]; exact scn_at (scn_at (w := wo.drewN _) R0.out _) _, by omega, Nat.le_refl _, P1.out, S1.out, F0.out.trans (fr_two R0.out hB _ _ _)⟩
      · have q35 : (x == 35) = false := beq_eq_false_iff_ne.2 h35
        have E := Lib.hid (S0.out.stop HX.out (blank_no h32 h9 h10 h13) h35)
        clear h10 h32 h9 h13 h35
        go_wp2_with fail
        go_quiet (fail)
        go_wp2_with fail
        go_quiet (fail)
        go_wp2_with fail
        go_end0
        exact ⟨rfl, ln, st, by rw [← E.out]; exact R0.out, by rw [← E.out]; exact P0.out, F0.out.trans (fr_drN wo _)⟩
    · obtain rfl : k = l.length := by omega
      have E := Lib.hid S0.out.over
      have hmi : (s.size : Int) ≤ (l.length : Int) := by have := HSZ.out; omega
      have hmi2 : decide ((l.length : Int) < (s.size : Int)) = false := decide_eq_false (by omega)
      go_wp2_with fail
      go_quiet (fail)
      go_wp2_with fail
      go_end0
      exact ⟨rfl, ln, st, by rw [← E.out]; exact R0.out, by rw [← E.out]; exact P0.out, F0.out.trans (fr_drN wo _)⟩
end Go.Proofs.YtdncjhffniepbaaGreatDoor.Lx
/- (LxG10)
  Layer 5, the program: tokens lie in one line; one token is read.
-/
namespace Go.Proofs.YtdncjhffniepbaaGreatDoor.Lx
open Go.RowKit

/-- The first n bytes are no line feeds. -/
def No10 (l : List Int) (n : Nat) : Prop := ∀ i, i < n → ∃ x, l[i]? = some x ∧ x ≠ 10
theorem No10.zero (l : List Int) : No10 l 0 := fun i h => by omega
theorem No10.cons {a : Int} {r : List Int} {n : Nat} (h : a ≠ 10) (hr : No10 r n) : No10 (a :: r) (n + 1) := fun i hi => by
  cases i with
  | zero => exact ⟨a, rfl, h⟩
  | succ i => simpa using hr i (by omega)
theorem No10.add {l : List Int} {n m : Nat} (h : No10 l n) (k : No10 (l.drop n) m) : No10 l (n + m) := fun i hi => by
  by_cases hn : i < n
  · exact h i hn
  · obtain ⟨x, h1, h2⟩ := k (i - n) (by omega)
    rw [List.getElem?_drop] at h1
    exact ⟨x, by rw [← h1]; congr 1; omega, h2⟩
theorem part_no10 {l : List Int} {b : Int} {n : Nat} (h : part l = some (b, n)) : No10 l n := by
  match l, h with
  | [], h => simp [part] at h
  | a :: r, h =>
    rw [part_cons] at h
    split at h
    · simp at h
    split at h
    · subst a
      match r, h with
      | [], h => simp [escPart] at h
      | c :: r, h =>
        rw [escPart_cons] at h
        split at h
        · simp at h; obtain ⟨rfl, rfl⟩ := h; exact No10.cons (by omega) (No10.cons (by omega) (No10.zero _))
        split at h
        · simp at h; obtain ⟨rfl, rfl⟩ := h; exact No10.cons (by omega) (No10.cons (by omega) (No10.zero _))
        split at h
        · simp at h; obtain ⟨rfl, rfl⟩ := h; exact No10.cons (by omega) (No10.cons (by omega) (No10.zero _))
        split at h
        · subst c
          match r, h with
          | [], h => simp [hexPart] at h
          | [_], h => simp [hexPart] at h
          | x :: y :: r, h =>
            cases hx : half x with
            | none => rw [hexPart_no1 hx] at h; simp at h
            | some u =>
              cases hy : half y with
              | none => rw [hexPart_no2 hy] at h; simp at h
              | some v =>
                rw [hexPart_ok hx hy] at h
                simp at h; obtain ⟨rfl, rfl⟩ := h
                have x1 : x ≠ 10 := by intro e; subst e; simp [half] at hx
                have y1 : y ≠ 10 := by intro e; subst e; simp [half] at hy
                exact No10.cons (by omega) (No10.cons (by omega) (No10.cons x1 (No10.cons y1 (No10.zero _))))
        · simp at h
    · simp at h; obtain ⟨rfl, rfl⟩ := h; exact No10.cons (by omega) (No10.zero _)
theorem quoF_no10 : ∀ (f : Nat) (l : List Int) {t : List Int} {n : Nat}, quoF f l = some (t, n) → No10 l n
  | 0, _, _, _, h => by simp [quoF] at h
  | _ + 1, [], _, _, h => by simp [quoF] at h
  | f + 1, a :: r, t, n, h => by
    rw [quoF.eq_3] at h
    split at h
    · simp at h; obtain ⟨_, rfl⟩ := h; exact No10.cons (by omega) (No10.zero _)
    · cases hp : part (a :: r) with
      | none => rw [hp] at h; simp at h
      | some x =>
        obtain ⟨b, m⟩ := x
        rw [hp] at h
        simp only at h
        cases hq : quoF f ((a :: r).drop m) with
        | none => rw [hq] at h; simp at h
        | some y =>
          obtain ⟨u, v⟩ := y
          rw [hq] at h
          simp at h
          obtain ⟨_, rfl⟩ := h
          exact (part_no10 hp).add (quoF_no10 f _ hq)
theorem quo_no10 {l t : List Int} {n : Nat} (h : quo l = some (t, n)) : No10 l n := quoF_no10 _ _ h
theorem sla_no10 : ∀ (l : List Int) {t : List Int} {n : Nat}, sla l = some (t, n) → No10 l n
  | [], _, _, h => by simp [sla] at h
  | [a], t, n, h => by
    by_cases h47 : a = 47
    · subst h47; rw [sla_end] at h; simp at h; obtain ⟨_, rfl⟩ := h; exact No10.cons (by omega) (No10.zero _)
    · simp [sla, h47] at h
  | a :: b :: r, t, n, h => by
    by_cases h47 : a = 47
    · subst h47; rw [sla_end] at h; simp at h; obtain ⟨_, rfl⟩ := h; exact No10.cons (by omega) (No10.zero _)
    by_cases h32 : a < 32
    · rw [sla_low h32 h47] at h; simp at h
    by_cases h92 : a = 92
    · subst h92
      by_cases hb : b < 32
      · rw [sla_bs2 hb] at h; simp at h
      rw [sla_esc hb] at h
      cases hq : sla r with
      | none => rw [hq] at h; simp at h
      | some y =>
        obtain ⟨u, v⟩ := y
        rw [hq] at h
        simp at h
        obtain ⟨_, rfl⟩ := h
        exact No10.cons (by omega) (No10.cons (by omega) (sla_no10 r hq))
    · rw [sla_one h47 h32 h92] at h
      cases hq : sla (b :: r) with
      | none => rw [hq] at h; simp at h
      | some y =>
        obtain ⟨u, v⟩ := y
        rw [hq] at h
        simp at h
        obtain ⟨_, rfl⟩ := h
        exact No10.cons (by omega) (sla_no10 (b :: r) hq)
theorem pw_no10 {w : Bool} {x : Int} (h : pw w x = true) : x ≠ 10 := by
  intro e; subst e
  cases w <;> simp [pw, inWord, letter, digit] at h
theorem span_no10 (w : Bool) : ∀ l : List Int, No10 l (spanL w l)
  | [] => No10.zero _
  | a :: r => by
    rw [spanL_cons]
    split
    · exact No10.cons (pw_no10 (by assumption)) (span_no10 w r)
    · exact No10.zero _
theorem one_no10 {l : List Int} {k : Int} {t : List Int} {n : Nat} (h : one l = .tok k t n) : No10 l n := by
  match l, h with
  | [], h => simp [one] at h
  | a :: r, h =>
    cases hl : letter a with
    | true =>
      rw [one_letter hl] at h
      simp only [One.tok.injEq] at h
      rw [← h.2.2]
      exact span_no10 _ _
    | false =>
      cases hd : digit a with
      | true =>
        rw [one_digit hl hd] at h
        split at h
        · simp at h
        · simp only [One.tok.injEq] at h
          rw [← h.2.2]
          exact span_no10 _ _
      | false =>
        by_cases h34 : a = 34
        · subst h34
          rw [one_str] at h
          cases hq : quo r with
          | none => rw [hq] at h; simp at h
          | some x =>
            obtain ⟨t2, n2⟩ := x
            rw [hq] at h
            simp at h
            rw [← h.2.2]
            exact No10.cons (by omega) (quo_no10 hq)
        by_cases h47 : a = 47
        · subst h47
          rw [one_pat] at h
          cases hq : sla r with
          | none => rw [hq] at h; simp at h
          | some x =>
            obtain ⟨t2, n2⟩ := x
            rw [hq] at h
            simp at h
            rw [← h.2.2]
            exact No10.cons (by omega) (sla_no10 _ hq)
        by_cases hs : a = 123 ∨ a = 125 ∨ a = 44 ∨ a = 61
        · rw [one_sign hs] at h
          simp at h
          rw [← h.2.2]
          exact No10.cons (by omega) (No10.zero _)
        · rw [one_char hl hd h34 h47 hs] at h; simp at h
theorem Pos.tok {l : List Int} {k : Nat} {ln st : Int} (h : Pos l k ln st) {kk : Int} {t : List Int} {n : Nat} (h1 : one (l.drop k) = .tok kk t n) : Pos l (k + n) ln st :=
  h.run n fun i hi => by
    obtain ⟨x, h2, h3⟩ := one_no10 h1 i hi
    rw [List.getElem?_drop] at h2
    exact ⟨x, h2, h3⟩

/-! ### one token -/
def tokV (t : Tok) : Value := .agg t.cells.toArray
def tok0 : Value := .agg #[.int .i64 0, .string ⟨#[]⟩, .int .i64 0, .int .i64 0]
/-- What token returns, and where it leaves the scanner. -/
def TkPost (w : World) (B b : Nat) (s : ByteArray) (l : List Int) (k : Nat) (ln st : Int) (e : Ending) (w' : World) : Prop :=
  Fr 87 B w w' ∧
  (if l.length = k then e = .returned (.tuple #[tokV ⟨6, [], ln, k - st + 1⟩, .nilIface]) ∧ w'.heap[b]? = some (ScnO s k ln st) else
    match one (l.drop k) with
    | .bad c => e = .returned (.tuple #[tok0, fltV (c, ln, k - st + 1)]) ∧ w'.heap[b]? = some (ScnO s k ln st)
    | .tok kk t n => e = .returned (.tuple #[tokV ⟨kk, t, ln, k - st + 1⟩, .nilIface]) ∧ w'.heap[b]? = some (ScnO s ((k + n : Nat) : Int) ln st))
end Go.Proofs.YtdncjhffniepbaaGreatDoor.Lx
/- (LxG11)
  Layer 5, the program: one token is read.
-/
namespace Go.Proofs.YtdncjhffniepbaaGreatDoor.Lx
open Go.RowKit

/-- The token that is returned, and the one that is made: two new blocks. -/
structure TR (w W : World) (x t : Tok) : Prop where
  res : W.heap[w.heap.size]? = some (.cells x.cells.toArray 38 (0, 0))
  tok : W.heap[w.heap.size + 1]? = some (.cells t.cells.toArray 38 (0, 0))
  bel : Below w.heap.size w W
abbrev ZT : Tok := ⟨0, [], 0, 0⟩
theorem tr_a (w : World) (m : Nat) (t : Tok) : TR w (((w.alloc (.cells ZT.cells.toArray 38)).drewN m).alloc (.cells t.cells.toArray 38)) ZT t :=
  ⟨(Below.heap_alloc ((w.alloc _).drewN m) _ _ (by simp)).trans (heap_alloc_new w _), by have := heap_alloc_new ((w.alloc (.cells ZT.cells.toArray 38)).drewN m) (.cells t.cells.toArray 38); simpa using this, (drN (balloc w _) m).alloc (by simp) _⟩
theorem cells4 {w : World} {R : Nat} {a b c d x y z u : Value} {t : TypeId} (h : w.heap[R]? = some (.cells #[a, b, c, d] t (0, 0))) : ((((w.setCell ⟨R, 0, none⟩ x).setCell ⟨R, 1, none⟩ y).setCell ⟨R, 2, none⟩ z).setCell ⟨R, 3, none⟩ u).heap[R]? = some (.cells #[x, y, z, u] t (0, 0)) := by
  simp [World.setCell, Array.getElem?_modify, h]
theorem cells4_other {w : World} {R K : Nat} {x y z u : Value} (h : K ≠ R) : ((((w.setCell ⟨R, 0, none⟩ x).setCell ⟨R, 1, none⟩ y).setCell ⟨R, 2, none⟩ z).setCell ⟨R, 3, none⟩ u).heap[K]? = w.heap[K]? := by
  rw [heap_setCell_other _ _ _ _ h, heap_setCell_other _ _ _ _ h, heap_setCell_other _ _ _ _ h, heap_setCell_other _ _ _ _ h]
theorem below4 {B : Nat} {w0 w : World} (h : Below B w0 w) {R : Nat} (hR : B ≤ R) (x y z u : Value) : Below B w0 ((((w.setCell ⟨R, 0, none⟩ x).setCell ⟨R, 1, none⟩ y).setCell ⟨R, 2, none⟩ z).setCell ⟨R, 3, none⟩ u) :=
  (below3 h hR x y z).setCell hR u
theorem tr_b (w : World) (m : Nat) (t : Tok) : TR w ((((((w.alloc (.cells ZT.cells.toArray 38)).alloc (.cells ZT.cells.toArray 38)).drewN m).setCell ⟨w.heap.size + 1, 0, none⟩ (.int .i64 t.kind)).setCell ⟨w.heap.size + 1, 1, none⟩ (.string (bytesOf t.text))).setCell ⟨w.heap.size + 1, 2, none⟩ (.int .i64 t.line) |>.setCell ⟨w.heap.size + 1, 3, none⟩ (.int .i64 t.col)) ZT t := by
  have h2 := heap_alloc_new (w.alloc (.cells ZT.cells.toArray 38)) (.cells ZT.cells.toArray 38)
  rw [World.size_alloc] at h2
  refine ⟨?_, ?_, ?_⟩
  · rw [cells4_other (by omega)]
    exact (Below.heap_alloc (w.alloc _) _ _ (by simp)).trans (heap_alloc_new w _)
  · exact cells4 (w := ((w.alloc _).alloc _).drewN m) h2
  · exact below4 (drN ((balloc w _).alloc (by simp) _) m) (by omega) _ _ _ _


/-! ### ends -/
section
variable {w W : World} {B b : Nat} {s : ByteArray} {k ln st : Int}
theorem tok_end0 (hb : w.heap[b]? = some (ScnO s k ln st)) (hB : B ≤ b) (h : Below w.heap.size w W) {R : Nat} (hR : w.heap.size ≤ R) (x y z u : Value) :
    Fr 87 B w ((((W.setCell ⟨R, 0, none⟩ x).setCell ⟨R, 1, none⟩ y).setCell ⟨R, 2, none⟩ z).setCell ⟨R, 3, none⟩ u) ∧ ((((W.setCell ⟨R, 0, none⟩ x).setCell ⟨R, 1, none⟩ y).setCell ⟨R, 2, none⟩ z).setCell ⟨R, 3, none⟩ u).heap[b]? = some (ScnO s k ln st) := by
  have hlt := heap_lt hb
  refine ⟨Fr.of_below (below4 h hR _ _ _ _) (by omega), ?_⟩
  rw [cells4_other (by omega), h.block b hlt, hb]
theorem tok_end (hb : w.heap[b]? = some (ScnO s k ln st)) (hB : B ≤ b) (h : Below w.heap.size w W) {R : Nat} (hR : w.heap.size ≤ R) (v : Int) (x y z u : Value) :
    Fr 87 B w (((((W.setCell ⟨b, 1, none⟩ (.int .i64 v)).setCell ⟨R, 0, none⟩ x).setCell ⟨R, 1, none⟩ y).setCell ⟨R, 2, none⟩ z).setCell ⟨R, 3, none⟩ u) ∧ (((((W.setCell ⟨b, 1, none⟩ (.int .i64 v)).setCell ⟨R, 0, none⟩ x).setCell ⟨R, 1, none⟩ y).setCell ⟨R, 2, none⟩ z).setCell ⟨R, 3, none⟩ u).heap[b]? = some (ScnO s v ln st) := by
  have hlt := heap_lt hb
  have hbW : W.heap[b]? = some (ScnO s k ln st) := (h.block b hlt).trans hb
  refine ⟨⟨below4 ((h.mono (by omega)).setCell (p := ⟨b, 1, none⟩) hB _) (by omega) _ _ _ _, fun i cs t f hi hne => ?_⟩, ?_⟩
  · have hil := heap_lt hi
    have hib : i ≠ b := fun e => by subst e; rw [hb] at hi; injection hi with hi; injection hi with _ e2; exact hne e2.symm
    rw [cells4_other (by omega), heap_setCell_other _ _ _ _ hib, h.block i hil, hi]
  · rw [cells4_other (by omega)]
    exact scn_at hbW v
end
section
variable {w w' : World} {B b k : Nat} {s : ByteArray} {l : List Int} {ln st : Int} {e : Ending}
theorem TkPost.ofEnd (h : l.length = k) (hf : Fr 87 B w w' ∧ w'.heap[b]? = some (ScnO s k ln st)) (he : e = .returned (.tuple #[tokV ⟨6, [], ln, k - st + 1⟩, .nilIface])) : TkPost w B b s l k ln st e w' := ⟨hf.1, by rw [if_pos h]; exact ⟨he, hf.2⟩⟩
theorem TkPost.ofBad {c : Int} (h : l.length ≠ k) (h1 : one (l.drop k) = .bad c) (hf : Fr 87 B w w' ∧ w'.heap[b]? = some (ScnO s k ln st)) (he : e = .returned (.tuple #[tok0, fltV (c, ln, k - st + 1)])) : TkPost w B b s l k ln st e w' := ⟨hf.1, by rw [if_neg h, h1]; exact ⟨he, hf.2⟩⟩
theorem TkPost.ofTok {kk : Int} {t : List Int} {n : Nat} (h : l.length ≠ k) (h1 : one (l.drop k) = .tok kk t n) (hf : Fr 87 B w w' ∧ w'.heap[b]? = some (ScnO s ((k + n : Nat) : Int) ln st)) (he : e = .returned (.tuple #[tokV ⟨kk, t, ln, k - st + 1⟩, .nilIface])) : TkPost w B b s l k ln st e w' := ⟨hf.1, by rw [if_neg h, h1]; exact ⟨he, hf.2⟩⟩
end
theorem sign_all : ∀ n : Fin 256, Lib.indexByte [123, 125, 44, 61] ((n.val : Int).toNat.toUInt8) = if n.val = 123 then 0 else if n.val = 125 then 1 else if n.val = 44 then 2 else if n.val = 61 then 3 else -1 := by decide +kernel
theorem sign_ix {a : Int} (h0 : 0 ≤ a) (h1 : a ≤ 255) : Lib.indexByte [123, 125, 44, 61] a.toNat.toUInt8 = if a = 123 then 0 else if a = 125 then 1 else if a = 44 then 2 else if a = 61 then 3 else -1 := by
  have := sign_all ⟨a.toNat, by omega⟩
  simp only at this
  rw [Int.toNat_of_nonneg h0] at this
  rw [this]
  simp only [show a.toNat = 123 ↔ a = 123 by omega, show a.toNat = 125 ↔ a = 125 by omega, show a.toNat = 44 ↔ a = 44 by omega, show a.toNat = 61 ↔ a = 61 by omega]
theorem gsign_yes {a : Int} (h : a = 123 ∨ a = 125 ∨ a = 44 ∨ a = 61) (w : World) : Calls Tryz.prog 82 #[.string ⟨#[123, 125, 44, 61]⟩, .int .u8 a] w fun e w' => (∃ i, 0 ≤ i ∧ e = .returned (.int .i64 i)) ∧ w = w' := by
  refine (Tryz.strings_IndexByte _ a w).mono ?_
  rintro e w' ⟨rfl, rfl⟩
  refine ⟨⟨_, ?_, rfl⟩, rfl⟩
  show (0 : Int) ≤ Lib.indexByte [123, 125, 44, 61] _
  rw [sign_ix (by omega) (by omega)]
  repeat' split
  all_goals omega
theorem gsign_no {a : Int} (h0 : 0 ≤ a) (h1 : a ≤ 255) (h : ¬ (a = 123 ∨ a = 125 ∨ a = 44 ∨ a = 61)) (w : World) : Calls Tryz.prog 82 #[.string ⟨#[123, 125, 44, 61]⟩, .int .u8 a] w fun e w' => e = .returned (.int .i64 (-1)) ∧ w = w' := by
  refine (Tryz.strings_IndexByte _ a w).mono ?_
  rintro e w' ⟨rfl, rfl⟩
  refine ⟨?_, rfl⟩
  show Ending.returned (.int .i64 (Lib.indexByte [123, 125, 44, 61] _)) = _
  rw [sign_ix h0 h1, if_neg (by omega), if_neg (by omega), if_neg (by omega), if_neg (by omega)]

theorem hdr (w : World) (m : Nat) : (w.drewN m).heap = w.heap := rfl
theorem bsT {w W : World} {i : Nat} {v : Value} (h : Below w.heap.size w W) : Below w.heap.size w (W.setCell ⟨w.heap.size + 1, i, none⟩ v) := h.setCell (p := ⟨w.heap.size + 1, i, none⟩) (by simp) v
theorem keepO {w : World} {g R i : Nat} {o : Obj} (h : w.heap[g]? = some o) (hne : g ≠ R) (v : Value) : (w.setCell ⟨R, i, none⟩ v).heap[g]? = some o := by rw [heap_setCell_other _ _ _ _ hne, h]
theorem set0 {w : World} {R : Nat} {a b c d : Value} {t : TypeId} (h : w.heap[R]? = some (.cells #[a, b, c, d] t (0, 0))) (x : Value) : (w.setCell ⟨R, 0, none⟩ x).heap[R]? = some (.cells #[x, b, c, d] t (0, 0)) := by
  simp [World.setCell, Array.getElem?_modify, h]
theorem txt_size {l : List Int} (hl : By l) {n : Nat} (hn : n ≤ l.length) : (bytesOf (l.take n)).size = n := by
  rw [← ch_length, ch_bytesOf (hl.take n), List.length_take]; omega
theorem tok_ret {a : Act} {W : World} {R : Nat} {x y z u ev c0 c1 c2 c3 : Value} {Q : Ending → World → Prop} (ha : a.tmps[2]?.getD undef = .pointer (some ⟨R, 0, none⟩)) (h3 : a.tmps[3]?.getD undef = ev) (hd : a.defers = []) (hrow : W.heap[R]? = some (.cells #[c0, c1, c2, c3] 38 (0, 0)))
    (hQ : Q (.returned (.tuple #[.agg #[x, y, z, u], ev])) ((((W.setCell ⟨R, 0, none⟩ x).setCell ⟨R, 1, none⟩ y).setCell ⟨R, 2, none⟩ z).setCell ⟨R, 3, none⟩ u)) :
    bodyPost Tryz.prog Tryz.f49 Q .ret a ((((W.setCell ⟨R, 0, none⟩ x).setCell ⟨R, 1, none⟩ y).setCell ⟨R, 2, none⟩ z).setCell ⟨R, 3, none⟩ u) := by
  have hb9 := cells4 (x := x) (y := y) (z := z) (u := u) hrow
  refine bodyPost_ret (v := .tuple #[.agg #[x, y, z, u], ev]) ?_ hd hQ
  simp [results, Tryz.results49, go_sem, ha, h3, cell_of_row _ R 0 _ _ _ hb9, cell_of_row _ R 1 _ _ _ hb9, cell_of_row _ R 2 _ _ _ hb9, cell_of_row _ R 3 _ _ _ hb9]
theorem tok_retd {a : Act} {W : World} {R : Nat} {x y z u ev c0 c1 c2 c3 : Value} {Q : Ending → World → Prop} (ha : a.tmps[2]?.getD undef = .pointer (some ⟨R, 0, none⟩)) (h3 : a.tmps[3]?.getD undef = ev) (hd : a.defers = []) (hrow : W.heap[R]? = some (.cells #[c0, c1, c2, c3] 38 (0, 0)))
    (hQ : Q (.returned (.tuple #[.agg #[x, y, z, u], ev])) ((((W.setCell ⟨R, 0, none⟩ x).setCell ⟨R, 1, none⟩ y).setCell ⟨R, 2, none⟩ z).setCell ⟨R, 3, none⟩ u).drew) :
    bodyPost Tryz.prog Tryz.f49 Q .ret a ((((W.setCell ⟨R, 0, none⟩ x).setCell ⟨R, 1, none⟩ y).setCell ⟨R, 2, none⟩ z).setCell ⟨R, 3, none⟩ u).drew := by
  have hb9 : ((((W.setCell ⟨R, 0, none⟩ x).setCell ⟨R, 1, none⟩ y).setCell ⟨R, 2, none⟩ z).setCell ⟨R, 3, none⟩ u).drew.heap[R]? = _ := cells4 (x := x) (y := y) (z := z) (u := u) hrow
  generalize ((((W.setCell ⟨R, 0, none⟩ x).setCell ⟨R, 1, none⟩ y).setCell ⟨R, 2, none⟩ z).setCell ⟨R, 3, none⟩ u).drew = W2 at *
  refine bodyPost_ret (v := .tuple #[.agg #[x, y, z, u], ev]) ?_ hd hQ
  simp [results, Tryz.results49, go_sem, ha, h3, cell_of_row _ R 0 _ _ _ hb9, cell_of_row _ R 1 _ _ _ hb9, cell_of_row _ R 2 _ _ _ hb9, cell_of_row _ R 3 _ _ _ hb9]
theorem tok_drew {e : TypeId} {B b : Nat} {w W : World} {o : Obj} (h : Fr e B w W ∧ W.heap[b]? = some o) : Fr e B w W.drew ∧ W.drew.heap[b]? = some o := ⟨⟨h.1.bel.drew, h.1.keep⟩, h.2⟩
end Go.Proofs.YtdncjhffniepbaaGreatDoor.Lx
