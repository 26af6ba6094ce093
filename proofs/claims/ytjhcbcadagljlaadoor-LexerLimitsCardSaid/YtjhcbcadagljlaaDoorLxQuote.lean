/-
  Layer 5, the reference: the contracts of Quote and Same.
-/
import Derived.Test.YtjhcbcadagljlaaDoorLxAll
namespace Go.Proofs.YtjhcbcadagljlaaDoor.Lx
open Go.RowKit

def hexd (d : Int) : Int := if d < 10 then 48 + d else 87 + d
def quoB (b : Int) : List Int := if b = 34 ∨ b = 92 then [92, b] else if b = 10 then [92, 110] else if b = 9 then [92, 116] else if b < 32 ∨ b = 127 then [92, 120, hexd (b / 16), hexd (b % 16)] else [b]
def quoBs : List Int → List Int
  | [] => []
  | b :: r => quoB b ++ quoBs r
def quoteL (l : List Int) : List Int := 34 :: (quoBs l ++ [34])
theorem quoBs_append (a b : List Int) : quoBs (a ++ b) = quoBs a ++ quoBs b := by
  induction a with
  | nil => rfl
  | cons x r ih => simp [quoBs, ih]
theorem quoBs_snoc (a : List Int) (b : Int) : quoBs (a ++ [b]) = quoBs a ++ quoB b := by rw [quoBs_append]; simp [quoBs]
theorem quoB_le (b : Int) : (quoB b).length ≤ 4 := by unfold quoB; repeat' split
                                                      all_goals simp
theorem quoBs_le (l : List Int) : (quoBs l).length ≤ 4 * l.length := by
  induction l with
  | nil => simp [quoBs]
  | cons b r ih => have := quoB_le b; simp [quoBs]; omega
theorem quoB_By {b : Int} (h : 0 ≤ b ∧ b ≤ 255) : By (quoB b) := by
  unfold quoB hexd; repeat' split
  all_goals (intro x hx; simp at hx; omega)
theorem quoBs_By {l : List Int} (h : By l) : By (quoBs l) := by
  induction l with
  | nil => exact By.nil
  | cons b r ih => exact (quoB_By (h b (by simp))).append (ih fun x hx => h x (by simp [hx]))
theorem quoB_mark {b : Int} (h : b = 34 ∨ b = 92) : quoB b = [92, b] := by unfold quoB; rw [if_pos h]
theorem quoB_nl : quoB 10 = [92, 110] := by decide
theorem quoB_tab : quoB 9 = [92, 116] := by decide
theorem quoB_low {b : Int} (h1 : b ≠ 10) (h2 : b ≠ 9) (h : b < 32 ∨ b = 127) : quoB b = [92, 120, hexd (b / 16), hexd (b % 16)] := by
  unfold quoB; rw [if_neg (by omega), if_neg h1, if_neg h2, if_pos h]
theorem quoB_self {b : Int} (h0 : ¬ (b = 34 ∨ b = 92)) (h : ¬ (b < 32 ∨ b = 127)) : quoB b = [b] := by
  unfold quoB; rw [if_neg h0, if_neg (by omega), if_neg (by omega), if_neg h]
/-! what is quoted is read back -/
theorem half_hexd {d : Int} (h0 : 0 ≤ d) (h1 : d ≤ 15) : half (hexd d) = some d := by
  unfold hexd half
  by_cases h : d < 10
  · rw [if_pos h, if_pos (by omega)]; congr 1; omega
  · rw [if_neg h, if_neg (by omega), if_pos (by omega)]; congr 1; omega
theorem part_quoB {b : Int} (hb : 0 ≤ b ∧ b ≤ 255) (r : List Int) : part (quoB b ++ r) = some (b, (quoB b).length) ∧ (quoB b ++ r).head? ≠ some 34 := by
  by_cases h1 : b = 34 ∨ b = 92
  · rw [quoB_mark h1]
    refine ⟨?_, by simp⟩
    simp only [List.cons_append, List.nil_append]
    rw [part_cons, if_neg (by omega), if_pos rfl, escPart_cons, if_pos h1]; rfl
  by_cases h2 : b = 10
  · subst h2; rw [quoB_nl]; exact ⟨by simp [part, escPart], by simp⟩
  by_cases h3 : b = 9
  · subst h3; rw [quoB_tab]; exact ⟨by simp [part, escPart], by simp⟩
  by_cases h4 : b < 32 ∨ b = 127
  · rw [quoB_low h2 h3 h4]
    refine ⟨?_, by simp⟩
    simp only [List.cons_append, List.nil_append]
    rw [part_cons, if_neg (by omega), if_pos rfl, escPart_cons, if_neg (by omega), if_neg (by omega), if_neg (by omega), if_pos rfl, hexPart_ok (half_hexd (by omega) (by omega)) (half_hexd (by omega) (by omega))]
    congr 1
    simp
    omega
  · rw [quoB_self h1 h4]
    simp only [List.cons_append, List.nil_append]
    refine ⟨?_, by simp; omega⟩
    rw [part_cons, if_neg (by omega), if_neg (by omega)]; rfl
theorem quo_quoBs {l : List Int} (h : By l) (r : List Int) : quo (quoBs l ++ 34 :: r) = some (l, (quoBs l).length + 1) := by
  induction l with
  | nil => simp only [quoBs, List.nil_append]; rw [quo_end]; rfl
  | cons b t ih =>
    have hb := h b (by simp)
    obtain ⟨p1, p2⟩ := part_quoB hb (quoBs t ++ 34 :: r)
    simp only [quoBs, List.append_assoc]
    rw [quo_part p2 p1, List.drop_left, ih fun x hx => h x (by simp [hx])]
    simp
    omega
theorem one_quote {l : List Int} (h : By l) : one (quoteL l) = .tok 3 l ((quoBs l).length + 2) := by
  unfold quoteL
  rw [one_str, quo_quoBs h]
theorem quoteL_length (l : List Int) : (quoteL l).length = (quoBs l).length + 2 := by unfold quoteL; simp
theorem all_quote {l : List Int} (h : By l) (hn : (quoteL l).length ≤ 8192) : ∃ a b, all (quoteL l) = .ok [⟨3, l, 1, 1⟩, ⟨6, [], a, b⟩] := by
  have hs : skip (quoteL l) = 0 := by unfold quoteL skip; rw [skipS_f]; simp [blank]
  have hlen : ((quoteL l).drop (skip (quoteL l))).length ≠ 0 := by rw [hs, List.drop_zero, quoteL_length]; omega
  have h1 : one ((quoteL l).drop (skip (quoteL l))) = .tok 3 l ((quoBs l).length + 2) := by rw [hs, List.drop_zero]; exact one_quote h
  unfold all
  rw [if_neg (by omega), lexC_tok hlen h1 (by omega)]
  rw [hs, ← quoteL_length]
  simp only [Nat.zero_add, List.drop_length]
  obtain ⟨f, hf⟩ : ∃ f, (quoteL l).length = f + 1 := ⟨(quoBs l).length + 1, by rw [quoteL_length]⟩
  rw [show (quoteL l).length = f + 1 from hf, lexC_end (by simp)]
  exact ⟨_, _, rfl⟩

def DIG : ByteArray := ⟨#[48, 49, 50, 51, 52, 53, 54, 55, 56, 57, 97, 98, 99, 100, 101, 102]⟩
theorem lst_many {k : IntKind} (w : World) (l : List Int) (t : TypeId) (hl : l.length ≤ 1000000) : Lst k (w.alloc (.cells (l.map (Value.int k)).toArray t)) (.slice (some ⟨w.heap.size, 0, none⟩) l.length l.length) l :=
  lst_row l (heap_alloc_new w _) hl
theorem own_len {e : TypeId} {k : IntKind} {w : World} {B : Nat} {v : Value} {l m : List Int} (h : Own e k w B v (l ++ m)) : ∃ A c, v = .slice A (l.length + m.length) c := by
  obtain ⟨A, c, hv⟩ := h.form
  exact ⟨A, c, by rw [hv, List.length_append]⟩

theorem dig_at (n : Nat) (hn : n < 16) : (((⟨#[48, 49, 50, 51, 52, 53, 54, 55, 56, 57, 97, 98, 99, 100, 101, 102]⟩ : ByteArray)[n]'hn).toNat : Int) = hexd n := by
  have : ∀ m : Fin 16, (((⟨#[48, 49, 50, 51, 52, 53, 54, 55, 56, 57, 97, 98, 99, 100, 101, 102]⟩ : ByteArray)[m.val]'m.isLt).toNat : Int) = hexd (m.val : Int) := by decide +kernel
  exact this ⟨n, hn⟩
theorem quo_u8 {x : Int} (h0 : 0 ≤ x) (h1 : x ≤ 255) : IntKind.u8.wrap (x.tdiv 16) = x / 16 ∧ x.tmod 16 = x % 16 := by
  rw [Int.tdiv_eq_ediv_of_nonneg h0, Int.tmod_eq_emod_of_nonneg h0, IntKind.wrap_u8]
  omega
set_option maxRecDepth 100000 in
set_option maxHeartbeats 4000000 in
theorem quote_any {s : ByteArray} {l : List Int} (hs : ch s = l) (hn : l.length ≤ 10000) (w : World) : Calls Tryd.prog 12 #[.string s] w (VPost w (.string (bytesOf (quoteL l)))) := by
  have HBY : Hid (By l) := Lib.hid (by rw [← hs]; exact ch_By s)
  have HSZ : Hid (s.size = l.length) := Lib.hid (by rw [← hs, ch_length])
  have HAT : Hid (∀ k x, l[k]? = some x → ∃ hk : k < s.size, ((s[k]'hk).toNat : Int) = x) := Lib.hid (fun k x h => ch_at (by rw [hs]; exact h))
  clear hs
  have hown0 : Own 5 .u8 (w.alloc (.cells #[.int .u8 34] 5)) w.heap.size (.slice (some ⟨w.heap.size, 0, none⟩) 1 1) [34] := ⟨rfl, .inr ⟨w.heap.size, 1, #[.int .u8 34], rfl, Nat.le_refl _, heap_alloc_new w _, Nat.le_refl _, by unfold maxLen; omega, rfl, rfl⟩⟩
  have OO := Lib.hid hown0
  clear hown0
  go_enter Tryd.func12, Tryd.ntmps12
  go_wp2_with fail
  go_loopg [4, 5, 6] (l.length + 1) (fun g' ov i _ wr => ∃ (k : Nat), i = .int .i64 k ∧ k ≤ l.length ∧ l.length - k + 1 ≤ g' ∧ Own 5 .u8 wr w.heap.size ov (34 :: quoBs (l.take k)) ∧ Below w.heap.size w wr)
  case atStart => exact ⟨0, rfl, Nat.zero_le _, by omega, OO.out, balloc w _⟩
  case round =>
    obtain ⟨k, rfl, hk, hg, hown, hbel⟩ := hrel
    obtain ⟨wo, rfl⟩ : ∃ wo : World, wo = wr := ⟨_, rfl⟩
    have O0 := Lib.hid hown
    have BW := Lib.hid hbel
    obtain ⟨Ao, co, rfl⟩ := hown.form
    have hql := quoBs_le (l.take k)
    rw [List.length_take] at hql
    have hq1 : (34 :: quoBs (l.take k)).length ≤ 50000 := by simp; omega
    clear hown hbel hql
    by_cases hkn : k < l.length
    · obtain ⟨x, hx⟩ : ∃ x, l[k]? = some x := ⟨l[k], List.getElem?_eq_getElem hkn⟩
      obtain ⟨hks, x0⟩ := HAT.out k x hx
      have hki : (k : Int) < (s.size : Int) := by omega
      have HXB := Lib.hid (HBY.out x (List.mem_of_getElem? hx))
      have HT : Hid (34 :: quoBs (l.take (k + 1)) = (34 :: quoBs (l.take k)) ++ quoB x) := Lib.hid (by rw [take_snoc' hx, quoBs_snoc]; rfl)
      generalize 34 :: quoBs (l.take k) = o at *
      clear hx
      by_cases hmk : x = 34 ∨ x = 92
      · have HQ := Lib.hid (quoB_mark hmk)
        rcases hmk with rfl | rfl
        · go_wp2_with (at_builtin; refine wpList_app rfl _ _ rfl elByte rfl (O0.out.below (balloc wo _)) rfl (lst_two wo 92 34 5) (by simp; omega) (by have := BW.out.size; simp; omega) ?_; intro v5 w5 hO hF; obtain ⟨A5, c5, hv5⟩ := own_len hO; simp only [List.length_cons, List.length_nil, Nat.zero_add, Nat.reduceAdd] at hv5; subst hv5; have O5 := Lib.hid hO; have B5 := Lib.hid ((BW.out.alloc BW.out.size _).trans hF.bel); clear hO hF)
          go_roundg (l.length - (k + 1) + 1)
          case measure => omega
          case rel => exact ⟨k + 1, by go_num, by omega, Nat.le_refl _, by rw [HT.out, HQ.out]; exact O5.out, B5.out⟩
        · go_wp2_with (at_builtin; refine wpList_app rfl _ _ rfl elByte rfl (O0.out.below (balloc wo _)) rfl (lst_two wo 92 92 5) (by simp; omega) (by have := BW.out.size; simp; omega) ?_; intro v5 w5 hO hF; obtain ⟨A5, c5, hv5⟩ := own_len hO; simp only [List.length_cons, List.length_nil, Nat.zero_add, Nat.reduceAdd] at hv5; subst hv5; have O5 := Lib.hid hO; have B5 := Lib.hid ((BW.out.alloc BW.out.size _).trans hF.bel); clear hO hF)
          go_roundg (l.length - (k + 1) + 1)
          case measure => omega
          case rel => exact ⟨k + 1, by go_num, by omega, Nat.le_refl _, by rw [HT.out, HQ.out]; exact O5.out, B5.out⟩
      by_cases h10 : x = 10
      · subst h10
        have HQ := Lib.hid quoB_nl
        go_wp2_with (at_builtin; refine wpList_app rfl _ _ rfl elByte rfl (O0.out.below (balloc wo _)) rfl (lst_two wo 92 110 5) (by simp; omega) (by have := BW.out.size; simp; omega) ?_; intro v5 w5 hO hF; obtain ⟨A5, c5, hv5⟩ := own_len hO; simp only [List.length_cons, List.length_nil, Nat.zero_add, Nat.reduceAdd] at hv5; subst hv5; have O5 := Lib.hid hO; have B5 := Lib.hid ((BW.out.alloc BW.out.size _).trans hF.bel); clear hO hF)
        go_roundg (l.length - (k + 1) + 1)
        case measure => omega
        case rel => exact ⟨k + 1, by go_num, by omega, Nat.le_refl _, by rw [HT.out, HQ.out]; exact O5.out, B5.out⟩
      by_cases h9 : x = 9
      · subst h9
        have HQ := Lib.hid quoB_tab
        go_wp2_with (at_builtin; refine wpList_app rfl _ _ rfl elByte rfl (O0.out.below (balloc wo _)) rfl (lst_two wo 92 116 5) (by simp; omega) (by have := BW.out.size; simp; omega) ?_; intro v5 w5 hO hF; obtain ⟨A5, c5, hv5⟩ := own_len hO; simp only [List.length_cons, List.length_nil, Nat.zero_add, Nat.reduceAdd] at hv5; subst hv5; have O5 := Lib.hid hO; have B5 := Lib.hid ((BW.out.alloc BW.out.size _).trans hF.bel); clear hO hF)
        go_roundg (l.length - (k + 1) + 1)
        case measure => omega
        case rel => exact ⟨k + 1, by go_num, by omega, Nat.le_refl _, by rw [HT.out, HQ.out]; exact O5.out, B5.out⟩
      have q34 : (x == 34) = false := beq_eq_false_iff_ne.2 (by omega)
      have q92 : (x == 92) = false := beq_eq_false_iff_ne.2 (by omega)
      have q10 : (x == 10) = false := beq_eq_false_iff_ne.2 h10
      have q9 : (x == 9) = false := beq_eq_false_iff_ne.2 h9
      by_cases hlow : x < 32 ∨ x = 127
      · have HQ := Lib.hid (quoB_low h10 h9 hlow)
        have hx0 := HXB.out.1
        have hx1 := HXB.out.2
        have hx2 : x ≤ 127 := by omega
        rcases hlow with hlow | h127
        · clear hmk h10 h9
          go_wp2_with fail
          obtain ⟨hw1, hw2⟩ := quo_u8 hx0 hx1
          obtain ⟨n1, hn1⟩ := Int.eq_ofNat_of_zero_le (show 0 ≤ x / 16 by omega)
          obtain ⟨n2, hn2⟩ := Int.eq_ofNat_of_zero_le (show 0 ≤ x % 16 by omega)
          have hb1 : n1 < 16 := by omega
          have hb2 : n2 < 16 := by omega
          have hc1 : (n1 : Int) < 16 := by omega
          have hc2 : (n2 : Int) < 16 := by omega
          rw [hn1, hn2] at HQ
          rw [hn1] at hw1
          rw [hn2] at hw2
          have ht1 := dig_at n1 hb1
          have ht2 := dig_at n2 hb2
          have h1B := lst_many (k := .u8) wo [92, 120, hexd (n1 : Int), hexd (n2 : Int)] 5 (by simp)
          generalize hexd (n1 : Int) = e1 at *
          generalize hexd (n2 : Int) = e2 at *
          have LB := Lib.hid h1B
          clear h1B hn1 hn2
          go_region_law (refine step_app rfl (.tmp 51) (.tmp 60) rfl elByte (B := w.heap.size) rfl (O0.out.below (balloc wo (.cells #[.int .u8 92, .int .u8 120, .int .u8 e1, .int .u8 e2] 5)).drew) rfl (LB.out.below (Below.refl _ _).drew) ?h1 ?h2 ?_; (case h1 => (simp; omega)); (case h2 => (have := BW.out.size; simp; omega)); intro v5 w5 hO hF; obtain ⟨A5, c5, hv5⟩ := own_len hO; simp only [List.length_cons, List.length_nil, Nat.zero_add, Nat.reduceAdd] at hv5; subst hv5; have O5 := Lib.hid hO; have B5 := Lib.hid ((BW.out.alloc BW.out.size (.cells #[.int .u8 92, .int .u8 120, .int .u8 e1, .int .u8 e2] 5)).drew.trans hF.bel); clear hO hF)
          all_goals
            clear hw1 hw2 ht1 ht2
            go_wp2_with fail
            go_roundg (l.length - (k + 1) + 1)
            case measure => omega
            case rel => exact ⟨k + 1, by go_num, by omega, Nat.le_refl _, by rw [HT.out, HQ.out]; exact O5.out, B5.out⟩
        · have q127 : (x == 127) = true := by simp [h127]
          have hge : 32 ≤ x := by omega
          clear hmk h10 h9 h127
          go_wp2_with fail
          obtain ⟨hw1, hw2⟩ := quo_u8 hx0 hx1
          obtain ⟨n1, hn1⟩ := Int.eq_ofNat_of_zero_le (show 0 ≤ x / 16 by omega)
          obtain ⟨n2, hn2⟩ := Int.eq_ofNat_of_zero_le (show 0 ≤ x % 16 by omega)
          have hb1 : n1 < 16 := by omega
          have hb2 : n2 < 16 := by omega
          have hc1 : (n1 : Int) < 16 := by omega
          have hc2 : (n2 : Int) < 16 := by omega
          rw [hn1, hn2] at HQ
          rw [hn1] at hw1
          rw [hn2] at hw2
          have ht1 := dig_at n1 hb1
          have ht2 := dig_at n2 hb2
          have h1B := lst_many (k := .u8) wo [92, 120, hexd (n1 : Int), hexd (n2 : Int)] 5 (by simp)
          generalize hexd (n1 : Int) = e1 at *
          generalize hexd (n2 : Int) = e2 at *
          have LB := Lib.hid h1B
          clear h1B hn1 hn2
          go_region_law (refine step_app rfl (.tmp 51) (.tmp 60) rfl elByte (B := w.heap.size) rfl (O0.out.below (balloc wo (.cells #[.int .u8 92, .int .u8 120, .int .u8 e1, .int .u8 e2] 5)).drew) rfl (LB.out.below (Below.refl _ _).drew) ?h1 ?h2 ?_; (case h1 => (simp; omega)); (case h2 => (have := BW.out.size; simp; omega)); intro v5 w5 hO hF; obtain ⟨A5, c5, hv5⟩ := own_len hO; simp only [List.length_cons, List.length_nil, Nat.zero_add, Nat.reduceAdd] at hv5; subst hv5; have O5 := Lib.hid hO; have B5 := Lib.hid ((BW.out.alloc BW.out.size (.cells #[.int .u8 92, .int .u8 120, .int .u8 e1, .int .u8 e2] 5)).drew.trans hF.bel); clear hO hF)
          all_goals
            clear hw1 hw2 ht1 ht2
            go_wp2_with fail
            go_roundg (l.length - (k + 1) + 1)
            case measure => omega
            case rel => exact ⟨k + 1, by go_num, by omega, Nat.le_refl _, by rw [HT.out, HQ.out]; exact O5.out, B5.out⟩

      · have HQ := Lib.hid (quoB_self hmk hlow)
        have q127 : (x == 127) = false := beq_eq_false_iff_ne.2 (by omega)
        have hge : 32 ≤ x := by omega
        clear hmk hlow h10 h9
        go_wp2_with (at_builtin; refine wpList_app rfl _ _ rfl elByte rfl (O0.out.below (balloc wo _)) rfl (lst_one wo x 5) (by simp; omega) (by have := BW.out.size; simp; omega) ?_; intro v5 w5 hO hF; obtain ⟨A5, c5, hv5⟩ := own_len hO; simp only [List.length_cons, List.length_nil, Nat.zero_add] at hv5; subst hv5; have O5 := Lib.hid hO; have B5 := Lib.hid ((BW.out.alloc BW.out.size _).trans hF.bel); clear hO hF)
        go_roundg (l.length - (k + 1) + 1)
        case measure => omega
        case rel => exact ⟨k + 1, by go_num, by omega, Nat.le_refl _, by rw [HT.out, HQ.out]; exact O5.out, B5.out⟩
    · obtain rfl : k = l.length := by omega
      have hki2 : (s.size : Int) ≤ (l.length : Int) := by have := HSZ.out; omega
      have HTL := Lib.hid (List.take_length (l := l))
      rw [HTL.out] at O0 hq1 ⊢
      have HBQ := Lib.hid (quoBs_By HBY.out)
      generalize hob : 34 :: quoBs l = o at *
      have HOB := Lib.hid hob
      clear hob
      go_wp2_with (at_builtin; refine wpList_app rfl _ _ rfl elByte rfl (O0.out.below (balloc wo _)) rfl (lst_one wo 34 5) (by simp; omega) (by have := BW.out.size; simp; omega) ?_; intro v5 w5 hO hF; have hcv := conv_lst hO.lst (by rw [← HOB.out]; exact ((By.one (x := 34) (by omega)).append HBQ.out).append (By.one (by omega))); obtain ⟨A5, c5, hv5⟩ := own_snoc hO; subst hv5; have B5 := Lib.hid ((BW.out.alloc BW.out.size _).trans hF.bel); clear hO hF)
      go_ret
      exact ⟨ret_t (by rw [← HOB.out]; rfl), B5.out⟩
end Go.Proofs.YtjhcbcadagljlaaDoor.Lx
