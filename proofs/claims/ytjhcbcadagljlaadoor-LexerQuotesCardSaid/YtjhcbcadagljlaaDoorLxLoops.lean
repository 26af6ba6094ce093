/-
  Layer 5, the reference: strings and patterns, blanks, places, words.
-/
import Derived.Test.YtjhcbcadagljlaaDoorLxMem
namespace Go.Proofs.YtjhcbcadagljlaaDoor.Lx
open Go.RowKit

theorem balloc (w : World) (o : Obj) : Below w.heap.size w (w.alloc o) := (Below.refl _ _).alloc (Nat.le_refl _) _
theorem drop_at {l : List Int} {k : Nat} {x : Int} (h : l[k]? = some x) : l.drop k = x :: l.drop (k + 1) := by
  obtain ⟨hk, e⟩ := List.getElem?_eq_some_iff.1 h
  rw [List.drop_eq_getElem_cons hk, e]
theorem own_snoc {e : TypeId} {k : IntKind} {w : World} {B : Nat} {v : Value} {l : List Int} {x : Int} (h : Own e k w B v (l ++ [x])) : ∃ A c, v = .slice A (l.length + 1) c := by
  obtain ⟨A, c, hv⟩ := h.form
  exact ⟨A, c, by rw [hv, List.length_append]; rfl⟩
/-- What quoted and slashed return. -/
def cutV (x : Option (List Int × Nat)) : Value := match x with
  | some x => .tuple #[.string (bytesOf x.1), .int .i64 x.2]
  | none => .tuple #[.string ⟨#[]⟩, .int .i64 (-1)]
def VPost (w : World) (v : Value) (e : Ending) (w' : World) : Prop := e = .returned v ∧ Below w.heap.size w w'
/-- What is to come makes the whole. -/
def Rest (q : List Int → Option (List Int × Nat)) (l out : List Int) (k : Nat) : Prop := q l = (q (l.drop k)).map fun x => (out ++ x.1, k + x.2)
theorem Rest.start (q : List Int → Option (List Int × Nat)) (l : List Int) : Rest q l [] 0 := by
  unfold Rest
  rw [List.drop_zero]
  cases q l <;> simp
theorem Rest.none {q : List Int → Option (List Int × Nat)} {l out : List Int} {k : Nat} (h : Rest q l out k) (hn : q (l.drop k) = .none) : q l = .none := by rw [h, hn]; rfl
theorem Rest.done {q : List Int → Option (List Int × Nat)} {l out : List Int} {k : Nat} (h : Rest q l out k) (hn : q (l.drop k) = some ([], 1)) : q l = some (out, k + 1) := by rw [h, hn]; simp
theorem Rest.step {q : List Int → Option (List Int × Nat)} {l out o2 : List Int} {k n : Nat} (h : Rest q l out k) (hn : q (l.drop k) = (q (l.drop (k + n))).map fun x => (o2 ++ x.1, x.2 + n)) : Rest q l (out ++ o2) (k + n) := by
  unfold Rest at *
  rw [h, hn]
  cases q (l.drop (k + n)) <;> simp
  omega
theorem quo_step {l : List Int} {k n : Nat} {b : Int} (h1 : (l.drop k).head? ≠ some 34) (h : part (l.drop k) = some (b, n)) : quo (l.drop k) = (quo (l.drop (k + n))).map fun x => ([b] ++ x.1, x.2 + n) := by
  rw [quo_part h1 h, List.drop_drop]
  congr 1
  funext x
  simp
  omega

set_option maxRecDepth 100000 in
set_option maxHeartbeats 2000000 in
theorem quoted_any {s : ByteArray} {l : List Int} (hs : ch s = l) (hn : l.length ≤ 100000) (w : World) : Calls Tryd.prog 30 #[.string s] w (VPost w (cutV (quo l))) := by
  have HBY : Hid (By l) := Lib.hid (by rw [← hs]; exact ch_By s)
  have HSZ : Hid (s.size = l.length) := Lib.hid (by rw [← hs, ch_length])
  have HAT : Hid (∀ k x, l[k]? = some x → ∃ hk : k < s.size, ((s[k]'hk).toNat : Int) = x) := Lib.hid (fun k x h => ch_at (by rw [hs]; exact h))
  have HP := Lib.hid (fun (k : Nat) (W : World) => part_any (s := s.extract k s.size) (l := l.drop k) (by rw [ch_drop, hs]) W)
  clear hs
  go_enter Tryd.func30, Tryd.ntmps30
  go_wp2_with fail
  go_loopg [4, 5, 6, 7] (l.length + 1) (fun g' ov i _ _ wr => ∃ (k : Nat) (out : List Int), i = .int .i64 k ∧ k ≤ l.length ∧ l.length - k + 1 ≤ g' ∧ Own 5 .u8 wr w.heap.size ov out ∧ By out ∧ out.length ≤ k ∧ Below w.heap.size w wr ∧ Rest quo l out k)
  case atStart => exact ⟨0, [], rfl, Nat.zero_le _, by omega, Own.nil _ _ _ _, By.nil, Nat.le_refl _, Below.refl _ _, Rest.start _ _⟩
  case round =>
    obtain ⟨k, out, rfl, hk, hg, hown, hbo, hol, hbel, hrest⟩ := hrel
    obtain ⟨wo, rfl⟩ : ∃ wo : World, wo = wr := ⟨_, rfl⟩
    have O0 := Lib.hid hown
    have BO := Lib.hid hbo
    have BW := Lib.hid hbel
    have HR := Lib.hid hrest
    have hcv := conv_lst hown.lst hbo
    obtain ⟨Ao, co, rfl⟩ := hown.form
    clear hown hbo hbel hrest
    by_cases hkn : k < l.length
    · obtain ⟨x, hx⟩ : ∃ x, l[k]? = some x := ⟨l[k], List.getElem?_eq_getElem hkn⟩
      obtain ⟨hks, x0⟩ := HAT.out k x hx
      have hki : (k : Int) < (s.size : Int) := by omega
      have hdr := drop_at hx
      by_cases h34 : x = 34
      · subst h34
        have E := Lib.hid (HR.out.done (by rw [hdr]; exact quo_end _))
        have hge : ¬ s.size ≤ k := by omega
        clear hx hdr
        have hcv2 := hcv
        go_wp2_with fail
        go_ret2
        exact ⟨ret_t (by rw [E.out]; unfold cutV; simp), BW.out⟩
      · have hne : (x != 34) = true := bne_iff_ne.2 h34
        have hhd : (l.drop k).head? ≠ some 34 := by rw [hdr]; simpa using h34
        cases hp : part (l.drop k) with
        | none =>
          have HPk := Lib.hid (HP.out k)
          rw [partV_none hp] at HPk
          have E := Lib.hid (HR.out.none (quo_bad (by rw [hdr]; simp) hhd hp))
          clear hx hdr hhd hp hcv
          go_wp2_with (go_at_call 47; ((with_reducible refine (HPk.out _).mono ?_); rintro e w' ⟨rfl, rfl⟩))
          go_ret2
          exact ⟨ret_t (by rw [E.out]; rfl), BW.out⟩
        | some bn =>
          obtain ⟨b, n⟩ := bn
          have HPk := Lib.hid (HP.out k)
          rw [partV_some hp] at HPk
          obtain ⟨n1, n2⟩ := part_len hp
          rw [List.length_drop] at n2
          have hbb := part_by (HBY.out.drop k) hp
          have HBB := Lib.hid hbb
          have HR2 := Lib.hid (HR.out.step (quo_step hhd hp))
          have hn0 : ((n : Int) == 0) = false := beq_eq_false_iff_ne.2 (by omega)
          clear hx hdr hhd hp hcv hbb
          go_wp2_with (first
            | (go_at_call 47; ((with_reducible refine (HPk.out _).mono ?_); rintro e w' ⟨rfl, rfl⟩))
            | (at_builtin; refine wpList_app rfl _ _ rfl elByte rfl (O0.out.below (balloc _ _)) rfl (lst_one _ b 5) (by simp; omega) (by have := BW.out.size; simp; omega) ?_; intro v5 w5 hO hF; obtain ⟨A5, c5, hv5⟩ := own_snoc hO; subst hv5; have O5 := Lib.hid hO; have B5 := Lib.hid ((BW.out.alloc BW.out.size _).trans hF.bel); clear hO hF))
          go_roundg (l.length - (k + n) + 1)
          case measure => omega
          case rel => exact ⟨k + n, out ++ [b], by go_num, by omega, Nat.le_refl _, by have := O5.out; simpa using this, BO.out.append (By.one HBB.out), by simp; omega, B5.out, HR2.out⟩
    · obtain rfl : k = l.length := by omega
      have E := Lib.hid (HR.out.none (by rw [List.drop_length]; exact quo_nil))
      have hki : ¬ l.length < s.size := by have := HSZ.out; omega
      have hki2 : decide ((l.length : Int) < (s.size : Int)) = false := decide_eq_false (by omega)
      have hki3 : (s.size : Int) ≤ (l.length : Int) := by omega
      clear hcv
      go_wp2_with fail
      go_ret2
      exact ⟨ret_t (by rw [E.out]; rfl), BW.out⟩

/-! ### blanks and comments -/
theorem blank_yes {a : Int} (h : a = 32 ∨ a = 9 ∨ a = 10 ∨ a = 13) : blank a = true := decide_eq_true h
theorem blank_no {a : Int} (h1 : a ≠ 32) (h2 : a ≠ 9) (h3 : a ≠ 10) (h4 : a ≠ 13) : blank a = false := decide_eq_false (by omega)
theorem skipS_f (a : Int) (r : List Int) : skipS false (a :: r) = if blank a then skipS false r + 1 else if a = 35 then skipS true r + 1 else 0 := rfl
theorem skipS_t (a : Int) (r : List Int) : skipS true (a :: r) = if a = 10 then skipS false r + 1 else skipS true r + 1 := rfl
def Sk (c : Bool) (l : List Int) (k : Nat) : Prop := skip l = k + skipS c (l.drop k)
theorem Sk.blank {l : List Int} {k : Nat} {x : Int} (h : Sk false l k) (hx : l[k]? = some x) (hb : blank x = true) : Sk false l (k + 1) := by
  unfold Sk at *; rw [drop_at hx] at h; rw [h, skipS_f, if_pos hb]; omega
theorem Sk.stop {l : List Int} {k : Nat} {x : Int} (h : Sk false l k) (hx : l[k]? = some x) (hb : Lx.blank x = false) (h35 : x ≠ 35) : skip l = k := by
  unfold Sk at *; rw [drop_at hx] at h; rw [h, skipS_f, if_neg (by simp [hb]), if_neg h35]; rfl
theorem Sk.enter {l : List Int} {k : Nat} (h : Sk false l k) (hx : l[k]? = some 35) : Sk true l k := by
  unfold Sk at *; rw [drop_at hx] at *; rw [h]; simp [skipS, Lx.blank]
theorem Sk.more {l : List Int} {k : Nat} {x : Int} (h : Sk true l k) (hx : l[k]? = some x) (hb : x ≠ 10) : Sk true l (k + 1) := by
  unfold Sk at *; rw [drop_at hx] at h; rw [h, skipS_t, if_neg hb]; omega
theorem Sk.leave {l : List Int} {k : Nat} (h : Sk true l k) (hx : l[k]? = some 10) : Sk false l k := by
  unfold Sk at *; rw [drop_at hx] at *; rw [h]; simp [skipS, Lx.blank]
theorem Sk.over {c : Bool} {l : List Int} (h : Sk c l l.length) : skip l = l.length := by
  unfold Sk at h; rw [h, List.drop_length]; cases c <;> rfl
theorem Sk.flip {l : List Int} (h : Sk true l l.length) : Sk false l l.length := by
  unfold Sk at *; rw [h, List.drop_length]; rfl

set_option maxRecDepth 100000 in
set_option maxHeartbeats 2000000 in
theorem skip_any {s : ByteArray} {l : List Int} (hs : ch s = l) (hn : l.length ≤ 100000) (w : World) : Calls Tryd.prog 15 #[.string s] w fun e w' => e = .returned (.int .i64 (skip l)) ∧ w = w' := by
  have HSZ : Hid (s.size = l.length) := Lib.hid (by rw [← hs, ch_length])
  have HAT : Hid (∀ k x, l[k]? = some x → ∃ hk : k < s.size, ((s[k]'hk).toNat : Int) = x) := Lib.hid (fun k x h => ch_at (by rw [hs]; exact h))
  clear hs
  go_enter Tryd.func15, Tryd.ntmps15
  go_wp2_with fail
  go_loopg [3] (l.length + 1) (fun g' i wr => ∃ (k : Nat), i = .int .i64 k ∧ k ≤ l.length ∧ l.length - k + 1 ≤ g' ∧ Sk false l k ∧ wr = w)
  case atStart => exact ⟨0, rfl, Nat.zero_le _, by omega, by unfold Sk; simp [skip], rfl⟩
  case round =>
    obtain ⟨k, rfl, hk, hg, hsk, rfl⟩ := hrel
    have SK := Lib.hid hsk
    clear hsk
    by_cases hkn : k < l.length
    · obtain ⟨x, hx⟩ : ∃ x, l[k]? = some x := ⟨l[k], List.getElem?_eq_getElem hkn⟩
      obtain ⟨hks, x0⟩ := HAT.out k x hx
      have hki : (k : Int) < (s.size : Int) := by omega
      have HX := Lib.hid hx
      clear hx
      by_cases hb : x = 32 ∨ x = 9 ∨ x = 10 ∨ x = 13
      · have S1 := Lib.hid (SK.out.blank HX.out (blank_yes hb))
        rcases hb with rfl | rfl | rfl | rfl
        · go_wp2_with fail
          go_roundg (l.length - (k + 1) + 1)
          case measure => omega
          case rel => exact ⟨k + 1, by go_num, by omega, Nat.le_refl _, S1.out, rfl⟩
        · go_wp2_with fail
          go_roundg (l.length - (k + 1) + 1)
          case measure => omega
          case rel => exact ⟨k + 1, by go_num, by omega, Nat.le_refl _, S1.out, rfl⟩
        · go_wp2_with fail
          go_roundg (l.length - (k + 1) + 1)
          case measure => omega
          case rel => exact ⟨k + 1, by go_num, by omega, Nat.le_refl _, S1.out, rfl⟩
        · go_wp2_with fail
          go_roundg (l.length - (k + 1) + 1)
          case measure => omega
          case rel => exact ⟨k + 1, by go_num, by omega, Nat.le_refl _, S1.out, rfl⟩
      · have b1 : (x == 32) = false := beq_eq_false_iff_ne.2 (by omega)
        have b2 : (x == 9) = false := beq_eq_false_iff_ne.2 (by omega)
        have b3 : (x == 10) = false := beq_eq_false_iff_ne.2 (by omega)
        have b4 : (x == 13) = false := beq_eq_false_iff_ne.2 (by omega)
        have HBN := Lib.hid (blank_no (show x ≠ 32 by omega) (by omega) (by omega) (by omega))
        clear hb
        by_cases h35 : x = 35
        · subst h35
          have S1 := Lib.hid (SK.out.enter HX.out)
          go_wp2_with fail
          go_loopg [3] (l.length - k + 1) (fun g' i wr2 => ∃ (m : Nat), i = .int .i64 m ∧ k ≤ m ∧ m ≤ l.length ∧ l.length - m + 1 ≤ g' ∧ Sk true l m ∧ wr2 = wr)
          case atStart => exact ⟨k, rfl, Nat.le_refl _, hk, by omega, S1.out, rfl⟩
          case round =>
            obtain ⟨m, rfl, hkm, hm, hg2, hsk2, rfl⟩ := hrel
            have SM := Lib.hid hsk2
            clear hsk2
            by_cases hmn : m < l.length
            · obtain ⟨y, hy⟩ : ∃ y, l[m]? = some y := ⟨l[m], List.getElem?_eq_getElem hmn⟩
              obtain ⟨hms, y0⟩ := HAT.out m y hy
              have hmi : (m : Int) < (s.size : Int) := by omega
              have HYM := Lib.hid hy
              by_cases h10 : y = 10
              · subst h10
                have hlt : k < m := by
                  rcases Nat.lt_or_ge k m with h | h
                  · exact h
                  · obtain rfl : m = k := by omega
                    have := HX.out
                    rw [HYM.out] at this
                    simp at this
                have S2 := Lib.hid (SM.out.leave HYM.out)
                clear hy
                go_wp2_with fail
                go_roundg (l.length - m + 1)
                case measure => omega
                case rel => exact ⟨m, rfl, hm, Nat.le_refl _, S2.out, rfl⟩
              · have hne : (y != 10) = true := bne_iff_ne.2 h10
                have S2 := Lib.hid (SM.out.more HYM.out h10)
                clear hy
                go_wp2_with fail
                go_roundg (l.length - (m + 1) + 1)
                case measure => omega
                case rel => exact ⟨m + 1, by go_num, by omega, by omega, Nat.le_refl _, S2.out, rfl⟩
            · obtain rfl : m = l.length := by omega
              have hmi : (s.size : Int) ≤ (l.length : Int) := by have := HSZ.out; omega
              have hmi2 : decide ((l.length : Int) < (s.size : Int)) = false := decide_eq_false (by omega)
              have S2 := Lib.hid SM.out.flip
              go_wp2_with fail
              go_roundg (l.length - l.length + 1)
              case measure => omega
              case rel => exact ⟨l.length, rfl, Nat.le_refl _, Nat.le_refl _, S2.out, rfl⟩
        · have b5 : (x == 35) = false := beq_eq_false_iff_ne.2 h35
          have E := Lib.hid (SK.out.stop HX.out HBN.out h35)
          go_wp2_with fail
          go_ret
          exact ⟨ret_i (by rw [E.out]), rfl⟩
    · obtain rfl : k = l.length := by omega
      have E := Lib.hid SK.out.over
      have hmi : (s.size : Int) ≤ (l.length : Int) := by have := HSZ.out; omega
      go_wp2_with fail
      go_ret
      exact ⟨ret_i (by rw [E.out]), rfl⟩

/-! ### places -/
theorem adv_bd : ∀ (l : List Int) (p : Int × Int) (M : Int), 1 ≤ p.1 → 1 ≤ p.2 → p.1 ≤ M → p.2 ≤ M → 1 ≤ (adv p l).1 ∧ 1 ≤ (adv p l).2 ∧ (adv p l).1 ≤ M + l.length ∧ (adv p l).2 ≤ M + l.length
  | [], p, M, h1, h2, h3, h4 => by simp [adv]; omega
  | a :: r, p, M, h1, h2, h3, h4 => by
    have := adv_bd r (if a = 10 then (p.1 + 1, 1) else (p.1, p.2 + 1)) (M + 1) (by split <;> simp <;> omega) (by split <;> simp <;> omega) (by split <;> simp <;> omega) (by split <;> simp <;> omega)
    simp only [adv, List.length_cons]
    omega
theorem take_snoc' {l : List Int} {k : Nat} {x : Int} (h : l[k]? = some x) : l.take (k + 1) = l.take k ++ [x] := by rw [List.take_add_one, h]; rfl
def placeV (p : Int × Int) : Value := .tuple #[.int .i64 p.1, .int .i64 p.2]
set_option maxRecDepth 100000 in
set_option maxHeartbeats 1000000 in
theorem where_any {s : ByteArray} {l : List Int} (hs : ch s = l) (hn : l.length ≤ 100000) {m : Nat} (hm : m ≤ l.length) (w : World) : Calls Tryd.prog 16 #[.string s, .int .i64 m] w fun e w' => e = .returned (placeV (adv (1, 1) (l.take m))) ∧ w = w' := by
  have HSZ : Hid (s.size = l.length) := Lib.hid (by rw [← hs, ch_length])
  have HAT : Hid (∀ k x, l[k]? = some x → ∃ hk : k < s.size, ((s[k]'hk).toNat : Int) = x) := Lib.hid (fun k x h => ch_at (by rw [hs]; exact h))
  clear hs
  go_enter Tryd.func16, Tryd.ntmps16
  go_wp2_with fail
  go_loopg [6, 7, 8] (m + 1) (fun g' li co i wr => ∃ (k : Nat), i = .int .i64 k ∧ k ≤ m ∧ m - k + 1 ≤ g' ∧ li = .int .i64 (adv (1, 1) (l.take k)).1 ∧ co = .int .i64 (adv (1, 1) (l.take k)).2 ∧ wr = w)
  case atStart => exact ⟨0, rfl, Nat.zero_le _, by omega, rfl, rfl, rfl⟩
  case round =>
    obtain ⟨k, rfl, hk, hg, rfl, rfl, rfl⟩ := hrel
    by_cases hkn : k < m
    · obtain ⟨x, hx⟩ : ∃ x, l[k]? = some x := ⟨l[k], List.getElem?_eq_getElem (by omega)⟩
      obtain ⟨hks, x0⟩ := HAT.out k x hx
      have hki : (k : Int) < (m : Int) := by omega
      have hks2 : (k : Int) < (s.size : Int) := by omega
      obtain ⟨p1, p2, p3, p4⟩ := adv_bd (l.take k) (1, 1) 1 (by simp) (by simp) (by simp) (by simp)
      rw [List.length_take] at p3 p4
      have HE := Lib.hid ((congrArg (adv (1, 1)) (take_snoc' hx)).trans (adv_append _ _ _))
      generalize adv (1, 1) (l.take k) = p at *
      obtain ⟨p, q⟩ := p
      simp only at p1 p2 p3 p4
      have P3 : p ≤ 1000000 := by omega
      have P4 : q ≤ 1000000 := by omega
      clear hx p3 p4
      by_cases h10 : x = 10
      · subst h10
        go_wp2_with fail
        go_roundg (m - (k + 1) + 1)
        case measure => omega
        case rel => exact ⟨k + 1, by go_num, by omega, Nat.le_refl _, by rw [HE.out]; simp [adv], by rw [HE.out]; simp [adv], rfl⟩
      · have hb : (x == 10) = false := beq_eq_false_iff_ne.2 h10
        have HN := Lib.hid h10
        go_wp2_with fail
        go_roundg (m - (k + 1) + 1)
        case measure => omega
        case rel => exact ⟨k + 1, by go_num, by omega, Nat.le_refl _, by rw [HE.out]; simp [adv, HN.out], by rw [HE.out]; simp [adv, HN.out], rfl⟩
    · obtain rfl : k = m := by omega
      go_wp2_with fail
      go_ret2
      exact ⟨rfl, rfl⟩
end Go.Proofs.YtjhcbcadagljlaaDoor.Lx
