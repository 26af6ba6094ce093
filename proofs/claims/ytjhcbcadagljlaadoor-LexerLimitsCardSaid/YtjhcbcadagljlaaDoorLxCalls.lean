/-
  Layer 5: strings as lists of bytes; the contracts of the reference's small functions.
-/
import Derived.Test.YtjhcbcadagljlaaDoorProg
import Derived.Test.YtjhcbcadagljlaaDoorLxMath
import Derived.WalkKit
import Derived.WalkLawsBesides
import Derived.WalkSpells
import Derived.Below
import Derived.Lib.Hide
import Derived.Outline
import Derived.ArgAppend
import Derived.OwnWalk
import Derived.Deep.AppendLies
import Derived.Deep.Draws
import Derived.Deep.LoopGhost
import Derived.Deep.QuietTactic
import Derived.BigQuiet
import Derived.Laws.IdiomStrings
import Derived.Laws.BytesString
namespace Go.Proofs.YtjhcbcadagljlaaDoor.Lx
open Go.RowKit

/-- A string's bytes. -/
def ch (s : ByteArray) : List Int := s.data.toList.map fun b => (b.toNat : Int)
theorem ch_length (s : ByteArray) : (ch s).length = s.size := by unfold ch; rw [List.length_map, Array.length_toList]; rfl
theorem ch_By (s : ByteArray) : By (ch s) := by
  intro x hx
  obtain ⟨b, _, rfl⟩ := List.mem_map.1 hx
  have := b.toNat_lt
  omega
theorem ch_at {s : ByteArray} {k : Nat} {x : Int} (h : (ch s)[k]? = some x) : ∃ hk : k < s.size, ((s[k]'hk).toNat : Int) = x := by
  have hk : k < s.size := by rw [← ch_length]; exact (List.getElem?_eq_some_iff.1 h).1
  refine ⟨hk, ?_⟩
  unfold ch at h
  rw [List.getElem?_map] at h
  have e : s.data.toList[k]? = some (s[k]'hk) := by
    rw [List.getElem?_eq_getElem (by rw [Array.length_toList]; exact hk)]
    rfl
  rw [e] at h
  simpa using h
theorem ch_extract (s : ByteArray) (i j : Nat) : ch (s.extract i j) = ((ch s).take j).drop i := by
  unfold ch
  rw [ByteArray.data_extract, Array.toList_extract, List.extract_eq_drop_take', List.map_drop, List.map_take]
theorem ch_drop (s : ByteArray) (k : Nat) : ch (s.extract k s.size) = (ch s).drop k := by
  rw [ch_extract, List.take_of_length_le (by rw [ch_length]; exact Nat.le_refl _)]
theorem ch_take (s : ByteArray) (k : Nat) : ch (s.extract 0 k) = (ch s).take k := by rw [ch_extract]; simp
theorem ch_inj {s t : ByteArray} (h : ch s = ch t) : s = t := by
  have e : s.data.toList = t.data.toList := by
    have := h
    unfold ch at this
    exact List.map_inj_right (fun a b hab => UInt8.toNat_inj.1 (by exact_mod_cast hab)) |>.1 this
  cases s; cases t
  simp only [ByteArray.mk.injEq]
  exact Array.toList_inj.1 e
def bytesOf (l : List Int) : ByteArray := ⟨(l.map fun x => UInt8.ofNat x.toNat).toArray⟩
theorem ch_bytesOf {l : List Int} (h : By l) : ch (bytesOf l) = l := by
  unfold ch bytesOf
  simp only [List.map_map]
  conv => rhs; rw [← List.map_id l]
  refine List.map_congr_left fun x hx => ?_
  have := h x hx
  simp
  omega
theorem bytesOf_ch (s : ByteArray) : bytesOf (ch s) = s := ch_inj (ch_bytesOf (ch_By s))

theorem ret_b {a b : Bool} (h : a = b) : Ending.returned (.bool a) = .returned (.bool b) := by rw [h]
theorem ret_i {a b : Int} (h : a = b) : Ending.returned (.int .i64 a) = .returned (.int .i64 b) := by rw [h]

theorem letter_any (b : Int) (w : World) : Calls Tryd.prog 27 #[.int .u8 b] w fun e w' => e = .returned (.bool (letter b)) ∧ w = w' := by
  by_cases h : b = 95
  · subst h
    go_enter Tryd.func27, Tryd.ntmps27
    go_wp2
    go_ret
    exact ⟨ret_b (by decide), rfl⟩
  · have h' : (b == 95) = false := beq_eq_false_iff_ne.2 h
    go_enter Tryd.func27, Tryd.ntmps27
    go_wp2
    all_goals
      go_ret
      exact ⟨ret_b (by unfold letter; rw [Bool.eq_iff_iff]; simp only [decide_eq_true_eq, Bool.or_eq_true, Bool.false_eq_true, false_iff, true_iff, or_false, h]; omega), rfl⟩
theorem digit_any (b : Int) (w : World) : Calls Tryd.prog 29 #[.int .u8 b] w fun e w' => e = .returned (.bool (digit b)) ∧ w = w' := by
  go_enter Tryd.func29, Tryd.ntmps29
  go_wp2
  all_goals
    go_ret
    exact ⟨ret_b (by unfold digit; rw [Bool.eq_iff_iff]; simp only [decide_eq_true_eq, Bool.false_eq_true, false_iff]; omega), rfl⟩
/-- What half returns. -/
def halfV (b : Int) : Value := match half b with
  | some x => .tuple #[.int .u8 x, .bool true]
  | none => .tuple #[.int .u8 0, .bool false]
theorem ret_t {a b : Value} (h : a = b) : Ending.returned a = .returned b := by rw [h]
theorem half_any (b : Int) (h0 : 0 ≤ b) (h1 : b ≤ 255) (w : World) : Calls Tryd.prog 52 #[.int .u8 b] w fun e w' => e = .returned (halfV b) ∧ w = w' := by
  have HD := Lib.hid (fun W => digit_any b W)
  rcases (show (48 ≤ b ∧ b ≤ 57) ∨ ((b < 48 ∨ 57 < b) ∧ 97 ≤ b ∧ b ≤ 102) ∨ ((b < 48 ∨ 57 < b) ∧ (b < 97 ∨ 102 < b) ∧ 65 ≤ b ∧ b ≤ 70) ∨ ((b < 48 ∨ 57 < b) ∧ (b < 97 ∨ 102 < b) ∧ (b < 65 ∨ 70 < b)) by omega) with h | ⟨h, h2⟩ | ⟨h, h2, h3⟩ | ⟨h, h2, h3⟩
  · have E : Hid (half b = _) := Lib.hid (by unfold half; rw [if_pos h])
    rw [show digit b = true by unfold digit; exact decide_eq_true (by omega)] at HD
    go_enter Tryd.func52, Tryd.ntmps52
    go_wp2_with (go_at_call 29; ((with_reducible refine (HD.out _).mono ?_); rintro e w' ⟨rfl, rfl⟩))
    all_goals
      first
        | omega
        | (go_ret2; exact ⟨ret_t (by unfold halfV; rw [E.out]; simp <;> omega), rfl⟩)
  · have E : Hid (half b = _) := Lib.hid (by unfold half; rw [if_neg (by omega), if_pos h2])
    rw [show digit b = false by unfold digit; exact decide_eq_false (by omega)] at HD
    go_enter Tryd.func52, Tryd.ntmps52
    go_wp2_with (go_at_call 29; ((with_reducible refine (HD.out _).mono ?_); rintro e w' ⟨rfl, rfl⟩))
    all_goals
      first
        | omega
        | (go_ret2; exact ⟨ret_t (by unfold halfV; rw [E.out]; simp <;> omega), rfl⟩)
  · have E : Hid (half b = _) := Lib.hid (by unfold half; rw [if_neg (by omega), if_neg (by omega), if_pos h3])
    rw [show digit b = false by unfold digit; exact decide_eq_false (by omega)] at HD
    go_enter Tryd.func52, Tryd.ntmps52
    go_wp2_with (go_at_call 29; ((with_reducible refine (HD.out _).mono ?_); rintro e w' ⟨rfl, rfl⟩))
    all_goals
      first
        | omega
        | (go_ret2; exact ⟨ret_t (by unfold halfV; rw [E.out]; simp <;> omega), rfl⟩)
  · have E : Hid (half b = _) := Lib.hid (by unfold half; rw [if_neg (by omega), if_neg (by omega), if_neg (by omega)])
    rw [show digit b = false by unfold digit; exact decide_eq_false (by omega)] at HD
    go_enter Tryd.func52, Tryd.ntmps52
    go_wp2_with (go_at_call 29; ((with_reducible refine (HD.out _).mono ?_); rintro e w' ⟨rfl, rfl⟩))
    all_goals
      first
        | omega
        | (go_ret2; exact ⟨ret_t (by unfold halfV; rw [E.out]; simp <;> omega), rfl⟩)

/-- What part returns. -/
def partV (l : List Int) : Value := match part l with
  | some x => .tuple #[.int .u8 x.1, .int .i64 x.2]
  | none => .tuple #[.int .u8 0, .int .i64 0]
theorem partV_some {l : List Int} {b : Int} {n : Nat} (h : part l = some (b, n)) : partV l = .tuple #[.int .u8 b, .int .i64 n] := by unfold partV; rw [h]
theorem partV_none {l : List Int} (h : part l = none) : partV l = .tuple #[.int .u8 0, .int .i64 0] := by unfold partV; rw [h]
set_option maxRecDepth 100000 in
set_option maxHeartbeats 1000000 in
theorem part_any {s : ByteArray} {l : List Int} (hs : ch s = l) (w : World) : Calls Tryd.prog 47 #[.string s] w fun e w' => e = .returned (partV l) ∧ w = w' := by
  have hby : By l := by rw [← hs]; exact ch_By s
  have hsz : s.size = l.length := by rw [← hs, ch_length]
  have hat : ∀ k x, l[k]? = some x → ∃ hk : k < s.size, ((s[k]'hk).toNat : Int) = x := fun k x h => ch_at (by rw [hs]; exact h)
  clear hs
  cases l with
  | nil =>
    have hz : s.size = 0 := hsz
    rw [partV_none (show part [] = none from rfl)]
    clear hsz hby hat
    go_enter Tryd.func47, Tryd.ntmps47
    go_wp2_with fail
    go_ret2
    exact ⟨ret_t rfl, rfl⟩
  | cons a r =>
    have ha := hby a (by simp)
    obtain ⟨h0, x0⟩ := hat 0 a rfl
    have hz0 : (s.size == 0) = false := beq_eq_false_iff_ne.2 (by omega)
    have hz1 : (0 : Int) < (s.size : Int) := by omega
    have hz2 : ((s.size : Int) == 0) = false := beq_eq_false_iff_ne.2 (by omega)
    by_cases h32 : a < 32
    · rw [partV_none (by rw [part_cons, if_pos (.inl h32)])]
      clear hby hsz hat
      go_enter Tryd.func47, Tryd.ntmps47
      go_wp2_with fail
      go_ret2
      exact ⟨ret_t rfl, rfl⟩
    by_cases h34 : a = 34
    · rw [partV_none (by rw [part_cons, if_pos (.inr h34)])]
      subst h34
      clear hby hsz hat
      go_enter Tryd.func47, Tryd.ntmps47
      go_wp2_with fail
      go_ret2
      exact ⟨ret_t rfl, rfl⟩
    have hq : (a == 34) = false := beq_eq_false_iff_ne.2 h34
    have hge : 32 ≤ a := by omega
    by_cases h92 : a = 92
    · subst h92
      have e0 : part (92 :: r) = escPart r := by rw [part_cons, if_neg (by omega), if_pos rfl]
      cases r with
      | nil =>
        have hs2 : (s.size : Int) < 2 := by simp at hsz; omega
        rw [partV_none (by rw [e0]; rfl)]
        clear hby hsz hat
        go_enter Tryd.func47, Tryd.ntmps47
        go_wp2_with fail
        go_ret2
        exact ⟨ret_t rfl, rfl⟩
      | cons b r =>
        have hb := hby b (by simp)
        obtain ⟨h1, x1⟩ := hat 1 b rfl
        have hs2 : (2 : Int) ≤ (s.size : Int) := by simp at hsz; omega
        rw [escPart_cons] at e0
        by_cases b34 : b = 34
        · subst b34
          rw [if_pos (.inl rfl)] at e0
          rw [partV_some e0]
          clear hby hsz hat
          go_enter Tryd.func47, Tryd.ntmps47
          go_wp2_with fail
          go_ret2
          exact ⟨ret_t rfl, rfl⟩
        by_cases b92 : b = 92
        · subst b92
          rw [if_pos (.inr rfl)] at e0
          rw [partV_some e0]
          clear hby hsz hat
          go_enter Tryd.func47, Tryd.ntmps47
          go_wp2_with fail
          go_ret2
          exact ⟨ret_t rfl, rfl⟩
        by_cases b110 : b = 110
        · subst b110
          rw [if_neg (by omega), if_pos rfl] at e0
          rw [partV_some e0]
          clear hby hsz hat
          go_enter Tryd.func47, Tryd.ntmps47
          go_wp2_with fail
          go_ret2
          exact ⟨ret_t rfl, rfl⟩
        by_cases b116 : b = 116
        · subst b116
          rw [if_neg (by omega), if_neg (by omega), if_pos rfl] at e0
          rw [partV_some e0]
          clear hby hsz hat
          go_enter Tryd.func47, Tryd.ntmps47
          go_wp2_with fail
          go_ret2
          exact ⟨ret_t rfl, rfl⟩
        have q34 : (b == 34) = false := beq_eq_false_iff_ne.2 b34
        have q92 : (b == 92) = false := beq_eq_false_iff_ne.2 b92
        have q110 : (b == 110) = false := beq_eq_false_iff_ne.2 b110
        have q116 : (b == 116) = false := beq_eq_false_iff_ne.2 b116
        rw [if_neg (by omega), if_neg b110, if_neg b116] at e0
        by_cases b120 : b = 120
        · subst b120
          rw [if_pos rfl] at e0
          cases r with
          | nil =>
            have hs4 : (s.size : Int) < 4 := by simp at hsz; omega
            rw [partV_none (by rw [e0]; rfl)]
            clear hsz hby hat
            go_enter Tryd.func47, Tryd.ntmps47
            go_wp2_with fail
            go_ret2
            exact ⟨ret_t rfl, rfl⟩
          | cons x r =>
          cases r with
          | nil =>
            have hs4 : (s.size : Int) < 4 := by simp at hsz; omega
            rw [partV_none (by rw [e0]; rfl)]
            clear hsz hby hat
            go_enter Tryd.func47, Tryd.ntmps47
            go_wp2_with fail
            go_ret2
            exact ⟨ret_t rfl, rfl⟩
          | cons y r =>
            have hx := hby x (by simp)
            have hy := hby y (by simp)
            obtain ⟨h2, x2⟩ := hat 2 x rfl
            obtain ⟨h3, x3⟩ := hat 3 y rfl
            have hs4 : (4 : Int) ≤ (s.size : Int) := by simp at hsz; omega
            have HX := Lib.hid (fun W => half_any x hx.1 hx.2 W)
            have HY := Lib.hid (fun W => half_any y hy.1 hy.2 W)
            unfold halfV at HX HY
            cases hu : half x with
            | none =>
              rw [hu] at HX
              rw [hexPart_no1 hu] at e0
              rw [partV_none e0]
              cases hv : half y with
              | none =>
                rw [hv] at HY
                clear hby hsz hat
                go_enter Tryd.func47, Tryd.ntmps47
                go_wp2_with (first | (go_at_call 52; ((with_reducible refine (HX.out _).mono ?_); rintro e w' ⟨rfl, rfl⟩)) | (go_at_call 52; ((with_reducible refine (HY.out _).mono ?_); rintro e w' ⟨rfl, rfl⟩)))
                go_ret2
                exact ⟨ret_t rfl, rfl⟩
              | some v =>
                rw [hv] at HY
                clear hby hsz hat
                go_enter Tryd.func47, Tryd.ntmps47
                go_wp2_with (first | (go_at_call 52; ((with_reducible refine (HX.out _).mono ?_); rintro e w' ⟨rfl, rfl⟩)) | (go_at_call 52; ((with_reducible refine (HY.out _).mono ?_); rintro e w' ⟨rfl, rfl⟩)))
                go_ret2
                exact ⟨ret_t rfl, rfl⟩
            | some u =>
              rw [hu] at HX
              have hu2 := half_bd hu
              cases hv : half y with
              | none =>
                rw [hv] at HY
                rw [hexPart_no2 hv] at e0
                rw [partV_none e0]
                clear hby hsz hat
                go_enter Tryd.func47, Tryd.ntmps47
                go_wp2_with (first | (go_at_call 52; ((with_reducible refine (HX.out _).mono ?_); rintro e w' ⟨rfl, rfl⟩)) | (go_at_call 52; ((with_reducible refine (HY.out _).mono ?_); rintro e w' ⟨rfl, rfl⟩)))
                go_ret2
                exact ⟨ret_t rfl, rfl⟩
              | some v =>
                rw [hv] at HY
                have hv2 := half_bd hv
                rw [hexPart_ok hu hv] at e0
                rw [partV_some e0]
                clear hby hsz hat
                go_enter Tryd.func47, Tryd.ntmps47
                go_wp2_with (first | (go_at_call 52; ((with_reducible refine (HX.out _).mono ?_); rintro e w' ⟨rfl, rfl⟩)) | (go_at_call 52; ((with_reducible refine (HY.out _).mono ?_); rintro e w' ⟨rfl, rfl⟩)))
                go_ret2
                exact ⟨ret_t rfl, rfl⟩
        · have q120 : (b == 120) = false := beq_eq_false_iff_ne.2 b120
          rw [if_neg b120] at e0
          rw [partV_none e0]
          clear hby hsz hat
          go_enter Tryd.func47, Tryd.ntmps47
          go_wp2_with fail
          go_ret2
          exact ⟨ret_t rfl, rfl⟩
    · have hne : (a != 92) = true := bne_iff_ne.2 h92
      rw [partV_some (show part (a :: r) = some (a, 1) by rw [part_cons, if_neg (by omega), if_neg h92])]
      clear hby hsz hat
      go_enter Tryd.func47, Tryd.ntmps47
      go_wp2_with fail
      go_ret2
      exact ⟨ret_t rfl, rfl⟩
end Go.Proofs.YtjhcbcadagljlaaDoor.Lx
