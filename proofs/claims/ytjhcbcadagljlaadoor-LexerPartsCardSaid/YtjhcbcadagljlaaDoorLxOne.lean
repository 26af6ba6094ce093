/-
  Layer 5, the reference: one token.
-/
import Derived.Test.YtjhcbcadagljlaaDoorLxSpan
namespace Go.Proofs.YtjhcbcadagljlaaDoor.Lx
open Go.RowKit

def oneV (o : One) : Value := match o with
  | .tok k t n => .tuple #[.int .i64 k, .string (bytesOf t), .int .i64 n, .int .i64 0]
  | .bad c => .tuple #[.int .i64 0, .string ⟨#[]⟩, .int .i64 0, .int .i64 c]
theorem one_letter {a : Int} {r : List Int} (h : letter a = true) : one (a :: r) = .tok 1 ((a :: r).take (spanL true (a :: r))) (spanL true (a :: r)) := by simp [one, h]
theorem one_digit {a : Int} {r : List Int} (h : letter a = false) (k : digit a = true) : one (a :: r) = if 18 < spanL false (a :: r) ∨ 1 < spanL false (a :: r) ∧ a = 48 then .bad 53 else .tok 2 ((a :: r).take (spanL false (a :: r))) (spanL false (a :: r)) := by simp [one, h, k]
theorem one_str {r : List Int} : one (34 :: r) = match quo r with | none => .bad 51 | some x => .tok 3 x.1 (x.2 + 1) := by simp [one, letter, digit]; cases quo r <;> rfl
theorem one_pat {r : List Int} : one (47 :: r) = match sla r with | none => .bad 52 | some x => .tok 4 x.1 (x.2 + 1) := by simp [one, letter, digit]; cases sla r <;> rfl
theorem one_sign {a : Int} {r : List Int} (h : a = 123 ∨ a = 125 ∨ a = 44 ∨ a = 61) : one (a :: r) = .tok 5 [a] 1 := by
  rcases h with rfl | rfl | rfl | rfl <;> simp [one, letter, digit]
theorem one_char {a : Int} {r : List Int} (h : letter a = false) (k : digit a = false) (h1 : a ≠ 34) (h2 : a ≠ 47) (h3 : ¬ (a = 123 ∨ a = 125 ∨ a = 44 ∨ a = 61)) : one (a :: r) = .bad 50 := by
  simp only [one, h, k, if_neg h1, if_neg h2, if_neg h3, Bool.false_eq_true, if_false]
theorem take_str {s : ByteArray} {l : List Int} (hs : ch s = l) (n : Nat) : Value.string (s.extract 0 n) = .string (bytesOf (l.take n)) := by
  rw [← hs, ← ch_take, bytesOf_ch]
theorem sla_len : ∀ (l : List Int) {t : List Int} {n : Nat}, sla l = some (t, n) → 1 ≤ n ∧ n ≤ l.length
  | [], t, n, h => by simp [sla] at h
  | [a], t, n, h => by
    unfold sla at h; split at h
    · simp at h; simp; omega
    · simp at h
  | a :: b :: r, t, n, h => by
    unfold sla at h
    split at h
    · simp at h; simp; omega
    split at h
    · simp at h
    split at h
    · split at h
      · simp at h
      · obtain ⟨⟨t2, n2⟩, h2, h3⟩ := Option.map_eq_some_iff.1 h
        have := sla_len r h2
        simp at h3 ⊢; omega
    · obtain ⟨⟨t2, n2⟩, h2, h3⟩ := Option.map_eq_some_iff.1 h
      have := sla_len (b :: r) h2
      simp at h3 this ⊢; omega
theorem quoF_len : ∀ (f : Nat) (l : List Int) {t : List Int} {n : Nat}, quoF f l = some (t, n) → 1 ≤ n ∧ n ≤ l.length
  | 0, _, _, _, h => by simp [quoF] at h
  | _ + 1, [], _, _, h => by simp [quoF] at h
  | f + 1, a :: r, t, n, h => by
    rw [quoF.eq_3] at h
    split at h
    · simp at h; simp; omega
    · cases hp : part (a :: r) with
      | none => rw [hp] at h; simp at h
      | some bn =>
        obtain ⟨b, m⟩ := bn
        rw [hp] at h
        have hm := part_len hp
        cases hq : quoF f ((a :: r).drop m) with
        | none => simp only [hq] at h; simp at h
        | some x =>
          obtain ⟨t2, n2⟩ := x
          simp only [hq] at h
          have := quoF_len f _ hq
          rw [List.length_drop] at this
          simp at h; omega
theorem quo_len {l t : List Int} {n : Nat} (h : quo l = some (t, n)) : 1 ≤ n ∧ n ≤ l.length := quoF_len _ _ h

set_option maxRecDepth 100000 in
set_option maxHeartbeats 4000000 in
theorem one_any {s : ByteArray} {a : Int} {r : List Int} (hs : ch s = a :: r) (hn : (a :: r).length ≤ 100000) (w : World) : Calls Tryd.prog 17 #[.string s] w (VPost w (oneV (one (a :: r)))) := by
  have hsz : s.size = (a :: r).length := by rw [← hs, ch_length]
  obtain ⟨h0, x0⟩ := ch_at (s := s) (k := 0) (x := a) (by rw [hs]; rfl)
  have hdr : ch (s.extract 1 s.size) = r := by rw [ch_drop, hs]; rfl
  have HL := Lib.hid (fun W => letter_any a W)
  have HD := Lib.hid (fun W => digit_any a W)
  have HS1 := Lib.hid (fun W => span_any hs hn true W)
  have HS2 := Lib.hid (fun W => span_any hs hn false W)
  have HT := Lib.hid (fun n => take_str hs n)
  have l1 := spanL_le true (a :: r)
  have l2 := spanL_le false (a :: r)
  have HQ := Lib.hid (fun W => quoted_any hdr (by simp at hn; omega) W)
  have HP := Lib.hid (fun W => slashed_any hdr (by simp at hn; omega) W)
  unfold VPost at HQ HP
  have i1 : (1 : Int) ≤ (s.size : Int) := by omega
  have hrl : r.length ≤ 100000 := by simp at hn; omega
  clear hs hdr hn
  cases hl : letter a with
  | true =>
    rw [one_letter hl]
    rw [hl] at HL
    generalize spanL true (a :: r) = n at *
    have hns : (n : Int) ≤ (s.size : Int) := by omega
    clear hsz hl l2 HS2
    go_enter Tryd.func17, Tryd.ntmps17
    go_wp2_with (first | (go_at_call 27; ((with_reducible refine (HL.out _).mono ?_); rintro e w' ⟨rfl, rfl⟩)) | (go_at_call 28; ((with_reducible refine (HS1.out _).mono ?_); rintro e w' ⟨rfl, rfl⟩)))
    go_quiet (fail)
    go_wp2_with fail
    refine bodyPost_ret (v := .tuple #[.int .i64 1, .string (s.extract 0 n), .int .i64 n, .int .i64 0]) (by simp [results, Tryd.results17, go_sem]) rfl ?_
    exact ⟨ret_t (by unfold oneV; rw [HT.out]), below_drewN _ _⟩
  | false =>
    rw [hl] at HL
    cases hd : digit a with
    | true =>
      rw [one_digit hl hd]
      rw [hd] at HD
      generalize spanL false (a :: r) = n at *
      have hns : (n : Int) ≤ (s.size : Int) := by omega
      clear hsz hl hd l1 HS1
      by_cases h18 : 18 < n
      · rw [if_pos (.inl h18)]
        have h18' : (18 : Int) < (n : Int) := by omega
        clear h18
        go_enter Tryd.func17, Tryd.ntmps17
        go_wp2_with (first | (first | (go_at_call 27; ((with_reducible refine (HL.out _).mono ?_); rintro e w' ⟨rfl, rfl⟩)) | (go_at_call 29; ((with_reducible refine (HD.out _).mono ?_); rintro e w' ⟨rfl, rfl⟩))) | (go_at_call 28; ((with_reducible refine (HS2.out _).mono ?_); rintro e w' ⟨rfl, rfl⟩)))
        refine bodyPost_ret (v := .tuple #[.int .i64 0, .string ⟨#[]⟩, .int .i64 0, .int .i64 53]) (by simp [results, Tryd.results17, go_sem]) rfl ?_
        exact ⟨rfl, Below.refl _ _⟩
      · have h18' : (n : Int) ≤ 18 := by omega
        by_cases h1 : 1 < n
        · have h1' : (1 : Int) < (n : Int) := by omega
          by_cases h48 : a = 48
          · rw [if_pos (.inr ⟨h1, h48⟩)]
            subst h48
            clear h18 h1
            go_enter Tryd.func17, Tryd.ntmps17
            go_wp2_with (first | (first | (go_at_call 27; ((with_reducible refine (HL.out _).mono ?_); rintro e w' ⟨rfl, rfl⟩)) | (go_at_call 29; ((with_reducible refine (HD.out _).mono ?_); rintro e w' ⟨rfl, rfl⟩))) | (go_at_call 28; ((with_reducible refine (HS2.out _).mono ?_); rintro e w' ⟨rfl, rfl⟩)))
            refine bodyPost_ret (v := .tuple #[.int .i64 0, .string ⟨#[]⟩, .int .i64 0, .int .i64 53]) (by simp [results, Tryd.results17, go_sem]) rfl ?_
            exact ⟨rfl, Below.refl _ _⟩
          · rw [if_neg (by omega)]
            have hq : (a == 48) = false := beq_eq_false_iff_ne.2 h48
            clear h18 h1 h48
            go_enter Tryd.func17, Tryd.ntmps17
            go_wp2_with (first | (first | (go_at_call 27; ((with_reducible refine (HL.out _).mono ?_); rintro e w' ⟨rfl, rfl⟩)) | (go_at_call 29; ((with_reducible refine (HD.out _).mono ?_); rintro e w' ⟨rfl, rfl⟩))) | (go_at_call 28; ((with_reducible refine (HS2.out _).mono ?_); rintro e w' ⟨rfl, rfl⟩)))
            go_quiet (fail)
            go_wp2_with fail
            refine bodyPost_ret (v := .tuple #[.int .i64 2, .string (s.extract 0 n), .int .i64 n, .int .i64 0]) (by simp [results, Tryd.results17, go_sem]) rfl ?_
            exact ⟨ret_t (by unfold oneV; rw [HT.out]), below_drewN _ _⟩
        · rw [if_neg (by omega)]
          have h1' : (n : Int) ≤ 1 := by omega
          clear h18 h1
          go_enter Tryd.func17, Tryd.ntmps17
          go_wp2_with (first | (first | (go_at_call 27; ((with_reducible refine (HL.out _).mono ?_); rintro e w' ⟨rfl, rfl⟩)) | (go_at_call 29; ((with_reducible refine (HD.out _).mono ?_); rintro e w' ⟨rfl, rfl⟩))) | (go_at_call 28; ((with_reducible refine (HS2.out _).mono ?_); rintro e w' ⟨rfl, rfl⟩)))
          go_quiet (fail)
          go_wp2_with fail
          refine bodyPost_ret (v := .tuple #[.int .i64 2, .string (s.extract 0 n), .int .i64 n, .int .i64 0]) (by simp [results, Tryd.results17, go_sem]) rfl ?_
          exact ⟨ret_t (by unfold oneV; rw [HT.out]), below_drewN _ _⟩
    | false =>
      rw [hd] at HD
      clear HS1 HS2 l1 l2 hsz
      by_cases h34 : a = 34
      · subst h34
        rw [one_str]
        cases hq : quo r with
        | none =>
          simp only [hq, cutV] at HQ
          clear hl hd
          go_enter Tryd.func17, Tryd.ntmps17
          go_wp2_with (first | (first | (go_at_call 27; ((with_reducible refine (HL.out _).mono ?_); rintro e w' ⟨rfl, rfl⟩)) | (go_at_call 29; ((with_reducible refine (HD.out _).mono ?_); rintro e w' ⟨rfl, rfl⟩))) | (go_at_call 30; ((with_reducible refine (HQ.out _).mono ?_); rintro e w2 ⟨rfl, hb⟩; have B2 := Lib.hid hb; clear hb)))
          refine bodyPost_ret (v := .tuple #[.int .i64 0, .string ⟨#[]⟩, .int .i64 0, .int .i64 51]) (by simp [results, Tryd.results17, go_sem]) rfl ?_
          exact ⟨rfl, B2.out⟩
        | some x =>
          obtain ⟨t, n⟩ := x
          simp only [hq, cutV] at HQ
          have hx := quo_len hq
          have hx0 : (0 : Int) ≤ (n : Int) := by omega
          clear hl hd hq
          go_enter Tryd.func17, Tryd.ntmps17
          go_wp2_with (first | (first | (go_at_call 27; ((with_reducible refine (HL.out _).mono ?_); rintro e w' ⟨rfl, rfl⟩)) | (go_at_call 29; ((with_reducible refine (HD.out _).mono ?_); rintro e w' ⟨rfl, rfl⟩))) | (go_at_call 30; ((with_reducible refine (HQ.out _).mono ?_); rintro e w2 ⟨rfl, hb⟩; have B2 := Lib.hid hb; clear hb)))
          refine bodyPost_ret (v := .tuple #[.int .i64 3, .string (bytesOf t), .int .i64 ((n : Int) + 1), .int .i64 0]) (by simp [results, Tryd.results17, go_sem]) rfl ?_
          exact ⟨ret_t (by unfold oneV; simp), B2.out⟩
      have n34 : (a == 34) = false := beq_eq_false_iff_ne.2 h34
      by_cases h47 : a = 47
      · subst h47
        rw [one_pat]
        cases hq : sla r with
        | none =>
          simp only [hq, cutV] at HP
          clear hl hd
          go_enter Tryd.func17, Tryd.ntmps17
          go_wp2_with (first | (first | (go_at_call 27; ((with_reducible refine (HL.out _).mono ?_); rintro e w' ⟨rfl, rfl⟩)) | (go_at_call 29; ((with_reducible refine (HD.out _).mono ?_); rintro e w' ⟨rfl, rfl⟩))) | (go_at_call 31; ((with_reducible refine (HP.out _).mono ?_); rintro e w2 ⟨rfl, hb⟩; have B2 := Lib.hid hb; clear hb)))
          refine bodyPost_ret (v := .tuple #[.int .i64 0, .string ⟨#[]⟩, .int .i64 0, .int .i64 52]) (by simp [results, Tryd.results17, go_sem]) rfl ?_
          exact ⟨rfl, B2.out⟩
        | some x =>
          obtain ⟨t, n⟩ := x
          simp only [hq, cutV] at HP
          have hx := sla_len _ hq
          have hx0 : (0 : Int) ≤ (n : Int) := by omega
          clear hl hd hq
          go_enter Tryd.func17, Tryd.ntmps17
          go_wp2_with (first | (first | (go_at_call 27; ((with_reducible refine (HL.out _).mono ?_); rintro e w' ⟨rfl, rfl⟩)) | (go_at_call 29; ((with_reducible refine (HD.out _).mono ?_); rintro e w' ⟨rfl, rfl⟩))) | (go_at_call 31; ((with_reducible refine (HP.out _).mono ?_); rintro e w2 ⟨rfl, hb⟩; have B2 := Lib.hid hb; clear hb)))
          refine bodyPost_ret (v := .tuple #[.int .i64 4, .string (bytesOf t), .int .i64 ((n : Int) + 1), .int .i64 0]) (by simp [results, Tryd.results17, go_sem]) rfl ?_
          exact ⟨ret_t (by unfold oneV; simp), B2.out⟩
      have n47 : (a == 47) = false := beq_eq_false_iff_ne.2 h47
      by_cases hsg : a = 123 ∨ a = 125 ∨ a = 44 ∨ a = 61
      · rw [one_sign hsg]
        have hT1 := HT.out 1
        rw [List.take_succ_cons, List.take_zero] at hT1
        have HT1 := Lib.hid hT1
        clear hT1 hl hd h34 h47
        rcases hsg with rfl | rfl | rfl | rfl
        · go_enter Tryd.func17, Tryd.ntmps17
          go_wp2_with (first | (go_at_call 27; ((with_reducible refine (HL.out _).mono ?_); rintro e w' ⟨rfl, rfl⟩)) | (go_at_call 29; ((with_reducible refine (HD.out _).mono ?_); rintro e w' ⟨rfl, rfl⟩)))
          go_quiet (fail)
          go_wp2_with fail
          refine bodyPost_ret (v := .tuple #[.int .i64 5, .string (s.extract 0 1), .int .i64 1, .int .i64 0]) (by simp [results, Tryd.results17, go_sem]) rfl ?_
          exact ⟨ret_t (by unfold oneV; rw [HT1.out]; simp), below_drewN _ _⟩
        · go_enter Tryd.func17, Tryd.ntmps17
          go_wp2_with (first | (go_at_call 27; ((with_reducible refine (HL.out _).mono ?_); rintro e w' ⟨rfl, rfl⟩)) | (go_at_call 29; ((with_reducible refine (HD.out _).mono ?_); rintro e w' ⟨rfl, rfl⟩)))
          go_quiet (fail)
          go_wp2_with fail
          refine bodyPost_ret (v := .tuple #[.int .i64 5, .string (s.extract 0 1), .int .i64 1, .int .i64 0]) (by simp [results, Tryd.results17, go_sem]) rfl ?_
          exact ⟨ret_t (by unfold oneV; rw [HT1.out]; simp), below_drewN _ _⟩
        · go_enter Tryd.func17, Tryd.ntmps17
          go_wp2_with (first | (go_at_call 27; ((with_reducible refine (HL.out _).mono ?_); rintro e w' ⟨rfl, rfl⟩)) | (go_at_call 29; ((with_reducible refine (HD.out _).mono ?_); rintro e w' ⟨rfl, rfl⟩)))
          go_quiet (fail)
          go_wp2_with fail
          refine bodyPost_ret (v := .tuple #[.int .i64 5, .string (s.extract 0 1), .int .i64 1, .int .i64 0]) (by simp [results, Tryd.results17, go_sem]) rfl ?_
          exact ⟨ret_t (by unfold oneV; rw [HT1.out]; simp), below_drewN _ _⟩
        · go_enter Tryd.func17, Tryd.ntmps17
          go_wp2_with (first | (go_at_call 27; ((with_reducible refine (HL.out _).mono ?_); rintro e w' ⟨rfl, rfl⟩)) | (go_at_call 29; ((with_reducible refine (HD.out _).mono ?_); rintro e w' ⟨rfl, rfl⟩)))
          go_quiet (fail)
          go_wp2_with fail
          refine bodyPost_ret (v := .tuple #[.int .i64 5, .string (s.extract 0 1), .int .i64 1, .int .i64 0]) (by simp [results, Tryd.results17, go_sem]) rfl ?_
          exact ⟨ret_t (by unfold oneV; rw [HT1.out]; simp), below_drewN _ _⟩
      · rw [one_char hl hd h34 h47 hsg]
        have q1 : (a == 123) = false := beq_eq_false_iff_ne.2 (by omega)
        have q2 : (a == 125) = false := beq_eq_false_iff_ne.2 (by omega)
        have q3 : (a == 44) = false := beq_eq_false_iff_ne.2 (by omega)
        have q4 : (a == 61) = false := beq_eq_false_iff_ne.2 (by omega)
        clear hl hd h34 h47 hsg
        go_enter Tryd.func17, Tryd.ntmps17
        go_wp2_with (first | (go_at_call 27; ((with_reducible refine (HL.out _).mono ?_); rintro e w' ⟨rfl, rfl⟩)) | (go_at_call 29; ((with_reducible refine (HD.out _).mono ?_); rintro e w' ⟨rfl, rfl⟩)))
        refine bodyPost_ret (v := .tuple #[.int .i64 0, .string ⟨#[]⟩, .int .i64 0, .int .i64 50]) (by simp [results, Tryd.results17, go_sem]) rfl ?_
        exact ⟨rfl, Below.refl _ _⟩
end Go.Proofs.YtjhcbcadagljlaaDoor.Lx
