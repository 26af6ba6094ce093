/-
  Layer 4: beginnings, validity, the flush, a copy; the two encoders.
-/
import Derived.Test.YtjcgcloanamabaaRuFits
namespace Go.Proofs.Ytjcgcloanamabaa.Ru
open Go.RowKit

theorem isBeg_none {l : List Int} (h : fits l = false) : isBeg l = false := by
  cases l with
  | nil => rfl
  | cons f r => simp [isBeg, h]
theorem isBeg_some {a : Int} {r : List Int} (h : fits (a :: r) = true) : isBeg (a :: r) = decide (((a :: r).length : Int) < len1 a) := by
  simp [isBeg, h]
set_option maxHeartbeats 1000000 in
theorem isBeg_any {w : World} {v : Value} {l : List Int} (h : Lst .u8 w v l) (hb : By l) : Calls Try.prog 28 #[v] w (QPost w (.bool (isBeg l))) := by
  have hF := fits_any h hb
  obtain ⟨A, c, rfl, hr, _⟩ := h
  cases hfl : fits l with
  | false =>
    rw [isBeg_none hfl]
    rw [hfl] at hF
    have HF := Lib.hid hF
    clear hF hfl hr hb
    go_enter Try.func28, Try.ntmps28
    go_wp2_with (go_at_call 27; ((with_reducible refine HF.out.mono ?_); rintro e w' ⟨rfl, q, rfl⟩))
    go_ret
    exact ⟨rfl, q, rfl⟩
  | true =>
    rw [hfl] at hF
    cases l with
    | nil => simp [fits] at hfl
    | cons a r =>
      rw [isBeg_some hfl]
      have HF := Lib.hid hF
      obtain ⟨g, off, rfl, k0, _⟩ := cells1 hr (by simp)
      have d0 := k0 a rfl
      obtain ⟨a0, a1⟩ := hb a (by simp)
      have HL := Lib.hid (same_of (length_any a a0 a1))
      generalize len1 a = n at *
      clear hF hfl hr hb k0 a0 a1
      have hN : (0 : Int) < ((a :: r).length : Int) := by simp
      generalize (a :: r).length = N at *
      go_enter Try.func28, Try.ntmps28
      go_wp2_with (first | (go_at_call 27; ((with_reducible refine HF.out.mono ?_); rintro e w' ⟨rfl, q, rfl⟩)) | (go_at_call 35; ((with_reducible refine (HL.out _).mono ?_); rintro e w' ⟨rfl, rfl⟩)))
      go_ret
      exact ⟨rfl, q, rfl⟩

theorem valid_any {w : World} {v : Value} {l : List Int} (h : Lst .u8 w v l) (hb : By l) : Calls Try.prog 16 #[.agg #[v]] w (BPost w (valid l)) := by
  have hB := isBeg_any (h.below ((Below.refl w.heap.size w).alloc (Nat.le_refl _) (.cells #[v] 30))) hb
  obtain ⟨A, c, rfl, hr, _⟩ := h
  have HB := Lib.hid hB
  have HV : Hid (valid l = (decide (l.length = 0) || isBeg l)) := Lib.hid rfl
  clear hB hr hb
  generalize isBeg l = R at *
  generalize valid l = V at *
  generalize l.length = N at *
  by_cases hN : N = 0
  · subst hN
    go_enter Try.func16, Try.ntmps16
    go_wp2_with (go_at_call 28; ((with_reducible refine HB.out.mono ?_); rintro e w' ⟨rfl, q, rfl⟩))
    go_ret
    exact ⟨ret_b (by rw [HV.out]; simp), (Below.refl w.heap.size w).alloc (Nat.le_refl _) _⟩
  · have hn : ((N : Int) == 0) = false := beq_eq_false_iff_ne.2 (by omega)
    go_enter Try.func16, Try.ntmps16
    go_wp2_with (go_at_call 28; ((with_reducible refine HB.out.mono ?_); rintro e w' ⟨rfl, q, rfl⟩))
    go_ret
    exact ⟨ret_b (by rw [HV.out]; simp [hN]), ((Below.refl w.heap.size w).alloc (Nat.le_refl _) _).trans ((below_drewN _ q).mono (by simp))⟩

theorem flush_any {w : World} {v : Value} {l : List Int} (h : Lst .u8 w v l) (hb : By l) : Calls Try.prog 18 #[.agg #[v]] w (LPost .i64 w (flush l)) := by
  have hB := isBeg_any (h.below ((Below.refl w.heap.size w).alloc (Nat.le_refl _) (.cells #[v] 30))) hb
  obtain ⟨A, c, rfl, hr, _⟩ := h
  unfold flush
  have hA : Below w.heap.size w (w.alloc (.cells #[.slice A l.length c] 30)) := (Below.refl w.heap.size w).alloc (Nat.le_refl _) _
  have HA := Lib.hid hA
  cases hR : isBeg l with
  | true =>
    rw [hR] at hB
    have HB := Lib.hid hB
    clear hB hr hb hR hA
    generalize l.length = N at *
    go_enter Try.func18, Try.ntmps18
    go_wp2_with (go_at_call 28; ((with_reducible refine HB.out.mono ?_); rintro e w' ⟨rfl, q, rfl⟩))
    go_ret
    have h := lst_one (k := .i64) ((w.alloc (.cells #[.slice A N c] 30)).drewN q) 65533 3
    exact ⟨.slice (some ⟨w.heap.size + 1, 0, none⟩) 1 1, rfl, by simpa using h, (HA.out.trans ((below_drewN _ q).mono (by simp))).alloc (by simp) _⟩
  | false =>
    rw [hR] at hB
    have HB := Lib.hid hB
    clear hB hr hb hR hA
    generalize l.length = N at *
    go_enter Try.func18, Try.ntmps18
    go_wp2_with (go_at_call 28; ((with_reducible refine HB.out.mono ?_); rintro e w' ⟨rfl, q, rfl⟩))
    go_ret
    exact ⟨_, rfl, Lst.nil _ _, HA.out.trans ((below_drewN _ q).mono (by simp))⟩

theorem clone_any {w : World} {v : Value} {l : List Int} (h : Lst .u8 w v l) (hl : l.length ≤ 1000) : Calls Try.prog 30 #[v] w (LPost .u8 w l) := by
  have q22 : ∀ (w : World) (a : Option Addr) (n c n' c' : Nat), (binOp .eql 25 (.slice a n c) (.slice none n' c')).run Try.prog w = .ok (.bool a.isNone) w := fun w a n c n' c' => Lib.run_eql_slice_nil w _ _ a n c n' c' Try.underlying25
  obtain ⟨A, c, rfl, hr, hA, hc⟩ := h
  cases A with
  | none =>
    obtain rfl := hA rfl
    have : l = [] := by
      rcases Nat.eq_zero_or_pos l.length with e | e
      · exact List.eq_nil_of_length_eq_zero e
      · obtain ⟨_, _, e', _⟩ := hr e; simp at e'
    subst this
    clear hr hA hc hl
    simp only [List.length_nil]
    go_enter Try.func30, Try.ntmps30
    go_wp2_with fail
    go_ret
    exact ⟨_, rfl, Lst.nil _ _, Below.refl _ _⟩
  | some ad =>
    have HA : Hid (Below w.heap.size w (w.alloc (.cells #[] 5))) := Lib.hid ((Below.refl w.heap.size w).alloc (Nat.le_refl _) _)
    have HX : Hid (Lst .u8 (w.alloc (.cells #[] 5)) (.slice (some ad) l.length c) l) := Lib.hid (Lst.below ⟨some ad, c, rfl, hr, hA, hc⟩ HA.out)
    clear hr hA hc
    go_enter Try.func30, Try.ntmps30
    go_wp2_with (at_builtin; refine wpList_app rfl _ _ rfl elByte rfl (own_lit 5 .u8 w (Nat.le_refl _)) rfl HX.out (by simp; omega) (by simp) ?_; intro v' w2 hO hF; have O2 := Lib.hid hO; have F2 := Lib.hid hF; clear hO hF)
    go_ret
    exact ⟨_, rfl, by have := O2.out.lst; simpa using this, HA.out.trans F2.out.bel⟩
end Go.Proofs.Ytjcgcloanamabaa.Ru
