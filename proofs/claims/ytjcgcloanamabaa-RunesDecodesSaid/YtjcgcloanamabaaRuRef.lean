/-
  Layer 4, the reference: prefix, Valid and Flush of any bytes.
-/
import Derived.Test.YtjcgcloanamabaaRuPre
namespace Go.Proofs.Ytjcgcloanamabaa.Ru
open Go.RowKit

theorem prefix_any {w : World} {v : Value} {l : List Int} (h : Lst .u8 w v l) (hb : By l) : Calls Try.prog 31 #[v] w (PPost w l) := by
  obtain ⟨A, c, rfl, hr, _⟩ := h
  cases l with
  | nil => exact prefix_nil
  | cons a t =>
    obtain ⟨g, off, rfl, k0⟩ := hr (by simp)
    obtain ⟨a0, a1⟩ := hb a (by simp)
    have d0 := k0 0 a rfl
    have dt : ∀ j x, t[j]? = some x → w.cell? ⟨g, off + (j + 1), none⟩ = some (.int .u8 x) := fun j x hx => k0 (j + 1) x hx
    have ht : By t := fun x hx => hb x (List.mem_cons_of_mem _ hx)
    by_cases hl : len1 a < (t.length : Int) + 1
    · exact prefix_long d0 a0 a1 hl
    rcases len1_cases a a0 with ⟨e, _⟩ | ⟨e, h1⟩ | ⟨e, h0, h1⟩ | ⟨e, h0, h1⟩ | ⟨e, h0, h1⟩
    · rw [e] at hl; omega
    · exact prefix_1 d0 dt a0 a1 ht e h1 (by omega)
    · exact prefix_2 d0 dt a0 a1 ht e h0 h1 (by omega)
    · exact prefix_3 d0 dt a0 a1 ht e h0 h1 (by omega)
    · exact prefix_4 d0 dt a0 a1 ht e h0 h1 (by omega)

theorem isBeg_full (l : List Int) : isBeg l = (fits l && !full l) := by
  unfold full
  cases hf : fits l with
  | false => rw [isBeg_none hf]; rfl
  | true => simp

theorem refvalid_any {w : World} {v : Value} {l : List Int} (h : Lst .u8 w v l) (hb : By l) : Calls Try.prog 17 #[.agg #[v]] w (BPost w (valid l)) := by
  have hP := prefix_any (h.below ((Below.refl w.heap.size w).alloc (Nat.le_refl _) (.cells #[v] 30))) hb
  have hA : Below w.heap.size w (w.alloc (.cells #[v] 30)) := (Below.refl w.heap.size w).alloc (Nat.le_refl _) _
  have c0 : (w.alloc (.cells #[v] 30)).cell? ⟨w.heap.size, 0, none⟩ = some v := cell_of_row _ _ _ _ _ _ (heap_alloc_new w _)
  obtain ⟨A, c, rfl, hr, _⟩ := h
  have HP := Lib.hid hP
  have HA := Lib.hid hA
  have HV : Hid (valid l = (decide (l.length = 0) || (fits l && !full l))) := Lib.hid (by unfold valid; rw [isBeg_full])
  unfold PPost at HP
  clear hP hr hb hA
  generalize fits l = R at *
  generalize full l = F at *
  generalize valid l = V at *
  generalize l.length = N at *
  have h1 : (w.alloc (.cells #[.slice A N c] 30)).heap.size = w.heap.size + 1 := World.size_alloc _ _
  by_cases hN : N = 0
  · subst hN
    go_enter Try.func17, Try.ntmps17
    go_wp2_with (go_at_call 31; ((with_reducible refine HP.out.mono ?_); rintro e w2 ⟨rfl, hb2⟩; have c2 := (hb2.cell (p := ⟨w.heap.size, 0, none⟩) (by simp)).trans c0; have B2 := Lib.hid (HA.out.trans (hb2.mono (by simp))); clear hb2))
    all_goals
      go_ret
      exact ⟨ret_b (by rw [HV.out]; simp), B2.out⟩
  · have hn : ((N : Int) == 0) = false := beq_eq_false_iff_ne.2 (by omega)
    go_enter Try.func17, Try.ntmps17
    go_wp2_with (go_at_call 31; ((with_reducible refine HP.out.mono ?_); rintro e w2 ⟨rfl, hb2⟩; have c2 := (hb2.cell (p := ⟨w.heap.size, 0, none⟩) (by simp)).trans c0; have B2 := Lib.hid (HA.out.trans (hb2.mono (by simp))); clear hb2))
    all_goals
      go_ret
      exact ⟨ret_b (by rw [HV.out]; simp_all), B2.out⟩

theorem refflush_any {w : World} {v : Value} {l : List Int} (h : Lst .u8 w v l) (hb : By l) : Calls Try.prog 19 #[.agg #[v]] w (LPost .i64 w (flush l)) := by
  have hP := refvalid_any (h.below ((Below.refl w.heap.size w).alloc (Nat.le_refl _) (.cells #[v] 30))) hb
  have hA : Below w.heap.size w (w.alloc (.cells #[v] 30)) := (Below.refl w.heap.size w).alloc (Nat.le_refl _) _
  have c0 : (w.alloc (.cells #[v] 30)).cell? ⟨w.heap.size, 0, none⟩ = some v := cell_of_row _ _ _ _ _ _ (heap_alloc_new w _)
  obtain ⟨A, c, rfl, hr, _⟩ := h
  have HP := Lib.hid hP
  have HA := Lib.hid hA
  have HV : Hid (valid l = (decide (l.length = 0) || isBeg l)) := Lib.hid rfl
  have HB : Hid (isBeg l = true → 0 < l.length) := Lib.hid fun h => (isBeg_len h).2
  unfold BPost at HP
  unfold flush
  have h1 : (w.alloc (.cells #[.slice A l.length c] 30)).heap.size = w.heap.size + 1 := World.size_alloc _ _
  clear hP hr hb hA
  generalize isBeg l = R at *
  generalize valid l = V at *
  generalize l.length = N at *
  cases R with
  | true =>
    have hN : (0 : Int) < N := by have := HB.out rfl; omega
    obtain rfl : V = true := by rw [HV.out]; simp
    go_enter Try.func19, Try.ntmps19
    go_wp2_with (go_at_call 17; ((with_reducible refine HP.out.mono ?_); rintro e w2 ⟨rfl, hb2⟩; have c2 := (hb2.cell (p := ⟨w.heap.size, 0, none⟩) (by simp)).trans c0; have B2 := Lib.hid (HA.out.trans (hb2.mono (by simp))); clear hb2))
    go_ret
    exact ⟨_, rfl, lst_one w2 65533 3, B2.out.alloc B2.out.size _⟩
  | false =>
    by_cases hN : N = 0
    · subst hN
      obtain rfl : V = true := by rw [HV.out]; simp
      go_enter Try.func19, Try.ntmps19
      go_wp2_with (go_at_call 17; ((with_reducible refine HP.out.mono ?_); rintro e w2 ⟨rfl, hb2⟩; have c2 := (hb2.cell (p := ⟨w.heap.size, 0, none⟩) (by simp)).trans c0; have B2 := Lib.hid (HA.out.trans (hb2.mono (by simp))); clear hb2))
      go_ret
      exact ⟨_, rfl, Lst.nil _ _, B2.out⟩
    · obtain rfl : V = false := by rw [HV.out]; simp [hN]
      go_enter Try.func19, Try.ntmps19
      go_wp2_with (go_at_call 17; ((with_reducible refine HP.out.mono ?_); rintro e w2 ⟨rfl, hb2⟩; have B2 := Lib.hid (HA.out.trans (hb2.mono (by simp))); clear hb2))
      go_ret
      exact ⟨_, rfl, Lst.nil _ _, B2.out⟩
end Go.Proofs.Ytjcgcloanamabaa.Ru
