/-
  Strings, patterns and numbers with arbitrary contents are read as the reference reads them.
-/
import Derived.Test.YtjhcbcadagljlaaDoorLxSane
namespace Go.Proofs.YtjhcbcadagljlaaDoor.Lx
open Go.RowKit

/-- Strings next to each other at block b. -/
def Strs (w : World) (b n : Nat) : Prop := ∀ k, k < n → ∃ s : ByteArray, w.cell? ⟨b, k, none⟩ = some (.string s) ∧ s.size ≤ 10000
theorem Strs.below {w w' : World} {b n : Nat} (h : Strs w b n) (hb : Below w.heap.size w w') : Strs w' b n := fun k hk => by
  obtain ⟨s, h1, h2⟩ := h k hk
  exact ⟨s, (hb.cell (World.block_lt_of_cell? w _ h1)).trans h1, h2⟩

theorem bytesOf_size (l : List Int) : (bytesOf l).size = l.length := by unfold bytesOf; simp [ByteArray.size]
theorem strs_lit (w : World) (l : List ByteArray) (t : TypeId) (h : ∀ s ∈ l, s.size ≤ 10000) : Strs (w.alloc (.cells (l.map Value.string).toArray t)) w.heap.size l.length := fun k hk => by
  refine ⟨l[k], ?_, h _ (List.getElem_mem _)⟩
  rw [cell_of_row _ _ _ _ _ _ (heap_alloc_new w _)]
  simp [hk]
set_option maxRecDepth 100000 in
set_option maxHeartbeats 4000000 in
theorem LexerParts_law {raw : ByteArray} {n y : Int} (h0 : 0 ≤ y) (h1 : y ≤ 255) (w : World) (het : ET w) : Calls Tryd.prog 3 #[.string raw, .int .u64 n, .int .u8 y] w (BPost w true) := by
  have HS := Lib.hid (fun W h => sane_any W h)
  have HET := Lib.hid het
  clear het
  by_cases hbig : 200 < raw.size
  · have hb : (200 : Int) < (raw.size : Int) := by omega
    clear hbig
    go_enter Tryd.func3, Tryd.ntmps3
    go_wp2_with (go_at_call 6; ((with_reducible refine (HS.out _ HET.out).mono ?_); rintro e w1 ⟨rfl, hb1⟩; have B1 := Lib.hid hb1; clear hb1))
    go_ret
    exact ⟨rfl, B1.out⟩
  · have hb : (raw.size : Int) ≤ 200 := by omega
    have HY := Lib.hid (show By [y, 102] from fun z hz => by simp at hz; omega)
    have HY1 := Lib.hid (show By [y] from fun z hz => by simp at hz; omega)
    have z1 := bytesOf_size [y, 102]
    have z2 := bytesOf_size [y]
    simp only [List.length_cons, List.length_nil, Nat.zero_add, Nat.reduceAdd] at z1 z2
    go_enter Tryd.func3, Tryd.ntmps3
    go_wp2_with (go_at_call 6; ((with_reducible refine (HS.out _ HET.out).mono ?_); rintro e w1 ⟨rfl, hb1⟩; have B1 := Lib.hid hb1; have cv1 := conv_lst (lst_row (k := .u8) [y, 102] (heap_alloc_new w1 (.cells #[.int .u8 y, .int .u8 102] 5)) (by simp)) HY.out; have cv2 := conv_lst (lst_row (k := .u8) [y] (heap_alloc_new (w1.alloc (.cells #[.int .u8 y, .int .u8 102] 5)) (.cells #[.int .u8 y] 5)) (by simp)) HY1.out; simp only [List.length_cons, List.length_nil, Nat.zero_add, Nat.reduceAdd, World.size_alloc] at cv1 cv2; clear hb1))
    have T3 := Lib.hid (strs_lit ((w1.alloc (.cells #[.int .u8 y, .int .u8 102] 5)).alloc (.cells #[.int .u8 y] 5)) [⟨#[34]⟩ ++ raw ++ ⟨#[34]⟩, ⟨#[47]⟩ ++ raw ++ ⟨#[47]⟩, ⟨#[34, 92]⟩ ++ raw ++ ⟨#[34]⟩, ⟨#[47, 92]⟩ ++ raw ++ ⟨#[47, 32, 97]⟩, ⟨#[34, 92, 120]⟩ ++ bytesOf [y, 102] ++ ⟨#[34]⟩, ⟨#[48]⟩ ++ raw, ⟨#[49, 50, 51, 52, 53, 54, 55, 56, 57, 48, 49, 50, 51, 52, 53, 54, 55, 56]⟩ ++ bytesOf [y]] 9 (by
      intro s hs
      simp only [List.mem_cons, List.not_mem_nil, or_false] at hs
      rcases hs with rfl | rfl | rfl | rfl | rfl | rfl | rfl
      · simp only [ByteArray.size_append]; change 1 + raw.size + 1 ≤ 10000; omega
      · simp only [ByteArray.size_append]; change 1 + raw.size + 1 ≤ 10000; omega
      · simp only [ByteArray.size_append]; change 2 + raw.size + 1 ≤ 10000; omega
      · simp only [ByteArray.size_append]; change 2 + raw.size + 3 ≤ 10000; omega
      · simp only [ByteArray.size_append]; change 3 + (bytesOf [y, 102]).size + 1 ≤ 10000; omega
      · simp only [ByteArray.size_append]; change 1 + raw.size ≤ 10000; omega
      · simp only [ByteArray.size_append]; change 18 + (bytesOf [y]).size ≤ 10000; omega))
    have B3 := Lib.hid (((B1.out.alloc B1.out.size (.cells #[.int .u8 y, .int .u8 102] 5)).alloc (by have := B1.out.size; simp; omega) (.cells #[.int .u8 y] 5)).alloc (by have := B1.out.size; simp; omega) (.cells (([⟨#[34]⟩ ++ raw ++ ⟨#[34]⟩, ⟨#[47]⟩ ++ raw ++ ⟨#[47]⟩, ⟨#[34, 92]⟩ ++ raw ++ ⟨#[34]⟩, ⟨#[47, 92]⟩ ++ raw ++ ⟨#[47, 32, 97]⟩, ⟨#[34, 92, 120]⟩ ++ bytesOf [y, 102] ++ ⟨#[34]⟩, ⟨#[48]⟩ ++ raw, ⟨#[49, 50, 51, 52, 53, 54, 55, 56, 57, 48, 49, 50, 51, 52, 53, 54, 55, 56]⟩ ++ bytesOf [y]] : List ByteArray).map Value.string).toArray 9))
    simp only [List.map_cons, List.map_nil, List.length_cons, List.length_nil, Nat.zero_add, Nat.reduceAdd, World.size_alloc] at T3 B3
    clear cv1 cv2 z1 z2 hbig
    generalize hw3 : (((w1.alloc (.cells #[.int .u8 y, .int .u8 102] 5)).alloc (.cells #[.int .u8 y] 5))).alloc _ = w3 at *
    clear hw3
    go_loopg [8, 9, 10, 11, 12, 43] (7 + 1) (fun g' _ _ _ _ _ i wr => ∃ (k : Nat), i = .int .i64 k ∧ k ≤ 7 ∧ 7 - k + 1 ≤ g' ∧ Below w3.heap.size w3 wr)
    case atStart => exact ⟨0, rfl, by omega, by omega, Below.refl _ _⟩
    case round =>
      obtain ⟨k, rfl, hk, hg, hbw⟩ := hrel
      obtain ⟨wo, rfl⟩ : ∃ wo : World, wo = wr := ⟨_, rfl⟩
      by_cases hkn : k < 7
      · have hki : (k : Int) < 7 := by omega
        obtain ⟨s, dx, hsz⟩ := (T3.out.below hbw) k hkn
        have BW := Lib.hid hbw
        have H1 := Lib.hid (fun W (h : ET W) => prog_all (s := s) rfl (by rw [ch_length]; omega) W h)
        have H2 := Lib.hid (fun W => all_any (s := s) rfl (by rw [ch_length]; omega) W)
        generalize allT (ch s) = ts at *
        generalize allF (ch s) = f at *
        obtain ⟨c, p, q⟩ := f
        clear hbw
        go_wp2_with (first
          | (go_at_call 7; ((with_reducible refine (H1.out _ ((HET.out.below B3.out).below BW.out)).mono ?_); rintro e w4 ⟨v4, rfl, hv4, hb4⟩; have k4 := heap_alloc_new w4 (.cells #[.int .i64 c, .int .i64 p, .int .i64 q] 29); have K4 := Lib.hid k4; have V4 := Lib.hid (hv4.below (balloc w4 (.cells #[.int .i64 c, .int .i64 p, .int .i64 q] 29))); have B4 := Lib.hid (hb4.alloc hb4.size (.cells #[.int .i64 c, .int .i64 p, .int .i64 q] 29)); obtain ⟨A4, c4, rfl, _⟩ := hv4; clear hb4 k4))
          | (go_at_call 8; ((with_reducible refine (H2.out _).mono ?_); rintro e w5 ⟨v5, rfl, hv5, hb5⟩; have b5 := hb5.trans ((balloc w5 (.cells #[.int .i64 c, .int .i64 p, .int .i64 q] 29)).mono hb5.size); have k4 := (b5.block _ (heap_lt K4.out)).trans K4.out; have k5 := heap_alloc_new w5 (.cells #[.int .i64 c, .int .i64 p, .int .i64 q] 29); have d0 := cell_of_row _ _ 0 _ _ _ k4; have d1 := cell_of_row _ _ 1 _ _ _ k4; have d2 := cell_of_row _ _ 2 _ _ _ k4; have V5 := Lib.hid (hv5.below (balloc w5 (.cells #[.int .i64 c, .int .i64 p, .int .i64 q] 29))); have V4' := Lib.hid (V4.out.below b5); have B5 := Lib.hid (B4.out.trans (b5.mono B4.out.size)); have HSM := Lib.hid (tsame_any V4'.out V5.out); obtain ⟨A5, c5, rfl, _⟩ := hv5; clear hb5 b5 k4 k5))
          | (go_at_call 9; ((with_reducible refine HSM.out.mono ?_); rintro e w6 ⟨rfl, q6, hw⟩; have B6 : Hid (Below wo.heap.size wo w6) := Lib.hid (by rw [hw]; exact B5.out.trans ((below_drewN _ _).mono B5.out.size)); clear hw)))
        go_roundg (7 - (k + 1) + 1)
        case measure => omega
        case rel => exact ⟨k + 1, by go_num, by omega, Nat.le_refl _, BW.out.trans (B6.out.mono BW.out.size)⟩
      · obtain rfl : k = 7 := by omega
        go_wp2_with fail
        go_ret
        exact ⟨rfl, B3.out.trans (hbw.mono B3.out.size)⟩
end Go.Proofs.YtjhcbcadagljlaaDoor.Lx
