/-
  Layer 4: the two encoders.
-/
import Derived.Test.YtjcgcloanamabaaRuRead
namespace Go.Proofs.Ytjcgcloanamabaa.Ru
open Go.RowKit

theorem lpost_row {w : World} {l : List Int} {n : Nat} {cs : Array Value} {t : TypeId} (hn : n = l.length) (h : cs = (l.map (Value.int .u8)).toArray) (hl : l.length ≤ 4) :
    LPost .u8 w l (.returned (.slice (some ⟨w.heap.size, 0, none⟩) n n)) (w.alloc (.cells cs t)) := by
  subst hn; subst h
  exact ⟨_, rfl, lst_row l (heap_alloc_new w _) (by omega), (Below.refl _ _).alloc (Nat.le_refl _) _⟩
theorem or_and (x : Int) (h0 : 0 ≤ x) (h1 : x < 1099511627776) : bits .or .i64 128 (bits .and .i64 x 63) % 256 = 128 + x % 64 := by
  rw [i64_and63 x h0 h1, i64_or 6 (by decide) 128 (x % 64) (by decide) (by decide) (by decide) (by omega) (by omega)]; omega
theorem or_192 (x : Int) (h0 : 0 ≤ x) (h1 : x < 32) : bits .or .i64 192 x % 256 = 192 + x := by
  rw [i64_or 5 (by decide) 192 x (by decide) (by decide) (by decide) (by omega) (by omega)]; omega
theorem or_224 (x : Int) (h0 : 0 ≤ x) (h1 : x < 16) : bits .or .i64 224 x % 256 = 224 + x := by
  rw [i64_or 4 (by decide) 224 x (by decide) (by decide) (by decide) (by omega) (by omega)]; omega
theorem or_240 (x : Int) (h0 : 0 ≤ x) (h1 : x < 8) : bits .or .i64 240 x % 256 = 240 + x := by
  rw [i64_or 3 (by decide) 240 x (by decide) (by decide) (by decide) (by omega) (by omega)]; omega
theorem enc_1 {r : Int} (h : isCh r = true) (h1 : r ≤ 127) : enc r = [r] := by rw [enc_of h]; unfold enc0; rw [if_pos h1]
theorem enc_2 {r : Int} (h : isCh r = true) (h0 : 128 ≤ r) (h1 : r ≤ 2047) : enc r = [192 + r / 64, 128 + r % 64] := by rw [enc_of h]; unfold enc0; rw [if_neg (by omega), if_pos h1]
theorem enc_3 {r : Int} (h : isCh r = true) (h0 : 2048 ≤ r) (h1 : r ≤ 65535) : enc r = [224 + r / 4096, 128 + r / 64 % 64, 128 + r % 64] := by rw [enc_of h]; unfold enc0; rw [if_neg (by omega), if_neg (by omega), if_pos h1]
theorem enc_4 {r : Int} (h : isCh r = true) (h0 : 65536 ≤ r) : enc r = [240 + r / 262144, 128 + r / 4096 % 64, 128 + r / 64 % 64, 128 + r % 64] := by rw [enc_of h]; unfold enc0; rw [if_neg (by omega), if_neg (by omega), if_neg (by omega)]
theorem enc_bad {r : Int} (h : isCh r = false) : enc r = [239, 191, 189] := by unfold enc; rw [if_neg (by simp [h])]
theorem encode_bad {w : World} {r : Int} (h : isCh r = false) : Calls Try.prog 9 #[.int .i64 r] w (LPost .u8 w (enc r)) := by
  have hC := fun W => isCh_any r W
  simp only [h] at hC
  have HC := Lib.hid hC
  rw [enc_bad h]
  have HT0 := Lib.hid (tail_any (1023) (by omega) (by omega))
  have HT1 := Lib.hid (tail_any (65533) (by omega) (by omega))
  clear hC h
  go_enter Try.func9, Try.ntmps9
  go_wp2_with (first | (go_at_call 21; ((with_reducible refine (HC.out _).mono ?_); rintro e w' ⟨rfl, rfl⟩)) | (go_at_call 22; ((with_reducible refine (HT0.out _).mono ?_); rintro e w' ⟨rfl, rfl⟩)) | (go_at_call 22; ((with_reducible refine (HT1.out _).mono ?_); rintro e w' ⟨rfl, rfl⟩)))
  go_ret
  exact lpost_row rfl (rfl) (by simp)
theorem encode_1 {w : World} {r : Int} (h : isCh r = true) (h0 : 0 ≤ r) (h1 : r ≤ 127) : Calls Try.prog 9 #[.int .i64 r] w (LPost .u8 w (enc r)) := by
  have hC := fun W => isCh_any r W
  simp only [h] at hC
  have HC := Lib.hid hC
  rw [enc_1 h h1]
  clear hC h
  go_enter Try.func9, Try.ntmps9
  go_wp2_with (first | (go_at_call 21; ((with_reducible refine (HC.out _).mono ?_); rintro e w' ⟨rfl, rfl⟩)))
  go_ret
  exact lpost_row rfl (rfl) (by simp)
theorem encode_2 {w : World} {r : Int} (h : isCh r = true) (h0 : 128 ≤ r) (h1 : r ≤ 2047) : Calls Try.prog 9 #[.int .i64 r] w (LPost .u8 w (enc r)) := by
  have hC := fun W => isCh_any r W
  simp only [h] at hC
  have HC := Lib.hid hC
  rw [enc_2 h h0 h1]
  have HT0 := Lib.hid (tail_any (r) (by omega) (by omega))
  clear hC h
  go_enter Try.func9, Try.ntmps9
  go_wp2_with (first | (go_at_call 21; ((with_reducible refine (HC.out _).mono ?_); rintro e w' ⟨rfl, rfl⟩)) | (go_at_call 22; ((with_reducible refine (HT0.out _).mono ?_); rintro e w' ⟨rfl, rfl⟩)))
  go_ret
  exact lpost_row rfl (rfl) (by simp)
theorem encode_3 {w : World} {r : Int} (h : isCh r = true) (h0 : 2048 ≤ r) (h1 : r ≤ 65535) : Calls Try.prog 9 #[.int .i64 r] w (LPost .u8 w (enc r)) := by
  have hC := fun W => isCh_any r W
  simp only [h] at hC
  have HC := Lib.hid hC
  rw [enc_3 h h0 h1]
  have HT0 := Lib.hid (tail_any (r / 64) (by omega) (by omega))
  have HT1 := Lib.hid (tail_any (r) (by omega) (by omega))
  clear hC h
  go_enter Try.func9, Try.ntmps9
  go_wp2_with (first | (go_at_call 21; ((with_reducible refine (HC.out _).mono ?_); rintro e w' ⟨rfl, rfl⟩)) | (go_at_call 22; ((with_reducible refine (HT0.out _).mono ?_); rintro e w' ⟨rfl, rfl⟩)) | (go_at_call 22; ((with_reducible refine (HT1.out _).mono ?_); rintro e w' ⟨rfl, rfl⟩)))
  go_ret
  exact lpost_row rfl (rfl) (by simp)
theorem encode_4 {w : World} {r : Int} (h : isCh r = true) (h0 : 65536 ≤ r) (h1 : r ≤ 1114111) : Calls Try.prog 9 #[.int .i64 r] w (LPost .u8 w (enc r)) := by
  have hC := fun W => isCh_any r W
  simp only [h] at hC
  have HC := Lib.hid hC
  rw [enc_4 h h0]
  have HT0 := Lib.hid (tail_any (r / 4096) (by omega) (by omega))
  have HT1 := Lib.hid (tail_any (r / 64) (by omega) (by omega))
  have HT2 := Lib.hid (tail_any (r) (by omega) (by omega))
  clear hC h
  go_enter Try.func9, Try.ntmps9
  go_wp2_with (first | (go_at_call 21; ((with_reducible refine (HC.out _).mono ?_); rintro e w' ⟨rfl, rfl⟩)) | (go_at_call 22; ((with_reducible refine (HT0.out _).mono ?_); rintro e w' ⟨rfl, rfl⟩)) | (go_at_call 22; ((with_reducible refine (HT1.out _).mono ?_); rintro e w' ⟨rfl, rfl⟩)) | (go_at_call 22; ((with_reducible refine (HT2.out _).mono ?_); rintro e w' ⟨rfl, rfl⟩)))
  go_ret
  exact lpost_row rfl (rfl) (by simp)
theorem encode_any {w : World} (r : Int) : Calls Try.prog 9 #[.int .i64 r] w (LPost .u8 w (enc r)) := by
  cases h : isCh r with
  | false => exact encode_bad h
  | true =>
    have hr := h
    simp only [isCh, decide_eq_true_eq] at hr
    by_cases h1 : r ≤ 127
    · exact encode_1 h (by omega) h1
    by_cases h2 : r ≤ 2047
    · exact encode_2 h (by omega) h2
    by_cases h3 : r ≤ 65535
    · exact encode_3 h (by omega) h3
    · exact encode_4 h (by omega) (by omega)
theorem refenc_bad {w : World} {r : Int} (h : isCh r = false) : Calls Try.prog 10 #[.int .i64 r] w (LPost .u8 w (enc r)) := by
  have hC := fun W => refCh_any r W
  simp only [h] at hC
  have HC := Lib.hid hC
  rw [enc_bad h]
  have HT0 := Lib.hid (or_224 (15) (by omega) (by omega))
  have HT1 := Lib.hid (or_and (1023) (by omega) (by omega))
  have HT2 := Lib.hid (or_and (65533) (by omega) (by omega))
  clear hC h
  go_enter Try.func10, Try.ntmps10
  go_wp2_with (first | (go_at_call 23; ((with_reducible refine (HC.out _).mono ?_); rintro e w' ⟨rfl, rfl⟩)))
  go_ret
  exact lpost_row rfl (rfl) (by simp)
theorem refenc_1 {w : World} {r : Int} (h : isCh r = true) (h0 : 0 ≤ r) (h1 : r ≤ 127) : Calls Try.prog 10 #[.int .i64 r] w (LPost .u8 w (enc r)) := by
  have hC := fun W => refCh_any r W
  simp only [h] at hC
  have HC := Lib.hid hC
  rw [enc_1 h h1]
  clear hC h
  go_enter Try.func10, Try.ntmps10
  go_wp2_with (first | (go_at_call 23; ((with_reducible refine (HC.out _).mono ?_); rintro e w' ⟨rfl, rfl⟩)))
  go_ret
  exact lpost_row rfl (rfl) (by simp)
theorem refenc_2 {w : World} {r : Int} (h : isCh r = true) (h0 : 128 ≤ r) (h1 : r ≤ 2047) : Calls Try.prog 10 #[.int .i64 r] w (LPost .u8 w (enc r)) := by
  have hC := fun W => refCh_any r W
  simp only [h] at hC
  have HC := Lib.hid hC
  rw [enc_2 h h0 h1]
  have HT0 := Lib.hid (or_192 (r / 64) (by omega) (by omega))
  have HT1 := Lib.hid (or_and (r) (by omega) (by omega))
  clear hC h
  go_enter Try.func10, Try.ntmps10
  go_wp2_with (first | (go_at_call 23; ((with_reducible refine (HC.out _).mono ?_); rintro e w' ⟨rfl, rfl⟩)))
  go_ret
  exact lpost_row rfl (by rw [HT0.out, HT1.out]; rfl) (by simp)
theorem refenc_3 {w : World} {r : Int} (h : isCh r = true) (h0 : 2048 ≤ r) (h1 : r ≤ 65535) : Calls Try.prog 10 #[.int .i64 r] w (LPost .u8 w (enc r)) := by
  have hC := fun W => refCh_any r W
  simp only [h] at hC
  have HC := Lib.hid hC
  rw [enc_3 h h0 h1]
  have HT0 := Lib.hid (or_224 (r / 4096) (by omega) (by omega))
  have HT1 := Lib.hid (or_and (r / 64) (by omega) (by omega))
  have HT2 := Lib.hid (or_and (r) (by omega) (by omega))
  clear hC h
  go_enter Try.func10, Try.ntmps10
  go_wp2_with (first | (go_at_call 23; ((with_reducible refine (HC.out _).mono ?_); rintro e w' ⟨rfl, rfl⟩)))
  go_ret
  exact lpost_row rfl (by rw [HT0.out, HT1.out, HT2.out]; rfl) (by simp)
theorem refenc_4 {w : World} {r : Int} (h : isCh r = true) (h0 : 65536 ≤ r) (h1 : r ≤ 1114111) : Calls Try.prog 10 #[.int .i64 r] w (LPost .u8 w (enc r)) := by
  have hC := fun W => refCh_any r W
  simp only [h] at hC
  have HC := Lib.hid hC
  rw [enc_4 h h0]
  have HT0 := Lib.hid (or_240 (r / 262144) (by omega) (by omega))
  have HT1 := Lib.hid (or_and (r / 4096) (by omega) (by omega))
  have HT2 := Lib.hid (or_and (r / 64) (by omega) (by omega))
  have HT3 := Lib.hid (or_and (r) (by omega) (by omega))
  clear hC h
  go_enter Try.func10, Try.ntmps10
  go_wp2_with (first | (go_at_call 23; ((with_reducible refine (HC.out _).mono ?_); rintro e w' ⟨rfl, rfl⟩)))
  go_ret
  exact lpost_row rfl (by rw [HT0.out, HT1.out, HT2.out, HT3.out]; rfl) (by simp)
theorem refenc_any {w : World} (r : Int) : Calls Try.prog 10 #[.int .i64 r] w (LPost .u8 w (enc r)) := by
  cases h : isCh r with
  | false => exact refenc_bad h
  | true =>
    have hr := h
    simp only [isCh, decide_eq_true_eq] at hr
    by_cases h1 : r ≤ 127
    · exact refenc_1 h (by omega) h1
    by_cases h2 : r ≤ 2047
    · exact refenc_2 h (by omega) h2
    by_cases h3 : r ≤ 65535
    · exact refenc_3 h (by omega) h3
    · exact refenc_4 h (by omega) (by omega)
end Go.Proofs.Ytjcgcloanamabaa.Ru
