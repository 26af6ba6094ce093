/-
  The contract of container/heap's down at the queue.
-/
import Derived.Test.YtbhakpkdkeacmaaTqUp
namespace Go.Proofs.Ytbhakpkdkeacmaa.Tq
open Go.RowKit Go.Maps

theorem less_b {w : World} {B q mb : Nat} {now : Int} {hs tl : List Tm} (h : QS w B q mb now (hs ++ tl)) {i j : Nat} (hi : i < hs.length) (hj : j < hs.length) {b : Bool} (hb : tlt (at_ hs i) (at_ hs j) = b) :
    Calls Try.prog 51 #[.pointer (some ⟨q, 0, none⟩), .int .i64 i, .int .i64 j] w fun e w' => e = .returned (.bool b) ∧ Below w.heap.size w w' := by
  have := less_q (i := i) (j := j) h (by simp; omega) (by simp; omega)
  rw [at_append hi, at_append hj, hb] at this
  exact this
theorem swap_b {w : World} {B q mb : Nat} {now : Int} {hs tl : List Tm} (h : QS w B q mb now (hs ++ tl)) (hl : (hs ++ tl).length ≤ 1000) {i j : Nat} (hi : i < hs.length) (hj : j < hs.length) (hne : i ≠ j) :
    Calls Try.prog 54 #[.pointer (some ⟨q, 0, none⟩), .int .i64 i, .int .i64 j] w fun e w' => e = .returned (.tuple #[]) ∧ QS w' B q mb now (swp hs i j ++ tl) ∧ Fr B w w' := by
  have := swap_q (i := i) (j := j) h hl (by simp; omega) (by simp; omega) hne
  rw [swp_append hi hj] at this
  exact this

/-- What down leaves behind: moved, and all is in order; or nothing turned, and the edge up is open. -/
def DownPost (w : World) (B q mb : Nat) (now : Int) (hs tl : List Tm) (i0 : Nat) (e : Ending) (w' : World) : Prop :=
  ∃ b hs', e = .returned (.bool b) ∧ QS w' B q mb now (hs' ++ tl) ∧ hs'.Perm hs ∧ (b = true → Heap hs') ∧ (b = false → hs' = hs ∧ UpInv hs i0) ∧ Fr B w w'

set_option maxHeartbeats 2000000 in
theorem down_any {w : World} {B q mb : Nat} {now : Int} {hs tl : List Tm} {i0 : Nat} (h : QS w B q mb now (hs ++ tl)) (hl : (hs ++ tl).length ≤ 1000) (hi : i0 < hs.length) (hd : DnInv hs i0 i0) :
    Calls Try.prog 32 #[.iface 56 (.pointer (some ⟨q, 0, none⟩)), .int .i64 i0, .int .i64 hs.length] w (DownPost w B q mb now hs tl i0) := by
  have h0 := Lib.hid h
  have u0 := Lib.hid hd
  obtain ⟨n, hn⟩ : ∃ n, n = hs.length := ⟨_, rfl⟩
  rw [← hn]
  have hn1 : n ≤ 1000 := by simp at hl; omega
  have hin : i0 < n := by omega
  have HN := Lib.hid hn
  clear h hd hn hi
  go_enter Try.func32, Try.ntmps32
  go_wp2
  go_loopg [7] (n - i0 + 1) (fun g si wr => ∃ (k : Nat) (ks : List Tm), si = .int .i64 k ∧ n - k + 1 ≤ g ∧ k < n ∧ i0 ≤ k ∧ QS wr B q mb now (ks ++ tl) ∧ ks.Perm hs ∧ DnInv ks i0 k ∧ (k = i0 → ks = hs) ∧ Fr B w wr)
  case atStart => exact ⟨i0, hs, rfl, by omega, hin, Nat.le_refl _, h0.out, List.Perm.refl _, u0.out, fun _ => rfl, Fr.refl _ _⟩
  case round =>
    obtain ⟨k, ks, rfl, hg, hk, hik, hq, hp, hu, hsame, hF⟩ := hrel
    have hlen : ks.length = n := by rw [hp.length_eq]; exact HN.out.symm
    have hlen2 : (ks ++ tl).length ≤ 1000 := by have := hp.length_eq; simp at hl ⊢; omega
    obtain ⟨l, hl1⟩ : ∃ l, l = 2 * k + 1 := ⟨_, rfl⟩
    obtain ⟨r, hr1⟩ : ∃ r, r = 2 * k + 2 := ⟨_, rfl⟩
    have el : 2 * (k : Int) + 1 = (l : Int) := by omega
    have er : (l : Int) + 1 = (r : Int) := by omega
    by_cases h1 : l < n
    ·
      by_cases h2 : r < n
      · obtain ⟨b1, hb1⟩ : ∃ b, tlt (at_ ks r) (at_ ks l) = b := ⟨_, rfl⟩
        cases b1
        · have hmin : ∀ d, d = 2 * k + 1 ∨ d = 2 * k + 2 → d < ks.length → tle (at_ ks l) (at_ ks d) := by
            rintro d (e | e) _
            · rw [show d = l by omega]; exact tle_refl _
            · rw [show d = r by omega]; exact hb1
          obtain ⟨b2, hb2⟩ : ∃ b, tlt (at_ ks l) (at_ ks k) = b := ⟨_, rfl⟩
          have hst : b2 = false → (k ≠ i0 → Heap ks) ∧ (k = i0 → UpInv ks i0) := fun e => hu.stop (fun d hd hdl => tle_trans (tle_of_not (hb2.trans e)) (hmin d hd hdl))
          have hsp : b2 = true → DnInv (swp ks k l) i0 l := fun e => hu.step (by omega) (by omega) (hb2.trans e) hmin
          have T : Hid (b2 = false → ∀ b, b = decide (i0 < k) → (b = true → Heap ks) ∧ (b = false → ks = hs ∧ UpInv hs i0)) := by
            rintro e0 b rfl
            refine ⟨fun e => (hst e0).1 (by simp at e; omega), fun e => ?_⟩
            have e : k = i0 := by simp at e; omega
            exact ⟨hsame e, by rw [← hsame e]; exact (hst e0).2 e⟩
          have PM := Lib.hid ((swp_perm (ts := ks) (i := k) (j := l) (by omega) (by omega) (by omega)).trans hp)
          have hkn : k < ks.length := by omega
          have hln : l < ks.length := by omega
          have hrn : r < ks.length := by omega
          have hkc : k < l := by omega
          have L1 := Lib.hid (fun (W : World) (hW : QS W B q mb now (ks ++ tl)) => less_b hW hrn hln hb1)
          have L2 := Lib.hid (fun (W : World) (hW : QS W B q mb now (ks ++ tl)) => less_b hW hln hkn hb2)
          have SW := Lib.hid (fun (W : World) (hW : QS W B q mb now (ks ++ tl)) => swap_b (i := k) (j := l) hW hlen2 hkn hln (by omega))
          have Q := Lib.hid hq
          have FF := Lib.hid hF
          have PP := Lib.hid hp
          have HL := Lib.hid hlen
          have SP := Lib.hid hsp
          clear hq hu hF hp hst hsp hsame hl1 hr1 hlen hmin hb2 hb1
          cases b2
          · go_wp2_with (first
              | (go_at_call 51; ((with_reducible refine (L1.out wr Q.out).mono ?_); rintro e w1 ⟨rfl, hw1⟩; have HW1 := Lib.hid hw1; clear hw1))
              | (go_at_call 51; ((with_reducible refine (L2.out _ (Q.out.below HW1.out)).mono ?_); rintro e w2 ⟨rfl, hw2⟩; have HW2 := Lib.hid hw2; clear hw2)))
            go_ret
            exact ⟨decide (i0 < k), ks, rfl, (Q.out.below HW1.out).below HW2.out, PP.out, (T.out trivial _ rfl).1, (T.out trivial _ rfl).2, (FF.out.trans (Fr.of_below HW1.out Q.out.le)).trans (Fr.of_below HW2.out (Q.out.below HW1.out).le)⟩
          · go_wp2_with (first
              | (go_at_call 51; ((with_reducible refine (L1.out wr Q.out).mono ?_); rintro e w1 ⟨rfl, hw1⟩; have HW1 := Lib.hid hw1; clear hw1))
              | (go_at_call 51; ((with_reducible refine (L2.out _ (Q.out.below HW1.out)).mono ?_); rintro e w2 ⟨rfl, hw2⟩; have HW2 := Lib.hid hw2; clear hw2))
              | (go_at_call 54; ((with_reducible refine (SW.out _ ((Q.out.below HW1.out).below HW2.out)).mono ?_); rintro e w3 ⟨rfl, hq3, hf3⟩; have Q3 := Lib.hid hq3; have F3 := Lib.hid hf3; clear hq3 hf3)))
            go_roundg (n - l + 1)
            case measure => omega
            case rel => exact ⟨l, swp ks k l, rfl, by omega, by omega, by omega, Q3.out, PM.out, SP.out trivial, fun e => by omega, ((FF.out.trans (Fr.of_below HW1.out Q.out.le)).trans (Fr.of_below HW2.out (Q.out.below HW1.out).le)).trans F3.out⟩
        · have hmin : ∀ d, d = 2 * k + 1 ∨ d = 2 * k + 2 → d < ks.length → tle (at_ ks r) (at_ ks d) := by
            rintro d (e | e) _
            · rw [show d = l by omega]; exact tle_of_tlt hb1
            · rw [show d = r by omega]; exact tle_refl _
          obtain ⟨b2, hb2⟩ : ∃ b, tlt (at_ ks r) (at_ ks k) = b := ⟨_, rfl⟩
          have hst : b2 = false → (k ≠ i0 → Heap ks) ∧ (k = i0 → UpInv ks i0) := fun e => hu.stop (fun d hd hdl => tle_trans (tle_of_not (hb2.trans e)) (hmin d hd hdl))
          have hsp : b2 = true → DnInv (swp ks k r) i0 r := fun e => hu.step (by omega) (by omega) (hb2.trans e) hmin
          have T : Hid (b2 = false → ∀ b, b = decide (i0 < k) → (b = true → Heap ks) ∧ (b = false → ks = hs ∧ UpInv hs i0)) := by
            rintro e0 b rfl
            refine ⟨fun e => (hst e0).1 (by simp at e; omega), fun e => ?_⟩
            have e : k = i0 := by simp at e; omega
            exact ⟨hsame e, by rw [← hsame e]; exact (hst e0).2 e⟩
          have PM := Lib.hid ((swp_perm (ts := ks) (i := k) (j := r) (by omega) (by omega) (by omega)).trans hp)
          have hkn : k < ks.length := by omega
          have hln : l < ks.length := by omega
          have hrn : r < ks.length := by omega
          have hkc : k < r := by omega
          have L1 := Lib.hid (fun (W : World) (hW : QS W B q mb now (ks ++ tl)) => less_b hW hrn hln hb1)
          have L2 := Lib.hid (fun (W : World) (hW : QS W B q mb now (ks ++ tl)) => less_b hW hrn hkn hb2)
          have SW := Lib.hid (fun (W : World) (hW : QS W B q mb now (ks ++ tl)) => swap_b (i := k) (j := r) hW hlen2 hkn hrn (by omega))
          have Q := Lib.hid hq
          have FF := Lib.hid hF
          have PP := Lib.hid hp
          have HL := Lib.hid hlen
          have SP := Lib.hid hsp
          clear hq hu hF hp hst hsp hsame hl1 hr1 hlen hmin hb2 hb1
          cases b2
          · go_wp2_with (first
              | (go_at_call 51; ((with_reducible refine (L1.out wr Q.out).mono ?_); rintro e w1 ⟨rfl, hw1⟩; have HW1 := Lib.hid hw1; clear hw1))
              | (go_at_call 51; ((with_reducible refine (L2.out _ (Q.out.below HW1.out)).mono ?_); rintro e w2 ⟨rfl, hw2⟩; have HW2 := Lib.hid hw2; clear hw2)))
            go_ret
            exact ⟨decide (i0 < k), ks, rfl, (Q.out.below HW1.out).below HW2.out, PP.out, (T.out trivial _ rfl).1, (T.out trivial _ rfl).2, (FF.out.trans (Fr.of_below HW1.out Q.out.le)).trans (Fr.of_below HW2.out (Q.out.below HW1.out).le)⟩
          · go_wp2_with (first
              | (go_at_call 51; ((with_reducible refine (L1.out wr Q.out).mono ?_); rintro e w1 ⟨rfl, hw1⟩; have HW1 := Lib.hid hw1; clear hw1))
              | (go_at_call 51; ((with_reducible refine (L2.out _ (Q.out.below HW1.out)).mono ?_); rintro e w2 ⟨rfl, hw2⟩; have HW2 := Lib.hid hw2; clear hw2))
              | (go_at_call 54; ((with_reducible refine (SW.out _ ((Q.out.below HW1.out).below HW2.out)).mono ?_); rintro e w3 ⟨rfl, hq3, hf3⟩; have Q3 := Lib.hid hq3; have F3 := Lib.hid hf3; clear hq3 hf3)))
            go_roundg (n - r + 1)
            case measure => omega
            case rel => exact ⟨r, swp ks k r, rfl, by omega, by omega, by omega, Q3.out, PM.out, SP.out trivial, fun e => by omega, ((FF.out.trans (Fr.of_below HW1.out Q.out.le)).trans (Fr.of_below HW2.out (Q.out.below HW1.out).le)).trans F3.out⟩
      · have hmin : ∀ d, d = 2 * k + 1 ∨ d = 2 * k + 2 → d < ks.length → tle (at_ ks l) (at_ ks d) := by
          rintro d (e | e) hd
          · rw [show d = l by omega]; exact tle_refl _
          · omega
        obtain ⟨b2, hb2⟩ : ∃ b, tlt (at_ ks l) (at_ ks k) = b := ⟨_, rfl⟩
        have hst : b2 = false → (k ≠ i0 → Heap ks) ∧ (k = i0 → UpInv ks i0) := fun e => hu.stop (fun d hd hdl => tle_trans (tle_of_not (hb2.trans e)) (hmin d hd hdl))
        have hsp : b2 = true → DnInv (swp ks k l) i0 l := fun e => hu.step (by omega) (by omega) (hb2.trans e) hmin
        have T : Hid (b2 = false → ∀ b, b = decide (i0 < k) → (b = true → Heap ks) ∧ (b = false → ks = hs ∧ UpInv hs i0)) := by
          rintro e0 b rfl
          refine ⟨fun e => (hst e0).1 (by simp at e; omega), fun e => ?_⟩
          have e : k = i0 := by simp at e; omega
          exact ⟨hsame e, by rw [← hsame e]; exact (hst e0).2 e⟩
        have PM := Lib.hid ((swp_perm (ts := ks) (i := k) (j := l) (by omega) (by omega) (by omega)).trans hp)
        have hkn : k < ks.length := by omega
        have hln : l < ks.length := by omega
        have hkc : k < l := by omega
        have L2 := Lib.hid (fun (W : World) (hW : QS W B q mb now (ks ++ tl)) => less_b hW hln hkn hb2)
        have SW := Lib.hid (fun (W : World) (hW : QS W B q mb now (ks ++ tl)) => swap_b (i := k) (j := l) hW hlen2 hkn hln (by omega))
        have Q := Lib.hid hq
        have FF := Lib.hid hF
        have PP := Lib.hid hp
        have HL := Lib.hid hlen
        have SP := Lib.hid hsp
        clear hq hu hF hp hst hsp hsame hl1 hr1 hlen hmin hb2
        cases b2
        · go_wp2_with (first
            | (go_at_call 51; ((with_reducible refine (L2.out wr Q.out).mono ?_); rintro e w2 ⟨rfl, hw2⟩; have HW2 := Lib.hid hw2; clear hw2)))
          go_ret
          exact ⟨decide (i0 < k), ks, rfl, Q.out.below HW2.out, PP.out, (T.out trivial _ rfl).1, (T.out trivial _ rfl).2, FF.out.trans (Fr.of_below HW2.out Q.out.le)⟩
        · go_wp2_with (first
            | (go_at_call 51; ((with_reducible refine (L2.out wr Q.out).mono ?_); rintro e w2 ⟨rfl, hw2⟩; have HW2 := Lib.hid hw2; clear hw2))
            | (go_at_call 54; ((with_reducible refine (SW.out _ (Q.out.below HW2.out)).mono ?_); rintro e w3 ⟨rfl, hq3, hf3⟩; have Q3 := Lib.hid hq3; have F3 := Lib.hid hf3; clear hq3 hf3)))
          go_roundg (n - l + 1)
          case measure => omega
          case rel => exact ⟨l, swp ks k l, rfl, by omega, by omega, by omega, Q3.out, PM.out, SP.out trivial, fun e => by omega, (FF.out.trans (Fr.of_below HW2.out Q.out.le)).trans F3.out⟩
    · have hst := hu.stop (fun d hd hdl => by omega)
      have T : Hid (∀ b, b = decide (i0 < k) → (b = true → Heap ks) ∧ (b = false → ks = hs ∧ UpInv hs i0)) := by
        rintro b rfl
        refine ⟨fun e => hst.1 (by simp at e; omega), fun e => ?_⟩
        have e : k = i0 := by simp at e; omega
        exact ⟨hsame e, by rw [← hsame e]; exact hst.2 e⟩
      have Q := Lib.hid hq
      have FF := Lib.hid hF
      have PP := Lib.hid hp
      have L1 := Lib.hid hl1
      have R1 := Lib.hid hr1
      have HL := Lib.hid hlen
      clear hq hu hF hp hst hsame hl1 hr1 hlen
      go_wp2_with fail
      go_ret
      exact ⟨decide (i0 < k), ks, rfl, Q.out, PP.out, (T.out _ rfl).1, (T.out _ rfl).2, FF.out⟩
end Go.Proofs.Ytbhakpkdkeacmaa.Tq
