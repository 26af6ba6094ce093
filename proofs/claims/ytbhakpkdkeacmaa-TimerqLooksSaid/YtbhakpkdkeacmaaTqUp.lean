/-
  The contracts of container/heap's up and down at the queue.
-/
import Derived.Test.YtbhakpkdkeacmaaTqPop
import Derived.Deep.LoopGhost
namespace Go.Proofs.Ytbhakpkdkeacmaa.Tq
open Go.RowKit Go.Maps

/-- The queue whose map of places belongs to the row. -/
def QS (w : World) (B q mb : Nat) (now : Int) (ts : List Tm) : Prop := ∃ V D, QM w B q mb now V ts D ∧ Placed ts D
theorem QS.below {w w' : World} {B q mb : Nat} {now : Int} {ts : List Tm} (h : QS w B q mb now ts) (hb : Below w.heap.size w w') : QS w' B q mb now ts := by
  obtain ⟨V, D, h1, h2⟩ := h; exact ⟨V, D, h1.below hb, h2⟩
theorem QS.le {w : World} {B q mb : Nat} {now : Int} {ts : List Tm} (h : QS w B q mb now ts) : B ≤ w.heap.size := by obtain ⟨V, D, h1, h2⟩ := h; exact h1.le

theorem less_q {w : World} {B q mb : Nat} {now : Int} {ts : List Tm} (h : QS w B q mb now ts) {i j : Nat} (hi : i < ts.length) (hj : j < ts.length) :
    Calls Try.prog 51 #[.pointer (some ⟨q, 0, none⟩), .int .i64 i, .int .i64 j] w fun e w' => e = .returned (.bool (tlt (at_ ts i) (at_ ts j))) ∧ Below w.heap.size w w' := by
  obtain ⟨V, D, h1, h2⟩ := h
  exact less_any h1 (at_some hi) (at_some hj)
theorem swap_q {w : World} {B q mb : Nat} {now : Int} {ts : List Tm} (h : QS w B q mb now ts) (hl : ts.length ≤ 1000) {i j : Nat} (hi : i < ts.length) (hj : j < ts.length) (hne : i ≠ j) :
    Calls Try.prog 54 #[.pointer (some ⟨q, 0, none⟩), .int .i64 i, .int .i64 j] w fun e w' => e = .returned (.tuple #[]) ∧ QS w' B q mb now (swp ts i j) ∧ Fr B w w' := by
  obtain ⟨V, D, h1, h2⟩ := h
  refine (swap_any h1 (at_some hi) (at_some hj) hne (by rw [h2.size]; unfold maxLen; omega)).mono ?_
  rintro e w' ⟨rfl, h3, h4⟩
  exact ⟨rfl, ⟨V, _, h3, h2.swap hi hj hne⟩, h4⟩

set_option maxHeartbeats 1000000 in
theorem up_any {w : World} {B q mb : Nat} {now : Int} {hs tl : List Tm} {j : Nat} (h : QS w B q mb now (hs ++ tl)) (hl : (hs ++ tl).length ≤ 1000) (hj : j < hs.length) (hu : UpInv hs j) :
    Calls Try.prog 33 #[.iface 56 (.pointer (some ⟨q, 0, none⟩)), .int .i64 j] w fun e w' => e = .returned (.tuple #[]) ∧
      ∃ hs', QS w' B q mb now (hs' ++ tl) ∧ hs'.Perm hs ∧ Heap hs' ∧ Fr B w w' := by
  have h0 := Lib.hid h
  have u0 := Lib.hid hu
  clear h hu
  go_enter Try.func33, Try.ntmps33
  go_wp2
  go_loopg [1] (j + 1) (fun g sj wr => ∃ (k : Nat) (ks : List Tm), sj = .int .i64 k ∧ k + 1 ≤ g ∧ k < ks.length ∧ QS wr B q mb now (ks ++ tl) ∧ ks.Perm hs ∧ UpInv ks k ∧ Fr B w wr)
  case atStart => exact ⟨j, hs, rfl, by omega, hj, h0.out, List.Perm.refl _, u0.out, Fr.refl _ _⟩
  case round =>
    obtain ⟨k, ks, rfl, hg, hk, hq, hp, hu, hF⟩ := hrel
    have hlen : (ks ++ tl).length ≤ 1000 := by have := hp.length_eq; simp at hl ⊢; omega
    have hkl : k < 1000 := by simp at hlen; omega
    by_cases hk0 : k = 0
    · subst hk0
      have Q := Lib.hid (And.intro hq (And.intro hp (And.intro (hu.heap (.inl rfl)) hF)))
      clear hq hu hF hp
      go_wp2_with fail
      go_end0
      exact ⟨rfl, ks, Q.out⟩
    · have hp1 : ((k : Int) - 1) / 2 = (par k : Nat) := by unfold par; omega
      have hlt : par k < k := by unfold par; omega
      have hne : (((par k : Nat) : Int) == (k : Int)) = false := by simp; omega
      have ek : at_ (ks ++ tl) k = at_ ks k := at_append hk
      have ep : at_ (ks ++ tl) (par k) = at_ ks (par k) := at_append (by omega)
      obtain ⟨b, hb⟩ : ∃ b, tlt (at_ ks k) (at_ ks (par k)) = b := ⟨_, rfl⟩
      have hL := less_q (i := k) (j := par k) hq (by simp; omega) (by simp; omega)
      rw [ek, ep, hb] at hL
      have hst : b = true → UpInv (swp ks (par k) k) (par k) := fun e => hu.step (by omega) hk (by rw [hb, e])
      have hhp : b = false → Heap ks := fun e => hu.heap (.inr (by rw [hb, e]))
      have hpm := (swp_perm (ts := ks) (i := par k) (j := k) (by omega) hk (by omega)).trans hp
      have hsa : swp (ks ++ tl) (par k) k = swp ks (par k) k ++ tl := swp_append (by omega) hk
      have hpk : par k + 1 ≤ k := hlt
      generalize par k = p at *
      have Q := Lib.hid hq
      have S := Lib.hid hst
      have HHP := Lib.hid hhp
      have FF := Lib.hid hF
      have PM := Lib.hid hpm
      have SA := Lib.hid hsa
      have PP := Lib.hid hp
      clear hq hu hF hp hpm hsa hst hhp hb ek ep hlt
      cases b
      · go_wp2_with (go_at_call 51; refine hL.mono ?_; rintro e w' ⟨rfl, hb⟩)
        go_end0
        exact ⟨rfl, ks, Q.out.below hb, PP.out, HHP.out trivial, FF.out.trans (Fr.of_below hb Q.out.le)⟩
      · go_wp2_with (first
          | (go_at_call 51; refine hL.mono ?_; rintro e w' ⟨rfl, hb⟩)
          | (go_at_call 54; refine (swap_q (Q.out.below (by assumption)) hlen (by simp; omega) (by simp; omega) (by omega)).mono ?_; rintro e w'' ⟨rfl, hs1, hf1⟩))
        go_roundg (p + 1)
        case measure => omega
        case rel => exact ⟨p, swp ks p k, rfl, by omega, by rw [swp_length]; omega, by rw [← SA.out]; exact hs1, PM.out, S.out trivial, FF.out.trans ((Fr.of_below hb Q.out.le).trans hf1)⟩
end Go.Proofs.Ytbhakpkdkeacmaa.Tq
