/-
  The contract of timerq.Play.
-/
import Derived.Test.YtbhakpkdkeacmaaTqReps
import Derived.Carry
import Derived.OwnWalk
namespace Go.Proofs.Ytbhakpkdkeacmaa.Tq
open Go.RowKit Go.Maps

/-- What Play gives: the replies, in memory of its own. -/
def PlayPost (w : World) (os : List TOp) (e : Ending) (w' : World) : Prop := ∃ v, e = .returned v ∧ RepsAt w' w.heap.size v (play [] 0 os) ∧ Below w.heap.size w w'

set_option maxRecDepth 100000 in
set_option maxHeartbeats 2000000 in
theorem play_any {w : World} {A : Option Addr} {n c : Nat} {os : List TOp} (h : OpsAt w w.heap.size A n os) (hn : n ≤ 2000) :
    Calls Try.prog 11 #[.slice A n c] w (PlayPost w os) := by
  obtain ⟨i0, hi, hz0, hz1, hz2⟩ := info_parts Try.info39
  have hmm := @run_makeMap Try.prog
  obtain ⟨B, hB⟩ : ∃ B, B = w.heap.size := ⟨_, rfl⟩
  obtain ⟨q, hq⟩ : ∃ q, q = w.heap.size + 1 := ⟨_, rfl⟩
  obtain ⟨W1, hW1⟩ : ∃ W1, W1 = (w.alloc (.map #[] 0)).alloc (.cells #[.int .u64 0, .slice none 0 0, .map (some B)] 49) := ⟨_, rfl⟩
  have hb1 : Below w.heap.size w W1 := by rw [hW1]; go_grown
  have hs1 : W1.heap.size = w.heap.size + 2 := by rw [hW1]; simp
  have hQ : QH W1 B q B 0 [] := by
    have hst : W1.heap[q]? = some (.cells #[.int .u64 0, .slice none 0 0, .map (some B)] 49 (0, 0)) := by
      rw [hW1, hq]
      have := heap_alloc_new (w.alloc (.map #[] 0)) (.cells #[.int .u64 0, .slice none 0 0, .map (some B)] 49)
      simpa using this
    have hmp : W1.ownsMap Try.prog 3 (plainElem Try.prog 3) B 0 (.map [] : DataW Unit) := by
      rw [hW1, hB]; exact (World.ownsMap_made w _ _ _).alloc _
    exact ⟨[], ⟨.slice none 0 0, .map [], ⟨hst, World.ownsRow_nil _ _ _ _, hmp, by omega, Nat.le_refl _, fun t ht => by simp at ht⟩, Placed.nil⟩, Heap.nil, List.Perm.refl _, by simp⟩
  have HW := Lib.hid hW1
  have HB := Lib.hid hB
  have HQ := Lib.hid hq
  have H1 := Lib.hid hb1
  have HS := Lib.hid hs1
  have QQ := Lib.hid hQ
  have H := Lib.hid h
  have hBw : B ≤ W1.heap.size := by omega
  clear hW1 hB hq hb1 hs1 hQ h
  go_enter Try.func11, Try.ntmps11
  go_wp2_with (at_make; rw [← HQ.out, ← HB.out, ← HW.out]; refine wpList_make_own _ rfl _ _ 27 rfl B 39 i0 (.agg #[.int .i64 0, .slice none 0 0, .int .u64 0]) 3 Try.underlying27 hi hz0 hz1 _ _ _ n rfl rfl rfl (by rw [hz2]; omega) (by unfold maxLen; omega) hBw ?_; intro w2 hown2 hgrow2; have G2 := Lib.hid hgrow2; have O2 := Lib.hid hown2; clear hown2 hgrow2)
  have hb2 : Below W1.heap.size W1 w2 := ⟨G2.out.os, G2.out.tape, G2.out.output, G2.out.size, fun k hk => G2.out.block k hk (by simp)⟩
  have HB2 := Lib.hid hb2
  clear hb2 G2
  go_loopg [4, 14] (n + 1) (fun g v i wr => ∃ k, i = .int .i64 (k : Nat) ∧ k ≤ n ∧ n - k + 1 ≤ g ∧ RepsAt wr B v (play [] 0 (os.take k)) ∧ QH wr B q B (runN 0 (os.take k)) (runL [] 0 (os.take k)) ∧ Below B w wr)
  case atStart =>
    have e1 := HS.out
    have e2 := HB.out
    exact ⟨0, rfl, Nat.zero_le _, by omega, ⟨[], rfl, by simpa [play, flatR] using O2.out, fun k r f hk => by simp [play] at hk⟩, QQ.out.below HB2.out, by rw [e2]; exact H1.out.trans (HB2.out.mono (by omega))⟩
  case round =>
    obtain ⟨k, rfl, hk, hg, ⟨fs, hreps⟩, hQ, hbl⟩ := hrel
    obtain ⟨A', cp, rfl⟩ := own_shape hreps.row
    have hpl := play_length [] 0 (os.take k)
    have hol := H.out.len
    have hpk : (play [] 0 (os.take k)).length = k := by rw [hpl, List.length_take]; omega
    rw [hpk] at hreps ⊢
    have hrow : wr.ownsRow B 39 3 (.slice A' k cp) k (flatR (play [] 0 (os.take k)) fs) := by have := hreps.row; rwa [hpk] at this
    have RP := Lib.hid hreps
    have RW := Lib.hid hrow
    have Q := Lib.hid hQ
    have BL := Lib.hid hbl
    have PK := Lib.hid hpk
    have OL := Lib.hid hol
    have hwrB : B ≤ wr.heap.size := by have := HB.out; have := hbl.size; omega
    clear hreps hrow hQ hbl hpl hpk hol
    by_cases hkn : k < n
    · obtain ⟨o, ho⟩ : ∃ o, os[k]? = some o := ⟨os[k]'(by have := OL.out; omega), List.getElem?_eq_getElem _⟩
      obtain ⟨b, off, rfl, hbB, hcells⟩ := H.out.at_ (by omega)
      obtain ⟨a0, a1, a2⟩ := hcells k o ho
      have hbB' : b < B := by have := HB.out; omega
      have a0' := (BL.out.cell (p := ⟨b, off + k * 3, none⟩) hbB').trans a0
      have a1' := (BL.out.cell (p := ⟨b, off + k * 3 + 1, none⟩) hbB').trans a1
      have a2' := (BL.out.cell (p := ⟨b, off + k * 3 + 2, none⟩) hbB').trans a2
      have hof := H.out.wf o (List.mem_of_getElem? ho)
      have hbo : Below wr.heap.size wr (wr.alloc (.cells #[.int .i64 o.kind, .int .i64 o.id, .int .u64 o.time] 33)) := (Below.refl _ _).alloc (Nat.le_refl _) _
      have hC := carry_any (Q.out.below hbo) o hof.2.1
      have hpn : play [] 0 (os.take (k + 1)) = play [] 0 (os.take k) ++ [stepR (runL [] 0 (os.take k)) (runN 0 (os.take k)) o] := by rw [take_snoc' ho, play_snoc]
      have hln : runL [] 0 (os.take (k + 1)) = stepL (runL [] 0 (os.take k)) (runN 0 (os.take k)) o := by rw [take_snoc' ho, runL_snoc]
      have hnn : runN 0 (os.take (k + 1)) = stepN (runN 0 (os.take k)) o := by rw [take_snoc' ho, runN_snoc]
      rw [← hln, ← hnn] at hC
      generalize stepR (runL [] 0 (os.take k)) (runN 0 (os.take k)) o = sR at *
      have HC := Lib.hid hC
      have PN := Lib.hid hpn
      have BO := Lib.hid hbo
      clear a0 a1 a2 hcells ho hof hC hpn hln hnn hbo
      go_wp2_with (first
        | (go_at_call 18; ((with_reducible refine HC.out.mono ?_); rintro e w1 ⟨v', rfl, hr1, hq1, hf1⟩; obtain ⟨f, rfl, hfr⟩ := hr1; obtain ⟨A2, cp2, rfl⟩ := own_shape hfr; have FR := Lib.hid hfr; have Q1 := Lib.hid hq1; have F1 := Lib.hid hf1; clear hfr hq1 hf1))
        | (at_builtin; refine wpList_append_lies _ rfl (.tmp 18) (.tmp 21) 27 rfl B 39 i0 (.agg #[.int .i64 0, .slice none 0 0, .int .u64 0]) 3 40 Try.underlying27 hi hz0 hz1 hz2 rfl (by decide) _ _ _ rfl ((own_fr (RW.out.alloc _) F1.out (by decide) (by decide)).alloc _) ⟨w1.heap.size, 0, none⟩ 1 1 [.int .i64 sR.code, .slice A2 sR.fired.length cp2, .int .u64 sR.time] rfl rfl (news_three w1 _ _ _ _) (by simp [Value.oneCell']) (by omega) (by unfold maxLen; omega) (by omega) (by have := F1.out.bel.size; simp at this; simp; omega) _ rfl ?_; intro g' cap' w5 hown5 hgrow5 hat5 hlt5; have O5 := Lib.hid hown5; have G5 := Lib.hid hgrow5; clear hown5 hgrow5 hat5 hlt5))
      have hb1 : Below w1.heap.size w1 (w1.alloc (.cells #[.int .i64 sR.code, .slice A2 sR.fired.length cp2, .int .u64 sR.time] 39)) := (Below.refl _ _).alloc (Nat.le_refl _) _
      have hrow1 := (own_fr (RW.out.alloc (.cells #[.int .i64 o.kind, .int .i64 o.id, .int .u64 o.time] 33)) F1.out (by decide) (by decide)).alloc (.cells #[.int .i64 sR.code, .slice A2 sR.fired.length cp2, .int .u64 sR.time] 39)
      have hfar : ∀ k', (Value.slice A' k cp).ownBlock = some k' → ∃ cs t f, (w1.alloc (.cells #[.int .i64 sR.code, .slice A2 sR.fired.length cp2, .int .u64 sR.time] 39)).heap[k']? = some (.cells cs t f) ∧ t ≠ 49 ∧ t ≠ 68 := fun k' e => by
        obtain ⟨_, cur, hc⟩ := own_type hrow1 k' e
        exact ⟨_, _, _, hc, by decide, by decide⟩
      have hR5 := RepsF.snoc ((((RP.out.below BO.out).fr F1.out)).below hb1) (own_below FR.out hb1) G5.out (by rw [PK.out]; exact O5.out)
      rw [← PN.out] at hR5
      have hQ5 := (Q1.out.below hb1).far G5.out hfar
      have hB5 : Below B w w5 := ((BL.out.trans (BO.out.mono hwrB)).trans (F1.out.bel.trans (hb1.mono Q1.out.le))).grown G5.out (by have := F1.out.bel.size; simp at this; simp; omega) (fun k' e => (own_type hrow1 k' e).1)
      go_roundg (n - (k + 1) + 1)
      case measure => omega
      case rel => exact ⟨k + 1, by go_num, by omega, Nat.le_refl _, ⟨_, hR5⟩, hQ5, hB5⟩
    · have hkk : k = n := by omega
      have KK := Lib.hid hkk
      clear hkk
      go_wp2_with fail
      go_ret
      have e1 : os.take k = os := by rw [KK.out, ← H.out.len]; exact List.take_length
      have hR := RP.out
      have hBb := BL.out
      rw [e1, HB.out] at hR
      rw [HB.out] at hBb
      exact ⟨_, rfl, ⟨fs, hR⟩, hBb⟩
end Go.Proofs.Ytbhakpkdkeacmaa.Tq
