/-
  The contract of the reference's Play.
-/
import Derived.Test.YtbhakpkdkeacmaaTqRef4
import Derived.Test.YtbhakpkdkeacmaaTqRef5
import Derived.Test.YtbhakpkdkeacmaaTqRef6
import Derived.Test.YtbhakpkdkeacmaaTqRef8
import Derived.Test.YtbhakpkdkeacmaaTqPlay
namespace Go.Proofs.Ytbhakpkdkeacmaa.Tq
open Go.RowKit Go.Maps

theorem step_any {w : World} {B : Nat} {v : Value} {now : Int} {l : List Tm} (h : RH w B v l) (o : TOp) (hB : B ≤ w.heap.size) :
    Calls Try.prog 19 #[v, .int .u64 now, .agg #[.int .i64 o.kind, .int .i64 o.id, .int .u64 o.time]] w (StepPost w B (stepN now o) (stepL l now o) (stepR l now o)) := by
  obtain ⟨k, x, t⟩ := o
  by_cases h1 : k = 1
  · subst h1
    have eN : stepN now ⟨1, x, t⟩ = now := rfl
    have eL : stepL l now ⟨1, x, t⟩ = (if x < 0 then l else if mem l x then rem l x ++ [(x, t)] else if 256 ≤ l.length then l else l ++ [(x, t)]) := rfl
    have eR : stepR l now ⟨1, x, t⟩ = (if x < 0 then ⟨2, [], 0⟩ else if mem l x then ⟨0, [], 0⟩ else if 256 ≤ l.length then ⟨1, [], 0⟩ else ⟨0, [], 0⟩) := rfl
    rw [eN, eL, eR]
    by_cases h2 : x < 0
    · rw [if_pos h2, if_pos h2]; exact sneg_any h x t h2
    · rw [if_neg h2, if_neg h2]
      cases hm : mem l x with
      | true => exact sold_any h x t (by omega) hm hB
      | false =>
        simp only [Bool.false_eq_true, if_false]
        by_cases h3 : 256 ≤ l.length
        · rw [if_pos h3, if_pos h3]; exact sfull_any h x t (by omega) hm h3 hB
        · rw [if_neg h3, if_neg h3]; exact snew_any h x t (by omega) hm (by omega) hB
  by_cases h2 : k = 2
  · subst h2
    have eN : stepN now ⟨2, x, t⟩ = now := rfl
    have eL : stepL l now ⟨2, x, t⟩ = rem l x := rfl
    have eR : stepR l now ⟨2, x, t⟩ = (if mem l x then ⟨0, [], 0⟩ else ⟨4, [], 0⟩) := rfl
    rw [eN, eL, eR]
    cases hm : mem l x with
    | true => exact cone_any h x t hm hB
    | false => rw [rem_away hm]; exact cnone_any h x t hm hB
  by_cases h3 : k = 3
  · subst h3; exact sadv_any h x t hB
  by_cases h4 : k = 4
  · subst h4
    have eN : stepN now ⟨4, x, t⟩ = now := rfl
    have eL : stepL l now ⟨4, x, t⟩ = l := rfl
    have eR : stepR l now ⟨4, x, t⟩ = (match ord l with | [] => ⟨4, [], 0⟩ | m :: _ => ⟨0, [m.1], m.2⟩) := rfl
    rw [eN, eL, eR]
    cases ho : ord l with
    | nil =>
      have : l = [] := by have := ord_perm l; rw [ho] at this; exact List.nil_perm.1 this
      subst this
      exact nnone_any h x t hB
    | cons m r => exact nsome_any h x t ho hB
  have eN : stepN now ⟨k, x, t⟩ = now := by simp [stepN, h3]
  have eL : stepL l now ⟨k, x, t⟩ = l := by simp [stepL, h1, h2, h3]
  have eR : stepR l now ⟨k, x, t⟩ = ⟨3, [], 0⟩ := by simp [stepR, h1, h2, h3, h4]
  rw [eN, eL, eR]
  exact sbad_any h k x t h1 h2 h3 h4 hB

theorem news_three_at {W : World} {s : Nat} (hs : W.heap.size = s) (x y z : Value) (t : TypeId) : ∀ j u, [x, y, z][j]? = some u → (W.alloc (.cells #[x, y, z] t)).cell? ((⟨s, 0, none⟩ : Addr).add j) = some u := by
  subst hs; exact news_three W x y z t
theorem RH.far {w w' : World} {B : Nat} {v : Value} {l : List Tm} (h : RH w B v l) {row : Option Nat} (hg : w.grownBy w' row) (hR : ∀ R, row = some R → ∃ cs t f, w.heap[R]? = some (.cells cs t f) ∧ t ≠ 64) : RH w' B v l := by
  obtain ⟨ts, h1, h2⟩ := h
  refine ⟨ts, h1.kept hg ?_, h2⟩
  cases hvb : v.ownBlock with
  | none => exact .inl rfl
  | some k =>
    right
    intro e
    obtain ⟨cs, t, f, hc, hne⟩ := hR k e.symm
    obtain ⟨_, cur, hk⟩ := own_type h1 k hvb
    rw [hk] at hc; injection hc with hc; injection hc with _ e'; exact hne e'.symm

set_option maxRecDepth 100000 in
set_option maxHeartbeats 2000000 in
theorem rplay_any {w : World} {A : Option Addr} {n c : Nat} {os : List TOp} (h : OpsAt w w.heap.size A n os) (hn : n ≤ 2000) :
    Calls Try.prog 12 #[.slice A n c] w (PlayPost w os) := by
  obtain ⟨i0, hi, hz0, hz1, hz2⟩ := info_parts Try.info39
  have H := Lib.hid h
  obtain ⟨B, hB⟩ : ∃ B, B = w.heap.size := ⟨_, rfl⟩
  have HB := Lib.hid hB
  clear h hB
  go_enter Try.func12, Try.ntmps12
  go_wp2
  go_loopg [3, 4, 5, 6] (n + 1) (fun g vl vo vn vi wr => ∃ k : Nat, vi = .int .i64 k ∧ k ≤ n ∧ n - k + 1 ≤ g ∧ RepsAt wr B vo (play [] 0 (os.take k)) ∧ RH wr B vl (runL [] 0 (os.take k)) ∧ vn = .int .u64 (runN 0 (os.take k)) ∧ Below B w wr)
  case atStart => exact ⟨0, rfl, Nat.zero_le _, by omega, ⟨[], rfl, by simpa [play, flatR] using World.ownsRow_nil _ _ _ _, fun k r f hk => by simp [play] at hk⟩, ⟨[], World.ownsRow_nil _ _ _ _, List.Perm.refl _, List.nodup_nil, by simp⟩, rfl, Below.refl _ _⟩
  case round =>
    obtain ⟨k, rfl, hk, hg, ⟨fs, hreps⟩, hQ, rfl, hbl⟩ := hrel
    obtain ⟨A', cp, rfl⟩ := own_shape hreps.row
    obtain ⟨ts0, q1, q2⟩ := hQ
    obtain ⟨A3, c3, rfl⟩ := own_shape q1
    have hQ : RH wr B (.slice A3 ts0.length c3) (runL [] 0 (os.take k)) := ⟨ts0, q1, q2⟩
    have hpl := play_length [] 0 (os.take k)
    have hol := H.out.len
    have hpk : (play [] 0 (os.take k)).length = k := by rw [hpl, List.length_take]; omega
    rw [hpk] at hreps ⊢
    have hrow : wr.ownsRow B 39 3 (.slice A' k cp) k (flatR (play [] 0 (os.take k)) fs) := by have := hreps.row; rwa [hpk] at this
    have RP := Lib.hid hreps
    have RW := Lib.hid hrow
    have Q := Lib.hid hQ
    have BL := Lib.hid hbl
    have PK := Lib.hid hpk
    have OL := Lib.hid hol
    have hwrB : B ≤ wr.heap.size := by have := HB.out; have := hbl.size; omega
    clear hreps hrow hQ q1 q2 hbl hpl hpk hol
    by_cases hkn : k < n
    · obtain ⟨o, ho⟩ : ∃ o, os[k]? = some o := ⟨os[k]'(by have := OL.out; omega), List.getElem?_eq_getElem _⟩
      obtain ⟨b, off, rfl, hbB, hcells⟩ := H.out.at_ (by omega)
      obtain ⟨a0, a1, a2⟩ := hcells k o ho
      have hbB' : b < B := by have := HB.out; omega
      have a0' := (BL.out.cell (p := ⟨b, off + k * 3, none⟩) hbB').trans a0
      have a1' := (BL.out.cell (p := ⟨b, off + k * 3 + 1, none⟩) hbB').trans a1
      have a2' := (BL.out.cell (p := ⟨b, off + k * 3 + 2, none⟩) hbB').trans a2
      have hbw : b < wr.heap.size := by omega
      obtain ⟨W1, hW1⟩ : ∃ W1, W1 = wr.alloc zrep := ⟨_, rfl⟩
      obtain ⟨rb, hrb⟩ : ∃ rb, rb = wr.heap.size := ⟨_, rfl⟩
      have hb1 : Below wr.heap.size wr W1 := by rw [hW1]; exact (Below.refl _ _).alloc (Nat.le_refl _) _
      have hblk : W1.heap[rb]? = some zrep := by rw [hW1, hrb]; exact heap_alloc_new wr _
      have hC := step_any (now := runN 0 (os.take k)) (show RH W1 B (.slice A3 ts0.length c3) (runL [] 0 (os.take k)) from by
        obtain ⟨ts, q1, q2⟩ := Q.out; exact ⟨ts, own_below q1 hb1, q2⟩) o (by have := hb1.size; omega)
      have hpn : play [] 0 (os.take (k + 1)) = play [] 0 (os.take k) ++ [stepR (runL [] 0 (os.take k)) (runN 0 (os.take k)) o] := by rw [take_snoc' ho, play_snoc]
      have hln : runL [] 0 (os.take (k + 1)) = stepL (runL [] 0 (os.take k)) (runN 0 (os.take k)) o := by rw [take_snoc' ho, runL_snoc]
      have hnn : runN 0 (os.take (k + 1)) = stepN (runN 0 (os.take k)) o := by rw [take_snoc' ho, runN_snoc]
      rw [← hln, ← hnn] at hC
      generalize stepR (runL [] 0 (os.take k)) (runN 0 (os.take k)) o = sR at *
      have HC := Lib.hid hC
      have PN := Lib.hid hpn
      have B1 := Lib.hid hb1
      have HW1 := Lib.hid hW1
      have HRB := Lib.hid hrb
      have BK := Lib.hid hblk
      clear a0 a1 a2 hcells ho hC hpn hln hnn hb1 hW1 hrb hblk
      go_wp2_with (first
        | (go_at_call 19; rw [← HW1.out, ← HRB.out]; ((with_reducible refine HC.out.mono ?_); rintro e w1 ⟨v', vr, rfl, hr1, hq1, hbw1⟩; obtain ⟨f, rfl, hfr⟩ := hr1; obtain ⟨A2, cp2, rfl⟩ := own_shape hfr; have hbk1 := (hbw1.block rb (heap_lt BK.out)).trans BK.out; have r0 := cell_of_row w1 rb 0 _ _ _ hbk1; have r1 := cell_of_row w1 rb 1 _ _ _ hbk1; have r2 := cell_of_row w1 rb 2 _ _ _ hbk1; have z0 : w1.frozen? ⟨rb, 0, none⟩ = false := (by simp [World.frozen?, hbk1]); have z1 : w1.frozen? ⟨rb, 1, none⟩ = false := (by simp [World.frozen?, hbk1]); have z2 : w1.frozen? ⟨rb, 2, none⟩ = false := (by simp [World.frozen?, hbk1]); have FR := Lib.hid hfr; have Q1 := Lib.hid hq1; have BW1 := Lib.hid hbw1; have BK1 := Lib.hid hbk1; have hg9 := res_grown w1 rb (.int .i64 sR.code) (.slice A2 sR.fired.length cp2) (.int .u64 sR.time); have H9 := Lib.hid ((B1.out.trans (hbw1.mono B1.out.size)).grown hg9 (by have := B1.out.size; have := hbw1.size; omega) (fun k' e => (by have := HRB.out; simp at e; omega))); have G9 := Lib.hid hg9; clear hg9 hfr hq1 hbw1 hbk1))
        | (at_builtin; refine wpList_append_lies _ rfl (.tmp 25) (.tmp 27) 27 rfl B 39 i0 (.agg #[.int .i64 0, .slice none 0 0, .int .u64 0]) 3 40 Try.underlying27 hi hz0 hz1 hz2 rfl (by decide) (.slice A' k cp) k _ rfl ((own_below RW.out H9.out).alloc _) ⟨w1.heap.size, 0, none⟩ 1 1 [.int .i64 sR.code, .slice A2 sR.fired.length cp2, .int .u64 sR.time] rfl rfl (news_three_at (by simp) _ _ _ _) (by simp [Value.oneCell']) (by omega) (by unfold maxLen; omega) (by omega) (by have := H9.out.size; simp at this; simp; omega) _ rfl ?_; intro g' cap' w5 hown5 hgrow5 hat5 hlt5; have O5 := Lib.hid hown5; have G5 := Lib.hid hgrow5; clear hown5 hgrow5 hat5 hlt5))
      obtain ⟨W9, hW9⟩ : ∃ W9, W9 = ((w1.setCell ⟨rb, 0, none⟩ (.int .i64 sR.code)).setCell ⟨rb, 1, none⟩ (.slice A2 sR.fired.length cp2)).setCell ⟨rb, 2, none⟩ (.int .u64 sR.time) := ⟨_, rfl⟩
      have h9 := H9.out
      have g9 := G9.out
      have g5 := G5.out
      rw [← hW9] at h9 g9 g5
      have hb2 : Below W9.heap.size W9 (W9.alloc (.cells #[.int .i64 sR.code, .slice A2 sR.fired.length cp2, .int .u64 sR.time] 39)) := (Below.refl _ _).alloc (Nat.le_refl _) _
      have hf9 : FiredAt (W9.alloc (.cells #[.int .i64 sR.code, .slice A2 sR.fired.length cp2, .int .u64 sR.time] 39)) B (.slice A2 sR.fired.length cp2) sR.fired := own_below (FR.out.kept g9 (.inr (own_ne FR.out BK1.out (by decide)))) hb2
      have hR5 := RepsF.snoc ((RP.out.below h9).below hb2) hf9 g5 (by rw [PK.out]; exact O5.out)
      rw [← PN.out] at hR5
      have hrow1 := own_below (own_below RW.out h9) hb2
      have hQ9 := Q1.out.far g9 (fun k' e => by
        have e : rb = k' := by simpa using e
        subst e
        exact ⟨_, _, _, BK1.out, by decide⟩)
      have hQ5 := (hQ9.far (row := none) ⟨hb2.os, hb2.tape, hb2.output, hb2.size, fun k' hk' _ => hb2.block k' hk'⟩ (fun k' e => by cases e)).far g5 (fun k' e => by
        obtain ⟨_, cur, hc⟩ := own_type hrow1 k' e
        exact ⟨_, _, _, hc, by decide⟩)
      have hB5 : Below B w w5 := ((BL.out.trans (h9.mono hwrB)).trans (hb2.mono (by have := h9.size; omega))).grown g5 (by have := h9.size; simp; omega) (fun k' e => (own_type hrow1 k' e).1)
      go_roundg (n - (k + 1) + 1)
      case measure => omega
      case rel => exact ⟨k + 1, by go_num, by omega, Nat.le_refl _, ⟨_, hR5⟩, hQ5, rfl, hB5⟩
    · have hkk : k = n := by omega
      have KK := Lib.hid hkk
      clear hkk
      go_wp2_with fail
      go_ret
      have e1 : os.take k = os := by rw [KK.out, ← H.out.len]; exact List.take_length
      have hR := RP.out
      have hBb := BL.out
      rw [e1, HB.out] at hR
      rw [HB.out] at hBb
      exact ⟨_, rfl, ⟨fs, hR⟩, hBb⟩
end Go.Proofs.Ytbhakpkdkeacmaa.Tq
