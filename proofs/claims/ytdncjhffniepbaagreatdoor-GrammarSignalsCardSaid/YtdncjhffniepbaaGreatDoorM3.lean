/-
  Several texts, one behind the other: LxG12.
-/
import Derived.Test.YtdncjhffniepbaaGreatDoorM2
/- (LxG12)
  Layer 5, the program: one token is read.
-/
namespace Go.Proofs.YtdncjhffniepbaaGreatDoor.Lx
open Go.RowKit

set_option maxRecDepth 100000 in
set_option maxHeartbeats 16000000 in
theorem token_any {s : ByteArray} {l : List Int} (hs : ch s = l) (hn : l.length ≤ 100000) {B b k : Nat} {ln st : Int} (w : World) (het : ET w) (hb : w.heap[b]? = some (ScnO s k ln st)) (hB : B ≤ b) (hk : k ≤ l.length) (hp : Pos l k ln st) :
    Calls Tryz.prog 49 #[.pointer (some ⟨b, 0, none⟩)] w (TkPost w B b s l k ln st) := by
  have HSZ : Hid (s.size = l.length) := Lib.hid (by rw [← hs, ch_length])
  have HRS : Hid (ch (s.extract k s.size) = l.drop k) := Lib.hid (by rw [ch_drop, hs])
  have HBY : Hid (By l) := Lib.hid (by rw [← hs]; exact ch_By s)
  obtain ⟨b1, b2, b3, b4⟩ := hp.bytes hk
  obtain ⟨_, _, b5, _⟩ := hp
  have HCO := Lib.hid (fun (W : World) (h : W.heap[b]? = some (ScnO s k ln st)) => column_any W h b3 b5 (by omega))
  have HFA := Lib.hid (fun (W : World) (h : W.heap[b]? = some (ScnO s k ln st)) (c : Int) => fault_any W h b3 b5 (by omega) c)
  have hRR := (Below.heap_alloc w (.cells #[.int .i64 0, .string ⟨#[]⟩, .int .i64 0, .int .i64 0] 38) _ (heap_lt hb)).trans hb
  have d2 := cell_of_row _ _ 2 _ _ _ hRR
  have HB := Lib.hid hb
  have hblt := heap_lt hb
  have RR := Lib.hid hRR
  have HET := Lib.hid het
  have hks2 : (k : Int) ≤ (s.size : Int) := by have := HSZ.out; omega
  have hbn : b ≠ w.heap.size := by omega
  have hbn1 : b ≠ w.heap.size + 1 := by omega
  clear hs hb het hRR
  go_enter Tryz.func49, Tryz.ntmps49
  go_wp2_with fail
  go_cut [4] from 7 to 13 (fun p wx => p = .pointer (some ⟨w.heap.size + 1, 0, none⟩) ∧ TR w wx ZT ⟨0, [], ln, k - st + 1⟩)
  case first =>
    go_region_with (first
      | (go_at_call 73; (refine (HCO.out _ (by exact RR.out)).mono ?_); rintro e w1 ⟨rfl, q, rfl⟩)
      | (go_at_call 73; (refine (HCO.out _ (by exact (Below.heap_alloc _ _ _ (heap_lt RR.out)).trans RR.out)).mono ?_); rintro e w1 ⟨rfl, q, rfl⟩))
    all_goals
      go_wp2_with fail
      go_meet
      first
        | exact ⟨rfl, tr_a w _ ⟨0, [], ln, k - st + 1⟩⟩
        | exact ⟨rfl, tr_b w _ ⟨0, [], ln, k - st + 1⟩⟩
  case rest =>
    obtain ⟨rfl, htr⟩ := hcut
    clear RR d2
    have hb1 := (htr.bel.block b hblt).trans HB.out
    have d0 := cell_of_row _ _ 0 _ _ _ hb1
    have d1 := cell_of_row _ _ 1 _ _ _ hb1
    go_wp2_with fail
    go_quiet (fail)
    have R0 : Hid (TR w (wc.drewN nq) ZT ⟨0, [], ln, k - st + 1⟩) := Lib.hid ⟨htr.res, htr.tok, drN htr.bel _⟩
    have S0 : Hid ((wc.drewN nq).heap[b]? = some (ScnO s k ln st)) := Lib.hid hb1
    clear htr hb1 d0 d1
    generalize wc.drewN nq = wd at *
    have HRZ : Hid ((s.extract k s.size).size = l.length - k) := Lib.hid (by rw [← ch_length, HRS.out, List.length_drop])
    generalize s.extract k s.size = rest at *
    have hdt := R0.out.bel.size
    have hS := S0.out
    have hR : wd.heap[w.heap.size]? = some (.cells #[.int .i64 0, .string ⟨#[]⟩, .int .i64 0, .int .i64 0] 38 (0, 0)) := R0.out.res
    have hT : wd.heap[w.heap.size + 1]? = some (.cells #[.int .i64 0, .string ⟨#[]⟩, .int .i64 ln, .int .i64 (k - st + 1)] 38 (0, 0)) := R0.out.tok
    have hdt2 := heap_lt hT
    have d0 := cell_of_row _ _ 0 _ _ _ hS
    have d1 := cell_of_row _ _ 1 _ _ _ hS
    have d2 := cell_of_row _ _ 2 _ _ _ hS
    have d3 := cell_of_row _ _ 3 _ _ _ hS
    have f1 := frozen_of_row _ _ 1 _ _ hS
    have t0 := cell_of_row _ _ 0 _ _ _ hT
    have t1 := cell_of_row _ _ 1 _ _ _ hT
    have t2 := cell_of_row _ _ 2 _ _ _ hT
    have t3 := cell_of_row _ _ 3 _ _ _ hT
    have g0 := frozen_of_row _ _ 0 _ _ hT
    have g1 := frozen_of_row _ _ 1 _ _ hT
    have g2 := frozen_of_row _ _ 2 _ _ hT
    have g3 := frozen_of_row _ _ 3 _ _ hT
    have r0 := cell_of_row _ _ 0 _ _ _ hR
    have r1 := cell_of_row _ _ 1 _ _ _ hR
    have r2 := cell_of_row _ _ 2 _ _ _ hR
    have r3 := cell_of_row _ _ 3 _ _ _ hR
    have q0 := frozen_of_row _ _ 0 _ _ hR
    have q1 := frozen_of_row _ _ 1 _ _ hR
    have q2 := frozen_of_row _ _ 2 _ _ hR
    have q3 := frozen_of_row _ _ 3 _ _ hR
    have KS := Lib.hid hS
    have KR := Lib.hid hR
    have KT := Lib.hid hT
    clear hS hR hT
    by_cases hE : l.length = k
    · have hse := empty_yes (s := rest) (by have := HRZ.out; omega)
      go_wp2_with fail
      refine tok_ret rfl rfl rfl (by exact (keepO KR.out (by omega) _)) ?_
      exact TkPost.ofEnd hE (tok_end0 HB.out hB (bsT R0.out.bel) (Nat.le_refl _) _ _ _ _) rfl
    have hz0 : 0 < rest.size := by have := HRZ.out; omega
    have hse := empty_no hz0
    have hzi : (0 : Int) < (rest.size : Int) := by omega
    have hzi1 : (1 : Int) ≤ (rest.size : Int) := by omega
    obtain ⟨a, r, har⟩ : ∃ a r, l.drop k = a :: r := by
      cases h : l.drop k with
      | nil => have := congrArg List.length h; rw [List.length_drop] at this; simp at this; omega
      | cons a r => exact ⟨a, r, rfl⟩
    have HA := Lib.hid har
    obtain ⟨hz1, x0⟩ := ch_at (s := rest) (k := 0) (x := a) (by rw [HRS.out, har]; rfl)
    have hab : 0 ≤ a ∧ a ≤ 255 := (HBY.out.drop k) a (by rw [har]; simp)
    obtain ⟨ha0, ha1⟩ := hab
    have hln : (l.drop k).length ≤ 100000 := by rw [List.length_drop]; omega
    have HS := Lib.hid (fun W => gstart_any a W)
    have HD := Lib.hid (fun W => gdigit_any a W)
    clear har
    cases hl : letter a with
    | true =>
      rw [hl] at HS
      have HO := Lib.hid (one_letter (r := r) hl)
      rw [← HA.out] at HO
      have HLd := Lib.hid (fun W => lead_word HRS.out hln W)
      have htx : (bytesOf ((l.drop k).take (spanL true (l.drop k)))).size = spanL true (l.drop k) := txt_size (HBY.out.drop k) (spanL_le _ _)
      have hsl := spanL_le true (l.drop k)
      rw [List.length_drop] at hsl
      generalize spanL true (l.drop k) = n at *
      unfold VPost at HLd
      clear hl hln HD
      go_wp2_with (first
        | (go_at_call 74; ((with_reducible refine (HS.out _).mono ?_); rintro e w' ⟨rfl, rfl⟩))
        | (go_at_call 75; ((refine (HLd.out _).mono ?_); rintro e w6 ⟨rfl, hb6⟩; have B6 := Lib.hid (R0.out.bel.trans (hb6.mono R0.out.bel.size)); have K6S := (hb6.block _ (heap_lt KS.out)).trans KS.out; have K6R := (hb6.block _ (heap_lt KR.out)).trans KR.out; have K6T := (hb6.block _ (heap_lt KT.out)).trans KT.out; have d0 := cell_of_row _ _ 0 _ _ _ K6S; have d1 := cell_of_row _ _ 1 _ _ _ K6S; have d2 := cell_of_row _ _ 2 _ _ _ K6S; have d3 := cell_of_row _ _ 3 _ _ _ K6S; have f1 := frozen_of_row _ _ 1 _ _ K6S; have t0 := cell_of_row _ _ 0 _ _ _ K6T; have t1 := cell_of_row _ _ 1 _ _ _ K6T; have t2 := cell_of_row _ _ 2 _ _ _ K6T; have t3 := cell_of_row _ _ 3 _ _ _ K6T; have g0 := frozen_of_row _ _ 0 _ _ K6T; have g1 := frozen_of_row _ _ 1 _ _ K6T; have g2 := frozen_of_row _ _ 2 _ _ K6T; have g3 := frozen_of_row _ _ 3 _ _ K6T; have r0 := cell_of_row _ _ 0 _ _ _ K6R; have r1 := cell_of_row _ _ 1 _ _ _ K6R; have r2 := cell_of_row _ _ 2 _ _ _ K6R; have r3 := cell_of_row _ _ 3 _ _ _ K6R; have q0 := frozen_of_row _ _ 0 _ _ K6R; have q1 := frozen_of_row _ _ 1 _ _ K6R; have q2 := frozen_of_row _ _ 2 _ _ K6R; have q3 := frozen_of_row _ _ 3 _ _ K6R; have N6S := Lib.hid K6S; have N6R := Lib.hid K6R; clear hb6 K6S K6R K6T)))
      refine tok_ret rfl rfl rfl (by exact (keepO (keepO (keepO N6R.out (by omega) _) (by omega) _) (by omega) _)) ?_
      exact TkPost.ofTok hE HO.out (by rw [show ((k + n : Nat) : Int) = (k : Int) + (n : Int) by omega]; exact tok_end HB.out hB (bsT (bsT B6.out)) (Nat.le_refl _) _ _ _ _ _) rfl
    | false =>
    rw [hl] at HS
    cases hd : digit a with
    | true =>
      rw [hd] at HD
      have HO := Lib.hid (one_digit (r := r) hl hd)
      rw [← HA.out] at HO
      have HLd := Lib.hid (fun W => lead_number HRS.out hln W)
      have htx : (bytesOf ((l.drop k).take (spanL false (l.drop k)))).size = spanL false (l.drop k) := txt_size (HBY.out.drop k) (spanL_le _ _)
      have hsl := spanL_le false (l.drop k)
      rw [List.length_drop] at hsl
      generalize spanL false (l.drop k) = n at *
      unfold VPost at HLd
      clear hl hln hd
      by_cases h18 : 18 < n
      · have h18' : (18 : Int) < (n : Int) := by omega
        rw [if_pos (.inl h18)] at HO
        clear h18
        go_wp2_with (first
          | (go_at_call 74; ((with_reducible refine (HS.out _).mono ?_); rintro e w' ⟨rfl, rfl⟩))
          | (go_at_call 77; ((with_reducible refine (HD.out _).mono ?_); rintro e w' ⟨rfl, rfl⟩))
          | (go_at_call 75; ((refine (HLd.out _).mono ?_); rintro e w6 ⟨rfl, hb6⟩; have B6 := Lib.hid (R0.out.bel.trans (hb6.mono R0.out.bel.size)); have K6S := (hb6.block _ (heap_lt KS.out)).trans KS.out; have K6R := (hb6.block _ (heap_lt KR.out)).trans KR.out; have K6T := (hb6.block _ (heap_lt KT.out)).trans KT.out; have d0 := cell_of_row _ _ 0 _ _ _ K6S; have d1 := cell_of_row _ _ 1 _ _ _ K6S; have d2 := cell_of_row _ _ 2 _ _ _ K6S; have d3 := cell_of_row _ _ 3 _ _ _ K6S; have f1 := frozen_of_row _ _ 1 _ _ K6S; have t0 := cell_of_row _ _ 0 _ _ _ K6T; have t1 := cell_of_row _ _ 1 _ _ _ K6T; have t2 := cell_of_row _ _ 2 _ _ _ K6T; have t3 := cell_of_row _ _ 3 _ _ _ K6T; have g0 := frozen_of_row _ _ 0 _ _ K6T; have g1 := frozen_of_row _ _ 1 _ _ K6T; have g2 := frozen_of_row _ _ 2 _ _ K6T; have g3 := frozen_of_row _ _ 3 _ _ K6T; have r0 := cell_of_row _ _ 0 _ _ _ K6R; have r1 := cell_of_row _ _ 1 _ _ _ K6R; have r2 := cell_of_row _ _ 2 _ _ _ K6R; have r3 := cell_of_row _ _ 3 _ _ _ K6R; have q0 := frozen_of_row _ _ 0 _ _ K6R; have q1 := frozen_of_row _ _ 1 _ _ K6R; have q2 := frozen_of_row _ _ 2 _ _ K6R; have q3 := frozen_of_row _ _ 3 _ _ K6R; have N6S := Lib.hid K6S; have N6R := Lib.hid K6R; clear hb6 K6S K6R K6T))
          | (go_at_call 78; (refine (HFA.out _ (by exact (keepO (keepO N6S.out (by omega) _) (by omega) _)) _).mono ?_); rintro e w7 ⟨rfl, q, rfl⟩))
        refine tok_ret rfl rfl rfl (by rw [hdr]; exact (keepO (keepO N6R.out (by omega) _) (by omega) _)) ?_
        exact TkPost.ofBad hE HO.out (tok_end0 HB.out hB (drN (bsT (bsT B6.out)) _) (Nat.le_refl _) _ _ _ _) rfl
      have h18' : (n : Int) ≤ 18 := by omega
      by_cases h1 : 1 < n
      · have h1' : (1 : Int) < (n : Int) := by omega
        by_cases h48 : a = 48
        · rw [if_pos (.inr ⟨h1, h48⟩)] at HO
          subst h48
          clear h18 h1
          go_wp2_with (first
            | (go_at_call 74; ((with_reducible refine (HS.out _).mono ?_); rintro e w' ⟨rfl, rfl⟩))
            | (go_at_call 77; ((with_reducible refine (HD.out _).mono ?_); rintro e w' ⟨rfl, rfl⟩))
            | (go_at_call 75; ((refine (HLd.out _).mono ?_); rintro e w6 ⟨rfl, hb6⟩; have B6 := Lib.hid (R0.out.bel.trans (hb6.mono R0.out.bel.size)); have K6S := (hb6.block _ (heap_lt KS.out)).trans KS.out; have K6R := (hb6.block _ (heap_lt KR.out)).trans KR.out; have K6T := (hb6.block _ (heap_lt KT.out)).trans KT.out; have d0 := cell_of_row _ _ 0 _ _ _ K6S; have d1 := cell_of_row _ _ 1 _ _ _ K6S; have d2 := cell_of_row _ _ 2 _ _ _ K6S; have d3 := cell_of_row _ _ 3 _ _ _ K6S; have f1 := frozen_of_row _ _ 1 _ _ K6S; have t0 := cell_of_row _ _ 0 _ _ _ K6T; have t1 := cell_of_row _ _ 1 _ _ _ K6T; have t2 := cell_of_row _ _ 2 _ _ _ K6T; have t3 := cell_of_row _ _ 3 _ _ _ K6T; have g0 := frozen_of_row _ _ 0 _ _ K6T; have g1 := frozen_of_row _ _ 1 _ _ K6T; have g2 := frozen_of_row _ _ 2 _ _ K6T; have g3 := frozen_of_row _ _ 3 _ _ K6T; have r0 := cell_of_row _ _ 0 _ _ _ K6R; have r1 := cell_of_row _ _ 1 _ _ _ K6R; have r2 := cell_of_row _ _ 2 _ _ _ K6R; have r3 := cell_of_row _ _ 3 _ _ _ K6R; have q0 := frozen_of_row _ _ 0 _ _ K6R; have q1 := frozen_of_row _ _ 1 _ _ K6R; have q2 := frozen_of_row _ _ 2 _ _ K6R; have q3 := frozen_of_row _ _ 3 _ _ K6R; have N6S := Lib.hid K6S; have N6R := Lib.hid K6R; clear hb6 K6S K6R K6T))
            | (go_at_call 78; (refine (HFA.out _ (by exact (keepO (keepO N6S.out (by omega) _) (by omega) _)) _).mono ?_); rintro e w7 ⟨rfl, q, rfl⟩))
          refine tok_ret rfl rfl rfl (by rw [hdr]; exact (keepO (keepO N6R.out (by omega) _) (by omega) _)) ?_
          exact TkPost.ofBad hE HO.out (tok_end0 HB.out hB (drN (bsT (bsT B6.out)) _) (Nat.le_refl _) _ _ _ _) rfl
        · rw [if_neg (by omega)] at HO
          have hq : (a == 48) = false := beq_eq_false_iff_ne.2 h48
          clear h18 h1 h48
          go_wp2_with (first
            | (go_at_call 74; ((with_reducible refine (HS.out _).mono ?_); rintro e w' ⟨rfl, rfl⟩))
            | (go_at_call 77; ((with_reducible refine (HD.out _).mono ?_); rintro e w' ⟨rfl, rfl⟩))
            | (go_at_call 75; ((refine (HLd.out _).mono ?_); rintro e w6 ⟨rfl, hb6⟩; have B6 := Lib.hid (R0.out.bel.trans (hb6.mono R0.out.bel.size)); have K6S := (hb6.block _ (heap_lt KS.out)).trans KS.out; have K6R := (hb6.block _ (heap_lt KR.out)).trans KR.out; have K6T := (hb6.block _ (heap_lt KT.out)).trans KT.out; have d0 := cell_of_row _ _ 0 _ _ _ K6S; have d1 := cell_of_row _ _ 1 _ _ _ K6S; have d2 := cell_of_row _ _ 2 _ _ _ K6S; have d3 := cell_of_row _ _ 3 _ _ _ K6S; have f1 := frozen_of_row _ _ 1 _ _ K6S; have t0 := cell_of_row _ _ 0 _ _ _ K6T; have t1 := cell_of_row _ _ 1 _ _ _ K6T; have t2 := cell_of_row _ _ 2 _ _ _ K6T; have t3 := cell_of_row _ _ 3 _ _ _ K6T; have g0 := frozen_of_row _ _ 0 _ _ K6T; have g1 := frozen_of_row _ _ 1 _ _ K6T; have g2 := frozen_of_row _ _ 2 _ _ K6T; have g3 := frozen_of_row _ _ 3 _ _ K6T; have r0 := cell_of_row _ _ 0 _ _ _ K6R; have r1 := cell_of_row _ _ 1 _ _ _ K6R; have r2 := cell_of_row _ _ 2 _ _ _ K6R; have r3 := cell_of_row _ _ 3 _ _ _ K6R; have q0 := frozen_of_row _ _ 0 _ _ K6R; have q1 := frozen_of_row _ _ 1 _ _ K6R; have q2 := frozen_of_row _ _ 2 _ _ K6R; have q3 := frozen_of_row _ _ 3 _ _ K6R; have N6S := Lib.hid K6S; have N6R := Lib.hid K6R; clear hb6 K6S K6R K6T)))
          refine tok_ret rfl rfl rfl (by exact (keepO (keepO (keepO N6R.out (by omega) _) (by omega) _) (by omega) _)) ?_
          exact TkPost.ofTok hE HO.out (by rw [show ((k + n : Nat) : Int) = (k : Int) + (n : Int) by omega]; exact tok_end HB.out hB (bsT (bsT B6.out)) (Nat.le_refl _) _ _ _ _ _) rfl
      · rw [if_neg (by omega)] at HO
        have h1' : (n : Int) ≤ 1 := by omega
        clear h18 h1
        go_wp2_with (first
          | (go_at_call 74; ((with_reducible refine (HS.out _).mono ?_); rintro e w' ⟨rfl, rfl⟩))
          | (go_at_call 77; ((with_reducible refine (HD.out _).mono ?_); rintro e w' ⟨rfl, rfl⟩))
          | (go_at_call 75; ((refine (HLd.out _).mono ?_); rintro e w6 ⟨rfl, hb6⟩; have B6 := Lib.hid (R0.out.bel.trans (hb6.mono R0.out.bel.size)); have K6S := (hb6.block _ (heap_lt KS.out)).trans KS.out; have K6R := (hb6.block _ (heap_lt KR.out)).trans KR.out; have K6T := (hb6.block _ (heap_lt KT.out)).trans KT.out; have d0 := cell_of_row _ _ 0 _ _ _ K6S; have d1 := cell_of_row _ _ 1 _ _ _ K6S; have d2 := cell_of_row _ _ 2 _ _ _ K6S; have d3 := cell_of_row _ _ 3 _ _ _ K6S; have f1 := frozen_of_row _ _ 1 _ _ K6S; have t0 := cell_of_row _ _ 0 _ _ _ K6T; have t1 := cell_of_row _ _ 1 _ _ _ K6T; have t2 := cell_of_row _ _ 2 _ _ _ K6T; have t3 := cell_of_row _ _ 3 _ _ _ K6T; have g0 := frozen_of_row _ _ 0 _ _ K6T; have g1 := frozen_of_row _ _ 1 _ _ K6T; have g2 := frozen_of_row _ _ 2 _ _ K6T; have g3 := frozen_of_row _ _ 3 _ _ K6T; have r0 := cell_of_row _ _ 0 _ _ _ K6R; have r1 := cell_of_row _ _ 1 _ _ _ K6R; have r2 := cell_of_row _ _ 2 _ _ _ K6R; have r3 := cell_of_row _ _ 3 _ _ _ K6R; have q0 := frozen_of_row _ _ 0 _ _ K6R; have q1 := frozen_of_row _ _ 1 _ _ K6R; have q2 := frozen_of_row _ _ 2 _ _ K6R; have q3 := frozen_of_row _ _ 3 _ _ K6R; have N6S := Lib.hid K6S; have N6R := Lib.hid K6R; clear hb6 K6S K6R K6T)))
        refine tok_ret rfl rfl rfl (by exact (keepO (keepO (keepO N6R.out (by omega) _) (by omega) _) (by omega) _)) ?_
        exact TkPost.ofTok hE HO.out (by rw [show ((k + n : Nat) : Int) = (k : Int) + (n : Int) by omega]; exact tok_end HB.out hB (bsT (bsT B6.out)) (Nat.le_refl _) _ _ _ _ _) rfl
    | false =>
    rw [hd] at HD
    by_cases h34 : a = 34
    · subst h34
      have HEn := Lib.hid (fun W h => enc_str (r := r) (by rw [HRS.out, HA.out]) (by have := hln; rw [HA.out] at this; simp at this; omega) W h)
      unfold VPost at HEn
      have HO : Hid (one (34 :: r) = _) := Lib.hid one_str
      rw [← HA.out] at HO
      clear hl hd
      cases hq : quo r with
      | none =>
        rw [hq] at HEn HO
        unfold encV at HEn
        go_wp2_with (first
          | (go_at_call 74; ((with_reducible refine (HS.out _).mono ?_); rintro e w' ⟨rfl, rfl⟩))
          | (go_at_call 77; ((with_reducible refine (HD.out _).mono ?_); rintro e w' ⟨rfl, rfl⟩))
          | (go_at_call 79; ((refine (HEn.out _ (HET.out.below (bsT R0.out.bel))).mono ?_); rintro e w6 ⟨rfl, hb6⟩; have B6 : Hid (Below w.heap.size w w6) := Lib.hid ((bsT R0.out.bel).trans (hb6.mono (bsT R0.out.bel).size)); have K6S := (hb6.block _ (heap_lt (keepO KS.out (by omega) (.int .i64 3)))).trans (keepO KS.out (by omega) (.int .i64 3)); have K6R := (hb6.block _ (heap_lt (keepO KR.out (by omega) (.int .i64 3)))).trans (keepO KR.out (by omega) (.int .i64 3)); have K6T := (hb6.block _ (heap_lt (set0 KT.out (.int .i64 3)))).trans (set0 KT.out (.int .i64 3)); have d0 := cell_of_row _ _ 0 _ _ _ K6S; have d1 := cell_of_row _ _ 1 _ _ _ K6S; have d2 := cell_of_row _ _ 2 _ _ _ K6S; have d3 := cell_of_row _ _ 3 _ _ _ K6S; have f1 := frozen_of_row _ _ 1 _ _ K6S; have t0 := cell_of_row _ _ 0 _ _ _ K6T; have t1 := cell_of_row _ _ 1 _ _ _ K6T; have t2 := cell_of_row _ _ 2 _ _ _ K6T; have t3 := cell_of_row _ _ 3 _ _ _ K6T; have g0 := frozen_of_row _ _ 0 _ _ K6T; have g1 := frozen_of_row _ _ 1 _ _ K6T; have g2 := frozen_of_row _ _ 2 _ _ K6T; have g3 := frozen_of_row _ _ 3 _ _ K6T; have r0 := cell_of_row _ _ 0 _ _ _ K6R; have r1 := cell_of_row _ _ 1 _ _ _ K6R; have r2 := cell_of_row _ _ 2 _ _ _ K6R; have r3 := cell_of_row _ _ 3 _ _ _ K6R; have q0 := frozen_of_row _ _ 0 _ _ K6R; have q1 := frozen_of_row _ _ 1 _ _ K6R; have q2 := frozen_of_row _ _ 2 _ _ K6R; have q3 := frozen_of_row _ _ 3 _ _ K6R; have N6S := Lib.hid K6S; have N6R := Lib.hid K6R; clear hb6 K6S K6R K6T))
          | (go_at_call 78; (refine (HFA.out _ (by exact (keepO N6S.out (by omega) _)) _).mono ?_); rintro e w7 ⟨rfl, q, rfl⟩))
        refine tok_ret rfl rfl rfl (by rw [hdr]; exact (keepO N6R.out (by omega) _)) ?_
        exact TkPost.ofBad hE HO.out (tok_end0 HB.out hB (drN (bsT B6.out) _) (Nat.le_refl _) _ _ _ _) rfl
      | some x =>
        obtain ⟨t, n⟩ := x
        rw [hq] at HEn HO
        unfold encV at HEn
        have hql := quo_len hq
        have hnn : ((n : Int) + 1 == 0) = false := beq_eq_false_iff_ne.2 (by omega)
        have hrl : r.length + 1 = l.length - k := by have := congrArg List.length HA.out; rw [List.length_drop] at this; simp at this; omega
        clear hq
        go_wp2_with (first
          | (go_at_call 74; ((with_reducible refine (HS.out _).mono ?_); rintro e w' ⟨rfl, rfl⟩))
          | (go_at_call 77; ((with_reducible refine (HD.out _).mono ?_); rintro e w' ⟨rfl, rfl⟩))
          | (go_at_call 79; ((refine (HEn.out _ (HET.out.below (bsT R0.out.bel))).mono ?_); rintro e w6 ⟨rfl, hb6⟩; have B6 : Hid (Below w.heap.size w w6) := Lib.hid ((bsT R0.out.bel).trans (hb6.mono (bsT R0.out.bel).size)); have K6S := (hb6.block _ (heap_lt (keepO KS.out (by omega) (.int .i64 3)))).trans (keepO KS.out (by omega) (.int .i64 3)); have K6R := (hb6.block _ (heap_lt (keepO KR.out (by omega) (.int .i64 3)))).trans (keepO KR.out (by omega) (.int .i64 3)); have K6T := (hb6.block _ (heap_lt (set0 KT.out (.int .i64 3)))).trans (set0 KT.out (.int .i64 3)); have d0 := cell_of_row _ _ 0 _ _ _ K6S; have d1 := cell_of_row _ _ 1 _ _ _ K6S; have d2 := cell_of_row _ _ 2 _ _ _ K6S; have d3 := cell_of_row _ _ 3 _ _ _ K6S; have f1 := frozen_of_row _ _ 1 _ _ K6S; have t0 := cell_of_row _ _ 0 _ _ _ K6T; have t1 := cell_of_row _ _ 1 _ _ _ K6T; have t2 := cell_of_row _ _ 2 _ _ _ K6T; have t3 := cell_of_row _ _ 3 _ _ _ K6T; have g0 := frozen_of_row _ _ 0 _ _ K6T; have g1 := frozen_of_row _ _ 1 _ _ K6T; have g2 := frozen_of_row _ _ 2 _ _ K6T; have g3 := frozen_of_row _ _ 3 _ _ K6T; have r0 := cell_of_row _ _ 0 _ _ _ K6R; have r1 := cell_of_row _ _ 1 _ _ _ K6R; have r2 := cell_of_row _ _ 2 _ _ _ K6R; have r3 := cell_of_row _ _ 3 _ _ _ K6R; have q0 := frozen_of_row _ _ 0 _ _ K6R; have q1 := frozen_of_row _ _ 1 _ _ K6R; have q2 := frozen_of_row _ _ 2 _ _ K6R; have q3 := frozen_of_row _ _ 3 _ _ K6R; have N6S := Lib.hid K6S; have N6R := Lib.hid K6R; clear hb6 K6S K6R K6T)))
        refine tok_ret rfl rfl rfl (by exact (keepO (keepO N6R.out (by omega) _) (by omega) _)) ?_
        exact TkPost.ofTok hE HO.out (by rw [show ((k + (n + 1) : Nat) : Int) = (k : Int) + ((n : Int) + 1) by omega]; exact tok_end HB.out hB (bsT B6.out) (Nat.le_refl _) _ _ _ _ _) rfl
    have q34 : (a == 34) = false := beq_eq_false_iff_ne.2 h34
    by_cases h47 : a = 47
    · subst h47
      have HEn := Lib.hid (fun W h => enc_pat (r := r) (by rw [HRS.out, HA.out]) (by have := hln; rw [HA.out] at this; simp at this; omega) W h)
      unfold VPost at HEn
      have HO : Hid (one (47 :: r) = _) := Lib.hid one_pat
      rw [← HA.out] at HO
      clear hl hd
      cases hq : sla r with
      | none =>
        rw [hq] at HEn HO
        unfold encV at HEn
        go_wp2_with (first
          | (go_at_call 74; ((with_reducible refine (HS.out _).mono ?_); rintro e w' ⟨rfl, rfl⟩))
          | (go_at_call 77; ((with_reducible refine (HD.out _).mono ?_); rintro e w' ⟨rfl, rfl⟩))
          | (go_at_call 79; ((refine (HEn.out _ (HET.out.below (bsT R0.out.bel))).mono ?_); rintro e w6 ⟨rfl, hb6⟩; have B6 : Hid (Below w.heap.size w w6) := Lib.hid ((bsT R0.out.bel).trans (hb6.mono (bsT R0.out.bel).size)); have K6S := (hb6.block _ (heap_lt (keepO KS.out (by omega) (.int .i64 4)))).trans (keepO KS.out (by omega) (.int .i64 4)); have K6R := (hb6.block _ (heap_lt (keepO KR.out (by omega) (.int .i64 4)))).trans (keepO KR.out (by omega) (.int .i64 4)); have K6T := (hb6.block _ (heap_lt (set0 KT.out (.int .i64 4)))).trans (set0 KT.out (.int .i64 4)); have d0 := cell_of_row _ _ 0 _ _ _ K6S; have d1 := cell_of_row _ _ 1 _ _ _ K6S; have d2 := cell_of_row _ _ 2 _ _ _ K6S; have d3 := cell_of_row _ _ 3 _ _ _ K6S; have f1 := frozen_of_row _ _ 1 _ _ K6S; have t0 := cell_of_row _ _ 0 _ _ _ K6T; have t1 := cell_of_row _ _ 1 _ _ _ K6T; have t2 := cell_of_row _ _ 2 _ _ _ K6T; have t3 := cell_of_row _ _ 3 _ _ _ K6T; have g0 := frozen_of_row _ _ 0 _ _ K6T; have g1 := frozen_of_row _ _ 1 _ _ K6T; have g2 := frozen_of_row _ _ 2 _ _ K6T; have g3 := frozen_of_row _ _ 3 _ _ K6T; have r0 := cell_of_row _ _ 0 _ _ _ K6R; have r1 := cell_of_row _ _ 1 _ _ _ K6R; have r2 := cell_of_row _ _ 2 _ _ _ K6R; have r3 := cell_of_row _ _ 3 _ _ _ K6R; have q0 := frozen_of_row _ _ 0 _ _ K6R; have q1 := frozen_of_row _ _ 1 _ _ K6R; have q2 := frozen_of_row _ _ 2 _ _ K6R; have q3 := frozen_of_row _ _ 3 _ _ K6R; have N6S := Lib.hid K6S; have N6R := Lib.hid K6R; clear hb6 K6S K6R K6T))
          | (go_at_call 78; (refine (HFA.out _ (by exact (keepO N6S.out (by omega) _)) _).mono ?_); rintro e w7 ⟨rfl, q, rfl⟩))
        refine tok_ret rfl rfl rfl (by rw [hdr]; exact (keepO N6R.out (by omega) _)) ?_
        exact TkPost.ofBad hE HO.out (tok_end0 HB.out hB (drN (bsT B6.out) _) (Nat.le_refl _) _ _ _ _) rfl
      | some x =>
        obtain ⟨t, n⟩ := x
        rw [hq] at HEn HO
        unfold encV at HEn
        have hql := sla_len _ hq
        have hnn : ((n : Int) + 1 == 0) = false := beq_eq_false_iff_ne.2 (by omega)
        have hrl : r.length + 1 = l.length - k := by have := congrArg List.length HA.out; rw [List.length_drop] at this; simp at this; omega
        clear hq
        go_wp2_with (first
          | (go_at_call 74; ((with_reducible refine (HS.out _).mono ?_); rintro e w' ⟨rfl, rfl⟩))
          | (go_at_call 77; ((with_reducible refine (HD.out _).mono ?_); rintro e w' ⟨rfl, rfl⟩))
          | (go_at_call 79; ((refine (HEn.out _ (HET.out.below (bsT R0.out.bel))).mono ?_); rintro e w6 ⟨rfl, hb6⟩; have B6 : Hid (Below w.heap.size w w6) := Lib.hid ((bsT R0.out.bel).trans (hb6.mono (bsT R0.out.bel).size)); have K6S := (hb6.block _ (heap_lt (keepO KS.out (by omega) (.int .i64 4)))).trans (keepO KS.out (by omega) (.int .i64 4)); have K6R := (hb6.block _ (heap_lt (keepO KR.out (by omega) (.int .i64 4)))).trans (keepO KR.out (by omega) (.int .i64 4)); have K6T := (hb6.block _ (heap_lt (set0 KT.out (.int .i64 4)))).trans (set0 KT.out (.int .i64 4)); have d0 := cell_of_row _ _ 0 _ _ _ K6S; have d1 := cell_of_row _ _ 1 _ _ _ K6S; have d2 := cell_of_row _ _ 2 _ _ _ K6S; have d3 := cell_of_row _ _ 3 _ _ _ K6S; have f1 := frozen_of_row _ _ 1 _ _ K6S; have t0 := cell_of_row _ _ 0 _ _ _ K6T; have t1 := cell_of_row _ _ 1 _ _ _ K6T; have t2 := cell_of_row _ _ 2 _ _ _ K6T; have t3 := cell_of_row _ _ 3 _ _ _ K6T; have g0 := frozen_of_row _ _ 0 _ _ K6T; have g1 := frozen_of_row _ _ 1 _ _ K6T; have g2 := frozen_of_row _ _ 2 _ _ K6T; have g3 := frozen_of_row _ _ 3 _ _ K6T; have r0 := cell_of_row _ _ 0 _ _ _ K6R; have r1 := cell_of_row _ _ 1 _ _ _ K6R; have r2 := cell_of_row _ _ 2 _ _ _ K6R; have r3 := cell_of_row _ _ 3 _ _ _ K6R; have q0 := frozen_of_row _ _ 0 _ _ K6R; have q1 := frozen_of_row _ _ 1 _ _ K6R; have q2 := frozen_of_row _ _ 2 _ _ K6R; have q3 := frozen_of_row _ _ 3 _ _ K6R; have N6S := Lib.hid K6S; have N6R := Lib.hid K6R; clear hb6 K6S K6R K6T)))
        refine tok_ret rfl rfl rfl (by exact (keepO (keepO N6R.out (by omega) _) (by omega) _)) ?_
        exact TkPost.ofTok hE HO.out (by rw [show ((k + (n + 1) : Nat) : Int) = (k : Int) + ((n : Int) + 1) by omega]; exact tok_end HB.out hB (bsT B6.out) (Nat.le_refl _) _ _ _ _ _) rfl
    have q47 : (a == 47) = false := beq_eq_false_iff_ne.2 h47
    by_cases hsg : a = 123 ∨ a = 125 ∨ a = 44 ∨ a = 61
    · have HO := Lib.hid (one_sign (r := r) hsg)
      rw [← HA.out] at HO
      have HI := Lib.hid (fun W => gsign_yes hsg W)
      have HC1 : Hid (rest.extract 0 1 = bytesOf [a]) := Lib.hid (cut_bytes (i := 0) (j := 1) (m := [a]) HRS.out (by rw [HA.out]; simp))
      clear hl hd hsg h34 h47
      go_wp2_with (first
        | (go_at_call 74; ((with_reducible refine (HS.out _).mono ?_); rintro e w' ⟨rfl, rfl⟩))
        | (go_at_call 77; ((with_reducible refine (HD.out _).mono ?_); rintro e w' ⟨rfl, rfl⟩))
        | (go_at_call 82; ((refine (HI.out _).mono ?_); rintro e w6 ⟨⟨i, hi0, rfl⟩, rfl⟩)))
      go_region
      go_wp2_with fail
      refine tok_retd rfl rfl rfl (by exact (keepO (keepO (keepO KR.out (by omega) _) (by omega) _) (by omega) _)) ?_
      exact TkPost.ofTok hE HO.out (by rw [show ((k + 1 : Nat) : Int) = (k : Int) + 1 by omega]; exact tok_drew (tok_end HB.out hB (bsT (bsT R0.out.bel)) (Nat.le_refl _) _ _ _ _ _)) (by rw [HC1.out]; rfl)
    · have HO := Lib.hid (one_char (r := r) hl hd h34 h47 hsg)
      rw [← HA.out] at HO
      have HI := Lib.hid (fun W => gsign_no ha0 ha1 hsg W)
      clear hl hd hsg h34 h47
      go_wp2_with (first
        | (go_at_call 74; ((with_reducible refine (HS.out _).mono ?_); rintro e w' ⟨rfl, rfl⟩))
        | (go_at_call 77; ((with_reducible refine (HD.out _).mono ?_); rintro e w' ⟨rfl, rfl⟩))
        | (go_at_call 82; ((refine (HI.out _).mono ?_); rintro e w6 ⟨rfl, rfl⟩))
        | (go_at_call 78; (refine (HFA.out _ (by exact KS.out) _).mono ?_); rintro e w7 ⟨rfl, q, rfl⟩))
      refine tok_ret rfl rfl rfl (by rw [hdr]; exact KR.out) ?_
      exact TkPost.ofBad hE HO.out (tok_end0 HB.out hB (drN (R0.out.bel) _) (Nat.le_refl _) _ _ _ _) rfl
end Go.Proofs.YtdncjhffniepbaaGreatDoor.Lx
