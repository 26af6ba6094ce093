/-
  Several texts, one behind the other: GrHb.
-/
import Derived.Test.YtdncjhffniepbaaGreatDoorM6
import Derived.RegionDies
/- (GrHb)
  Layer 6, the program: an element of a ladder: the walk (five minutes).
-/
namespace Go.Proofs.YtdncjhffniepbaaGreatDoor.Lx
open Go.RowKit

set_option maxHeartbeats 4000000 in
set_option maxRecDepth 100000 in
theorem grung_ex {w : World} {q g off : Nat} {ts : List Tok} {a : Nat} (h : GP w q g off ts a) (hT : TsOk ts) {t2 : Tok} (ht2 : ts[a]? = some t2) {j bx by' B n : Nat} {x : J15} {out : List (Int × Int)} (hrow : JRow w j x) (hbox : w.cell? ⟨bx, 0, none⟩ = some (.pointer (some ⟨j, 0, none⟩))) (hboy : w.cell? ⟨by', 0, none⟩ = some (.pointer (some ⟨q, 0, none⟩)))
    (hown : XOwn w 115 2 B x.lad n (rungCells out)) (hn : n ≤ 3000) (hds : q ≠ j ∧ g ≠ j ∧ q < B ∧ g < B ∧ j < B) (hbq : bx ≠ q) (hyq : by' ≠ q) (hbB : bx < B) (hyB : by' < B)
    (hB : B ≤ w.heap.size) (tk tl tc : Int) (s : ByteArray) :
    Calls Tryz.prog 124 #[.agg #[.int .i64 tk, .string s, .int .i64 tl, .int .i64 tc], .pointer (some ⟨bx, 0, none⟩), .pointer (some ⟨by', 0, none⟩)] w (RungPost w q g off ts j B n x out s (numF (ch (bytesOf t2.text))) tl tc (readF ts 2 a)) := by
  have HDS := Lib.hid hds
  have B0 := Lib.hid (balloc w (TokB tk s tl tc))
  have K0 := Lib.hid (heap_alloc_new w (TokB tk s tl tc))
  have KC := Lib.hid K0.out
  have t0 := cell_of_row _ _ 0 _ _ _ K0.out
  have t1 := cell_of_row _ _ 1 _ _ _ K0.out
  have t2' := cell_of_row _ _ 2 _ _ _ K0.out
  have t3 := cell_of_row _ _ 3 _ _ _ K0.out
  have hon : out.length = n := by have := hown.1; rw [rungCells_length] at this; omega
  obtain ⟨A, c, hA⟩ := xown_form hown
  obtain ⟨nm, run, env, needs, hr, rd, rs, base, cap, stb, bur, win, lad, line, col⟩ := x
  simp only at hA
  subst hA
  have PH := Lib.hid h
  have JH := Lib.hid hrow
  have BX := Lib.hid hbox
  have BY := Lib.hid hboy
  have OH := Lib.hid hown
  have hst : Hid (numF (ch (bytesOf t2.text)) = numF (ch (bytesOf t2.text))) := Lib.hid rfl
  have HNU := Lib.hid (fun (W : World) (hW : GP W q g off ts a) => gnumber_ex hW hT.nums ht2)
  generalize numF (ch (bytesOf t2.text)) = nr at *
  have hqw := h.qlt
  have hgw := h.glt
  have hjw := heap_lt hrow
  have hbw : bx < w.heap.size := World.block_lt_of_cell? w _ hbox
  have hyw : by' < w.heap.size := World.block_lt_of_cell? w _ hboy
  clear h hT ht2 hrow hbox hboy hown hds hst
  generalize hSG : sigF s = sg at *
  have HSG := Lib.hid hSG
  have HS := Lib.hid (fun W => gsignal_ex s W)
  rw [hSG] at HS
  by_cases h0 : sg = 0
  · subst h0
    go_enter Tryz.func124, Tryz.ntmps124
    go_wp2_with (first
      | (go_at_call 28; ((with_reducible refine (HS.out _).mono ?_); rintro e w1 ⟨rfl, hb1⟩; have B1 := Lib.hid hb1; have K1 := (hb1.block _ (heap_lt KC.out)).trans KC.out; have d0 := cell_of_row _ _ 0 _ _ _ K1; have d1 := cell_of_row _ _ 1 _ _ _ K1; have d2 := cell_of_row _ _ 2 _ _ _ K1; have d3 := cell_of_row _ _ 3 _ _ _ K1; clear hb1 K1))
      | (go_at_call 61; ((with_reducible refine (gfail_ex _ _ _ _ _ _).mono ?_); rintro e wf ⟨rfl, hbf⟩; have BF := Lib.hid hbf; clear hbf)))
    exact ⟨rfl, ((GrP.of_below B0.out).trans (GrP.of_below B1.out)).trans (GrP.of_below BF.out), fun _ => rfl, fun e => absurd HSG.out e⟩
  · have h0b : (sg == 0) = false := by simp [h0]
    have SIG := Lib.hid (show Lx.sigF s = sg from HSG.out)
    have hoB : ∀ k, k < B → some k ≠ A.map (·.block) := fun k hk e => by
      have := (xown_block OH.out k (by rw [show (Value.slice A n c).ownBlock = A.map (·.block) by cases A <;> rfl]; exact e.symm)).1
      omega
    have NB := Lib.hid (show some bx ≠ A.map (·.block) from hoB bx hbB)
    have NY := Lib.hid (show some by' ≠ A.map (·.block) from hoB by' hyB)
    have NJ := Lib.hid (show some j ≠ A.map (·.block) from hoB j HDS.out.2.2.2.2)
    have NQ := Lib.hid (show some q ≠ A.map (·.block) from hoB q HDS.out.2.2.1)
    have NG := Lib.hid (show some g ≠ A.map (·.block) from hoB g HDS.out.2.2.2.1)
    have QB := Lib.hid (show ¬ bx = q from hbq)
    have QY := Lib.hid (show ¬ by' = q from hyq)
    have QJ := Lib.hid (show ¬ j = q from fun e => HDS.out.1 e.symm)
    have NO := Lib.hid (show ∀ k, (Value.slice A n c).ownBlock = some k → ¬ k = q from fun k e => by have q1 := (xown_block OH.out k e).1; have q2 := HDS.out.2.2.1; omega)
    clear hoB
    cases hst : readF ts 2 a with
    | error f =>
      have HRD := Lib.hid hst
      clear hst
      go_enter Tryz.func124, Tryz.ntmps124
      go_wp2_with (go_at_call 28; ((with_reducible refine (HS.out _).mono ?_); rintro e w1 ⟨rfl, hb1⟩; have B1 := Lib.hid (B0.out.trans (hb1.mono B0.out.size)); clear hb1))
      have b1 := cell_in B1.out BX.out
      have y1 := cell_in B1.out BY.out
      have J1 := Lib.hid (JH.out.below B1.out)
      have j1 := cell_of_row _ _ 12 _ _ _ J1.out
      have P1 := Lib.hid (PH.out.below B1.out)
      clear t0 t1 t2' t3
      go_region_dies
      all_goals ((refine (HNU.out _ (P1.out.below (Below.refl _ _).drew)).mono ?_); rintro e w2 ⟨hg2, hst⟩; rw [HRD.out] at hst; subst hst; have G2 := (GrP.of_below (P := fun k => k = q) (Below.refl w1.heap.size w1).drew).trans hg2)
      all_goals exact ⟨rfl, (GrP.of_below B1.out).trans (G2.mono (fun k _ e => .inl e)), fun e => absurd e (by rw [SIG.out]; exact h0), fun _ => rfl⟩
    | ok a' =>
      have HRD := Lib.hid hst
      clear hst
      go_enter Tryz.func124, Tryz.ntmps124
      go_wp2_with (go_at_call 28; ((with_reducible refine (HS.out _).mono ?_); rintro e w1 ⟨rfl, hb1⟩; have B1 := Lib.hid (B0.out.trans (hb1.mono B0.out.size)); clear hb1))
      have b1 := cell_in B1.out BX.out
      have y1 := cell_in B1.out BY.out
      have J1 := Lib.hid (JH.out.below B1.out)
      have j1 := cell_of_row _ _ 12 _ _ _ J1.out
      have P1 := Lib.hid (PH.out.below B1.out)
      have O1 := Lib.hid (xown_below OH.out B1.out)
      clear t0 t1 t2' t3
      clear HS BX BY PH JH OH B0 K0 KC hqw hgw hjw hbw hyw HSG h0b hSG
      have HNU2 := Lib.hid (HNU.out _ (P1.out.below (Below.refl w1.heap.size w1).drew))
      rw [HRD.out] at HNU2
      clear HNU HRD P1
      go_region_law (first
        | (go_simp; go_at_call 110; ((refine (HNU2.out).mono ?_); rintro e w2 ⟨hg2, rfl, hp2⟩; have hgd := (GrP.of_below (P := fun k => k = q) (Below.refl w1.heap.size w1).drew).trans hg2; have G2 := Lib.hid (GrP.trans (P := fun k => k = q) (GrP.of_below B1.out) hgd); have P2 := Lib.hid hp2; have b2 := cell_grp hgd b1 QB.out; have y2 := cell_grp hgd y1 QY.out; have J2 := Lib.hid ((hgd.block j (heap_lt J1.out) QJ.out).trans J1.out); have j2 := cell_of_row _ _ 12 _ _ _ J2.out; have O2 := Lib.hid (xown_grp O1.out hgd NO.out); have hb2 := balloc w2 (.cells #[.int .i64 sg, .int .u64 nr] 115); have b2' := cell_in hb2 b2; have j2' := cell_in hb2 (cell_of_row _ _ 12 _ _ _ J2.out); clear hg2 hp2 hgd hb2 b1 y1 j1))
        | (refine step_app_x rfl (.tmp 16) (.tmp 21) elRung rfl rfl (xown_below O2.out (balloc _ _)) [.int .i64 sg, .int .u64 nr] rfl (by simp [Value.oneCell']) w2.heap.size 1 0 rfl (two_cell w2 _ _ _) (by omega) (by omega) (by have := G2.out.size; simp; omega) ?_; intro v5 w5 hO hF; obtain ⟨A5, c5, rfl⟩ := xown_form hO; have O5 := Lib.hid hO; have F5 := Lib.hid hF; have b5 := appC b2 hF NB.out; have J5 := Lib.hid (appH J2.out hF NJ.out); have c5' := cell_of_row _ _ 12 _ _ _ J5.out; have f5 := frozen_of_row _ _ 12 _ _ J5.out; clear hO hF b2 j2 b2' j2'))
      all_goals (go_end0; exact ⟨(appF (P := fun k => k = q ∨ PN j (.slice A n c) k) (G2.out.mono (fun k _ e => .inl e)) F5.out (fun k e => .inr (.inr (.inr e)))).set (.inr (.inr (.inl rfl))) 12 _, fun e => absurd e (by rw [SIG.out]; exact h0), fun _ => ⟨rfl, (appG P2.out F5.out NQ.out NG.out).set (fun e => HDS.out.1 e.symm) (fun e => HDS.out.2.1 e.symm) _ _, _, JRow.set_lad (x := ⟨nm, run, env, needs, hr, rd, rs, base, cap, stb, bur, win, .slice A n c, line, col⟩) J5.out _, by rw [rungCells_snoc, SIG.out]; exact xown_grown O5.out (grown_set _ _ _) (fun g e he => by have q1 := (xown_block O5.out g e).1; have q2 := HDS.out.2.2.2.2; simp only [Option.some.injEq] at he; omega)⟩⟩)
end Go.Proofs.YtdncjhffniepbaaGreatDoor.Lx
