/-
  Several texts, one behind the other: GrHc, GrI, GrIb, GrQ, GrR, GrS, GrN, GrT, GrU, GrV, GrW, GrX, GrY, GrZ.
-/
import Derived.Test.YtdncjhffniepbaaGreatDoorM7
import Derived.Test.YtdncjhffniepbaaGreatDoorM6
import Derived.Maps.OwnSet
import Derived.Maps.Views
import Derived.StringKeys
import Derived.Defers
import Derived.Recover
/- (GrHc)
  Layer 6, the program: an element of a ladder, and the place behind it.
-/
namespace Go.Proofs.YtdncjhffniepbaaGreatDoor.Lx
open Go.RowKit

/-- An element of a ladder: behind it is the next place, or the fault. -/
theorem grung_el {w : World} {q g off : Nat} {ts : List Tok} {a f : Nat} {out : List (Int × Int)} {R : Except Fau (List (Int × Int) × Nat)} (h : GP w q g off ts (a + 1)) (hF : ladderF ts (f + 1) out a = R) {t : Tok} (ht : ts[a]? = some t) (hk : t.kind = 1) (hlim : out.length < 5)
    {j bx by' B : Nat} {x : J15} {v : Value} (hrow : JRow w j { x with lad := v }) (hown : XOwn w 115 2 B v out.length (rungCells out)) (hbox : w.cell? ⟨bx, 0, none⟩ = some (.pointer (some ⟨j, 0, none⟩))) (hboy : w.cell? ⟨by', 0, none⟩ = some (.pointer (some ⟨q, 0, none⟩)))
    (hds : q ≠ j ∧ g ≠ j ∧ q < B ∧ g < B ∧ j < B) (hbB : bx < B) (hyB : by' < B) (hbq : bx ≠ q) (hyq : by' ≠ q) (hT : TsOk ts) (hB : B ≤ w.heap.size) :
    Calls Tryz.prog 124 #[t.val, .pointer (some ⟨bx, 0, none⟩), .pointer (some ⟨by', 0, none⟩)] w fun en w' => GrP (PQ q j B) w w' ∧
      ((∃ a' out' v', en = .returned (.tuple #[]) ∧ GP w' q g off ts a' ∧ a < a' ∧ JRow w' j { x with lad := v' } ∧ XOwn w' 115 2 B v' out'.length (rungCells out') ∧ out'.length = out.length + 1 ∧ afterL ts f out' a' R) ∨ (∃ e ex ey, en = fauE e ex ey ∧ R = .error (e, ex, ey))) := by
  obtain ⟨t2, ht2, _⟩ := h.now
  refine (grung_ex h hT ht2 hrow hbox hboy hown (by omega) hds hbq hyq hbB hyB hB t.kind t.line t.col (bytesOf t.text)).mono ?_
  rintro en w' ⟨h1, h2, h3⟩
  obtain ⟨_, _, s3, s4⟩ := ladderF_step hT hF ht
  have hv : ∀ k, v.ownBlock = some k → B ≤ k := fun k e => (xown_block hown k e).1
  have hg : GrP (PQ q j B) w w' := h1.mono (fun k _ e => e.elim .inl (fun e => e.elim (fun e => .inr (.inl e)) (fun e => .inr (.inr (hv k e)))))
  refine ⟨hg, ?_⟩
  have htx : txtAt ts (a + 1) = bytesOf t2.text := by unfold txtAt; rw [ht2]; rfl
  by_cases hm : sigF (bytesOf t.text) = 0
  · exact .inr ⟨_, _, _, h2 hm, s3 hk hlim hm⟩
  · have h3' := h3 hm
    obtain ⟨s5, s6⟩ := s4 hk hlim hm
    cases hr : readF ts 2 (a + 1) with
    | error e =>
      rw [hr] at h3'
      exact .inr ⟨_, _, _, h3', s5 e hr⟩
    | ok n =>
      rw [hr] at h3'
      obtain ⟨e1, e2, v', e3, e4⟩ := h3'
      have hn := (readF_ok hr).1
      have hs6 := s6 n hr
      rw [htx] at hs6
      exact .inl ⟨n, _, v', e1, e2, by omega, e3, by rw [List.length_append]; exact e4, by simp, hs6⟩
end Go.Proofs.YtdncjhffniepbaaGreatDoor.Lx
/- (GrI)
  Layer 6, the program: A ladder: the walk.
-/
namespace Go.Proofs.YtdncjhffniepbaaGreatDoor.Lx
open Go.RowKit

set_option maxHeartbeats 4000000 in
set_option maxRecDepth 100000 in
theorem gladder_list {w : World} {q g off : Nat} {ts : List Tok} {a : Nat} (h : GP w q g off ts a) (hT : TsOk ts) {j bx by' B : Nat} {x : J15} (hrow : JRow w j x) (hnil : x.lad = .slice none 0 0) (hbox : w.cell? ⟨bx, 0, none⟩ = some (.pointer (some ⟨j, 0, none⟩)))
    (hbq : bx ≠ q) (hbj : bx ≠ j) (hbB : bx < B) (hby : w.cell? ⟨by', 0, none⟩ = some (.pointer (some ⟨q, 0, none⟩))) (hyq : by' ≠ q) (hyj : by' ≠ j) (hyB : by' < B) (hds : q ≠ j ∧ g ≠ j ∧ q < B ∧ g < B ∧ j < B) (hB : B ≤ w.heap.size) :
    Calls Tryz.prog 120 #[.pointer (some ⟨q, 0, none⟩), .int .i64 5, .func (Fn.func 124) #[] #[.pointer (some ⟨bx, 0, none⟩), .pointer (some ⟨by', 0, none⟩)]] w (LadderPost w q g off ts j B x (ladderF ts (ts.length + 1) [] a)) := by
  have HH := Lib.hid h
  have HROW := Lib.hid hrow
  have HBX := Lib.hid hbox
  have HB1 := Lib.hid hbq
  have HB2 := Lib.hid hbj
  have HB3 := Lib.hid hbB
  have HDS := Lib.hid hds
  have HBW := Lib.hid hB
  have HJQ := Lib.hid (show ¬ (fun k => k = q) j from fun e => hds.1 e.symm)
  have HBY := Lib.hid hby
  have HB4 := Lib.hid hyq
  have HB5 := Lib.hid hyj
  have HB6 := Lib.hid hyB
  have hnil2 := Lib.hid (show x = { x with lad := .slice none 0 0 } by rw [← hnil])
  generalize hR0 : ladderF ts (ts.length + 1) [] a = R
  have HR0 := Lib.hid hR0
  clear h hrow hbox hbq hbj hbB hds hB hR0 hnil
  go_enter Tryz.func120, Tryz.ntmps120
  go_wp2_with fail
  go_loopg [6] (ts.length + 1) (fun g' nv wr => ∃ (a1 f : Nat) (out : List (Int × Int)) (v : Value), nv = .int .i64 out.length ∧ GP wr q g off ts a1 ∧ GrP (PQ q j B) w wr ∧ JRow wr j { x with lad := v } ∧ XOwn wr 115 2 B v out.length (rungCells out) ∧ ((out = [] ∧ ladderF ts (f + 1) out a1 = R) ∨ (out ≠ [] ∧ afterL ts (f + 1) out a1 R)) ∧ out.length ≤ 5 ∧ ts.length ≤ a1 + f + 1 ∧ ts.length - a1 + 1 ≤ g')
  case atStart => exact ⟨a, ts.length, [], .slice none 0 0, rfl, HH.out, GrP.refl _ _, (by rw [← hnil2.out]; exact HROW.out), World.ownsRow_nil _ _ _ _, .inl ⟨rfl, HR0.out⟩, by simp, by omega, by omega⟩
  case round =>
    obtain ⟨a1, f, out, v, rfl, hp, hgr, hjr, hown, hst, hl, hf, hg⟩ := hrel
    obtain ⟨wo, rfl⟩ : ∃ wo : World, wo = wr := ⟨_, rfl⟩
    have PC := Lib.hid hp
    have GC := Lib.hid hgr
    have JC := Lib.hid hjr
    have OC := Lib.hid hown
    clear hgr hjr hown
    rcases hst with ⟨h0, hF⟩ | ⟨h0, hF⟩
    · subst h0
      obtain ⟨⟨tk, tt, tl, tc⟩, ht, htl⟩ := hp.now
      have HT := Lib.hid ht
      have HST := ladderF_step hT hF ht
      have HN := Lib.hid hF
      have hlt := hp.lt
      by_cases hk : tk = 1
      · subst hk
        have HRD := Lib.hid (show readF ts 1 a1 = .ok (a1 + 1) by rw [readF_eq ht]; exact if_pos rfl)
        have HL := Lib.hid (show ([] : List (Int × Int)).length < 5 by simp)
        clear ht hF hp HST
        go_wp2_with (first
        | (go_at_call 87; ((with_reducible refine (gread_ex PC.out HT.out 1 (by decide)).mono ?_); rintro e wn ⟨hgn, hst⟩; rw [HRD.out] at hst; obtain ⟨rfl, hpn⟩ := hst; have K1 := heap_alloc_new wn (TokB 1 (bytesOf tt) tl tc); have d0 := cell_of_row _ _ 0 _ _ _ K1; have d1 := cell_of_row _ _ 1 _ _ _ K1; have d2 := cell_of_row _ _ 2 _ _ _ K1; have d3 := cell_of_row _ _ 3 _ _ _ K1; have hgb := hgn.trans (GrP.of_below (balloc wn (TokB 1 (bytesOf tt) tl tc))); have PC := Lib.hid (hpn.below (balloc wn (TokB 1 (bytesOf tt) tl tc))); have GC := Lib.hid (GC.out.trans (hgb.mono (fun k _ e => .inl e))); have JC := Lib.hid ((hgb.block j (heap_lt JC.out) HJQ.out).trans JC.out); have OC := Lib.hid (xown_grp OC.out hgb (fun g9 e9 e => by have q1 := (xown_block OC.out g9 e9).1; have q2 := HDS.out.2.2.1; omega)); clear hgn hgb hpn K1))
        | (go_at_call 124; ((with_reducible refine (grung_el PC.out HN.out HT.out rfl HL.out JC.out OC.out (boxS GC.out HBX.out HB1.out HB2.out HB3.out) (boxS GC.out HBY.out HB4.out HB5.out HB6.out) HDS.out HB3.out HB6.out HB1.out HB4.out hT (Nat.le_trans HBW.out GC.out.size)).mono ?_); rintro e wn ⟨hgn, hst⟩; have GC := Lib.hid (GC.out.trans hgn); clear hgn; rcases hst with ⟨a', out', v', rfl, hp', ha', hj', ho', hl', haf⟩ | ⟨ee, ex, ey, rfl, hR⟩))
        | (go_at_call 61; ((with_reducible refine (gfail_ex _ _ _ _ _ _).mono ?_); rintro e wf ⟨rfl, hbf⟩; have BF := Lib.hid hbf; clear hbf)))
        · skip
          have hf2 : ∃ f2, f = f2 + 1 := ⟨f - 1, by have := hp'.lt; omega⟩
          obtain ⟨f2, rfl⟩ := hf2

          go_roundg (ts.length - a' + 1)
          case measure => have := hp'.lt; omega
          case rel => exact ⟨a', f2, out', v', by first | rfl | (simp only [hl']; rfl), hp', GC.out, hj', ho', .inr ⟨fun e => by rw [e] at hl'; simp at hl', haf⟩, by rw [hl']; simp, by have := hp'.lt; omega, Nat.le_refl _⟩
        · first | exact ⟨rfl, GC.out, rfl⟩ | (rw [hR]; exact ⟨rfl, GC.out, rfl⟩)
      · have HRD := Lib.hid (show readF ts 1 a1 = .error (60, tl, tc) by rw [readF_eq ht]; exact if_neg hk)
        have hR := Lib.hid (HST.1 hk)
        clear HST
        go_wp2_with (go_at_call 87; ((with_reducible refine (gread_ex PC.out HT.out 1 (by decide)).mono ?_); rintro e wn ⟨hgn, hst⟩; rw [HRD.out] at hst; subst hst; have GC := Lib.hid (GC.out.trans (hgn.mono (fun k _ e => .inl e))); clear hgn))
        rw [hR.out]; exact ⟨rfl, GC.out, rfl⟩
    · have hop : 0 < out.length := List.length_pos_iff.2 h0
      have hz : ((out.length : Int) == 0) = false := by simp; intro e; exact h0 e
      have hpos : (0 : Int) < (out.length : Int) := by omega
      by_cases hc : isF ts 5 ⟨#[44]⟩ a1
      · have hF2 := hF.1 hc
        have HC := Lib.hid hc
        obtain ⟨t5, ht5, hk5, hb5⟩ := hc
        have HWD := Lib.hid (show wordF ts 5 ⟨#[44]⟩ a1 = .ok (a1 + 1) by unfold wordF; rw [ht5]; exact if_pos ⟨hk5, hb5⟩)
        have hlt1 : a1 + 1 < ts.length := gp_more hp ht5 (by omega)
        obtain ⟨⟨tk, tt, tl, tc⟩, ht⟩ : ∃ t, ts[a1 + 1]? = some t := ⟨_, List.getElem?_eq_getElem hlt1⟩
        have HT := Lib.hid ht
        have HST := ladderF_step hT hF2 ht
        have HN := Lib.hid hF2
        by_cases hk : tk = 1
        · subst hk
          have HRD := Lib.hid (show readF ts 1 (a1 + 1) = .ok (a1 + 1 + 1) by rw [readF_eq ht]; exact if_pos rfl)
          by_cases hlim : out.length = 5
          · have hR := Lib.hid (HST.2.1 rfl hlim)
            have hlb : ((out.length : Int) == 5) = true := by simp [hlim]
            clear ht hF hF2 hp HST ht5 hk5 hb5
            go_wp2_with (first
        | (go_at_call 88; ((with_reducible refine (gfollows_ex PC.out 5 ⟨#[44]⟩).mono ?_); rintro e wn ⟨r, rfl, hr, hb⟩; obtain rfl : r = true := hr.2 HC.out; clear hr; have PC := Lib.hid (PC.out.below hb); have GC := Lib.hid (GC.out.trans (GrP.of_below hb)); have JC := Lib.hid ((hb.block j (heap_lt JC.out)).trans JC.out); have OC := Lib.hid (xown_below OC.out hb); clear hb))
        | (go_at_call 59; ((with_reducible refine (gexpect_ex PC.out ⟨#[44]⟩ 5 (by decide)).mono ?_); rintro e wn ⟨hgn, hst⟩; rw [HWD.out] at hst; obtain ⟨rfl, hpn⟩ := hst; have PC := Lib.hid hpn; have GC := Lib.hid (GC.out.trans (hgn.mono (fun k _ e => .inl e))); have JC := Lib.hid ((hgn.block j (heap_lt JC.out) HJQ.out).trans JC.out); have OC := Lib.hid (xown_grp OC.out hgn (fun g9 e9 e => by have q1 := (xown_block OC.out g9 e9).1; have q2 := HDS.out.2.2.1; omega)); clear hgn hpn))
        | (go_at_call 87; ((with_reducible refine (gread_ex PC.out HT.out 1 (by decide)).mono ?_); rintro e wn ⟨hgn, hst⟩; rw [HRD.out] at hst; obtain ⟨rfl, hpn⟩ := hst; have K1 := heap_alloc_new wn (TokB 1 (bytesOf tt) tl tc); have d0 := cell_of_row _ _ 0 _ _ _ K1; have d1 := cell_of_row _ _ 1 _ _ _ K1; have d2 := cell_of_row _ _ 2 _ _ _ K1; have d3 := cell_of_row _ _ 3 _ _ _ K1; have hgb := hgn.trans (GrP.of_below (balloc wn (TokB 1 (bytesOf tt) tl tc))); have PC := Lib.hid (hpn.below (balloc wn (TokB 1 (bytesOf tt) tl tc))); have GC := Lib.hid (GC.out.trans (hgb.mono (fun k _ e => .inl e))); have JC := Lib.hid ((hgb.block j (heap_lt JC.out) HJQ.out).trans JC.out); have OC := Lib.hid (xown_grp OC.out hgb (fun g9 e9 e => by have q1 := (xown_block OC.out g9 e9).1; have q2 := HDS.out.2.2.1; omega)); clear hgn hgb hpn K1))
        | (go_at_call 124; ((with_reducible refine (grung_el PC.out HN.out HT.out rfl HL.out JC.out OC.out (boxS GC.out HBX.out HB1.out HB2.out HB3.out) (boxS GC.out HBY.out HB4.out HB5.out HB6.out) HDS.out HB3.out HB6.out HB1.out HB4.out hT (Nat.le_trans HBW.out GC.out.size)).mono ?_); rintro e wn ⟨hgn, hst⟩; have GC := Lib.hid (GC.out.trans hgn); clear hgn; rcases hst with ⟨a', out', v', rfl, hp', ha', hj', ho', hl', haf⟩ | ⟨ee, ex, ey, rfl, hR⟩))
        | (go_at_call 61; ((with_reducible refine (gfail_ex _ _ _ _ _ _).mono ?_); rintro e wf ⟨rfl, hbf⟩; have BF := Lib.hid hbf; clear hbf)))
            rw [hR.out]; exact ⟨rfl, GC.out.trans (GrP.of_below BF.out), rfl⟩
          · have HL := Lib.hid (show out.length < 5 by omega)
            have hlb : ((out.length : Int) == 5) = false := by simp; omega
            clear ht hF hF2 hp HST ht5 hk5 hb5
            go_wp2_with (first
        | (go_at_call 88; ((with_reducible refine (gfollows_ex PC.out 5 ⟨#[44]⟩).mono ?_); rintro e wn ⟨r, rfl, hr, hb⟩; obtain rfl : r = true := hr.2 HC.out; clear hr; have PC := Lib.hid (PC.out.below hb); have GC := Lib.hid (GC.out.trans (GrP.of_below hb)); have JC := Lib.hid ((hb.block j (heap_lt JC.out)).trans JC.out); have OC := Lib.hid (xown_below OC.out hb); clear hb))
        | (go_at_call 59; ((with_reducible refine (gexpect_ex PC.out ⟨#[44]⟩ 5 (by decide)).mono ?_); rintro e wn ⟨hgn, hst⟩; rw [HWD.out] at hst; obtain ⟨rfl, hpn⟩ := hst; have PC := Lib.hid hpn; have GC := Lib.hid (GC.out.trans (hgn.mono (fun k _ e => .inl e))); have JC := Lib.hid ((hgn.block j (heap_lt JC.out) HJQ.out).trans JC.out); have OC := Lib.hid (xown_grp OC.out hgn (fun g9 e9 e => by have q1 := (xown_block OC.out g9 e9).1; have q2 := HDS.out.2.2.1; omega)); clear hgn hpn))
        | (go_at_call 87; ((with_reducible refine (gread_ex PC.out HT.out 1 (by decide)).mono ?_); rintro e wn ⟨hgn, hst⟩; rw [HRD.out] at hst; obtain ⟨rfl, hpn⟩ := hst; have K1 := heap_alloc_new wn (TokB 1 (bytesOf tt) tl tc); have d0 := cell_of_row _ _ 0 _ _ _ K1; have d1 := cell_of_row _ _ 1 _ _ _ K1; have d2 := cell_of_row _ _ 2 _ _ _ K1; have d3 := cell_of_row _ _ 3 _ _ _ K1; have hgb := hgn.trans (GrP.of_below (balloc wn (TokB 1 (bytesOf tt) tl tc))); have PC := Lib.hid (hpn.below (balloc wn (TokB 1 (bytesOf tt) tl tc))); have GC := Lib.hid (GC.out.trans (hgb.mono (fun k _ e => .inl e))); have JC := Lib.hid ((hgb.block j (heap_lt JC.out) HJQ.out).trans JC.out); have OC := Lib.hid (xown_grp OC.out hgb (fun g9 e9 e => by have q1 := (xown_block OC.out g9 e9).1; have q2 := HDS.out.2.2.1; omega)); clear hgn hgb hpn K1))
        | (go_at_call 124; ((with_reducible refine (grung_el PC.out HN.out HT.out rfl HL.out JC.out OC.out (boxS GC.out HBX.out HB1.out HB2.out HB3.out) (boxS GC.out HBY.out HB4.out HB5.out HB6.out) HDS.out HB3.out HB6.out HB1.out HB4.out hT (Nat.le_trans HBW.out GC.out.size)).mono ?_); rintro e wn ⟨hgn, hst⟩; have GC := Lib.hid (GC.out.trans hgn); clear hgn; rcases hst with ⟨a', out', v', rfl, hp', ha', hj', ho', hl', haf⟩ | ⟨ee, ex, ey, rfl, hR⟩))
        | (go_at_call 61; ((with_reducible refine (gfail_ex _ _ _ _ _ _).mono ?_); rintro e wf ⟨rfl, hbf⟩; have BF := Lib.hid hbf; clear hbf)))
            · skip
              obtain ⟨f2, rfl⟩ : ∃ f2, f = f2 + 1 := ⟨f - 1, by have := hp'.lt; omega⟩
              go_roundg (ts.length - a' + 1)
              case measure => have := hp'.lt; omega
              case rel => exact ⟨a', f2, out', v', by rw [hl']; rfl, hp', GC.out, hj', ho', .inr ⟨fun e => by rw [e] at hl'; simp at hl', haf⟩, by rw [hl']; have := HL.out; omega, by have := hp'.lt; omega, Nat.le_refl _⟩
            · first | exact ⟨rfl, GC.out, rfl⟩ | (rw [hR]; exact ⟨rfl, GC.out, rfl⟩)
        · have HRD := Lib.hid (show readF ts 1 (a1 + 1) = .error (60, tl, tc) by rw [readF_eq ht]; exact if_neg hk)
          have hR := Lib.hid (HST.1 hk)
          clear ht hF hF2 hp HST ht5 hk5 hb5
          go_wp2_with (first
        | (go_at_call 88; ((with_reducible refine (gfollows_ex PC.out 5 ⟨#[44]⟩).mono ?_); rintro e wn ⟨r, rfl, hr, hb⟩; obtain rfl : r = true := hr.2 HC.out; clear hr; have PC := Lib.hid (PC.out.below hb); have GC := Lib.hid (GC.out.trans (GrP.of_below hb)); clear hb))
        | (go_at_call 59; ((with_reducible refine (gexpect_ex PC.out ⟨#[44]⟩ 5 (by decide)).mono ?_); rintro e wn ⟨hgn, hst⟩; rw [HWD.out] at hst; obtain ⟨rfl, hpn⟩ := hst; have PC := Lib.hid hpn; have GC := Lib.hid (GC.out.trans (hgn.mono (fun k _ e => .inl e))); clear hgn hpn))
        | (go_at_call 87; ((with_reducible refine (gread_ex PC.out HT.out 1 (by decide)).mono ?_); rintro e wn ⟨hgn, hst⟩; rw [HRD.out] at hst; subst hst; have GC := Lib.hid (GC.out.trans (hgn.mono (fun k _ e => .inl e))); clear hgn)))
          rw [hR.out]; exact ⟨rfl, GC.out, rfl⟩
      · have hR := Lib.hid (hF.2 hc)
        have HC := Lib.hid hc
        clear hF hp hc
        go_wp2_with (go_at_call 88; ((with_reducible refine (gfollows_ex PC.out 5 ⟨#[44]⟩).mono ?_); rintro e wn ⟨r, rfl, hr, hb⟩; obtain rfl : r = false := (by cases r; rfl; exact absurd (hr.1 rfl) HC.out); clear hr; have PC := Lib.hid (PC.out.below hb); have GC := Lib.hid (GC.out.trans (GrP.of_below hb)); have JC := Lib.hid ((hb.block j (heap_lt JC.out)).trans JC.out); have OC := Lib.hid (xown_below OC.out hb); clear hb))
        go_end0
        rw [hR.out]; exact ⟨GC.out, rfl, PC.out, _, JC.out, OC.out⟩
end Go.Proofs.YtdncjhffniepbaaGreatDoor.Lx
/- (GrIb)
  Layer 6, the program: ladder.
-/
namespace Go.Proofs.YtdncjhffniepbaaGreatDoor.Lx
open Go.RowKit

set_option maxRecDepth 100000 in
theorem gladder_ex {w : World} {q g off : Nat} {ts : List Tok} {a : Nat} (h : GP w q g off ts a) (hT : TsOk ts) {j : Nat} {x : J15} (hrow : JRow w j x) (hds : q ≠ j ∧ g ≠ j) :
    Calls Tryz.prog 112 #[.pointer (some ⟨q, 0, none⟩), .pointer (some ⟨j, 0, none⟩)] w (LadderPost w q g off ts j w.heap.size x (ladderF ts (ts.length + 1) [] a)) := by
  have hmf : ∀ (fn : Fn) (first cap : Array Value) (w : World), (Instr.makeFunc fn first cap).run Tryz.prog w = .ok (.func fn first cap) w := fun _ _ _ _ => rfl
  have hqw := h.qlt
  have hgw := h.glt
  have hjw := heap_lt hrow
  obtain ⟨ws, hws⟩ : ∃ ws, ws = w.setCell ⟨j, 12, none⟩ (.slice none 0 0) := ⟨_, rfl⟩
  have hss : ws.heap.size = w.heap.size := by rw [hws]; simp
  have hp0 : GP ws q g off ts a := by rw [hws]; exact h.set hds.1.symm hds.2.symm 12 _
  have jr0 : JRow ws j { x with lad := .slice none 0 0 } := by rw [hws]; exact JRow.set_lad hrow _
  have G9 : GrP (PQ q j w.heap.size) w ws := by rw [hws]; exact (GrP.refl _ w).set (R := j) (.inr (.inr (.inl rfl))) 12 _
  have B1 := balloc ws (.cells #[.pointer (some ⟨q, 0, none⟩)] 108)
  have B2 := balloc (ws.alloc (.cells #[.pointer (some ⟨q, 0, none⟩)] 108)) (.cells #[.pointer (some ⟨j, 0, none⟩)] 151)
  have BB := Lib.hid (B1.trans (B2.mono B1.size))
  have k1 := heap_alloc_old (.cells #[.pointer (some ⟨j, 0, none⟩)] 151) (heap_alloc_new ws (.cells #[.pointer (some ⟨q, 0, none⟩)] 108))
  have k2 := heap_alloc_new (ws.alloc (.cells #[.pointer (some ⟨q, 0, none⟩)] 108)) (.cells #[.pointer (some ⟨j, 0, none⟩)] 151)
  have hs1 : (ws.alloc (.cells #[.pointer (some ⟨q, 0, none⟩)] 108)).heap.size = ws.heap.size + 1 := by simp
  have hs2 : ((ws.alloc (.cells #[.pointer (some ⟨q, 0, none⟩)] 108)).alloc (.cells #[.pointer (some ⟨j, 0, none⟩)] 151)).heap.size = ws.heap.size + 2 := by simp
  rw [hs1] at k2
  have c12 := cell_of_row _ _ 12 _ _ _ hrow
  have f12 := frozen_of_row _ _ 12 _ _ hrow
  have HL := Lib.hid (gladder_list (hp0.below BB.out) hT (bx := ws.heap.size + 1) (by' := ws.heap.size) (B := ws.heap.size + 2) (jr0.below BB.out) rfl (cell_of_row _ _ 0 _ _ _ k2) (by omega) (by omega) (by omega)
    (cell_of_row _ _ 0 _ _ _ k1) (by omega) (by omega) (by omega) ⟨hds.1, hds.2, by omega, by omega, by omega⟩ (by omega))
  have G0 := Lib.hid (G9.trans (GrP.of_below BB.out))
  rw [hss] at HL
  subst hws
  clear h hrow hp0 jr0 k1 k2 B1 B2 hs1 hs2 hss BB G9
  generalize ladderF ts (ts.length + 1) [] a = R at *
  rcases R with f | ⟨l, a'⟩
  · go_enter Tryz.func112, Tryz.ntmps112
    go_wp2_with (go_at_call 120; ((with_reducible refine HL.out.mono ?_); rintro e w1 ⟨hg1, rfl⟩; have G1 := Lib.hid hg1; clear hg1))
    exact ⟨rfl, G0.out.trans (G1.out.mono (fun k _ e => e.elim .inl (fun e => e.elim (fun e => .inr (.inl e)) (fun e => .inr (.inr (by omega)))))), rfl⟩
  · go_enter Tryz.func112, Tryz.ntmps112
    go_wp2_with (go_at_call 120; ((with_reducible refine HL.out.mono ?_); rintro e w1 ⟨hg1, rfl, hp, v', hj, ho⟩; have G1 := Lib.hid hg1; have P1 := Lib.hid hp; have J1 := Lib.hid hj; have O1 := Lib.hid ho; clear hg1 hp hj ho))
    go_end0
    exact ⟨G0.out.trans (G1.out.mono (fun k _ e => e.elim .inl (fun e => e.elim (fun e => .inr (.inl e)) (fun e => .inr (.inr (by omega)))))), rfl, P1.out, v', J1.out, xown_mono O1.out (by omega)⟩
end Go.Proofs.YtdncjhffniepbaaGreatDoor.Lx
/- (GrQ)
  Layer 6, the program: an item, stop.
-/
namespace Go.Proofs.YtdncjhffniepbaaGreatDoor.Lx
open Go.RowKit

set_option maxHeartbeats 4000000 in
set_option maxRecDepth 100000 in
theorem gitem_stop {w : World} {q g off : Nat} {ts : List Tok} {a : Nat} (h : GP w q g off ts a) (hT : TsOk ts) {j : Nat} {x : J15} {J : JobS} (hj : JW w j x J) (hqj : q < j - 1) (hgj : g < j - 1) (tk tl tc : Int) {s : ByteArray} (hs1 : (s.toList == [114, 117, 110]) = false) (hs2 : (s.toList == [101, 110, 118]) = false) (hs3 : (s.toList == [110, 101, 101, 100, 115]) = false) (hs4 : (s.toList == [114, 101, 97, 100, 121]) = false) (hs5 : (s.toList == [114, 101, 115, 116, 97, 114, 116]) = false) (hs6 : (s.toList == [98, 97, 99, 107, 111, 102, 102]) = false) (hs7 : (s.toList == [98, 117, 114, 115, 116]) = false) (hs8 : (s.toList == [115, 116, 111, 112]) = true) :
    Calls Tryz.prog 89 #[.pointer (some ⟨q, 0, none⟩), .pointer (some ⟨j, 0, none⟩), .agg #[.int .i64 tk, .string s, .int .i64 tl, .int .i64 tc]] w (ItemPost w q g off ts j x ((ladderF ts (ts.length + 1) [] a).map fun r => ({ J with lad := r.1 }, r.2))) := by
  have B0 := Lib.hid (balloc w (TokB tk s tl tc))
  have K0 := heap_alloc_new w (TokB tk s tl tc)
  have d0 := cell_of_row _ _ 0 _ _ _ K0
  have d1 := cell_of_row _ _ 1 _ _ _ K0
  have d2 := cell_of_row _ _ 2 _ _ _ K0
  have d3 := cell_of_row _ _ 3 _ _ _ K0
  have PH := Lib.hid (h.below B0.out)
  have JH := Lib.hid (hj.below B0.out)
  have HJQ := Lib.hid (show ∀ k, j - 1 ≤ k → ¬ (fun k => k = q) k from fun k hk (e : k = q) => by omega)
  have hq1 : j ≠ q := by omega
  have hg1 : j ≠ g := by omega
  obtain ⟨⟨k1, tt1, l1, c1⟩, ht, htl⟩ := h.now
  have htx : txtAt ts a = bytesOf tt1 := by unfold txtAt; rw [ht]; rfl
  clear h hj K0
  have HL := Lib.hid (gladder_ex PH.out hT JH.out.row ⟨hq1.symm, hg1.symm⟩)
  clear ht htl htx hT
  cases hN : ladderF ts (ts.length + 1) [] a with
  | error f =>
    rw [hN] at HL
    clear hN
    go_enter Tryz.func89, Tryz.ntmps89
    go_wp2_with (go_at_call 112; ((with_reducible refine HL.out.mono ?_); rintro e w1 ⟨hgn, rfl⟩; have G1 := Lib.hid hgn; clear hgn))
    exact ⟨rfl, (GrP.of_below (P := PI q j x.env) B0.out).trans (G1.out.mono (fun k hk e => e.elim .inl (fun e => e.elim (fun e => .inr (.inl e)) (fun e => absurd e (by omega))))), rfl⟩
  | ok r =>
    obtain ⟨l, a'⟩ := r
    rw [hN] at HL
    clear hN
    go_enter Tryz.func89, Tryz.ntmps89
    go_wp2_with (go_at_call 112; ((with_reducible refine HL.out.mono ?_); rintro e w1 ⟨hgn, rfl, hp, v', hr, ho⟩; have G1 := Lib.hid hgn; have P1 := Lib.hid hp; have R1 := Lib.hid hr; have O1 := Lib.hid ho; clear hgn hp hr ho))
    go_end0
    have hP : ∀ r, j + 1 ≤ r → r < (w.alloc (TokB tk s tl tc)).heap.size → ¬ PQ q j (w.alloc (TokB tk s tl tc)).heap.size r := fun r h1 h2 e => by unfold PQ at e; omega
    exact ⟨(GrP.of_below (P := PI q j x.env) B0.out).trans (G1.out.mono (fun k hk e => e.elim .inl (fun e => e.elim (fun e => .inr (.inl e)) (fun e => absurd e (by omega))))), rfl, P1.out, _, R1.out, ⟨JH.out.scal.nm, JH.out.scal.run, JH.out.scal.hr, JH.out.scal.rd, JH.out.scal.rs, JH.out.scal.base, JH.out.scal.cap, JH.out.scal.stb, JH.out.scal.bur, JH.out.scal.win, JH.out.scal.line, JH.out.scal.col⟩,
      xown_grp JH.out.env G1.out (fun r e => hP r (xown_block JH.out.env r e).1 (xown_block JH.out.env r e).2), xown_grp JH.out.needs G1.out (fun r e => hP r (xown_block JH.out.needs r e).1 (xown_block JH.out.needs r e).2), xown_mono O1.out (by have := heap_lt JH.out.row; omega), JH.out.nil⟩

end Go.Proofs.YtdncjhffniepbaaGreatDoor.Lx
/- (GrR)
  Layer 6, the program: an item, env.
-/
namespace Go.Proofs.YtdncjhffniepbaaGreatDoor.Lx
open Go.RowKit

theorem Tryz.info121 : (Tryz.prog.info? 121).map (fun i => (i.zero, i.size, i.bytes)) = some (some (.agg #[.string ⟨#[]⟩, .string ⟨#[]⟩]), 2, 32) := by kernel_rfl
theorem elVar : PElt 69 121 (.agg #[.string ⟨#[]⟩, .string ⟨#[]⟩]) [isStr 10000, isStr 10000] 32 := ⟨Tryz.underlying69, by obtain ⟨i, h1, h2, h3, h4⟩ := info_parts Tryz.info121; exact ⟨i, h1, h2, h3, h4⟩, rfl, by decide⟩
/-- A row elsewhere, behind an append and a write to the job's block. -/
theorem appX {w w' : World} {o : Obj} {A : Option Addr} {n c : Nat} {e : TypeId} {k B : Nat} {v : Value} {m : Nat} {xs : List Value} {j i : Nat} {u : Value} (h : XOwn w e k B v m xs) (hg : (w.alloc o).grownBy w' (Value.slice A n c).ownBlock) (h1 : ∀ r, v.ownBlock = some r → (Value.slice A n c).ownBlock ≠ some r) (h2 : ∀ r, v.ownBlock = some r → r ≠ j) : XOwn (w'.setCell ⟨j, i, none⟩ u) e k B v m xs :=
  xown_grown (xown_grown (xown_below h (balloc w o)) hg h1) (grown_set _ _ _) (fun g e he => h2 g e (by simp only [Option.some.injEq] at he; exact he.symm))
theorem ownBlock_map (A : Option Addr) (n c : Nat) : (Value.slice A n c).ownBlock = A.map (·.block) := by cases A <;> rfl
set_option maxHeartbeats 4000000 in
set_option maxRecDepth 100000 in
theorem gitem_env {w : World} {q g off : Nat} {ts : List Tok} {a : Nat} (h : GP w q g off ts a) {j : Nat} {x : J15} {J : JobS} (hj : JW w j x J) (hqj : q < j - 1) (hgj : g < j - 1) (henv : J.env.length ≤ 16) (tk tl tc : Int) {s : ByteArray} (hs1 : (s.toList == [114, 117, 110]) = false) (hs2 : (s.toList == [101, 110, 118]) = true) :
    Calls Tryz.prog 89 #[.pointer (some ⟨q, 0, none⟩), .pointer (some ⟨j, 0, none⟩), .agg #[.int .i64 tk, .string s, .int .i64 tl, .int .i64 tc]] w (ItemPost w q g off ts j x ((varF ts J.env a).map fun r => ({ J with env := J.env ++ [r.1] }, r.2))) := by
  have B0 := Lib.hid (balloc w (TokB tk s tl tc))
  have K0 := heap_alloc_new w (TokB tk s tl tc)
  have d0 := cell_of_row _ _ 0 _ _ _ K0
  have d1 := cell_of_row _ _ 1 _ _ _ K0
  have d2 := cell_of_row _ _ 2 _ _ _ K0
  have d3 := cell_of_row _ _ 3 _ _ _ K0
  have PH := Lib.hid (h.below B0.out)
  have JH := Lib.hid (hj.below B0.out)
  have HJQ := Lib.hid (show ∀ k, j - 1 ≤ k → ¬ (fun k => k = q) k from fun k hk (e : k = q) => by omega)
  have hq1 : j ≠ q := by omega
  have hg1 : j ≠ g := by omega
  have HV := Lib.hid (gvariable_ex (PH.out.below (Below.refl _ _).drew) (xown_lst (w := (w.alloc (TokB tk s tl tc)).drew) JH.out.env) (fun e => by have := (xown_block JH.out.env q e).1; omega) henv)
  have c2 := cell_of_row _ _ 2 _ _ _ JH.out.row
  clear h hj K0
  have XF := Lib.hid (xown_form JH.out.env)
  cases hN : varF ts J.env a with
  | error f =>
    rw [hN] at HV
    clear hN
    go_enter Tryz.func89, Tryz.ntmps89
    go_wp2_with fail
    go_region_dies
    all_goals ((refine HV.out.mono ?_); rintro e w1 ⟨hgn, rfl⟩; exact ⟨rfl, (GrP.of_below (P := PI q j x.env) (B0.out.trans ((Below.refl (w.alloc (TokB tk s tl tc)).heap.size _).drew.mono B0.out.size))).trans (hgn.mono (fun k _ e => .inl e)), rfl⟩)
  | ok r =>
    obtain ⟨⟨n1, v1⟩, a'⟩ := r
    rw [hN] at HV
    clear hN
    obtain ⟨A, c, hA⟩ := XF.out
    obtain ⟨nm, run, env, needs, hr, rd, rs, base, cap, stb, bur, win, lad, line, col⟩ := x
    simp only at hA
    subst hA
    have hjw := heap_lt JH.out.row
    have hoB : ∀ k, k < j + 1 → some k ≠ A.map (·.block) := fun k hk e => by
      have := (xown_block JH.out.env k (by rw [show (Value.slice A J.env.length c).ownBlock = A.map (·.block) from ownBlock_map A _ c]; exact e.symm)).1
      omega
    have NJ := Lib.hid (show some j ≠ A.map (·.block) from hoB j (by omega))
    have NQ := Lib.hid (show some q ≠ A.map (·.block) from hoB q (by omega))
    have NG := Lib.hid (show some g ≠ A.map (·.block) from hoB g (by omega))
    have AN := Lib.hid (xown_apart JH.out.needs JH.out.env (by decide))
    have AL := Lib.hid (xown_apart JH.out.lad JH.out.env (by decide))
    clear hoB XF
    go_enter Tryz.func89, Tryz.ntmps89
    go_wp2_with fail
    clear PH
    go_region_law (first
      | (go_simp; go_at_call 107; ((refine HV.out.mono ?_); rintro e w1 ⟨hgn, rfl, hp1⟩; have G1 := Lib.hid ((GrP.of_below (P := PI q j (.slice A J.env.length c)) (B0.out.trans ((Below.refl (w.alloc (TokB tk s tl tc)).heap.size _).drew.mono B0.out.size))).trans (hgn.mono (fun k _ e => .inl e))); have P1 := Lib.hid hp1; have hj1 := (JH.out.below (Below.refl _ _).drew).grp hgn HJQ.out; have J1 := Lib.hid hj1; have cc2 := cell_of_row _ _ 2 _ _ _ hj1.row; have cc2' := cell_up (balloc w1 (VarB n1 v1)) (cell_of_row _ _ 2 _ _ _ hj1.row); have hjw1 := heap_lt hj1.row; clear hgn hp1 hj1 c2))
      | (refine step_app_x rfl (.tmp 24) (.tmp 31) elVar rfl rfl (xown_below J1.out.env (balloc w1 _)) [.string n1, .string v1] rfl (by simp [Value.oneCell']) w1.heap.size 1 0 rfl (two_cell w1 _ _ _) (by omega) (by omega) (by simp; omega) ?_; intro v5 w5 hO hF; obtain ⟨A5, c5, rfl⟩ := xown_form hO; have O5 := Lib.hid hO; have F5 := Lib.hid hF; have J5 := Lib.hid (appH J1.out.row hF NJ.out); have c5' := cell_of_row _ _ 2 _ _ _ J5.out; have f5 := frozen_of_row _ _ 2 _ _ J5.out; clear hO hF cc2 cc2'))
    all_goals
      go_end0
      exact ⟨(appF (P := PI q j (.slice A J.env.length c)) G1.out F5.out (fun k e => .inr (.inr (.inr e)))).set (.inr (.inr (.inl rfl))) 2 _, rfl, (appG P1.out F5.out NQ.out NG.out).set hq1 hg1 _ _, _,
        JRow.set_env (x := ⟨nm, run, .slice A J.env.length c, needs, hr, rd, rs, base, cap, stb, bur, win, lad, line, col⟩) J5.out _, ⟨JH.out.scal.nm, JH.out.scal.run, JH.out.scal.hr, JH.out.scal.rd, JH.out.scal.rs, JH.out.scal.base, JH.out.scal.cap, JH.out.scal.stb, JH.out.scal.bur, JH.out.scal.win, JH.out.scal.line, JH.out.scal.col⟩,
        by simp only [varCells_snoc, List.length_append, List.length_singleton]; exact xown_grown O5.out (grown_set _ _ _) (fun g e he => by have q1 := (xown_block O5.out g e).1; simp only [Option.some.injEq] at he; omega),
        appX J1.out.needs F5.out AN.out (xown_ne_row J1.out.needs J1.out.row (by decide)), appX J1.out.lad F5.out AL.out (xown_ne_row J1.out.lad J1.out.row (by decide)), JH.out.nil⟩
end Go.Proofs.YtdncjhffniepbaaGreatDoor.Lx
/- (GrS)
  Layer 6, the program: which items a job has had already: a map from words to bools.
-/
namespace Go.Proofs.YtdncjhffniepbaaGreatDoor.Lx
open Go.RowKit Go.WideShapes Go.ChangeMaps
open Go.Maps (Keyed IsMap)

abbrev klS (s : ByteArray) : Lit := .string s.data.toList
theorem klS_inj {s t : ByteArray} (h : klS s = klS t) : s = t := by
  injection h with h
  obtain ⟨s⟩ := s; obtain ⟨t⟩ := t
  have := Array.toList_inj.1 h
  simpa using this
theorem seenLaw : Keyed Tryz.prog 9 := Go.Maps.string_keyed Tryz.underlying9
theorem seenZero (w : World) : (zeroValue 4).run Tryz.prog w = .ok (.bool false) w := by kernel_rfl
/-- Block b is a map of at most n words; at each word it says what f says. -/
def Seen (w : World) (b n : Nat) (f : ByteArray → Bool) : Prop :=
  ∃ D : DataW Unit, w.ownsMap Tryz.prog 9 (plainElem Tryz.prog 4) b n D ∧ IsMap D ∧ ∀ s, D.atKey (klS s) (.lit (.bool false)) = .lit (.bool (f s))
theorem seen_made (w : World) : Seen (w.alloc (.map #[] 0)) w.heap.size 0 (fun _ => false) :=
  ⟨.map [], World.ownsMap_made _ _ _ _, ⟨[], rfl⟩, fun _ => rfl⟩
theorem Seen.lt {w : World} {b n : Nat} {f : ByteArray → Bool} (h : Seen w b n f) : b < w.heap.size := by obtain ⟨D, h, _⟩ := h; exact h.lt
theorem Seen.grp {P : Nat → Prop} {w w' : World} {b n : Nat} {f : ByteArray → Bool} (h : Seen w b n f) (hg : GrP P w w') (hb : ¬ P b) : Seen w' b n f := by
  obtain ⟨D, ⟨es, clock, h1, h2⟩, h3⟩ := h
  exact ⟨D, ⟨es, clock, (hg.block b (heap_lt h1) hb).trans h1, h2⟩, h3⟩
theorem Seen.below {w w' : World} {b n : Nat} {f : ByteArray → Bool} (h : Seen w b n f) (hb : Below w.heap.size w w') : Seen w' b n f := h.grp (P := fun _ => False) (GrP.of_below hb) (fun e => e)
set_option maxRecDepth 100000 in
theorem seen_lookup {w : World} {b n : Nat} {f : ByteArray → Bool} (h : Seen w b n f) {s : ByteArray} (hs : s.size ≤ 10000) : (Instr.lookup 149 (.map (some b)) (.string s) false).run Tryz.prog w = .ok (.bool (f s)) w := by
  obtain ⟨D, h1, _, h3⟩ := h
  obtain ⟨v, ps, hrun, hv⟩ := h1.lookup seenLaw Tryz.underlying149 (seenZero w) (plainElem_bool Tryz.underlying4 false) (Go.WideMaps.keyOf_string_mk Tryz.underlying9 (s := s) (by unfold maxLen; omega))
  rw [hrun]
  rw [show D.atKey (.string s.data.toList) (.lit (.bool false)) = .lit (.bool (f s)) from h3 s] at hv
  unfold plainElem at hv
  rw [Tryz.underlying4] at hv
  cases v <;> simp at hv
  rw [hv.1]
open Classical in
theorem wpList_seen {w : World} {ops : Array Oper} {rest : List Oper} {o : Oper} {a : Act} {Q : Exit → Act → World → Prop} (hg : o.guard = none) (m x v : Operand) (hop : o.op = Op.mapUpdate 149 m x v)
    {b n : Nat} {f : ByteArray → Bool} (hm : a.eval m = .map (some b)) (hown : Seen w b n f) (hn : n ≤ 3000) {s : ByteArray} (hs : s.size ≤ 10000) {u : Bool} (hx : a.eval x = .string s) (hv : a.eval v = .bool u)
    (hK : ∀ w', Seen w' b (n + 1) (fun z => if z = s then u else f z) → w.grownBy w' (some b) → wpList Tryz.prog ops Q rest (a.put o.dst undef) w') : wpList Tryz.prog ops Q (o :: rest) a w := by
  obtain ⟨D, h1, h2, h3⟩ := hown
  refine wpList_mapUpdate_own w hg m x v 149 hop 9 4 seenLaw Tryz.underlying149 (plainElem Tryz.prog 4) b n D hm h1 (by unfold maxLen; omega) _ _ (klS s) hx hv (Go.WideMaps.keyOf_string_mk Tryz.underlying9 (by unfold maxLen; omega)) (.lit (.bool u)) [] (plainElem_bool Tryz.underlying4 u) ?_
  intro w' r1 r2
  refine hK w' ⟨_, r1, ?_, fun z => ?_⟩ r2
  · obtain ⟨es, rfl⟩ := h2
    exact ⟨_, rfl⟩
  · by_cases hz : z = s
    · subst hz
      simp only [if_true]
      exact Go.Maps.atKey_put_same h2 (show WideAt.IsKeyLit (klS z) from trivial) _ _
    · simp only [if_neg hz]
      rw [Go.Maps.atKey_put_other (fun e => hz (klS_inj e))]
      exact h3 z
end Go.Proofs.YtdncjhffniepbaaGreatDoor.Lx
/- (GrN)
  Layer 6, the program: an item, word by word.
-/
namespace Go.Proofs.YtdncjhffniepbaaGreatDoor.Lx
open Go.RowKit

set_option maxHeartbeats 4000000 in
set_option maxRecDepth 100000 in
theorem gitem_run {w : World} {q g off : Nat} {ts : List Tok} {a : Nat} (h : GP w q g off ts a) {j : Nat} {x : J15} {J : JobS} (hj : JW w j x J) (hqj : q < j - 1) (hgj : g < j - 1) (tk tl tc : Int) {s : ByteArray} (hs1 : (s.toList == [114, 117, 110]) = true) :
    Calls Tryz.prog 89 #[.pointer (some ⟨q, 0, none⟩), .pointer (some ⟨j, 0, none⟩), .agg #[.int .i64 tk, .string s, .int .i64 tl, .int .i64 tc]] w (ItemPost w q g off ts j x ((takeF ts 3 512 a).map fun n => ({ J with run := txtAt ts a }, n))) := by
  have B0 := Lib.hid (balloc w (TokB tk s tl tc))
  have K0 := heap_alloc_new w (TokB tk s tl tc)
  have d0 := cell_of_row _ _ 0 _ _ _ K0
  have d1 := cell_of_row _ _ 1 _ _ _ K0
  have d2 := cell_of_row _ _ 2 _ _ _ K0
  have d3 := cell_of_row _ _ 3 _ _ _ K0
  have PH := Lib.hid (h.below B0.out)
  have JH := Lib.hid (hj.below B0.out)
  have HJQ := Lib.hid (show ∀ k, j - 1 ≤ k → ¬ (fun k => k = q) k from fun k hk (e : k = q) => by omega)
  have hq1 : j ≠ q := by omega
  have hg1 : j ≠ g := by omega
  obtain ⟨⟨k1, tt1, l1, c1⟩, ht, htl⟩ := h.now
  have htx : txtAt ts a = bytesOf tt1 := by unfold txtAt; rw [ht]; rfl
  clear h hj K0
  have HL := Lib.hid (glimited_ex PH.out ht 3 512 (by decide))
  change Hid (Calls _ _ _ _ (GPost _ q g off ts _ (.agg #[.int .i64 k1, .string (bytesOf tt1), .int .i64 l1, .int .i64 c1]))) at HL
  rw [htx]
  clear ht htl htx
  generalize bytesOf tt1 = s1 at *
  have ft := field_text k1 l1 c1 s1
  cases hT : takeF ts 3 512 a with
  | error f =>
    rw [hT] at HL
    clear hT
    go_enter Tryz.func89, Tryz.ntmps89
    go_wp2_with ((go_at_call 60; ((with_reducible refine (HL.out).mono ?_); rintro e w1 ⟨hgn, rfl⟩; have G1 := Lib.hid ((GrP.of_below (P := PI q j x.env) B0.out).trans (hgn.mono (fun k _ e => .inl e))); clear hgn)))
    exact ⟨rfl, G1.out, rfl⟩
  | ok n =>
    rw [hT] at HL
    clear hT
    go_enter Tryz.func89, Tryz.ntmps89
    go_wp2_with ((go_at_call 60; ((with_reducible refine (HL.out).mono ?_); rintro e w1 ⟨hgn, rfl, hp1⟩; have G1 := Lib.hid ((GrP.of_below (P := PI q j x.env) B0.out).trans (hgn.mono (fun k _ e => .inl e))); have P1 := Lib.hid hp1; have J1 := Lib.hid (JH.out.grp hgn HJQ.out); have cc1 := cell_of_row _ _ 1 _ _ _ J1.out.row; have ff1 := frozen_of_row _ _ 1 _ _ J1.out.row; clear hgn hp1)))
    go_end0
    exact ⟨G1.out.set (.inr (.inr (.inl rfl))) _ _, rfl, P1.out.set hq1 hg1 _ _, _, J1.out.set_run _⟩

set_option maxHeartbeats 4000000 in
set_option maxRecDepth 100000 in
theorem gitem_ready {w : World} {q g off : Nat} {ts : List Tok} {a : Nat} (h : GP w q g off ts a) {j : Nat} {x : J15} {J : JobS} (hj : JW w j x J) (hqj : q < j - 1) (hgj : g < j - 1) (tk tl tc : Int) {s : ByteArray} (hs1 : (s.toList == [114, 117, 110]) = false) (hs2 : (s.toList == [101, 110, 118]) = false) (hs3 : (s.toList == [110, 101, 101, 100, 115]) = false) (hs4 : (s.toList == [114, 101, 97, 100, 121]) = true) :
    Calls Tryz.prog 89 #[.pointer (some ⟨q, 0, none⟩), .pointer (some ⟨j, 0, none⟩), .agg #[.int .i64 tk, .string s, .int .i64 tl, .int .i64 tc]] w (ItemPost w q g off ts j x ((takeF ts 4 128 a).map fun n => ({ J with hr := true, rd := txtAt ts a }, n))) := by
  have B0 := Lib.hid (balloc w (TokB tk s tl tc))
  have K0 := heap_alloc_new w (TokB tk s tl tc)
  have d0 := cell_of_row _ _ 0 _ _ _ K0
  have d1 := cell_of_row _ _ 1 _ _ _ K0
  have d2 := cell_of_row _ _ 2 _ _ _ K0
  have d3 := cell_of_row _ _ 3 _ _ _ K0
  have PH := Lib.hid (h.below B0.out)
  have JH := Lib.hid (hj.below B0.out)
  have HJQ := Lib.hid (show ∀ k, j - 1 ≤ k → ¬ (fun k => k = q) k from fun k hk (e : k = q) => by omega)
  have hq1 : j ≠ q := by omega
  have hg1 : j ≠ g := by omega
  obtain ⟨⟨k1, tt1, l1, c1⟩, ht, htl⟩ := h.now
  have htx : txtAt ts a = bytesOf tt1 := by unfold txtAt; rw [ht]; rfl
  clear h hj K0
  have HL := Lib.hid (glimited_ex PH.out ht 4 128 (by decide))
  change Hid (Calls _ _ _ _ (GPost _ q g off ts _ (.agg #[.int .i64 k1, .string (bytesOf tt1), .int .i64 l1, .int .i64 c1]))) at HL
  rw [htx]
  clear ht htl htx
  generalize bytesOf tt1 = s1 at *
  have ft := field_text k1 l1 c1 s1
  cases hT : takeF ts 4 128 a with
  | error f =>
    rw [hT] at HL
    clear hT
    go_enter Tryz.func89, Tryz.ntmps89
    go_wp2_with ((go_at_call 60; ((with_reducible refine (HL.out).mono ?_); rintro e w1 ⟨hgn, rfl⟩; have G1 := Lib.hid ((GrP.of_below (P := PI q j x.env) B0.out).trans (hgn.mono (fun k _ e => .inl e))); clear hgn)))
    exact ⟨rfl, G1.out, rfl⟩
  | ok n =>
    rw [hT] at HL
    clear hT
    go_enter Tryz.func89, Tryz.ntmps89
    go_wp2_with ((go_at_call 60; ((with_reducible refine (HL.out).mono ?_); rintro e w1 ⟨hgn, rfl, hp1⟩; have G1 := Lib.hid ((GrP.of_below (P := PI q j x.env) B0.out).trans (hgn.mono (fun k _ e => .inl e))); have P1 := Lib.hid hp1; have J1 := Lib.hid (JH.out.grp hgn HJQ.out); have cc4 := cell_of_row _ _ 4 _ _ _ J1.out.row; have ff4 := frozen_of_row _ _ 4 _ _ J1.out.row; have cc5 := cell_of_row _ _ 5 _ _ _ J1.out.row; have ff5 := frozen_of_row _ _ 5 _ _ J1.out.row; clear hgn hp1)))
    go_end0
    exact ⟨(G1.out.set (.inr (.inr (.inl rfl))) _ _).set (.inr (.inr (.inl rfl))) _ _, rfl, (P1.out.set hq1 hg1 _ _).set hq1 hg1 _ _, _, (J1.out.set_hr _).set_rd _⟩

set_option maxHeartbeats 4000000 in
set_option maxRecDepth 100000 in
theorem gitem_needs {w : World} {q g off : Nat} {ts : List Tok} {a : Nat} (h : GP w q g off ts a) {j : Nat} {x : J15} {J : JobS} (hj : JW w j x J) (hqj : q < j - 1) (hgj : g < j - 1) (hnd : J.needs = []) (tk tl tc : Int) {s : ByteArray} (hs1 : (s.toList == [114, 117, 110]) = false) (hs2 : (s.toList == [101, 110, 118]) = false) (hs3 : (s.toList == [110, 101, 101, 100, 115]) = true) :
    Calls Tryz.prog 89 #[.pointer (some ⟨q, 0, none⟩), .pointer (some ⟨j, 0, none⟩), .agg #[.int .i64 tk, .string s, .int .i64 tl, .int .i64 tc]] w (ItemPost w q g off ts j x ((needsF ts (ts.length + 1) [] a).map fun r => ({ J with needs := r.1 }, r.2))) := by
  have B0 := Lib.hid (balloc w (TokB tk s tl tc))
  have K0 := heap_alloc_new w (TokB tk s tl tc)
  have d0 := cell_of_row _ _ 0 _ _ _ K0
  have d1 := cell_of_row _ _ 1 _ _ _ K0
  have d2 := cell_of_row _ _ 2 _ _ _ K0
  have d3 := cell_of_row _ _ 3 _ _ _ K0
  have PH := Lib.hid (h.below B0.out)
  have JH := Lib.hid (hj.below B0.out)
  have HJQ := Lib.hid (show ∀ k, j - 1 ≤ k → ¬ (fun k => k = q) k from fun k hk (e : k = q) => by omega)
  have hq1 : j ≠ q := by omega
  have hg1 : j ≠ g := by omega
  obtain ⟨⟨k1, tt1, l1, c1⟩, ht, htl⟩ := h.now
  have htx : txtAt ts a = bytesOf tt1 := by unfold txtAt; rw [ht]; rfl
  clear h hj K0
  have HL := Lib.hid (gneeds_ex PH.out JH.out.row (JH.out.nil hnd) ⟨hq1.symm, hg1.symm⟩)
  clear ht htl htx
  cases hN : needsF ts (ts.length + 1) [] a with
  | error f =>
    rw [hN] at HL
    clear hN
    go_enter Tryz.func89, Tryz.ntmps89
    go_wp2_with (go_at_call 108; ((with_reducible refine HL.out.mono ?_); rintro e w1 ⟨hgn, rfl⟩; have G1 := Lib.hid hgn; clear hgn))
    exact ⟨rfl, (GrP.of_below (P := PI q j x.env) B0.out).trans (G1.out.mono (fun k hk e => e.elim .inl (fun e => e.elim (fun e => .inr (.inl e)) (fun e => absurd e (by omega))))), rfl⟩
  | ok r =>
    obtain ⟨l, a'⟩ := r
    have HNE := Lib.hid (needsF_ne _ _ _ _ hN)
    rw [hN] at HL
    clear hN
    go_enter Tryz.func89, Tryz.ntmps89
    go_wp2_with (go_at_call 108; ((with_reducible refine HL.out.mono ?_); rintro e w1 ⟨hgn, rfl, hp, v', hr, ho⟩; have G1 := Lib.hid hgn; have P1 := Lib.hid hp; have R1 := Lib.hid hr; have O1 := Lib.hid ho; clear hgn hp hr ho))
    go_end0
    have hP : ∀ r, j + 1 ≤ r → r < (w.alloc (TokB tk s tl tc)).heap.size → ¬ PQ q j (w.alloc (TokB tk s tl tc)).heap.size r := fun r h1 h2 e => by unfold PQ at e; omega
    have hPl : ∀ r, r ≠ j → j - 1 ≤ r → r < (w.alloc (TokB tk s tl tc)).heap.size → ¬ PQ q j (w.alloc (TokB tk s tl tc)).heap.size r := fun r h0 h1 h2 e => by unfold PQ at e; omega
    exact ⟨(GrP.of_below (P := PI q j x.env) B0.out).trans (G1.out.mono (fun k hk e => e.elim .inl (fun e => e.elim (fun e => .inr (.inl e)) (fun e => absurd e (by omega))))), rfl, P1.out, _, R1.out, ⟨JH.out.scal.nm, JH.out.scal.run, JH.out.scal.hr, JH.out.scal.rd, JH.out.scal.rs, JH.out.scal.base, JH.out.scal.cap, JH.out.scal.stb, JH.out.scal.bur, JH.out.scal.win, JH.out.scal.line, JH.out.scal.col⟩,
      xown_grp JH.out.env G1.out (fun r e => hP r (xown_block JH.out.env r e).1 (xown_block JH.out.env r e).2), xown_mono O1.out (by have := heap_lt JH.out.row; omega), xown_grp JH.out.lad G1.out (fun r e => hPl r (xown_ne_row JH.out.lad JH.out.row (by decide) r e) (xown_block JH.out.lad r e).1 (xown_block JH.out.lad r e).2), fun e => absurd e HNE.out⟩

set_option maxHeartbeats 4000000 in
set_option maxRecDepth 100000 in
theorem gitem_restart {w : World} {q g off : Nat} {ts : List Tok} {a : Nat} (h : GP w q g off ts a) {j : Nat} {x : J15} {J : JobS} (hj : JW w j x J) (hqj : q < j - 1) (hgj : g < j - 1) (tk tl tc : Int) {s : ByteArray} (hs1 : (s.toList == [114, 117, 110]) = false) (hs2 : (s.toList == [101, 110, 118]) = false) (hs3 : (s.toList == [110, 101, 101, 100, 115]) = false) (hs4 : (s.toList == [114, 101, 97, 100, 121]) = false) (hs5 : (s.toList == [114, 101, 115, 116, 97, 114, 116]) = true) :
    Calls Tryz.prog 89 #[.pointer (some ⟨q, 0, none⟩), .pointer (some ⟨j, 0, none⟩), .agg #[.int .i64 tk, .string s, .int .i64 tl, .int .i64 tc]] w (ItemPost w q g off ts j x ((policyF ts a).map fun r => ({ J with rs := r.1 }, r.2))) := by
  have B0 := Lib.hid (balloc w (TokB tk s tl tc))
  have K0 := heap_alloc_new w (TokB tk s tl tc)
  have d0 := cell_of_row _ _ 0 _ _ _ K0
  have d1 := cell_of_row _ _ 1 _ _ _ K0
  have d2 := cell_of_row _ _ 2 _ _ _ K0
  have d3 := cell_of_row _ _ 3 _ _ _ K0
  have PH := Lib.hid (h.below B0.out)
  have JH := Lib.hid (hj.below B0.out)
  have HJQ := Lib.hid (show ∀ k, j - 1 ≤ k → ¬ (fun k => k = q) k from fun k hk (e : k = q) => by omega)
  have hq1 : j ≠ q := by omega
  have hg1 : j ≠ g := by omega
  obtain ⟨⟨k1, tt1, l1, c1⟩, ht, htl⟩ := h.now
  have htx : txtAt ts a = bytesOf tt1 := by unfold txtAt; rw [ht]; rfl
  clear h hj K0
  have HL := Lib.hid (gpolicy_ex PH.out ht JH.out.row hq1.symm hg1.symm)
  clear ht htl htx
  cases hN : policyF ts a with
  | error f =>
    rw [hN] at HL
    clear hN
    go_enter Tryz.func89, Tryz.ntmps89
    go_wp2_with (go_at_call 109; ((with_reducible refine HL.out.mono ?_); rintro e w1 ⟨hgn, rfl⟩; have G1 := Lib.hid hgn; clear hgn))
    exact ⟨rfl, (GrP.of_below (P := PI q j x.env) B0.out).trans (G1.out.mono (fun k _ e => e.elim .inl (fun e => .inr (.inl e)))), rfl⟩
  | ok r =>
    obtain ⟨r, a'⟩ := r
    rw [hN] at HL
    clear hN
    go_enter Tryz.func89, Tryz.ntmps89
    go_wp2_with (go_at_call 109; ((with_reducible refine HL.out.mono ?_); rintro e w1 ⟨hgn, rfl, hp, hr⟩; have G1 := Lib.hid hgn; have P1 := Lib.hid hp; have R1 := Lib.hid hr; clear hgn hp hr))
    go_end0
    have hP : ∀ r, j + 1 ≤ r → ¬ (fun k => k = q ∨ k = j) r := fun r h1 (e : r = q ∨ r = j) => by omega
    exact ⟨(GrP.of_below (P := PI q j x.env) B0.out).trans (G1.out.mono (fun k _ e => e.elim .inl (fun e => .inr (.inl e)))), rfl, P1.out, _, R1.out, ⟨JH.out.scal.nm, JH.out.scal.run, JH.out.scal.hr, JH.out.scal.rd, rfl, JH.out.scal.base, JH.out.scal.cap, JH.out.scal.stb, JH.out.scal.bur, JH.out.scal.win, JH.out.scal.line, JH.out.scal.col⟩,
      xown_grp JH.out.env G1.out (fun r e => hP r (xown_block JH.out.env r e).1), xown_grp JH.out.needs G1.out (fun r e => hP r (xown_block JH.out.needs r e).1), xown_grp JH.out.lad G1.out (fun r e (e2 : r = q ∨ r = j) => by have q1 := xown_ne_row JH.out.lad JH.out.row (by decide) r e; have q2 := (xown_block JH.out.lad r e).1; omega), JH.out.nil⟩

end Go.Proofs.YtdncjhffniepbaaGreatDoor.Lx
/- (GrT)
  Layer 6: any item; what all of a job's items do.
-/
namespace Go.Proofs.YtdncjhffniepbaaGreatDoor.Lx
open Go.RowKit

theorem gitem_ex {w : World} {q g off : Nat} {ts : List Tok} {a : Nat} (h : GP w q g off ts a) (hT : TsOk ts) {j : Nat} {x : J15} {J : JobS} (hj : JW w j x J) (hqj : q < j - 1) (hgj : g < j - 1) (henv : J.env.length ≤ 16) (tk tl tc : Int) (s : ByteArray) (hnd : (s.toList == [110, 101, 101, 100, 115]) = true → J.needs = []) :
    Calls Tryz.prog 89 #[.pointer (some ⟨q, 0, none⟩), .pointer (some ⟨j, 0, none⟩), .agg #[.int .i64 tk, .string s, .int .i64 tl, .int .i64 tc]] w (ItemPost w q g off ts j x (itemF ts J s tl tc a)) := by
  unfold itemF
  cases h1 : (s.toList == [114, 117, 110])
  · cases h2 : (s.toList == [101, 110, 118])
    · cases h3 : (s.toList == [110, 101, 101, 100, 115])
      · cases h4 : (s.toList == [114, 101, 97, 100, 121])
        · cases h5 : (s.toList == [114, 101, 115, 116, 97, 114, 116])
          · cases h6 : (s.toList == [98, 97, 99, 107, 111, 102, 102])
            · cases h7 : (s.toList == [98, 117, 114, 115, 116])
              · cases h8 : (s.toList == [115, 116, 111, 112])
                · exact gitem_none h hj hqj hgj tk tl tc h1 h2 h3 h4 h5 h6 h7 h8
                · exact gitem_stop h hT hj hqj hgj tk tl tc h1 h2 h3 h4 h5 h6 h7 h8
              · exact gitem_burst h hT hj hqj hgj tk tl tc h1 h2 h3 h4 h5 h6 h7
            · exact gitem_backoff h hT hj hqj hgj tk tl tc h1 h2 h3 h4 h5 h6
          · exact gitem_restart h hj hqj hgj tk tl tc h1 h2 h3 h4 h5
        · exact gitem_ready h hj hqj hgj tk tl tc h1 h2 h3 h4
      · exact gitem_needs h hj hqj hgj (hnd h3) tk tl tc h1 h2 h3
    · exact gitem_env h hj hqj hgj henv tk tl tc h1 h2
  · exact gitem_run h hj hqj hgj tk tl tc h1
/-! ### what an item does not turn -/
theorem needsF_lt (ts : List Tok) : ∀ (f : Nat) (out : List ByteArray) (a : Nat) {l : List ByteArray} {n : Nat}, needsF ts f out a = .ok (l, n) → a < n
  | 0, _, _, _, _, h => by simp [needsF] at h
  | f + 1, out, a, l, n, h => by
    unfold needsF at h
    split at h
    · cases h
    · rename_i m hm
      have hm1 := (takeF_ok hm).1
      split at h
      · cases h
      · split at h
        · cases h
        · split at h
          · cases h
          · split at h
            · have := needsF_lt ts f _ _ h; omega
            · injection h with h
              injection h with _ h
              omega
theorem readF_lt {ts : List Tok} {kd : Int} {a n : Nat} (h : readF ts kd a = .ok n) : a < n := by have := (readF_ok h).1; omega
theorem ladderF_lt (ts : List Tok) : ∀ (f : Nat) (out : List (Int × Int)) (a : Nat) {l : List (Int × Int)} {n : Nat}, ladderF ts f out a = .ok (l, n) → a < n
  | 0, _, _, _, _, h => by simp [ladderF] at h
  | f + 1, out, a, l, n, h => by
    unfold ladderF at h
    split at h
    · cases h
    · rename_i m hm
      have hm1 := (takeF_ok hm).1
      split at h
      · cases h
      · split at h
        · cases h
        · split at h
          · cases h
          · split at h
            · cases h
            · rename_i m2 hm2
              have hm3 := (takeF_ok hm2).1
              split at h
              · have := ladderF_lt ts f _ _ h; omega
              · injection h with h
                injection h with _ h
                omega
theorem varF_ok {ts : List Tok} {env : List (ByteArray × ByteArray)} {a : Nat} {p : ByteArray × ByteArray} {n : Nat} (h : varF ts env a = .ok (p, n)) : a < n ∧ env.length < 16 := by
  unfold varF at h
  split at h
  · cases h
  · rename_i m hm
    have hm1 := (takeF_ok hm).1
    split at h
    · cases h
    · split at h
      · cases h
      · rename_i h16
        split at h
        · cases h
        · split at h
          · cases h
          · rename_i m2 hm2
            have hm3 := signF_ok hm2
            split at h
            · cases h
            · rename_i m3 hm4
              have hm5 := (takeF_ok hm4).1
              injection h with h
              injection h with _ h
              omega
/-- Behind an item: it has gone on; the variables are no more than there may be; the needs are as they were unless the word is needs. -/
theorem itemF_ok {ts : List Tok} {J J' : JobS} {s : ByteArray} {tl tc : Int} {a n : Nat} (h : itemF ts J s tl tc a = .ok (J', n)) (henv : J.env.length ≤ 16) :
    a < n ∧ J'.env.length ≤ 16 ∧ ((s.toList == [110, 101, 101, 100, 115]) = false → J'.needs = J.needs) := by
  unfold itemF at h
  split at h
  · cases hT : takeF ts 3 512 a with
    | error f => rw [hT] at h; cases h
    | ok m =>
      rw [hT] at h
      injection h with h; injection h with h1 h2
      have := (takeF_ok hT).1
      subst h1
      exact ⟨by omega, henv, fun _ => rfl⟩
  split at h
  · cases hT : varF ts J.env a with
    | error f => rw [hT] at h; cases h
    | ok m =>
      obtain ⟨p, m⟩ := m
      rw [hT] at h
      injection h with h; injection h with h1 h2
      obtain ⟨v1, v2⟩ := varF_ok hT
      subst h1
      simp only at h2
      refine ⟨by omega, ?_, fun _ => rfl⟩
      simp only [List.length_append, List.length_singleton]
      omega
  split at h
  · rename_i hs
    cases hT : needsF ts (ts.length + 1) [] a with
    | error f => rw [hT] at h; cases h
    | ok m =>
      obtain ⟨l, m⟩ := m
      rw [hT] at h
      injection h with h; injection h with h1 h2
      have := needsF_lt _ _ _ _ hT
      subst h1
      simp only at h2
      exact ⟨by omega, henv, fun e => by rw [e] at hs; cases hs⟩
  split at h
  · cases hT : takeF ts 4 128 a with
    | error f => rw [hT] at h; cases h
    | ok m =>
      rw [hT] at h
      injection h with h; injection h with h1 h2
      have := (takeF_ok hT).1
      subst h1
      exact ⟨by omega, henv, fun _ => rfl⟩
  split at h
  · cases hT : policyF ts a with
    | error f => rw [hT] at h; cases h
    | ok m =>
      obtain ⟨r, m⟩ := m
      rw [hT] at h
      injection h with h; injection h with h1 h2
      have hp : m = a + 1 := by
        unfold policyF polG at hT
        split at hT
        · cases hT
        · split at hT
          · split at hT
            · cases hT
            · injection hT with hT; injection hT with _ hT; exact hT.symm
          · cases hT
      subst h1
      simp only at h2
      exact ⟨by omega, henv, fun _ => rfl⟩
  split at h
  · cases h1 : readF ts 2 a with
    | error f => rw [h1] at h; cases h
    | ok n1 =>
      rw [h1] at h
      simp only [Except.bind] at h
      cases h2 : readF ts 2 n1 with
      | error f => rw [h2] at h; cases h
      | ok n2 =>
        rw [h2] at h
        simp only at h
        cases h3 : readF ts 2 n2 with
        | error f => rw [h3] at h; cases h
        | ok n3 =>
          rw [h3] at h
          injection h with h; injection h with e1 e2
          have := readF_lt h1; have := readF_lt h2; have := readF_lt h3
          subst e1
          exact ⟨by omega, henv, fun _ => rfl⟩
  split at h
  · cases h1 : countF ts a with
    | error f => rw [h1] at h; cases h
    | ok n1 =>
      rw [h1] at h
      simp only [Except.bind] at h
      have hc : n1 = a + 1 := by
        unfold countF at h1
        split at h1
        · cases h1
        · split at h1
          · split at h1
            · cases h1
            · injection h1 with h1; exact h1.symm
          · cases h1
      cases h2 : readF ts 2 n1 with
      | error f => rw [h2] at h; cases h
      | ok n2 =>
        rw [h2] at h
        injection h with h; injection h with e1 e2
        have := readF_lt h2
        subst e1
        exact ⟨by omega, henv, fun _ => rfl⟩
  split at h
  · cases hT : ladderF ts (ts.length + 1) [] a with
    | error f => rw [hT] at h; cases h
    | ok m =>
      obtain ⟨l, m⟩ := m
      rw [hT] at h
      injection h with h; injection h with h1 h2
      have := ladderF_lt _ _ _ _ hT
      subst h1
      simp only at h2
      exact ⟨by omega, henv, fun _ => rfl⟩
  · cases h
/-! ### all of a job's items -/
def envB : ByteArray := ⟨#[101, 110, 118]⟩
def runB : ByteArray := ⟨#[114, 117, 110]⟩
def needsB : ByteArray := ⟨#[110, 101, 101, 100, 115]⟩
open Classical in
noncomputable def itemsF (ts : List Tok) : Nat → JobS → List ByteArray → Nat → Except Fau ((JobS × List ByteArray) × Nat)
  | 0, _, _, _ => .error (60, 0, 0)
  | f + 1, J, sn, a =>
    if isF ts 5 ⟨#[125]⟩ a then .ok ((J, sn), a)
    else match readF ts 1 a with
      | .error e => .error e
      | .ok n =>
        match ts[a]? with
        | none => .error (60, 0, 0)
        | some t =>
          if bytesOf t.text ∈ sn then .error (5, t.line, t.col)
          else match itemF ts J (bytesOf t.text) t.line t.col n with
            | .error e => .error e
            | .ok r => itemsF ts f r.1 (if bytesOf t.text = envB then sn else sn ++ [bytesOf t.text]) r.2
/-- A job without items, but for its name and place. -/
def job0 (nm : ByteArray) (line col : Int) : JobS := ⟨nm, ⟨#[]⟩, [], [], false, ⟨#[]⟩, 2, 100, 10000, 10000, 5, 60000, [(15, 5000)], line, col⟩
open Classical in
/-- A job behind its name. -/
noncomputable def jobF (ts : List Tok) (nm : ByteArray) (line col : Int) (a : Nat) : Except Fau (JobS × Nat) :=
  match signF ts ⟨#[123]⟩ a with
  | .error e => .error e
  | .ok n =>
    match itemsF ts (ts.length + 1) (job0 nm line col) [] n with
    | .error e => .error e
    | .ok r =>
      if runB ∉ r.1.2 then .error (6, line, col)
      else match signF ts ⟨#[125]⟩ r.2 with
        | .error e => .error e
        | .ok m => .ok (r.1.1, m)
end Go.Proofs.YtdncjhffniepbaaGreatDoor.Lx
/- (GrU)
  Layer 6, the program: a job.
-/
namespace Go.Proofs.YtdncjhffniepbaaGreatDoor.Lx
open Go.RowKit

abbrev ZJob : Array Value := #[.string ⟨#[]⟩, .string ⟨#[]⟩, .slice none 0 0, .slice none 0 0, .bool false, .string ⟨#[]⟩, .int .i64 0, .int .u64 0, .int .u64 0, .int .u64 0, .int .i64 0, .int .u64 0, .slice none 0 0, .int .i64 0, .int .i64 0]
abbrev JobB (x : Array Value) : Obj := .cells x 73
open Classical in
/-- Where the job's items are read: the parser, the job in the making, the words that were seen, the box of its name, the result's cell. -/
structure JR (w : World) (q g off : Nat) (ts : List Tok) (j b : Nat) (nmO : Obj) (wr : World) (x : J15) (J : JobS) (sn : List ByteArray) (n a1 : Nat) : Prop where
  gp : GP wr q g off ts a1
  fr : GrP (fun k => k = q) w wr
  jw : JW wr j x J
  seen : Seen wr b n (fun z => decide (z ∈ sn))
  kn : wr.heap[w.heap.size]? = some nmO
  kr : wr.heap[w.heap.size + 1]? = some (JobB ZJob)
theorem JR.step {w : World} {q g off : Nat} {ts : List Tok} {j b : Nat} {nmO : Obj} {wr w' : World} {x : J15} {J : JobS} {sn : List ByteArray} {n a1 a' : Nat} (h : JR w q g off ts j b nmO wr x J sn n a1) (hq : q < w.heap.size) (hjs : w.heap.size < j) (hb : b ≠ q) (hg : GrP (fun k => k = q) wr w') (hp : GP w' q g off ts a') : JR w q g off ts j b nmO w' x J sn n a' :=
  ⟨hp, h.fr.trans hg, h.jw.grp hg (fun k hk e => by omega), h.seen.grp hg hb, (hg.block _ (heap_lt h.kn) (fun e => by omega)).trans h.kn, (hg.block _ (heap_lt h.kr) (fun e => by omega)).trans h.kr⟩
theorem JR.below {w : World} {q g off : Nat} {ts : List Tok} {j b : Nat} {nmO : Obj} {wr w' : World} {x : J15} {J : JobS} {sn : List ByteArray} {n a1 : Nat} (h : JR w q g off ts j b nmO wr x J sn n a1) (hb : Below wr.heap.size wr w') : JR w q g off ts j b nmO w' x J sn n a1 :=
  ⟨h.gp.below hb, h.fr.trans (GrP.of_below hb), h.jw.below hb, h.seen.below hb, (hb.block _ (heap_lt h.kn)).trans h.kn, (hb.block _ (heap_lt h.kr)).trans h.kr⟩
theorem JR.item {w : World} {q g off : Nat} {ts : List Tok} {j b : Nat} {nmO : Obj} {wr w' : World} {x x' : J15} {J J' : JobS} {sn : List ByteArray} {n a1 a' : Nat} (h : JR w q g off ts j b nmO wr x J sn n a1) (hq : q < w.heap.size) (hjs : w.heap.size + 1 < j) (hbq : b ≠ q) (hbj : b ≠ j) (hg : GrP (PI q j x.env) wr w') (hp : GP w' q g off ts a') (hj : JW w' j x' J') : JR w q g off ts j b nmO w' x' J' sn n a' := by
  have hlow : ∀ k, k < j → k ≠ q → ¬ PI q j x.env k := fun k hk hne e => by
    rcases e with e | e | e
    · exact hne e
    · omega
    · have := (xown_block h.jw.env k e).1; omega
  refine ⟨hp, ⟨hg.os.trans h.fr.os, hg.tape.trans h.fr.tape, hg.output.trans h.fr.output, Nat.le_trans h.fr.size hg.size, fun k hk hne => (hg.block k (by have := h.fr.size; omega) (hlow k (by omega) hne)).trans (h.fr.block k hk hne)⟩, hj, h.seen.grp hg ?_, (hg.block _ (heap_lt h.kn) (hlow _ (by omega) (by omega))).trans h.kn, (hg.block _ (heap_lt h.kr) (hlow _ (by omega) (by omega))).trans h.kr⟩
  rintro (e | e | e)
  · exact hbq e
  · exact hbj e
  · obtain ⟨D, ⟨es, clock, h1, _⟩, _⟩ := h.seen
    rcases h.jw.env.2 with ⟨h2, _⟩ | ⟨r, cap, cur, h2, _, h3, _⟩
    · rw [h2] at e; simp [Value.ownBlock] at e
    · rw [h2] at e
      simp [Value.ownBlock] at e
      subst e
      rw [h3] at h1
      cases h1
open Classical in
theorem JR.word {w : World} {q g off : Nat} {ts : List Tok} {j b : Nat} {nmO : Obj} {wr w' : World} {x : J15} {J : JobS} {sn : List ByteArray} {n a1 : Nat} (h : JR w q g off ts j b nmO wr x J sn n a1) (hbs : w.heap.size + 1 < b) (hgs : g < w.heap.size) (hq : q < w.heap.size) (hbj : j < b) (hbe : ∀ e k B v m xs, XOwn wr e k B v m xs → v.ownBlock ≠ some b) {s : ByteArray} {u : Bool} (hg : wr.grownBy w' (some b)) (hs : Seen w' b (n + 1) (fun z => if z = s then u else decide (z ∈ sn))) (hu : u = !(s.toList == [101, 110, 118])) (hne : envB ∉ sn) :
    JR w q g off ts j b nmO w' x J (if s = envB then sn else sn ++ [s]) (n + 1) a1 := by
  have hG : GrP (fun k => k = b) wr w' := (GrP.refl _ wr).grown hg (fun g e => .inr (by simp only [Option.some.injEq] at e; exact e.symm))
  have hfun : (fun z => if z = s then u else decide (z ∈ sn)) = fun z => decide (z ∈ (if s = envB then sn else sn ++ [s])) := by
    funext z
    have hse : (s.toList == [101, 110, 118]) = decide (s = envB) := by rw [show ([101, 110, 118] : List UInt8) = envB.toList by rw [ByteArray.toList_eq]; rfl]; exact str_eq s envB
    rw [hse] at hu
    by_cases he : s = envB
    · subst hu
      rw [if_pos he]
      by_cases hz : z = s
      · rw [if_pos hz, hz, he]; simp [hne]
      · rw [if_neg hz]
    · subst hu
      rw [if_neg he]
      by_cases hz : z = s
      · rw [if_pos hz, hz]; simp [he]
      · rw [if_neg hz]; simp [hz]
  rw [hfun] at hs
  have hx : ∀ {e : TypeId} {k B : Nat} {v : Value} {m : Nat} {xs : List Value}, XOwn wr e k B v m xs → XOwn w' e k B v m xs := fun {e k B v m xs} ho => xown_grp ho hG (fun r e1 (e2 : r = b) => hbe e k B v m xs ho (by rw [e1, e2]))
  have hjr : j ≠ b := by omega
  obtain ⟨c, h3, h4⟩ := h.gp.blk
  refine ⟨h.gp.keep (hG.block g h.gp.glt (fun e => by omega)) h.gp.lt ⟨c, (hG.block q h.gp.qlt (fun e => by omega)).trans h3, h4⟩, ?_, ⟨jrow_grp h.jw.row hG hjr, h.jw.scal, hx h.jw.env, hx h.jw.needs, hx h.jw.lad, h.jw.nil⟩, hs, (hG.block _ (heap_lt h.kn) (fun e => by omega)).trans h.kn, (hG.block _ (heap_lt h.kr) (fun e => by omega)).trans h.kr⟩
  exact ⟨hG.os.trans h.fr.os, hG.tape.trans h.fr.tape, hG.output.trans h.fr.output, Nat.le_trans h.fr.size hG.size, fun k hk hne => (hG.block k (by have := h.fr.size; omega) (fun e => by omega)).trans (h.fr.block k hk hne)⟩
/-- A map's block holds no row. -/
theorem seen_apart {w : World} {b n : Nat} {f : ByteArray → Bool} (h : Seen w b n f) : ∀ e k B v m xs, XOwn w e k B v m xs → v.ownBlock ≠ some b := by
  intro e k B v m xs ho hv
  obtain ⟨D, ⟨es, clock, h1, _⟩, _⟩ := h
  rcases ho.2 with ⟨h2, _⟩ | ⟨r, cap, cur, h2, _, h3, _⟩
  · rw [h2] at hv; simp [Value.ownBlock] at hv
  · rw [h2] at hv
    simp [Value.ownBlock] at hv
    subst hv
    rw [h3] at h1
    cases h1
/-- A job as a value: what it says; its lists are rows from block B on. -/
structure JIs (w : World) (B : Nat) (x : J15) (J : JobS) : Prop where
  scal : Scal x J
  env : XOwn w 121 2 B x.env J.env.length (varCells J.env)
  needs : XOwn w 9 1 B x.needs J.needs.length (J.needs.map Value.string)
  lad : XOwn w 115 2 B x.lad J.lad.length (rungCells J.lad)
def JobPost (w : World) (q g off : Nat) (ts : List Tok) (R : Except Fau (JobS × Nat)) (en : Ending) (w' : World) : Prop :=
  GrP (fun k => k = q) w w' ∧ match R with
  | .ok (J, a') => GP w' q g off ts a' ∧ ∃ x, en = .returned (.agg x.arr) ∧ JIs w' w.heap.size x J
  | .error f => en = fauE f.1 f.2.1 f.2.2
/-- The cells of a job without items; r: its ladder's row. -/
abbrev x0 (s : ByteArray) (tl tc : Int) (r : Nat) : J15 := ⟨s, ⟨#[]⟩, .slice none 0 0, .slice none 0 0, false, ⟨#[]⟩, 2, 100, 10000, 10000, 5, 60000, .slice (some ⟨r, 0, none⟩) 1 1, tl, tc⟩
abbrev jobW0 (w : World) (kd tl tc : Int) (s : ByteArray) : World := (((w.alloc (TokB kd s tl tc)).alloc (JobB ZJob)).alloc (.cells #[.int .i64 15, .int .u64 5000] 115)).alloc (JobB (x0 s tl tc (w.heap.size + 1 + 1)).arr)
theorem jobW0_ok (w : World) (kd tl tc : Int) (s : ByteArray) : Below w.heap.size w (jobW0 w kd tl tc s) ∧ (jobW0 w kd tl tc s).heap.size = w.heap.size + 4 ∧ JW (jobW0 w kd tl tc s) (w.heap.size + 3) (x0 s tl tc (w.heap.size + 1 + 1)) (job0 s tl tc) ∧
    (jobW0 w kd tl tc s).heap[w.heap.size]? = some (TokB kd s tl tc) ∧ (jobW0 w kd tl tc s).heap[w.heap.size + 1]? = some (JobB ZJob) := by
  have k1 := heap_alloc_new w (TokB kd s tl tc)
  have k2 := heap_alloc_new (w.alloc (TokB kd s tl tc)) (JobB ZJob)
  have k3 := heap_alloc_new ((w.alloc (TokB kd s tl tc)).alloc (JobB ZJob)) (.cells #[.int .i64 15, .int .u64 5000] 115)
  have k4 := heap_alloc_new (((w.alloc (TokB kd s tl tc)).alloc (JobB ZJob)).alloc (.cells #[.int .i64 15, .int .u64 5000] 115)) (JobB (x0 s tl tc (w.heap.size + 1 + 1)).arr)
  have e1 : (w.alloc (TokB kd s tl tc)).heap.size = w.heap.size + 1 := by simp
  have e2 : ((w.alloc (TokB kd s tl tc)).alloc (JobB ZJob)).heap.size = w.heap.size + 2 := by simp
  have e3 : (((w.alloc (TokB kd s tl tc)).alloc (JobB ZJob)).alloc (.cells #[.int .i64 15, .int .u64 5000] 115)).heap.size = w.heap.size + 3 := by simp
  rw [e1] at k2
  rw [e2] at k3
  rw [e3] at k4
  have k3' := heap_alloc_old (JobB (x0 s tl tc (w.heap.size + 1 + 1)).arr) k3
  refine ⟨?_, by simp, ⟨k4, ⟨rfl, rfl, rfl, rfl, rfl, rfl, rfl, rfl, rfl, rfl, rfl, rfl⟩, World.ownsRow_nil _ _ _ _, World.ownsRow_nil _ _ _ _, ⟨rfl, .inr ⟨w.heap.size + 2, 1, _, rfl, by omega, k3', Nat.le_refl 1, by unfold maxLen; omega, rfl, rfl⟩⟩, fun _ => rfl⟩,
    heap_alloc_old _ (heap_alloc_old _ (heap_alloc_old _ k1)), heap_alloc_old _ (heap_alloc_old _ k2)⟩
  exact (((Below.refl w.heap.size w).alloc (Nat.le_refl _) _).alloc (by simp) _).alloc (by simp; omega) _ |>.alloc (by simp; omega) _
end Go.Proofs.YtdncjhffniepbaaGreatDoor.Lx
/- (GrV)
  Layer 6, the program: a job, the walk.
-/
namespace Go.Proofs.YtdncjhffniepbaaGreatDoor.Lx
open Go.RowKit

theorem itemsF_eq (ts : List Tok) (f : Nat) (J : JobS) (sn : List ByteArray) (a : Nat) (R : Except Fau ((JobS × List ByteArray) × Nat)) (h : itemsF ts (f + 1) J sn a = R) {t : Tok} (ht : ts[a]? = some t) :
    (isF ts 5 ⟨#[125]⟩ a → R = .ok ((J, sn), a)) ∧ (¬ isF ts 5 ⟨#[125]⟩ a → (t.kind ≠ 1 → R = .error (60, t.line, t.col)) ∧ (t.kind = 1 → (bytesOf t.text ∈ sn → R = .error (5, t.line, t.col)) ∧
      (bytesOf t.text ∉ sn → (∀ e, itemF ts J (bytesOf t.text) t.line t.col (a + 1) = .error e → R = .error e) ∧ (∀ J' a', itemF ts J (bytesOf t.text) t.line t.col (a + 1) = .ok (J', a') → itemsF ts f J' (if bytesOf t.text = envB then sn else sn ++ [bytesOf t.text]) a' = R)))) := by
  unfold itemsF at h
  refine ⟨fun hc => ?_, fun hc => ⟨fun hk => ?_, fun hk => ⟨fun hin => ?_, fun hin => ⟨fun e he => ?_, fun J' a' he => ?_⟩⟩⟩⟩
  · rw [if_pos hc] at h; exact h.symm
  · rw [if_neg hc, readF_eq ht, if_neg hk] at h
    exact h.symm
  · rw [if_neg hc, readF_eq ht, if_pos hk] at h
    simp only [ht] at h
    rw [if_pos hin] at h; exact h.symm
  · rw [if_neg hc, readF_eq ht, if_pos hk] at h
    simp only [ht] at h
    rw [if_neg hin, he] at h; exact h.symm
  · rw [if_neg hc, readF_eq ht, if_pos hk] at h
    simp only [ht] at h
    rw [if_neg hin, he] at h; exact h
theorem put15_grp (W : World) (R : Nat) (a b c d e f g h i k l m n o q : Value) : GrP (fun r => r = R) W (put15 W R a b c d e f g h i k l m n o q) := by
  have r0 := GrP.refl (fun r => r = R) W
  have r1 := r0.set (R := R) (.inr rfl) 0 a
  have r2 := r1.set (R := R) (.inr rfl) 1 b
  have r3 := r2.set (R := R) (.inr rfl) 2 c
  have r4 := r3.set (R := R) (.inr rfl) 3 d
  have r5 := r4.set (R := R) (.inr rfl) 4 e
  have r6 := r5.set (R := R) (.inr rfl) 5 f
  have r7 := r6.set (R := R) (.inr rfl) 6 g
  have r8 := r7.set (R := R) (.inr rfl) 7 h
  have r9 := r8.set (R := R) (.inr rfl) 8 i
  have r10 := r9.set (R := R) (.inr rfl) 9 k
  have r11 := r10.set (R := R) (.inr rfl) 10 l
  have r12 := r11.set (R := R) (.inr rfl) 11 m
  have r13 := r12.set (R := R) (.inr rfl) 12 n
  have r14 := r13.set (R := R) (.inr rfl) 13 o
  have r15 := r14.set (R := R) (.inr rfl) 14 q
  exact r15
theorem seen_lk {w : World} {b n : Nat} {f : ByteArray → Bool} (h : Seen w b n f) {s : ByteArray} (hs : s.size ≤ 10000) {u : Bool} (hu : f s = u) : (Instr.lookup 149 (.map (some b)) (.string s) false).run Tryz.prog w = .ok (.bool u) w := by
  rw [← hu]; exact seen_lookup h hs
open Classical in
theorem seen_nil (w : World) : Seen (w.alloc (.map #[] 0)) w.heap.size 0 (fun z => decide (z ∈ ([] : List ByteArray))) := by simpa using seen_made w
theorem needs_eq {s : ByteArray} (h : (s.toList == [110, 101, 101, 100, 115]) = true) : s = needsB := by
  rw [show ([110, 101, 101, 100, 115] : List UInt8) = needsB.toList by rw [ByteArray.toList_eq]; rfl, str_eq, decide_eq_true_eq] at h
  exact h
open Classical in
theorem sn_env {s : ByteArray} {sn : List ByteArray} (h : envB ∉ sn) : envB ∉ (if s = envB then sn else sn ++ [s]) := by
  by_cases he : s = envB
  · rw [if_pos he]; exact h
  · rw [if_neg he, List.mem_append]
    rintro (e | e)
    · exact h e
    · exact he (List.mem_singleton.1 e).symm
open Classical in
theorem sn_sub {s z : ByteArray} {sn : List ByteArray} (h : z ∈ sn) : z ∈ (if s = envB then sn else sn ++ [s]) := by
  by_cases he : s = envB
  · rw [if_pos he]; exact h
  · rw [if_neg he, List.mem_append]; exact .inl h
open Classical in
theorem sn_mem {s z : ByteArray} {sn : List ByteArray} (h : s = z) (hz : z ≠ envB) : z ∈ (if s = envB then sn else sn ++ [s]) := by
  subst h
  rw [if_neg hz, List.mem_append]; exact .inr (by simp)
theorem sign_of_is {ts : List Tok} {z : ByteArray} {a : Nat} (h : isF ts 5 z a) : signF ts z a = .ok (a + 1) := by
  obtain ⟨t, ht, h1⟩ := h
  unfold signF
  rw [ht]
  exact if_pos h1
theorem jr_frame {w : World} {q g off : Nat} {ts : List Tok} {j b : Nat} {nmO : Obj} {wr w' : World} {x : J15} {J : JobS} {sn : List ByteArray} {n a1 : Nat} (h : JR w q g off ts j b nmO wr x J sn n a1) (_hq : q < w.heap.size) (hjs : w.heap.size + 1 < j) (hg : GrP (PI q j x.env) wr w') : GrP (fun k => k = q) w w' :=
  ⟨hg.os.trans h.fr.os, hg.tape.trans h.fr.tape, hg.output.trans h.fr.output, Nat.le_trans h.fr.size hg.size, fun k hk hne => (hg.block k (by have := h.fr.size; omega) (by
    rintro (e | e | e)
    · exact hne e
    · omega
    · have := (xown_block h.jw.env k e).1; omega)).trans (h.fr.block k hk hne)⟩
open Classical in
set_option maxHeartbeats 4000000 in
set_option maxRecDepth 100000 in
theorem gjob_ex {w : World} {q g off : Nat} {ts : List Tok} {a : Nat} (h : GP w q g off ts a) (hT : TsOk ts) (kd tl tc : Int) (s : ByteArray) :
    Calls Tryz.prog 62 #[.pointer (some ⟨q, 0, none⟩), .agg #[.int .i64 kd, .string s, .int .i64 tl, .int .i64 tc]] w (JobPost w q g off ts (jobF ts s tl tc a)) := by
  have hqw := h.qlt
  have hgw := h.glt
  obtain ⟨b1, b2, b3, b4, b5⟩ := jobW0_ok w kd tl tc s
  have P0 := Lib.hid (h.below b1)
  have BW := Lib.hid b1
  have SZ := Lib.hid b2
  have JB := Lib.hid b3
  have KN := Lib.hid b4
  have KR := Lib.hid b5
  have K0 := heap_alloc_new w (TokB kd s tl tc)
  have d0 := cell_of_row _ _ 0 _ _ _ K0
  have d1 := cell_of_row _ _ 1 _ _ _ K0
  have d2 := cell_of_row _ _ 2 _ _ _ K0
  have d3 := cell_of_row _ _ 3 _ _ _ K0
  have hmm := @run_makeMap Tryz.prog
  clear h b1 b2 b3 b4 b5 K0
  generalize hR : jobF ts s tl tc a = R
  unfold jobF at hR
  cases hS : signF ts ⟨#[123]⟩ a with
  | error f =>
    rw [hS] at hR
    subst hR
    have HWD := Lib.hid (wordF_sign.trans hS)
    clear hS
    go_enter Tryz.func62, Tryz.ntmps62
    go_wp2_with (go_at_call 59; ((refine (gexpect_ex P0.out ⟨#[123]⟩ 5 (by decide)).mono ?_); rintro e w1 ⟨hgn, hst⟩; rw [HWD.out] at hst; subst hst; have G1 := Lib.hid ((GrP.of_below (P := fun k => k = q) BW.out).trans hgn); clear hgn))
    exact ⟨rfl, G1.out, rfl⟩
  | ok n =>
    rw [hS] at hR
    have HWD := Lib.hid (wordF_sign.trans hS)
    obtain rfl := signF_ok hS
    simp only at hR
    generalize hI : itemsF ts (ts.length + 1) (job0 s tl tc) [] (a + 1) = RI at hR
    have HI := Lib.hid hI
    have HRR := Lib.hid hR
    clear hS hI hR
    go_enter Tryz.func62, Tryz.ntmps62
    go_wp2_with (go_at_call 59; ((refine (gexpect_ex P0.out ⟨#[123]⟩ 5 (by decide)).mono ?_); rintro e w1 ⟨hgn, hst⟩; rw [HWD.out] at hst; obtain ⟨rfl, hp1⟩ := hst; have hbw : w.heap.size + 3 < w1.heap.size := (by have := hgn.size; have := SZ.out; omega); have HBQ := Lib.hid (show w1.heap.size ≠ q by omega); have RC := Lib.hid (show JR w q g off ts (w.heap.size + 3) w1.heap.size (TokB kd s tl tc) (w1.alloc (.map #[] 0)) (x0 s tl tc (w.heap.size + 1 + 1)) (job0 s tl tc) [] 0 (a + 1) from ⟨hp1.below (balloc _ _), ((GrP.of_below BW.out).trans hgn).trans (GrP.of_below (balloc _ _)), (JB.out.grp hgn (fun k hk e => by omega)).below (balloc _ _), (seen_nil w1), heap_alloc_old _ ((hgn.block _ (heap_lt KN.out) (fun e => by omega)).trans KN.out), heap_alloc_old _ ((hgn.block _ (heap_lt KR.out) (fun e => by omega)).trans KR.out)⟩); clear hgn hp1))
    go_loopg [7] (ts.length + 1) (fun g' _mv wr => ∃ (a1 f : Nat) (x : J15) (J : JobS) (sn : List ByteArray) (n : Nat), JR w q g off ts (w.heap.size + 3) w1.heap.size (TokB kd s tl tc) wr x J sn n a1 ∧ envB ∉ sn ∧ (needsB ∉ sn → J.needs = []) ∧ J.env.length ≤ 16 ∧ n ≤ a1 ∧ itemsF ts (f + 1) J sn a1 = RI ∧ ts.length ≤ a1 + f + 1 ∧ ts.length - a1 + 1 ≤ g')
    case atStart => exact ⟨a + 1, ts.length, _, _, [], 0, RC.out, by simp, fun _ => rfl, Nat.zero_le _, by omega, HI.out, by omega, by omega⟩
    case round =>
      obtain ⟨a1, f, x, J, sn, n, hjr, hev, hnd, hen, hna, hF, hf, hg⟩ := hrel
      obtain ⟨wo, rfl⟩ : ∃ wo : World, wo = wr := ⟨_, rfl⟩
      obtain ⟨⟨tk, tt, wl, wc⟩, ht, htl⟩ := hjr.gp.now
      have hal := hjr.gp.lt
      have hlen := hjr.gp.len
      have hfin := Lib.hid hjr.gp.fin
      have SC := Lib.hid hjr
      have HST := itemsF_eq ts f J sn a1 RI hF ht
      have HT := Lib.hid ht
      clear RC HI hjr hF
      by_cases hc : isF ts 5 ⟨#[125]⟩ a1
      · have hRI := (HST.1 hc)
        clear HST
        have HC := Lib.hid hc
        subst hRI
        have hRR := HRR.out
        have hSG : signF ts ⟨#[125]⟩ a1 = .ok (a1 + 1) := sign_of_is hc
        simp only [hSG] at hRR
        have HW2 := Lib.hid (wordF_sign.trans hSG)
        clear hSG hc
        by_cases hrun : runB ∈ sn
        · rw [if_neg (by simpa using hrun)] at hRR
          subst hRR
          have hdr := decide_eq_true hrun
          obtain ⟨Ae, ce, he⟩ := xown_form SC.out.jw.env
          obtain ⟨An, cn, hn⟩ := xown_form SC.out.jw.needs
          obtain ⟨Al, cl, hl9⟩ := xown_form SC.out.jw.lad
          obtain ⟨nm, run, env, needs, hr, rd, rs, base, cap, stb, bur, win, lad, line, col⟩ := x
          simp only at he hn hl9
          subst he; subst hn; subst hl9
          clear HRR HT hrun
          go_wp2_with (first
            | (go_at_call 88; ((with_reducible refine (gfollows_ex SC.out.gp 5 ⟨#[125]⟩).mono ?_); rintro e wn ⟨r, rfl, hr, hb⟩; obtain rfl : r = true := hr.2 HC.out; clear hr; have SC := Lib.hid (SC.out.below hb); clear hb; have hl := seen_lk (s := ⟨#[114, 117, 110]⟩) SC.out.seen (by decide) hdr; have e0 := cell_of_row _ _ 0 _ _ _ SC.out.kn; have e1 := cell_of_row _ _ 1 _ _ _ SC.out.kn; have e2 := cell_of_row _ _ 2 _ _ _ SC.out.kn; have e3 := cell_of_row _ _ 3 _ _ _ SC.out.kn))
            | (go_at_call 59; ((with_reducible refine (gexpect_ex SC.out.gp ⟨#[125]⟩ 5 (by decide)).mono ?_); rintro e w3 ⟨hg3, hst⟩; rw [HW2.out] at hst; obtain ⟨rfl, hp3⟩ := hst; have SC := Lib.hid (SC.out.step hqw (by omega) HBQ.out hg3 hp3); have u0 := cell_of_row _ _ 0 _ _ _ SC.out.jw.row; have v0 := cell_of_row _ _ 0 _ _ _ SC.out.kr; have z0 := frozen_of_row _ _ 0 _ _ SC.out.kr; have u1 := cell_of_row _ _ 1 _ _ _ SC.out.jw.row; have v1 := cell_of_row _ _ 1 _ _ _ SC.out.kr; have z1 := frozen_of_row _ _ 1 _ _ SC.out.kr; have u2 := cell_of_row _ _ 2 _ _ _ SC.out.jw.row; have v2 := cell_of_row _ _ 2 _ _ _ SC.out.kr; have z2 := frozen_of_row _ _ 2 _ _ SC.out.kr; have u3 := cell_of_row _ _ 3 _ _ _ SC.out.jw.row; have v3 := cell_of_row _ _ 3 _ _ _ SC.out.kr; have z3 := frozen_of_row _ _ 3 _ _ SC.out.kr; have u4 := cell_of_row _ _ 4 _ _ _ SC.out.jw.row; have v4 := cell_of_row _ _ 4 _ _ _ SC.out.kr; have z4 := frozen_of_row _ _ 4 _ _ SC.out.kr; have u5 := cell_of_row _ _ 5 _ _ _ SC.out.jw.row; have v5 := cell_of_row _ _ 5 _ _ _ SC.out.kr; have z5 := frozen_of_row _ _ 5 _ _ SC.out.kr; have u6 := cell_of_row _ _ 6 _ _ _ SC.out.jw.row; have v6 := cell_of_row _ _ 6 _ _ _ SC.out.kr; have z6 := frozen_of_row _ _ 6 _ _ SC.out.kr; have u7 := cell_of_row _ _ 7 _ _ _ SC.out.jw.row; have v7 := cell_of_row _ _ 7 _ _ _ SC.out.kr; have z7 := frozen_of_row _ _ 7 _ _ SC.out.kr; have u8 := cell_of_row _ _ 8 _ _ _ SC.out.jw.row; have v8 := cell_of_row _ _ 8 _ _ _ SC.out.kr; have z8 := frozen_of_row _ _ 8 _ _ SC.out.kr; have u9 := cell_of_row _ _ 9 _ _ _ SC.out.jw.row; have v9 := cell_of_row _ _ 9 _ _ _ SC.out.kr; have z9 := frozen_of_row _ _ 9 _ _ SC.out.kr; have u10 := cell_of_row _ _ 10 _ _ _ SC.out.jw.row; have v10 := cell_of_row _ _ 10 _ _ _ SC.out.kr; have z10 := frozen_of_row _ _ 10 _ _ SC.out.kr; have u11 := cell_of_row _ _ 11 _ _ _ SC.out.jw.row; have v11 := cell_of_row _ _ 11 _ _ _ SC.out.kr; have z11 := frozen_of_row _ _ 11 _ _ SC.out.kr; have u12 := cell_of_row _ _ 12 _ _ _ SC.out.jw.row; have v12 := cell_of_row _ _ 12 _ _ _ SC.out.kr; have z12 := frozen_of_row _ _ 12 _ _ SC.out.kr; have u13 := cell_of_row _ _ 13 _ _ _ SC.out.jw.row; have v13 := cell_of_row _ _ 13 _ _ _ SC.out.kr; have z13 := frozen_of_row _ _ 13 _ _ SC.out.kr; have u14 := cell_of_row _ _ 14 _ _ _ SC.out.jw.row; have v14 := cell_of_row _ _ 14 _ _ _ SC.out.kr; have z14 := frozen_of_row _ _ 14 _ _ SC.out.kr; clear hg3 hp3)))
          have hb9 := put15_row rfl SC.out.kr (.string nm) (.string run) (.slice Ae J.env.length ce) (.slice An J.needs.length cn) (.bool hr) (.string rd) (.int .i64 rs) (.int .u64 base) (.int .u64 cap) (.int .u64 stb) (.int .i64 bur) (.int .u64 win) (.slice Al J.lad.length cl) (.int .i64 line) (.int .i64 col)
          have g9 := put15_grp w3 (w.heap.size + 1) (.string nm) (.string run) (.slice Ae J.env.length ce) (.slice An J.needs.length cn) (.bool hr) (.string rd) (.int .i64 rs) (.int .u64 base) (.int .u64 cap) (.int .u64 stb) (.int .i64 bur) (.int .u64 win) (.slice Al J.lad.length cl) (.int .i64 line) (.int .i64 col)
          refine bodyPost_ret (v := .agg (J15.arr ⟨nm, run, .slice Ae J.env.length ce, .slice An J.needs.length cn, hr, rd, rs, base, cap, stb, bur, win, .slice Al J.lad.length cl, line, col⟩)) (by simp [results, Tryz.results62, go_sem, cell_of_row _ (w.heap.size + 1) 0 _ _ _ hb9, cell_of_row _ (w.heap.size + 1) 1 _ _ _ hb9, cell_of_row _ (w.heap.size + 1) 2 _ _ _ hb9, cell_of_row _ (w.heap.size + 1) 3 _ _ _ hb9, cell_of_row _ (w.heap.size + 1) 4 _ _ _ hb9, cell_of_row _ (w.heap.size + 1) 5 _ _ _ hb9, cell_of_row _ (w.heap.size + 1) 6 _ _ _ hb9, cell_of_row _ (w.heap.size + 1) 7 _ _ _ hb9, cell_of_row _ (w.heap.size + 1) 8 _ _ _ hb9, cell_of_row _ (w.heap.size + 1) 9 _ _ _ hb9, cell_of_row _ (w.heap.size + 1) 10 _ _ _ hb9, cell_of_row _ (w.heap.size + 1) 11 _ _ _ hb9, cell_of_row _ (w.heap.size + 1) 12 _ _ _ hb9, cell_of_row _ (w.heap.size + 1) 13 _ _ _ hb9, cell_of_row _ (w.heap.size + 1) 14 _ _ _ hb9]) rfl ?_
          have hno : ∀ {e : TypeId} {k B : Nat} {v : Value} {m : Nat} {xs : List Value}, XOwn w3 e k B v m xs → w.heap.size + 2 ≤ B → ∀ r, v.ownBlock = some r → ¬ (fun k => k = w.heap.size + 1) r := fun ho hB r e (e2 : r = w.heap.size + 1) => by have := (xown_block ho r e).1; omega
          refine ⟨⟨g9.os.trans SC.out.fr.os, g9.tape.trans SC.out.fr.tape, g9.output.trans SC.out.fr.output, Nat.le_trans SC.out.fr.size g9.size, fun k hk hne => (g9.block k (by have := SC.out.fr.size; omega) (fun e => by omega)).trans (SC.out.fr.block k hk hne)⟩, SC.out.gp.step g9 (fun e => by omega) (fun e => by omega), _, rfl, SC.out.jw.scal, xown_mono (xown_grp SC.out.jw.env g9 (hno SC.out.jw.env (by omega))) (by omega), xown_mono (xown_grp SC.out.jw.needs g9 (hno SC.out.jw.needs (by omega))) (by omega), xown_mono (xown_grp SC.out.jw.lad g9 (hno SC.out.jw.lad (by omega))) (by omega)⟩
        · rw [if_pos hrun] at hRR
          subst hRR
          have hdr := decide_eq_false hrun
          go_wp2_with (first
            | (go_at_call 88; ((with_reducible refine (gfollows_ex SC.out.gp 5 ⟨#[125]⟩).mono ?_); rintro e wn ⟨r, rfl, hr, hb⟩; obtain rfl : r = true := hr.2 HC.out; clear hr; have SC := Lib.hid (SC.out.below hb); clear hb; have hl := seen_lk (s := ⟨#[114, 117, 110]⟩) SC.out.seen (by decide) hdr; have e0 := cell_of_row _ _ 0 _ _ _ SC.out.kn; have e1 := cell_of_row _ _ 1 _ _ _ SC.out.kn; have e2 := cell_of_row _ _ 2 _ _ _ SC.out.kn; have e3 := cell_of_row _ _ 3 _ _ _ SC.out.kn))
            | (go_at_call 61; ((with_reducible refine (gfail_ex _ _ _ _ _ _).mono ?_); rintro e wf ⟨rfl, hbf⟩; have BF := Lib.hid hbf; clear hbf)))
          exact ⟨rfl, SC.out.fr.trans (GrP.of_below BF.out), rfl⟩
      · obtain ⟨s1, s2⟩ := HST.2 hc
        have HC := Lib.hid hc
        clear HST hc
        by_cases hk : tk = 1
        · subst hk
          obtain ⟨s3, s4⟩ := s2 rfl
          have HRD := Lib.hid (show readF ts 1 a1 = .ok (a1 + 1) by rw [readF_eq ht]; exact if_pos rfl)
          simp only at s3 s4 htl
          have hsz : (bytesOf tt).size ≤ 10000 := by rw [bytesOf_size]; exact htl
          clear s1 s2 ht
          by_cases hin : bytesOf tt ∈ sn
          · have hR1 := Lib.hid (s3 hin)
            have hdin := decide_eq_true hin
            clear s3 s4
            go_wp2_with (first
              | (go_at_call 88; ((with_reducible refine (gfollows_ex SC.out.gp 5 ⟨#[125]⟩).mono ?_); rintro e wn ⟨r, rfl, hr, hb⟩; obtain rfl : r = false := (by cases r; rfl; exact absurd (hr.1 rfl) HC.out); clear hr; have SC := Lib.hid (SC.out.below hb); clear hb))
              | (go_at_call 87; ((with_reducible refine (gread_ex SC.out.gp HT.out 1 (by decide)).mono ?_); rintro e wn ⟨hgn, hst⟩; rw [HRD.out] at hst; obtain ⟨rfl, hpn⟩ := hst; have SC := Lib.hid ((SC.out.step hqw (by omega) HBQ.out hgn hpn).below (balloc wn (TokB 1 (bytesOf tt) wl wc))); have K1 := heap_alloc_new wn (TokB 1 (bytesOf tt) wl wc); have KW := Lib.hid K1; have d0 := cell_of_row _ _ 0 _ _ _ K1; have d1 := cell_of_row _ _ 1 _ _ _ K1; have d2 := cell_of_row _ _ 2 _ _ _ K1; have d3 := cell_of_row _ _ 3 _ _ _ K1; have hl := seen_lk SC.out.seen hsz hdin; clear hgn hpn K1))
              | (go_at_call 61; ((with_reducible refine (gfail_ex _ _ _ _ _ _).mono ?_); rintro e wf ⟨rfl, hbf⟩; have BF := Lib.hid hbf; clear hbf)))
            have hRR := HRR.out
            rw [hR1.out] at hRR
            subst hRR
            exact ⟨rfl, SC.out.fr.trans (GrP.of_below BF.out), rfl⟩
          · obtain ⟨s5, s6⟩ := s4 hin
            have hdin := decide_eq_false hin
            have HND := Lib.hid (show ((bytesOf tt).toList == [110, 101, 101, 100, 115]) = true → J.needs = [] from fun e => hnd (fun e2 => hin (by rw [needs_eq e]; exact e2)))
            clear s3 s4
            cases hIT : itemF ts J (bytesOf tt) wl wc (a1 + 1) with
            | error e9 =>
              have hR1 := Lib.hid (s5 e9 hIT)
              have HIT := Lib.hid hIT
              clear s5 s6 hIT
              go_wp2_with (first
                | (go_at_call 88; ((with_reducible refine (gfollows_ex SC.out.gp 5 ⟨#[125]⟩).mono ?_); rintro e wn ⟨r, rfl, hr, hb⟩; obtain rfl : r = false := (by cases r; rfl; exact absurd (hr.1 rfl) HC.out); clear hr; have SC := Lib.hid (SC.out.below hb); have SW := Lib.hid SC.out.seen.lt; clear hb))
                | (go_at_call 87; ((with_reducible refine (gread_ex SC.out.gp HT.out 1 (by decide)).mono ?_); rintro e wn ⟨hgn, hst⟩; rw [HRD.out] at hst; obtain ⟨rfl, hpn⟩ := hst; have SC := Lib.hid ((SC.out.step hqw (by omega) HBQ.out hgn hpn).below (balloc wn (TokB 1 (bytesOf tt) wl wc))); have K1 := heap_alloc_new wn (TokB 1 (bytesOf tt) wl wc); have KW := Lib.hid K1; have d0 := cell_of_row _ _ 0 _ _ _ K1; have d1 := cell_of_row _ _ 1 _ _ _ K1; have d2 := cell_of_row _ _ 2 _ _ _ K1; have d3 := cell_of_row _ _ 3 _ _ _ K1; have hl := seen_lk SC.out.seen hsz hdin; have KB := Lib.hid (show wn.heap.size ≠ w1.heap.size by have q1 := SC.out.seen.lt; have q2 := hgn.size; have q3 : (wn.alloc (TokB 1 (bytesOf tt) wl wc)).heap.size = wn.heap.size + 1 := (by simp); have q4 := SW.out; omega); clear hgn hpn K1))
                | (at_mapUpdate; refine wpList_seen rfl _ _ _ rfl rfl SC.out.seen (by omega) hsz rfl rfl ?_; intro w5 hs5 hg5; have SC := Lib.hid (SC.out.word (by omega) hgw hqw (by omega) (seen_apart SC.out.seen) hg5 hs5 rfl hev); have k5 := (hg5.block _ (heap_lt KW.out) (fun e => KB.out (Option.some.inj e))).trans KW.out; have d0 := cell_of_row _ _ 0 _ _ _ k5; have d1 := cell_of_row _ _ 1 _ _ _ k5; have d2 := cell_of_row _ _ 2 _ _ _ k5; have d3 := cell_of_row _ _ 3 _ _ _ k5; clear hg5 hs5 k5)
                | (go_at_call 89; ((refine (gitem_ex SC.out.gp hT SC.out.jw (by omega) (by omega) hen 1 wl wc (bytesOf tt) HND.out).mono ?_); rintro e w6 ⟨hg6, hst⟩; rw [HIT.out] at hst; subst hst; have G6 := Lib.hid (jr_frame SC.out hqw (by omega) hg6); clear hg6)))
              have hRR := HRR.out
              rw [hR1.out] at hRR
              subst hRR
              exact ⟨rfl, G6.out, rfl⟩
            | ok r9 =>
              obtain ⟨J', a'⟩ := r9
              have hR1 := Lib.hid (s6 J' a' hIT)
              have HIT := Lib.hid hIT
              have IOK := Lib.hid (itemF_ok hIT hen)
              clear s5 s6 hIT
              go_wp2_with (first
                | (go_at_call 88; ((with_reducible refine (gfollows_ex SC.out.gp 5 ⟨#[125]⟩).mono ?_); rintro e wn ⟨r, rfl, hr, hb⟩; obtain rfl : r = false := (by cases r; rfl; exact absurd (hr.1 rfl) HC.out); clear hr; have SC := Lib.hid (SC.out.below hb); have SW := Lib.hid SC.out.seen.lt; clear hb))
                | (go_at_call 87; ((with_reducible refine (gread_ex SC.out.gp HT.out 1 (by decide)).mono ?_); rintro e wn ⟨hgn, hst⟩; rw [HRD.out] at hst; obtain ⟨rfl, hpn⟩ := hst; have SC := Lib.hid ((SC.out.step hqw (by omega) HBQ.out hgn hpn).below (balloc wn (TokB 1 (bytesOf tt) wl wc))); have K1 := heap_alloc_new wn (TokB 1 (bytesOf tt) wl wc); have KW := Lib.hid K1; have d0 := cell_of_row _ _ 0 _ _ _ K1; have d1 := cell_of_row _ _ 1 _ _ _ K1; have d2 := cell_of_row _ _ 2 _ _ _ K1; have d3 := cell_of_row _ _ 3 _ _ _ K1; have hl := seen_lk SC.out.seen hsz hdin; have KB := Lib.hid (show wn.heap.size ≠ w1.heap.size by have q1 := SC.out.seen.lt; have q2 := hgn.size; have q3 : (wn.alloc (TokB 1 (bytesOf tt) wl wc)).heap.size = wn.heap.size + 1 := (by simp); have q4 := SW.out; omega); clear hgn hpn K1))
                | (at_mapUpdate; refine wpList_seen rfl _ _ _ rfl rfl SC.out.seen (by omega) hsz rfl rfl ?_; intro w5 hs5 hg5; have SC := Lib.hid (SC.out.word (by omega) hgw hqw (by omega) (seen_apart SC.out.seen) hg5 hs5 rfl hev); have k5 := (hg5.block _ (heap_lt KW.out) (fun e => KB.out (Option.some.inj e))).trans KW.out; have d0 := cell_of_row _ _ 0 _ _ _ k5; have d1 := cell_of_row _ _ 1 _ _ _ k5; have d2 := cell_of_row _ _ 2 _ _ _ k5; have d3 := cell_of_row _ _ 3 _ _ _ k5; clear hg5 hs5 k5)
                | (go_at_call 89; ((refine (gitem_ex SC.out.gp hT SC.out.jw (by omega) (by omega) hen 1 wl wc (bytesOf tt) HND.out).mono ?_); rintro e w6 ⟨hg6, hst⟩; rw [HIT.out] at hst; obtain ⟨rfl, hp6, x', hj6⟩ := hst; have SC := Lib.hid (SC.out.item hqw (by omega) HBQ.out (by omega) hg6 hp6 hj6); clear hg6 hp6 hj6)))
              obtain ⟨i1, i2, i3⟩ := IOK.out
              have hla := SC.out.gp.lt
              obtain ⟨f2, rfl⟩ : ∃ f2, f = f2 + 1 := ⟨f - 1, by omega⟩
              go_roundg (ts.length - a' + 1)
              case measure => omega
              case rel => exact ⟨a', f2, x', J', _, n + 1, SC.out, sn_env hev, fun hn => by
                  by_cases hne : ((bytesOf tt).toList == [110, 101, 101, 100, 115]) = true
                  · exact absurd (sn_mem (needs_eq hne) (by decide)) hn
                  · rw [i3 (by simpa using hne)]; exact hnd (fun e2 => hn (sn_sub e2)), i2, by omega, hR1.out, by omega, Nat.le_refl _⟩
        · have hR1 := Lib.hid (s1 hk)
          have HRD := Lib.hid (show readF ts 1 a1 = .error (60, wl, wc) by rw [readF_eq ht]; exact if_neg hk)
          clear s1 s2 ht
          go_wp2_with (first
            | (go_at_call 88; ((with_reducible refine (gfollows_ex SC.out.gp 5 ⟨#[125]⟩).mono ?_); rintro e wn ⟨r, rfl, hr, hb⟩; obtain rfl : r = false := (by cases r; rfl; exact absurd (hr.1 rfl) HC.out); clear hr; have SC := Lib.hid (SC.out.below hb); clear hb))
            | (go_at_call 87; ((with_reducible refine (gread_ex SC.out.gp HT.out 1 (by decide)).mono ?_); rintro e wn ⟨hgn, hst⟩; rw [HRD.out] at hst; subst hst; have G1 := Lib.hid (SC.out.fr.trans hgn); clear hgn)))
          have hRR := HRR.out
          rw [hR1.out] at hRR
          subst hRR
          exact ⟨rfl, G1.out, rfl⟩
end Go.Proofs.YtdncjhffniepbaaGreatDoor.Lx
/- (GrW)
  Layer 6, the program: all jobs.
-/
namespace Go.Proofs.YtdncjhffniepbaaGreatDoor.Lx
open Go.RowKit

theorem Tryz.info73 : (Tryz.prog.info? 73).map (fun i => (i.zero, i.size, i.bytes)) = some (some (.agg ZJob), 15, 192) := by kernel_rfl
abbrev pat15 : Shape := [isStr 0, isStr 0, isStr 0, isStr 0, isStr 0, isStr 0, isStr 0, isStr 0, isStr 0, isStr 0, isStr 0, isStr 0, isStr 0, isStr 0, isStr 0]
theorem elJob : PElt 41 73 (.agg ZJob) pat15 192 := ⟨Tryz.underlying41, by obtain ⟨i, h1, h2, h3, h4⟩ := info_parts Tryz.info73; exact ⟨i, h1, h2, h3, h4⟩, rfl, by decide⟩
def jobCells (xs : List J15) : List Value := xs.flatMap fun x => x.arr.toList
theorem jobCells_length (xs : List J15) : (jobCells xs).length = xs.length * 15 := by
  induction xs with
  | nil => rfl
  | cons x xs ih => simp only [jobCells, List.flatMap_cons, List.length_append, List.length_cons] at *; rw [ih]; simp; omega
theorem jobCells_snoc (xs : List J15) (x : J15) : jobCells (xs ++ [x]) = jobCells xs ++ x.arr.toList := by simp [jobCells]
theorem JIs.grp {P : Nat → Prop} {w w' : World} {B : Nat} {x : J15} {J : JobS} (h : JIs w B x J) (hg : GrP P w w') (hP : ∀ k, B ≤ k → ¬ P k) : JIs w' B x J :=
  ⟨h.scal, xown_grp h.env hg (fun r e => hP r (xown_block h.env r e).1), xown_grp h.needs hg (fun r e => hP r (xown_block h.needs r e).1), xown_grp h.lad hg (fun r e => hP r (xown_block h.lad r e).1)⟩
theorem JIs.below {w w' : World} {B : Nat} {x : J15} {J : JobS} (h : JIs w B x J) (hb : Below w.heap.size w w') : JIs w' B x J := h.grp (P := fun _ => False) (GrP.of_below hb) (fun _ _ e => e)
theorem JIs.mono {w : World} {B B' : Nat} {x : J15} {J : JobS} (h : JIs w B x J) (hB : B' ≤ B) : JIs w B' x J := ⟨h.scal, xown_mono h.env hB, xown_mono h.needs hB, xown_mono h.lad hB⟩
theorem xown_alloc_grown {w w' : World} {o : Obj} {A : Option Addr} {n c : Nat} {e : TypeId} {k B : Nat} {v : Value} {m : Nat} {xs : List Value} (h : XOwn w e k B v m xs) (hg : (w.alloc o).grownBy w' (Value.slice A n c).ownBlock) (h1 : ∀ r, v.ownBlock = some r → (Value.slice A n c).ownBlock ≠ some r) : XOwn w' e k B v m xs :=
  xown_grown (xown_below h (balloc w o)) hg h1
/-- These jobs, cell for cell. -/
def JAll (w : World) (B : Nat) (xs : List J15) (out : List JobS) : Prop := xs.length = out.length ∧ ∀ (i : Nat) (x : J15) (J : JobS), xs[i]? = some x → out[i]? = some J → JIs w B x J
theorem JAll.grp {P : Nat → Prop} {w w' : World} {B : Nat} {xs : List J15} {out : List JobS} (h : JAll w B xs out) (hg : GrP P w w') (hP : ∀ k, B ≤ k → ¬ P k) : JAll w' B xs out := ⟨h.1, fun i x J h1 h2 => (h.2 i x J h1 h2).grp hg hP⟩
theorem JAll.below {w w' : World} {B : Nat} {xs : List J15} {out : List JobS} (h : JAll w B xs out) (hb : Below w.heap.size w w') : JAll w' B xs out := ⟨h.1, fun i x J h1 h2 => (h.2 i x J h1 h2).below hb⟩
theorem JIs.app {w w' : World} {o : Obj} {A : Option Addr} {n c B0 k0 : Nat} {ys : List Value} {B : Nat} {x : J15} {J : JobS} (h : JIs w B x J) (ho : XOwn w 73 k0 B0 (.slice A n c) n ys) (hg : (w.alloc o).grownBy w' (Value.slice A n c).ownBlock) : JIs w' B x J :=
  ⟨h.scal, xown_alloc_grown h.env hg (xown_apart h.env ho (by decide)), xown_alloc_grown h.needs hg (xown_apart h.needs ho (by decide)), xown_alloc_grown h.lad hg (xown_apart h.lad ho (by decide))⟩
theorem JAll.snoc {w w' : World} {o : Obj} {A : Option Addr} {n c B0 k0 : Nat} {ys : List Value} {B : Nat} {xs : List J15} {out : List JobS} {x : J15} {J : JobS} (h : JAll w B xs out) (hx : JIs w B x J) (ho : XOwn w 73 k0 B0 (.slice A n c) n ys) (hg : (w.alloc o).grownBy w' (Value.slice A n c).ownBlock) : JAll w' B (xs ++ [x]) (out ++ [J]) := by
  refine ⟨by simp [h.1], fun i x' J' h1 h2 => ?_⟩
  rcases Nat.lt_or_ge i xs.length with hi | hi
  · rw [List.getElem?_append_left hi] at h1
    rw [List.getElem?_append_left (by rw [← h.1]; exact hi)] at h2
    exact (h.2 i x' J' h1 h2).app ho hg
  · rw [List.getElem?_append_right hi] at h1
    rw [List.getElem?_append_right (by rw [← h.1]; exact hi)] at h2
    rw [← h.1] at h2
    rcases hk : i - xs.length with _ | k
    · rw [hk] at h1 h2
      simp at h1 h2
      subst h1; subst h2
      exact hx.app ho hg
    · rw [hk] at h1; simp at h1
def jobB : ByteArray := ⟨#[106, 111, 98]⟩
/-- All jobs from a place on; those that have been read so far. -/
noncomputable def jobsF (ts : List Tok) : Nat → List JobS → Nat → Except Fau (List JobS × Nat)
  | 0, _, _ => .error (60, 0, 0)
  | f + 1, out, a =>
    match ts[a]? with
    | none => .error (60, 0, 0)
    | some t0 =>
      if t0.kind = 6 then .ok (out, a)
      else match wordF ts 1 jobB a with
        | .error e => .error e
        | .ok n =>
          match takeF ts 1 32 n with
          | .error e => .error e
          | .ok n2 =>
            match ts[n]? with
            | none => .error (60, 0, 0)
            | some t =>
              if 32 ≤ out.length then .error (1, t.line, t.col)
              else match jobF ts (bytesOf t.text) t.line t.col n2 with
                | .error e => .error e
                | .ok r => jobsF ts f (out ++ [r.1]) r.2
def JobsPost (w : World) (q g off : Nat) (ts : List Tok) (R : Except Fau (List JobS × Nat)) (en : Ending) (w' : World) : Prop :=
  GrP (fun k => k = q) w w' ∧ match R with
  | .ok (l, a') => GP w' q g off ts a' ∧ ∃ v xs, en = .returned v ∧ XOwn w' 73 15 w.heap.size v l.length (jobCells xs) ∧ JAll w' w.heap.size xs l
  | .error f => en = fauE f.1 f.2.1 f.2.2
theorem wordF_ok {ts : List Tok} {kd : Int} {z : ByteArray} {a n : Nat} (h : wordF ts kd z a = .ok n) : n = a + 1 := by
  unfold wordF at h
  split at h
  · cases h
  · split at h
    · injection h with h; exact h.symm
    · cases h
theorem itemsF_le {ts : List Tok} : ∀ (f : Nat) (J : JobS) (sn : List ByteArray) (a : Nat) {r : (JobS × List ByteArray) × Nat}, J.env.length ≤ 16 → itemsF ts f J sn a = .ok r → a ≤ r.2
  | 0, _, _, _, _, _, h => by simp [itemsF] at h
  | f + 1, J, sn, a, r, he, h => by
    unfold itemsF at h
    split at h
    · injection h with h; subst h; exact Nat.le_refl _
    · split at h
      · cases h
      · rename_i n hn
        have h1 := (readF_ok hn).1
        split at h
        · cases h
        · split at h
          · cases h
          · split at h
            · cases h
            · rename_i r' hr'
              obtain ⟨J', a'⟩ := r'
              obtain ⟨i1, i2, _⟩ := itemF_ok hr' he
              have := itemsF_le f J' _ a' i2 h
              omega
theorem jobF_lt {ts : List Tok} {nm : ByteArray} {line col : Int} {a : Nat} {r : JobS × Nat} (h : jobF ts nm line col a = .ok r) : a < r.2 := by
  unfold jobF at h
  split at h
  · cases h
  · rename_i n hn
    have h1 := signF_ok hn
    split at h
    · cases h
    · rename_i r' hr'
      have h2 := itemsF_le _ _ _ _ (Nat.zero_le _) hr'
      split at h
      · cases h
      · split at h
        · cases h
        · rename_i m hm
          have h3 := signF_ok hm
          injection h with h
          subst h
          show a < m
          omega
end Go.Proofs.YtdncjhffniepbaaGreatDoor.Lx
/- (GrX)
  Layer 6, the program: all jobs, the walk.
-/
namespace Go.Proofs.YtdncjhffniepbaaGreatDoor.Lx
open Go.RowKit

theorem jobsF_eq (ts : List Tok) (f : Nat) (out : List JobS) (a : Nat) (R : Except Fau (List JobS × Nat)) (h : jobsF ts (f + 1) out a = R) {t0 : Tok} (ht0 : ts[a]? = some t0) :
    (t0.kind = 6 → R = .ok (out, a)) ∧ (t0.kind ≠ 6 → (∀ e, wordF ts 1 jobB a = .error e → R = .error e) ∧ (∀ n, wordF ts 1 jobB a = .ok n → (∀ e, takeF ts 1 32 n = .error e → R = .error e) ∧ (∀ n2, takeF ts 1 32 n = .ok n2 → ∀ t, ts[n]? = some t →
      (32 ≤ out.length → R = .error (1, t.line, t.col)) ∧ (¬ 32 ≤ out.length → (∀ e, jobF ts (bytesOf t.text) t.line t.col n2 = .error e → R = .error e) ∧ (∀ r, jobF ts (bytesOf t.text) t.line t.col n2 = .ok r → jobsF ts f (out ++ [r.1]) r.2 = R))))) := by
  unfold jobsF at h
  simp only [ht0] at h
  refine ⟨fun hk => ?_, fun hk => ⟨fun e he => ?_, fun n hn => ⟨fun e he => ?_, fun n2 hn2 t ht => ⟨fun hl => ?_, fun hl => ⟨fun e he => ?_, fun r hr => ?_⟩⟩⟩⟩⟩
  · rw [if_pos hk] at h; exact h.symm
  · rw [if_neg hk, he] at h; exact h.symm
  · rw [if_neg hk, hn] at h; simp only [he] at h; exact h.symm
  · rw [if_neg hk, hn] at h; simp only [hn2, ht] at h; rw [if_pos hl] at h; exact h.symm
  · rw [if_neg hk, hn] at h; simp only [hn2, ht] at h; rw [if_neg hl, he] at h; exact h.symm
  · rw [if_neg hk, hn] at h; simp only [hn2, ht] at h; rw [if_neg hl, hr] at h; exact h
set_option maxHeartbeats 4000000 in
set_option maxRecDepth 100000 in
theorem gjobs_ex {w : World} {q g off : Nat} {ts : List Tok} {a : Nat} (h : GP w q g off ts a) (hT : TsOk ts) :
    Calls Tryz.prog 39 #[.pointer (some ⟨q, 0, none⟩)] w (JobsPost w q g off ts (jobsF ts (ts.length + 1) [] a)) := by
  have hqw := h.qlt
  have hgw := h.glt
  have PH := Lib.hid h
  generalize hR : jobsF ts (ts.length + 1) [] a = R
  have HR0 := Lib.hid hR
  clear h hR
  go_enter Tryz.func39, Tryz.ntmps39
  go_wp2_with fail
  go_loopg [3] (ts.length + 1) (fun g' mv wr => ∃ (a1 f : Nat) (out : List JobS) (xs : List J15), GP wr q g off ts a1 ∧ GrP (fun k => k = q) w wr ∧ XOwn wr 73 15 w.heap.size mv out.length (jobCells xs) ∧ JAll wr w.heap.size xs out ∧ jobsF ts (f + 1) out a1 = R ∧ out.length ≤ 32 ∧ ts.length ≤ a1 + f + 1 ∧ ts.length - a1 + 1 ≤ g')
  case atStart => exact ⟨a, ts.length, [], [], PH.out, GrP.refl _ _, World.ownsRow_nil _ _ _ _, ⟨rfl, fun i x J h1 => by simp at h1⟩, HR0.out, by simp, by omega, by omega⟩
  case round =>
    obtain ⟨a1, f, out, xs, hp, hfr, hown, hall, hF, hl, hf, hg⟩ := hrel
    obtain ⟨wo, rfl⟩ : ∃ wo : World, wo = wr := ⟨_, rfl⟩
    obtain ⟨⟨tk, tt, wl, wc⟩, ht, htl⟩ := hp.now
    obtain ⟨c, hq9, hc1, hc2⟩ := hp.blk
    obtain ⟨c0, _, _, _⟩ := hp.tok a1 _ ht
    have cq := cell_of_row _ _ 0 _ _ _ hq9
    have hal := hp.lt
    have hpos : (0 : Int) < ((ts.length - a1 : Nat) : Int) := by omega
    have hn2' : ((ts.length - a1 : Nat) : Int) ≤ 9223372036854775807 := by have := hp.len; omega
    have PC := Lib.hid hp
    have GC := Lib.hid hfr
    have OC := Lib.hid hown
    have AC := Lib.hid hall
    obtain ⟨Aj, cj, rfl⟩ := xown_form hown
    have HST := jobsF_eq ts f out a1 R hF ht
    have hfin := Lib.hid hp.fin
    clear hp hfr hown hall hF hq9
    by_cases hk : tk = 6
    · subst hk
      have hR := HST.1 rfl
      subst hR
      clear HST
      go_wp2_with fail
      go_ret
      exact ⟨GC.out, PC.out, _, xs, rfl, OC.out, AC.out⟩
    · have hkb : (tk != 6) = true := by simp [hk]
      obtain ⟨s1, s2⟩ := HST.2 hk
      clear HST
      have hB : ∀ k, w.heap.size ≤ k → ¬ (fun k => k = q) k := fun k hk e => by omega
      have HB := Lib.hid hB
      clear hB
      cases hW : wordF ts 1 jobB a1 with
      | error e9 =>
        have hR := Lib.hid (s1 e9 hW)
        have HW := Lib.hid hW
        clear s1 s2 hW
        go_wp2_with (go_at_call 59; ((with_reducible refine (gexpect_ex PC.out ⟨#[106, 111, 98]⟩ 1 (by decide)).mono ?_); rintro e w1 ⟨hg1, hst⟩; rw [show wordF ts 1 ⟨#[106, 111, 98]⟩ a1 = _ from HW.out] at hst; subst hst; have G1 := Lib.hid (GC.out.trans hg1); clear hg1))
        rw [hR.out]
        exact ⟨rfl, G1.out, rfl⟩
      | ok n =>
        obtain ⟨s3, s4⟩ := s2 n hW
        have HW := Lib.hid hW
        obtain rfl := wordF_ok hW
        clear s1 s2 hW
        have hlt2 := Lib.hid (ts_more hfin.out ht hk)
        obtain ⟨⟨k2, tt2, l2, c2⟩, ht2⟩ : ∃ t, ts[a1 + 1]? = some t := ⟨_, List.getElem?_eq_getElem hlt2.out⟩
        have HT2 := Lib.hid ht2
        cases hL : takeF ts 1 32 (a1 + 1) with
        | error e9 =>
          have hR := Lib.hid (s3 e9 hL)
          have HL := Lib.hid hL
          clear s3 s4 hL ht2
          go_wp2_with (first
            | (go_at_call 59; ((with_reducible refine (gexpect_ex PC.out ⟨#[106, 111, 98]⟩ 1 (by decide)).mono ?_); rintro e w1 ⟨hg1, hst⟩; rw [show wordF ts 1 ⟨#[106, 111, 98]⟩ a1 = _ from HW.out] at hst; obtain ⟨rfl, hp1⟩ := hst; have G1 := Lib.hid (GC.out.trans hg1); have P1 := Lib.hid hp1; clear hg1 hp1))
            | (go_at_call 60; ((with_reducible refine (glimited_ex P1.out HT2.out 1 32 (by decide)).mono ?_); rintro e w2 ⟨hg2, hst⟩; rw [HL.out] at hst; subst hst; have G2 := Lib.hid (G1.out.trans hg2); clear hg2)))
          rw [hR.out]
          exact ⟨rfl, G2.out, rfl⟩
        | ok n2 =>
          obtain ⟨s5, s6⟩ := s4 n2 hL _ ht2
          have HL := Lib.hid hL
          obtain ⟨rfl, t', ht', hk2, _⟩ := takeF_ok hL
          rw [ht2] at ht'
          injection ht' with ht'
          subst ht'
          simp only at hk2 s5 s6
          subst hk2
          clear s3 s4 hL ht2
          by_cases h32 : 32 ≤ out.length
          · have hR := Lib.hid (s5 h32)
            have h32b : ((out.length : Int) == 32) = true := by simp; omega
            clear s5 s6
            go_wp2_with (first
              | (go_at_call 59; ((with_reducible refine (gexpect_ex PC.out ⟨#[106, 111, 98]⟩ 1 (by decide)).mono ?_); rintro e w1 ⟨hg1, hst⟩; rw [show wordF ts 1 ⟨#[106, 111, 98]⟩ a1 = _ from HW.out] at hst; obtain ⟨rfl, hp1⟩ := hst; have G1 := Lib.hid (GC.out.trans hg1); have P1 := Lib.hid hp1; clear hg1 hp1))
              | (go_at_call 60; ((with_reducible refine (glimited_ex P1.out HT2.out 1 32 (by decide)).mono ?_); rintro e w2 ⟨hg2, hst⟩; rw [HL.out] at hst; obtain ⟨rfl, hp2⟩ := hst; have G2 := Lib.hid ((G1.out.trans hg2).trans (GrP.of_below (balloc w2 (TokB 1 (bytesOf tt2) l2 c2)))); have K2 := heap_alloc_new w2 (TokB 1 (bytesOf tt2) l2 c2); have d0 := cell_of_row _ _ 0 _ _ _ K2; have d1 := cell_of_row _ _ 1 _ _ _ K2; have d2 := cell_of_row _ _ 2 _ _ _ K2; have d3 := cell_of_row _ _ 3 _ _ _ K2; clear hg2 hp2 K2))
              | (go_at_call 61; ((with_reducible refine (gfail_ex _ _ _ _ _ _).mono ?_); rintro e wf ⟨rfl, hbf⟩; have BF := Lib.hid hbf; clear hbf)))
            rw [hR.out]
            exact ⟨rfl, G2.out.trans (GrP.of_below BF.out), rfl⟩
          · obtain ⟨s7, s8⟩ := s6 h32
            have h32b : ((out.length : Int) == 32) = false := by simp; omega
            clear s5 s6
            cases hJ : jobF ts (bytesOf tt2) l2 c2 (a1 + 1 + 1) with
            | error e9 =>
              have hR := Lib.hid (s7 e9 hJ)
              have HJ := Lib.hid hJ
              clear s7 s8 hJ
              go_wp2_with (first
                | (go_at_call 59; ((with_reducible refine (gexpect_ex PC.out ⟨#[106, 111, 98]⟩ 1 (by decide)).mono ?_); rintro e w1 ⟨hg1, hst⟩; rw [show wordF ts 1 ⟨#[106, 111, 98]⟩ a1 = _ from HW.out] at hst; obtain ⟨rfl, hp1⟩ := hst; have G1 := Lib.hid (GC.out.trans hg1); have P1 := Lib.hid hp1; clear hg1 hp1))
                | (go_at_call 60; ((with_reducible refine (glimited_ex P1.out HT2.out 1 32 (by decide)).mono ?_); rintro e w2 ⟨hg2, hst⟩; rw [HL.out] at hst; obtain ⟨rfl, hp2⟩ := hst; have G2 := Lib.hid ((G1.out.trans hg2).trans (GrP.of_below (balloc w2 (TokB 1 (bytesOf tt2) l2 c2)))); have P2 := Lib.hid (hp2.below (balloc w2 (TokB 1 (bytesOf tt2) l2 c2))); have K2 := heap_alloc_new w2 (TokB 1 (bytesOf tt2) l2 c2); have d0 := cell_of_row _ _ 0 _ _ _ K2; have d1 := cell_of_row _ _ 1 _ _ _ K2; have d2 := cell_of_row _ _ 2 _ _ _ K2; have d3 := cell_of_row _ _ 3 _ _ _ K2; clear hg2 hp2 K2))
                | (go_at_call 62; ((with_reducible refine (gjob_ex P2.out hT 1 l2 c2 (bytesOf tt2)).mono ?_); rintro e w3 ⟨hg3, hst⟩; rw [HJ.out] at hst; subst hst; have G3 := Lib.hid (G2.out.trans hg3); clear hg3)))
              rw [hR.out]
              exact ⟨rfl, G3.out, rfl⟩
            | ok r9 =>
              obtain ⟨J9, a9⟩ := r9
              have hR := Lib.hid (s8 _ hJ)
              have HJ := Lib.hid hJ
              have HLT := Lib.hid (jobF_lt hJ)
              clear s7 s8 hJ
              go_wp2_with (first
                | (go_at_call 59; ((with_reducible refine (gexpect_ex PC.out ⟨#[106, 111, 98]⟩ 1 (by decide)).mono ?_); rintro e w1 ⟨hg1, hst⟩; rw [show wordF ts 1 ⟨#[106, 111, 98]⟩ a1 = _ from HW.out] at hst; obtain ⟨rfl, hp1⟩ := hst; have G1 := Lib.hid (GC.out.trans hg1); have P1 := Lib.hid hp1; have O1 := Lib.hid (xown_grp OC.out hg1 (fun r e => HB.out r (xown_block OC.out r e).1)); have A1 := Lib.hid (AC.out.grp hg1 HB.out); clear hg1 hp1))
                | (go_at_call 60; ((with_reducible refine (glimited_ex P1.out HT2.out 1 32 (by decide)).mono ?_); rintro e w2 ⟨hg2, hst⟩; rw [HL.out] at hst; obtain ⟨rfl, hp2⟩ := hst; have hga := hg2.trans (GrP.of_below (balloc w2 (TokB 1 (bytesOf tt2) l2 c2))); have G2 := Lib.hid (G1.out.trans hga); have P2 := Lib.hid (hp2.below (balloc w2 (TokB 1 (bytesOf tt2) l2 c2))); have O2 := Lib.hid (xown_grp O1.out hga (fun r e => HB.out r (xown_block O1.out r e).1)); have A2 := Lib.hid (A1.out.grp hga HB.out); have K2 := heap_alloc_new w2 (TokB 1 (bytesOf tt2) l2 c2); have d0 := cell_of_row _ _ 0 _ _ _ K2; have d1 := cell_of_row _ _ 1 _ _ _ K2; have d2 := cell_of_row _ _ 2 _ _ _ K2; have d3 := cell_of_row _ _ 3 _ _ _ K2; clear hg2 hp2 K2 hga))
                | (go_at_call 62; ((with_reducible refine (gjob_ex P2.out hT 1 l2 c2 (bytesOf tt2)).mono ?_); rintro e w3 ⟨hg3, hst⟩; rw [HJ.out] at hst; obtain ⟨hp3, x9, rfl, hx9⟩ := hst; have hx9 := hx9.mono (B' := w.heap.size) G2.out.size; have X3 := Lib.hid hx9; have G3 := Lib.hid (G2.out.trans hg3); have P3 := Lib.hid hp3; have O3 := Lib.hid (xown_grp O2.out hg3 (fun r e => HB.out r (xown_block O2.out r e).1)); have A3 := Lib.hid (A2.out.grp hg3 HB.out); obtain ⟨Ae, ce, he⟩ := xown_form hx9.env; obtain ⟨An, cn, hn⟩ := xown_form hx9.needs; obtain ⟨Al, cl, hl9⟩ := xown_form hx9.lad; obtain ⟨nm, run, env, needs, hr, rd, rs, base, cap, stb, bur, win, lad, line, col⟩ := x9; simp only at he hn hl9; subst he; subst hn; subst hl9; clear hg3 hp3 hx9))
                | (at_builtin; refine wpList_app_x rfl _ _ elJob rfl rfl (xown_below O3.out (balloc _ _)) (J15.arr ⟨nm, run, .slice Ae J9.env.length ce, .slice An J9.needs.length cn, hr, rd, rs, base, cap, stb, bur, win, .slice Al J9.lad.length cl, line, col⟩).toList rfl (by simp [Value.oneCell']) w3.heap.size 1 0 rfl ?_ (by omega) (by omega) (by have := G3.out.size; simp; omega) ?_; (case refine_1 => (intro j9 u9 hu9; rw [cell_of_row _ _ _ _ _ _ (heap_alloc_new w3 _), Nat.zero_add]; simpa using hu9)); intro v5 w5 hO hF; obtain ⟨A5, c5, rfl⟩ := xown_form hO; have O5 := Lib.hid hO; have F5 := Lib.hid hF; clear hO hF))
              have hl9 := P3.out.lt
              have hlt9 := HLT.out
              obtain ⟨f2, rfl⟩ : ∃ f2, f = f2 + 1 := ⟨f - 1, by omega⟩
              have hoB : ∀ k, k < w.heap.size → some k ≠ Aj.map (·.block) := fun k hk e => by
                have := (xown_block O3.out k (by rw [ownBlock_map]; exact e.symm)).1
                omega
              go_roundg (ts.length - a9 + 1)
              case measure => omega
              case rel => exact ⟨a9, f2, out ++ [J9], xs ++ [⟨nm, run, .slice Ae J9.env.length ce, .slice An J9.needs.length cn, hr, rd, rs, base, cap, stb, bur, win, .slice Al J9.lad.length cl, line, col⟩], appG P3.out F5.out (hoB q hqw) (hoB g hgw), appF G3.out F5.out (fun k e => .inl (xown_block O3.out k e).1), by rw [jobCells_snoc, List.length_append]; exact O5.out, A3.out.snoc X3.out O3.out F5.out, hR.out, by rw [List.length_append, List.length_singleton]; omega, by omega, Nat.le_refl _⟩
end Go.Proofs.YtdncjhffniepbaaGreatDoor.Lx
/- (GrY)
  Layer 6, the program: Parse.
-/
namespace Go.Proofs.YtdncjhffniepbaaGreatDoor.Lx
open Go.RowKit

theorem assert_fau (e x y : Int) (w : World) : (Instr.typeAssert (fauV e x y) 20 32 true).run Tryz.prog w = .ok (.tuple #[.agg #[.int .i64 e, .int .i64 x, .int .i64 y], .bool true]) w := by kernel_rfl
theorem assert_nil (w : World) : (Instr.typeAssert .nilIface 20 32 true).run Tryz.prog w = .ok (.tuple #[.agg #[.int .i64 0, .int .i64 0, .int .i64 0], .bool false]) w := by kernel_rfl
set_option maxRecDepth 100000 in
theorem gcatch_panicking (p : Addr) (e x y a b c : Int) (older : List PanicEntry) (w : World) (t : TypeId) (R : Nat) (hp : p = ⟨R, 0, none⟩) (hr : w.heap[R]? = some (.cells #[.int .i64 a, .int .i64 b, .int .i64 c] t (0, 0))) :
    CallsD Tryz.prog 38 #[.pointer (some p)] (.panicking ({ v := fauV e x y, recovered := false } :: older)) w fun en u' w' =>
      en = .returned (.tuple #[]) ∧ u' = .panicking ({ v := fauV e x y, recovered := true } :: older) ∧ w' = ((w.setCell ⟨R, 0, none⟩ (.int .i64 e)).setCell ⟨R, 1, none⟩ (.int .i64 x)).setCell ⟨R, 2, none⟩ (.int .i64 y) := by
  subst hp
  have c0 := cell_of_row _ _ 0 _ _ _ hr
  have c1 := cell_of_row _ _ 1 _ _ _ hr
  have c2 := cell_of_row _ _ 2 _ _ _ hr
  have f0 := frozen_of_row _ _ 0 _ _ hr
  have f1 := frozen_of_row _ _ 1 _ _ hr
  have f2 := frozen_of_row _ _ 2 _ _ hr
  refine callsD_of_wpS Tryz.func38 rfl fun c₀ cs hu => ?_
  apply wpS_region
  have hta := assert_fau e x y w
  simp [wpOpsS, go_sem, recoverD, hu, Tryz.ntmps38, hta, c0, c1, c2, f0, f1, f2]
  simp [bodyPostS, results, Tryz.results38]
set_option maxRecDepth 100000 in
theorem gcatch_idle (p : Addr) (a b c : Int) (w : World) (t : TypeId) (R : Nat) (hp : p = ⟨R, 0, none⟩) (hr : w.heap[R]? = some (.cells #[.int .i64 a, .int .i64 b, .int .i64 c] t (0, 0))) :
    CallsD Tryz.prog 38 #[.pointer (some p)] .returning w fun en u' w' =>
      en = .returned (.tuple #[]) ∧ u' = .returning ∧ w' = ((w.setCell ⟨R, 0, none⟩ (.int .i64 0)).setCell ⟨R, 1, none⟩ (.int .i64 0)).setCell ⟨R, 2, none⟩ (.int .i64 0) := by
  subst hp
  have c0 := cell_of_row _ _ 0 _ _ _ hr
  have c1 := cell_of_row _ _ 1 _ _ _ hr
  have c2 := cell_of_row _ _ 2 _ _ _ hr
  have f0 := frozen_of_row _ _ 0 _ _ hr
  have f1 := frozen_of_row _ _ 1 _ _ hr
  have f2 := frozen_of_row _ _ 2 _ _ hr
  refine callsD_of_wpS Tryz.func38 rfl fun c₀ cs hu => ?_
  apply wpS_region
  have hta := assert_nil w
  simp [wpOpsS, go_sem, recoverD, hu, Tryz.ntmps38, hta, c0, c1, c2, f0, f1, f2]
  cases c₀
  simp_all [bodyPostS, results, Tryz.results38]
end Go.Proofs.YtdncjhffniepbaaGreatDoor.Lx
/- (GrZ)
  Layer 6: what is known of a Procfile's tokens.
-/
namespace Go.Proofs.YtdncjhffniepbaaGreatDoor.Lx
open Go.RowKit

theorem takeWhile_all {p : Int → Bool} : ∀ (l : List Int), ∀ x ∈ l.takeWhile p, p x = true
  | [], x, h => by simp at h
  | a :: r, x, h => by
    rw [List.takeWhile_cons] at h
    split at h
    · rename_i ha
      rcases List.mem_cons.1 h with rfl | h
      · exact ha
      · exact takeWhile_all r x h
    · simp at h
theorem take_span (w : Bool) (l : List Int) : l.take (spanL w l) = l.takeWhile (if w then inWord else digit) := by
  unfold spanL
  exact (List.prefix_iff_eq_take.1 (List.takeWhile_prefix _)).symm
theorem quoF_text : ∀ (f : Nat) (l : List Int) {t : List Int} {n : Nat}, quoF f l = some (t, n) → t.length ≤ l.length
  | 0, _, _, _, h => by simp [quoF] at h
  | f + 1, [], _, _, h => by simp [quoF] at h
  | f + 1, a :: r, t, n, h => by
    unfold quoF at h
    split at h
    · injection h with h; injection h with h _; rw [← h]; simp
    · split at h
      · simp at h
      · rename_i b m hp
        have hm := part_len hp
        split at h
        · simp at h
        · rename_i t' m' hq
          injection h with h; injection h with h _
          have := quoF_text f _ hq
          rw [List.length_drop] at this
          rw [← h]; simp only [List.length_cons] at *
          omega
theorem sla_text : ∀ (l : List Int) {t : List Int} {n : Nat}, sla l = some (t, n) → t.length ≤ l.length
  | [], _, _, h => by simp [sla] at h
  | [a], t, n, h => by
    unfold sla at h
    split at h
    · injection h with h; injection h with h _; rw [← h]; simp
    · simp at h
  | a :: b :: r, t, n, h => by
    unfold sla at h
    split at h
    · injection h with h; injection h with h _; rw [← h]; simp
    · split at h
      · simp at h
      · split at h
        · split at h
          · simp at h
          · cases hq : sla r with
            | none => rw [hq] at h; simp at h
            | some x =>
              obtain ⟨t', m⟩ := x
              rw [hq] at h
              simp only [Option.map_some, Option.some.injEq, Prod.mk.injEq] at h
              have := sla_text r hq
              rw [← h.1]
              simp only [List.length_append, List.length_cons]
              split <;> simp <;> omega
        · cases hq : sla (b :: r) with
          | none => rw [hq] at h; simp at h
          | some x =>
            obtain ⟨t', m⟩ := x
            rw [hq] at h
            simp only [Option.map_some, Option.some.injEq, Prod.mk.injEq] at h
            have := sla_text (b :: r) hq
            rw [← h.1]
            simp only [List.length_cons] at *
            omega
/-- What is known of a token. -/
theorem one_props {l : List Int} {k : Int} {t : List Int} {n : Nat} (h : one l = .tok k t n) : t.length ≤ l.length ∧ (k = 2 → 1 ≤ t.length ∧ t.length ≤ 18 ∧ ∀ x ∈ t, 48 ≤ x ∧ x ≤ 57) := by
  match l, h with
  | [], h => simp [one] at h
  | a :: r, h =>
    cases hl : letter a with
    | true =>
      rw [one_letter hl] at h
      simp only [One.tok.injEq] at h
      obtain ⟨rfl, rfl, _⟩ := h
      exact ⟨by rw [List.length_take]; exact Nat.min_le_right _ _, fun e => by simp at e⟩
    | false =>
      cases hd : digit a with
      | true =>
        rw [one_digit hl hd] at h
        split at h
        · simp at h
        · rename_i hn
          simp only [One.tok.injEq] at h
          obtain ⟨rfl, rfl, _⟩ := h
          refine ⟨by rw [List.length_take]; exact Nat.min_le_right _ _, fun _ => ⟨?_, ?_, ?_⟩⟩
          · rw [List.length_take]
            have h1 : 1 ≤ spanL false (a :: r) := spanL_pos (by simp [pw, hd])
            have h2 := spanL_le false (a :: r)
            omega
          · rw [List.length_take]; omega
          · intro x hx
            rw [take_span] at hx
            have := takeWhile_all _ x hx
            simpa [digit] using this
      | false =>
        by_cases h34 : a = 34
        · subst h34
          rw [one_str] at h
          cases hq : quo r with
          | none => rw [hq] at h; simp at h
          | some x =>
            rw [hq] at h
            simp only [One.tok.injEq] at h
            obtain ⟨rfl, rfl, _⟩ := h
            have := quoF_text _ r hq
            exact ⟨by simp only [List.length_cons]; omega, fun e => by simp at e⟩
        by_cases h47 : a = 47
        · subst h47
          rw [one_pat] at h
          cases hq : sla r with
          | none => rw [hq] at h; simp at h
          | some x =>
            rw [hq] at h
            simp only [One.tok.injEq] at h
            obtain ⟨rfl, rfl, _⟩ := h
            have := sla_text r hq
            exact ⟨by simp only [List.length_cons]; omega, fun e => by simp at e⟩
        by_cases hs : a = 123 ∨ a = 125 ∨ a = 44 ∨ a = 61
        · rw [one_sign hs] at h
          simp only [One.tok.injEq] at h
          obtain ⟨rfl, rfl, _⟩ := h
          exact ⟨by simp, fun e => by simp at e⟩
        · rw [one_char hl hd h34 h47 hs] at h; simp at h
theorem lexC_props : ∀ (f c : Nat) (l : List Int) (p : Int × Int) (ts : List Tok), c ≤ 2000 → lexC f c l p = .ok ts →
    0 < ts.length ∧ ts.length ≤ 2001 - c ∧ (∀ t, ts[ts.length - 1]? = some t → t.kind = 6) ∧ ∀ t ∈ ts, t.text.length ≤ l.length ∧ (t.kind = 2 → 1 ≤ t.text.length ∧ t.text.length ≤ 18 ∧ ∀ x ∈ t.text, 48 ≤ x ∧ x ≤ 57)
  | 0, _, _, _, _, _, h => by simp [lexC] at h
  | f + 1, c, l, p, ts, hc, h => by
    unfold lexC at h
    split at h
    · injection h with h
      subst h
      refine ⟨by simp, by simp; omega, fun t ht => by simp at ht; rw [← ht], fun t ht => ?_⟩
      simp at ht
      subst ht
      exact ⟨by simp, fun e => by simp at e⟩
    · split at h
      · simp at h
      · rename_i k t n h1
        split at h
        · simp at h
        · rename_i h2
          cases hr : lexC f (c + 1) (l.drop (skip l + n)) (adv p (l.take (skip l + n))) with
          | error e => rw [hr] at h; simp [Except.map] at h
          | ok r =>
            rw [hr] at h
            simp only [Except.map, Except.ok.injEq] at h
            obtain ⟨a1, a2, a3, a4⟩ := lexC_props f (c + 1) _ _ r (by omega) hr
            obtain ⟨o1, o2⟩ := one_props h1
            subst h
            refine ⟨by simp, by simp only [List.length_cons]; omega, fun t' ht' => ?_, fun t' ht' => ?_⟩
            · have e : (r.length + 1 - 1) = (r.length - 1) + 1 := by omega
              simp only [List.length_cons] at ht'
              rw [e, List.getElem?_cons_succ] at ht'
              exact a3 t' ht'
            · rcases List.mem_cons.1 ht' with rfl | ht'
              · rw [List.length_drop] at o1
                exact ⟨by simp only; omega, o2⟩
              · obtain ⟨b1, b2⟩ := a4 t' ht'
                rw [List.length_drop] at b1
                exact ⟨by omega, b2⟩
/-- The tokens of a Procfile without a fault. -/
theorem all_props {l : List Int} {ts : List Tok} (h : all l = .ok ts) : 0 < ts.length ∧ ts.length ≤ 3000 ∧ (∀ t, ts[ts.length - 1]? = some t → t.kind = 6) ∧ TsOk ts := by
  unfold all at h
  split at h
  · cases h
  · rename_i hl
    obtain ⟨a1, a2, a3, a4⟩ := lexC_props _ _ _ _ _ (by omega) h
    refine ⟨a1, by omega, a3, ⟨fun t ht hk => ?_, fun t ht => ?_⟩⟩
    · obtain ⟨b1, b2, b3⟩ := (a4 t ht).2 hk
      refine ⟨by rw [bytesOf_size]; exact b1, by rw [bytesOf_size]; exact b2, ?_⟩
      rw [ch_bytesOf (fun x hx => by have := b3 x hx; omega)]
      exact b3
    · have := (a4 t ht).1; omega
end Go.Proofs.YtdncjhffniepbaaGreatDoor.Lx
