/-
  Layer 4: the contract of Decode.
-/
import Derived.Test.YtjcgcloanamabaaRuSt
namespace Go.Proofs.Ytjcgcloanamabaa.Ru
open Go.RowKit

theorem stepA {r : List Int} {c : Int} (h0 : 0 < r.length) (h : fits (r ++ [c]) = false) : stepR r c = oneR [c] ∧ stepO r c = 65533 :: oneO [c] := by
  unfold stepR stepO; rw [if_pos ⟨h0, h⟩, if_pos ⟨h0, h⟩]; exact ⟨rfl, rfl⟩
theorem stepB {r : List Int} {c : Int} (h : 0 < r.length → fits (r ++ [c]) = true) : stepR r c = oneR (r ++ [c]) ∧ stepO r c = oneO (r ++ [c]) := by
  unfold stepR stepO
  have : ¬ (0 < r.length ∧ fits (r ++ [c]) = false) := fun ⟨a, b⟩ => by rw [h a] at b; simp at b
  rw [if_neg this, if_neg this]; exact ⟨rfl, rfl⟩
theorem oneA {l : List Int} (h : isBeg l = true) : oneR l = l ∧ oneO l = [] := by unfold oneR oneO; simp [h]
theorem oneB {l : List Int} (h : isBeg l = false) (k : fits l = true) : oneR l = [] ∧ oneO l = [chr l] := by unfold oneR oneO; simp [h, k]
theorem oneC {l : List Int} (h : isBeg l = false) (k : fits l = false) : oneR l = [] ∧ oneO l = [65533] := by unfold oneR oneO; simp [h, k]
theorem res_cell (w : World) (R : Nat) (v u : Value) (t : TypeId) (h : w.heap[R]? = some (.cells #[u] t (0, 0))) : (w.setCell ⟨R, 0, none⟩ v).heap[R]? = some (.cells #[v] t (0, 0)) := by
  rw [heap_setCell_same w R 0 _ _ v h]; rfl
theorem dpost_of {w wo w5 : World} {v vo v5 : Value} {l o : List Int} (h5 : Lst .u8 w5 v5 l) (hs : St w wo v l vo o) (hb : Below wo.heap.size wo w5) :
    DPost w l o (.returned (.tuple #[.agg #[v5], vo])) (w5.setCell ⟨w.heap.size + 1, 0, none⟩ v5) := by
  have hk := (hb.block _ (heap_lt hs.res)).trans hs.res
  have hset : ∀ g, g ≠ w.heap.size + 1 → (w5.setCell ⟨w.heap.size + 1, 0, none⟩ v5).heap[g]? = w5.heap[g]? := fun g hg => heap_setCell_other _ _ _ _ hg
  have keep : ∀ {k : IntKind} {v : Value} {l : List Int}, Lst k w5 v l → Lst k (w5.setCell ⟨w.heap.size + 1, 0, none⟩ v5) v l := by
    rintro k v l ⟨A, c, e1, e2, e3⟩
    refine ⟨A, c, e1, fun hn => ?_, e3⟩
    obtain ⟨g, off, e4, e5⟩ := e2 hn
    refine ⟨g, off, e4, fun j x hx => ?_⟩
    have hc := e5 j x hx
    by_cases hg : g = w.heap.size + 1
    · subst hg
      rw [cell_of_row _ _ _ _ _ _ hk] at hc
      match off + j, hc with
      | 0, hc => simp at hc
      | n + 1, hc => simp at hc
    · rw [World.cell?_of_block (w := w5) (hset g hg)]; exact hc
  exact ⟨v5, vo, rfl, keep h5, keep ((hs.below hb).out.lst), ((hs.below hb).bel.setCell (by simp) _)⟩
theorem St.start {w w1 w2 : World} {v : Value} {r : List Int} {n : Nat} (hb : BLst w w.heap.size v r) (b1 : Below w.heap.size w w1) (k1 : w1.heap[w.heap.size + 1]? = some (.cells #[.slice none 0 0] 30 (0, 0)))
    (hown : w2.ownsRow w.heap.size 3 1 (.slice (some ⟨w1.heap.size, 0, none⟩) 0 n) 0 []) (hgrow : w1.grownBy w2 none) : St w w2 v r (.slice (some ⟨w1.heap.size, 0, none⟩) 0 n) [] := by
  have b2 : Below w1.heap.size w1 w2 := (Below.refl _ _).grown hgrow (Nat.le_refl _) fun k e => by simp at e
  exact ⟨b1.trans (b2.mono b1.size), (b2.block _ (heap_lt k1)).trans k1, (hb.below b1).below b2, hown⟩

set_option maxRecDepth 100000 in
set_option maxHeartbeats 4000000 in
theorem decode_any {w : World} {v vb : Value} {r bs : List Int} (h : Lst .u8 w v r) (hr : By r) (hb : Lst .u8 w vb bs) (hbs : By bs) (hn : bs.length ≤ 1000) :
    Calls Try.prog 12 #[.agg #[v], vb] w (DPost w (decR (rest0 r) bs) (decO (rest0 r) bs)) := by
  obtain ⟨i0, hi0, hz0, hz1, hz2⟩ := info_parts Try.info3
  have hA : Below w.heap.size w ((w.alloc (.cells #[v] 30)).alloc (.cells #[.slice none 0 0] 30)) := ((Below.refl w.heap.size w).alloc (Nat.le_refl _) _).alloc (by simp) _
  have hV := valid_any (h.below hA) hr
  have hc0 : ((w.alloc (.cells #[v] 30)).alloc (.cells #[.slice none 0 0] 30)).heap[w.heap.size]? = some (.cells #[v] 30 (0, 0)) := heap_alloc2_old w _ _
  have hc1 : ((w.alloc (.cells #[v] 30)).alloc (.cells #[.slice none 0 0] 30)).heap[w.heap.size + 1]? = some (.cells #[.slice none 0 0] 30 (0, 0)) := heap_alloc2_new w _ _
  have BH := Lib.hid (BLst.of h)
  have HBD := Lib.hid hb
  obtain ⟨A, c, rfl, hrd, hA0, hc, hm⟩ := h
  obtain ⟨Ab, cb, rfl, hbd, hAb, hcb, hmb⟩ := hb
  have HV := Lib.hid hV
  have HA := Lib.hid hA
  have C0 := Lib.hid hc0
  have C1 := Lib.hid hc1
  have HBS := Lib.hid hbs
  have HR0 := Lib.hid hr.rest0
  have HV0 := Lib.hid (valid_rest0 r)
  have hsz : ((w.alloc (.cells #[.slice A r.length c] 30)).alloc (.cells #[.slice none 0 0] 30)).heap.size = w.heap.size + 1 + 1 := by simp
  have HZ := Lib.hid hsz
  clear hV hA hc0 hc1 hrd hA0 hbd hAb hcb hmb hsz hbs hr hc hm
  cases hval : valid r with
  | true =>
    have HV1 := Lib.hid (rest0_of hval)
    rw [hval] at HV
    unfold BPost at HV
    go_enter Try.func12, Try.ntmps12
    go_wp2_with (first
      | (go_at_call 16; ((with_reducible refine HV.out.mono ?_); rintro e w1 ⟨rfl, hb1⟩; have k0 := (hb1.block _ (by rw [HZ.out]; omega)).trans C0.out; have c0 := cell_of_row _ _ 0 _ _ _ k0; have f0 := frozen_of_row _ _ 0 _ _ k0; have K1 := Lib.hid ((hb1.block _ (by rw [HZ.out]; omega)).trans C1.out); have B1 := Lib.hid (HA.out.trans (hb1.mono (by rw [HZ.out]; omega))); clear hb1 k0))
      | (refine wpList_make_own _ rfl _ _ 24 rfl w.heap.size 3 i0 (.int .i64 0) 1 Try.underlying24 hi0 hz0 hz1 .i64 .i64 _ bs.length rfl rfl rfl (by rw [hz2]; omega) (by unfold maxLen; omega) (B1.out.size) ?_; intro w2 hown hgrow; have S2 := Lib.hid (St.start BH.out B1.out K1.out hown hgrow); clear hown hgrow))
    go_loopg [6, 7, 9, 10, 22] (bs.length + 1) (fun g' rest ch _ _ i wr => ∃ (k : Nat), i = .int .i64 k ∧ k ≤ bs.length ∧ bs.length - k + 1 ≤ g' ∧ St w wr rest (decR (rest0 r) (bs.take k)) ch (decO (rest0 r) (bs.take k)))
    case atStart => exact ⟨0, rfl, Nat.zero_le _, by omega, by rw [HV1.out]; exact S2.out⟩
    case round =>
      obtain ⟨k, rfl, hk, hg, hst⟩ := hrel
      obtain ⟨wo, rfl⟩ : ∃ wo : World, wo = wr := ⟨_, rfl⟩
      by_cases hkn : k < bs.length
      · obtain ⟨x, hx⟩ : ∃ x, bs[k]? = some x := ⟨bs[k], List.getElem?_eq_getElem hkn⟩
        have hki : (k : Int) < (bs.length : Int) := by omega
        obtain ⟨gb, ob, hAb', hcb'⟩ : ∃ g off, Ab = some ⟨g, off, none⟩ ∧ wo.cell? ⟨g, off + k, none⟩ = some (.int .u8 x) := by
          obtain ⟨A1, c1, e1, r1, _⟩ := HBD.out.below hst.bel
          simp only [Value.slice.injEq] at e1
          obtain ⟨rfl, _, rfl⟩ := e1
          obtain ⟨g, off, e2, e3⟩ := r1 (by omega)
          exact ⟨g, off, e2, e3 k x hx⟩
        subst hAb'
        have hx01 := HBS.out x (List.mem_of_getElem? hx)
        have HT := Lib.hid (take_snoc' hx)
        have HDR := Lib.hid ((congrArg (decR (rest0 r)) (take_snoc' hx)).trans (decR_snoc _ _ _))
        have HDO := Lib.hid ((congrArg (decO (rest0 r)) (take_snoc' hx)).trans (decO_snoc _ _ _))
        have hl3 := valid_le (valid_decR (bs.take k) HV0.out)
        have hol := decO_le (rest0 r) (bs.take k)
        have hlb := HR0.out.decR (HBS.out.take k)
        rw [List.length_take] at hol
        generalize decR (rest0 r) (bs.take k) = l at *
        generalize decO (rest0 r) (bs.take k) = o at *
        have HLB := Lib.hid (hlb.append (By.one hx01))
        have HXB := Lib.hid (By.one hx01)
        have hol' : o.length ≤ 2000 := by omega
        have HS := Lib.hid hst
        obtain ⟨A3, c3, rfl, hrd3, hA3, hlc3, hm3⟩ := hst.lon
        obtain ⟨Ao, co, rfl⟩ := hst.out.form
        have HRD := Lib.hid hrd3.rd
        have hAn : A3 = none → l = [] := fun e => by
          subst e
          rcases Nat.eq_zero_or_pos l.length with e | e
          · exact List.eq_nil_of_length_eq_zero e
          · obtain ⟨_, _, e', _⟩ := hrd3.rd e; simp at e'
        have HAN := Lib.hid hAn
        have HW : Hid (Below wo.heap.size wo (wo.alloc (.cells #[.int .u8 x] 5))) := Lib.hid ((Below.refl _ _).alloc (Nat.le_refl _) _)
        clear hst hx hx01 hol hlb hrd3 hA3 hAn
        by_cases h0 : 0 < l.length
        · have hp : (0 : Int) < (l.length : Int) := by omega
          rcases Bool.eq_false_or_eq_true (fits (l ++ [x])) with hft | hft
          · rcases Bool.eq_false_or_eq_true (isBeg (l ++ [x])) with hib | hib
            · have HSR := Lib.hid ((stepB fun _ => hft).1.trans (oneA hib).1)
              have HSO := Lib.hid ((stepB fun _ => hft).2.trans (oneA hib).2)
              have HIB := Lib.hid hib
              have HFT := Lib.hid hft
              clear hib hft
              go_wp2_with (first
                | (at_builtin; refine wpList_app_tight rfl _ _ rfl elByte rfl (HRD.out.below HW.out) HAN.out rfl (lst_one wo x 5) (by simp) (by simp <;> omega) ?_; intro vL w1 hO hB1; obtain ⟨gL, cL, hvL, hcL, hmL⟩ := own_long hO; subst hvL; have S1 := Lib.hid (HS.out.long HW.out hO hB1); have hHF := fits_any S1.out.lon.lst HLB.out; rw [HFT.out] at hHF; have HF := Lib.hid hHF; clear hHF;  clear hO hB1)
                | (go_at_call 27; ((with_reducible refine HF.out.mono ?_); rintro e w2 ⟨rfl, q, hw⟩; have S2 := Lib.hid (S1.out.draw hw); have hHB1 := isBeg_any S2.out.lon.lst HLB.out; rw [HIB.out] at hHB1; have HB1 := Lib.hid hHB1; clear hHB1; clear hw))
                | (go_at_call 28; ((with_reducible refine HB1.out.mono ?_); rintro e wB ⟨rfl, q, hw⟩; have SB := Lib.hid (S2.out.draw hw); clear hw)))
              go_roundg (bs.length - (k + 1) + 1)
              case measure => omega
              case rel => exact ⟨k + 1, by go_num, by omega, Nat.le_refl _, by rw [HDR.out, HSR.out, HDO.out, HSO.out]; have := SB.out; simpa using this⟩
            · have hif := hft
              have HSR := Lib.hid ((stepB fun _ => hft).1.trans (oneB hib hif).1)
              have HSO := Lib.hid ((stepB fun _ => hft).2.trans (oneB hib hif).2)
              have HIB := Lib.hid hib
              have HIF := Lib.hid hif
              have HFT := Lib.hid hft
              clear hib hif hft
              go_wp2_with (first
                | (at_builtin; refine wpList_app_tight rfl _ _ rfl elByte rfl (HRD.out.below HW.out) HAN.out rfl (lst_one wo x 5) (by simp) (by simp <;> omega) ?_; intro vL w1 hO hB1; obtain ⟨gL, cL, hvL, hcL, hmL⟩ := own_long hO; subst hvL; have S1 := Lib.hid (HS.out.long HW.out hO hB1); have hHF := fits_any S1.out.lon.lst HLB.out; rw [HFT.out] at hHF; have HF := Lib.hid hHF; clear hHF;  clear hO hB1)
                | (go_at_call 27; ((with_reducible refine HF.out.mono ?_); rintro e w2 ⟨rfl, q, hw⟩; have S2 := Lib.hid (S1.out.draw hw); have hHB1 := isBeg_any S2.out.lon.lst HLB.out; rw [HIB.out] at hHB1; have HB1 := Lib.hid hHB1; clear hHB1; clear hw))
                | (go_at_call 28; ((with_reducible refine HB1.out.mono ?_); rintro e wB ⟨rfl, q, hw⟩; have SB := Lib.hid (S2.out.draw hw); have hHF2 := fits_any SB.out.lon.lst HLB.out; rw [HIF.out] at hHF2; have HF2 := Lib.hid hHF2; clear hHF2; clear hw))
                | (go_at_call 27; ((with_reducible refine HF2.out.mono ?_); rintro e wF ⟨rfl, q, hw⟩; have SF := Lib.hid (SB.out.draw hw); have hC := chr_any SF.out.lon.lst HLB.out HIF.out; have HC := Lib.hid hC; clear hC; clear hw))
                | (go_at_call 29; ((with_reducible refine HC.out.mono ?_); rintro e wC ⟨rfl, q, hw⟩; have SC := Lib.hid (SF.out.draw hw); clear hw))
                | (at_builtin; refine wpList_app rfl _ _ rfl elInt rfl (SC.out.out.below (balloc wC _)) rfl (lst_one wC (chr (l ++ [x])) 3) (by simp <;> omega) (by have := SC.out.bel.size; simp; omega) ?_; intro vO wE hO hF; obtain ⟨AO, cO, hvO⟩ := own_snoc hO; subst hvO; have SE := Lib.hid ((SC.out.below (balloc wC _)).app hF hO); clear hO hF))
              go_roundg (bs.length - (k + 1) + 1)
              case measure => omega
              case rel => exact ⟨k + 1, by go_num, by omega, Nat.le_refl _, by rw [HDR.out, HSR.out, HDO.out, HSO.out]; have := SE.out.nil; simpa using this⟩
          · rcases Bool.eq_false_or_eq_true (isBeg ([x])) with hib | hib
            · have HSR := Lib.hid ((stepA h0 hft).1.trans (oneA hib).1)
              have HSO := Lib.hid ((stepA h0 hft).2.trans (congrArg (65533 :: ·) (oneA hib).2))
              have HIB := Lib.hid hib
              have HFT := Lib.hid hft
              clear hib hft
              go_wp2_with (first
                | (at_builtin; refine wpList_app_tight rfl _ _ rfl elByte rfl (HRD.out.below HW.out) HAN.out rfl (lst_one wo x 5) (by simp) (by simp <;> omega) ?_; intro vL w1 hO hB1; obtain ⟨gL, cL, hvL, hcL, hmL⟩ := own_long hO; subst hvL; have S1 := Lib.hid (HS.out.long HW.out hO hB1); have hHF := fits_any S1.out.lon.lst HLB.out; rw [HFT.out] at hHF; have HF := Lib.hid hHF; clear hHF;  clear hO hB1)
                | (go_at_call 27; ((with_reducible refine HF.out.mono ?_); rintro e w2 ⟨rfl, q, hw⟩; have S2 := Lib.hid (S1.out.draw hw); clear hw))
                | (at_builtin; refine wpList_app rfl _ _ rfl elInt rfl (S2.out.out.below (balloc w2 _)) rfl (lst_one w2 (65533) 3) (by simp <;> omega) (by have := S2.out.bel.size; simp; omega) ?_; intro vO w3 hO hF; obtain ⟨AO, cO, hvO⟩ := own_snoc hO; subst hvO; have S3 := Lib.hid ((S2.out.below (balloc w2 _)).app hF hO); have S4 := Lib.hid S3.out.cut; have hHB1 := isBeg_any S4.out.lon.lst HXB.out; rw [HIB.out] at hHB1; have HB1 := Lib.hid hHB1; clear hHB1; clear hO hF)
                | (go_at_call 28; ((with_reducible refine HB1.out.mono ?_); rintro e wB ⟨rfl, q, hw⟩; have SB := Lib.hid (S4.out.draw hw); clear hw)))
              go_roundg (bs.length - (k + 1) + 1)
              case measure => omega
              case rel => exact ⟨k + 1, by go_num, by omega, Nat.le_refl _, by rw [HDR.out, HSR.out, HDO.out, HSO.out]; have := SB.out; simpa using this⟩
            · rcases Bool.eq_false_or_eq_true (fits ([x])) with hif | hif
              · have HSR := Lib.hid ((stepA h0 hft).1.trans (oneB hib hif).1)
                have HSO := Lib.hid ((stepA h0 hft).2.trans (congrArg (65533 :: ·) (oneB hib hif).2))
                have HIB := Lib.hid hib
                have HIF := Lib.hid hif
                have HFT := Lib.hid hft
                clear hib hif hft
                go_wp2_with (first
                  | (at_builtin; refine wpList_app_tight rfl _ _ rfl elByte rfl (HRD.out.below HW.out) HAN.out rfl (lst_one wo x 5) (by simp) (by simp <;> omega) ?_; intro vL w1 hO hB1; obtain ⟨gL, cL, hvL, hcL, hmL⟩ := own_long hO; subst hvL; have S1 := Lib.hid (HS.out.long HW.out hO hB1); have hHF := fits_any S1.out.lon.lst HLB.out; rw [HFT.out] at hHF; have HF := Lib.hid hHF; clear hHF;  clear hO hB1)
                  | (go_at_call 27; ((with_reducible refine HF.out.mono ?_); rintro e w2 ⟨rfl, q, hw⟩; have S2 := Lib.hid (S1.out.draw hw); clear hw))
                  | (at_builtin; refine wpList_app rfl _ _ rfl elInt rfl (S2.out.out.below (balloc w2 _)) rfl (lst_one w2 (65533) 3) (by simp <;> omega) (by have := S2.out.bel.size; simp; omega) ?_; intro vO w3 hO hF; obtain ⟨AO, cO, hvO⟩ := own_snoc hO; subst hvO; have S3 := Lib.hid ((S2.out.below (balloc w2 _)).app hF hO); have S4 := Lib.hid S3.out.cut; have hHB1 := isBeg_any S4.out.lon.lst HXB.out; rw [HIB.out] at hHB1; have HB1 := Lib.hid hHB1; clear hHB1; clear hO hF)
                  | (go_at_call 28; ((with_reducible refine HB1.out.mono ?_); rintro e wB ⟨rfl, q, hw⟩; have SB := Lib.hid (S4.out.draw hw); have hHF2 := fits_any SB.out.lon.lst HXB.out; rw [HIF.out] at hHF2; have HF2 := Lib.hid hHF2; clear hHF2; clear hw))
                  | (go_at_call 27; ((with_reducible refine HF2.out.mono ?_); rintro e wF ⟨rfl, q, hw⟩; have SF := Lib.hid (SB.out.draw hw); have hC := chr_any SF.out.lon.lst HXB.out HIF.out; have HC := Lib.hid hC; clear hC; clear hw))
                  | (go_at_call 29; ((with_reducible refine HC.out.mono ?_); rintro e wC ⟨rfl, q, hw⟩; have SC := Lib.hid (SF.out.draw hw); clear hw))
                  | (at_builtin; refine wpList_app rfl _ _ rfl elInt rfl (SC.out.out.below (balloc wC _)) rfl (lst_one wC (chr ([x])) 3) (by simp <;> omega) (by have := SC.out.bel.size; simp; omega) ?_; intro vO wE hO hF; obtain ⟨AO, cO, hvO⟩ := own_snoc hO; subst hvO; have SE := Lib.hid ((SC.out.below (balloc wC _)).app hF hO); clear hO hF))
                go_roundg (bs.length - (k + 1) + 1)
                case measure => omega
                case rel => exact ⟨k + 1, by go_num, by omega, Nat.le_refl _, by rw [HDR.out, HSR.out, HDO.out, HSO.out]; have := SE.out.nil; simpa using this⟩
              · have HSR := Lib.hid ((stepA h0 hft).1.trans (oneC hib hif).1)
                have HSO := Lib.hid ((stepA h0 hft).2.trans (congrArg (65533 :: ·) (oneC hib hif).2))
                have HIB := Lib.hid hib
                have HIF := Lib.hid hif
                have HFT := Lib.hid hft
                clear hib hif hft
                go_wp2_with (first
                  | (at_builtin; refine wpList_app_tight rfl _ _ rfl elByte rfl (HRD.out.below HW.out) HAN.out rfl (lst_one wo x 5) (by simp) (by simp <;> omega) ?_; intro vL w1 hO hB1; obtain ⟨gL, cL, hvL, hcL, hmL⟩ := own_long hO; subst hvL; have S1 := Lib.hid (HS.out.long HW.out hO hB1); have hHF := fits_any S1.out.lon.lst HLB.out; rw [HFT.out] at hHF; have HF := Lib.hid hHF; clear hHF;  clear hO hB1)
                  | (go_at_call 27; ((with_reducible refine HF.out.mono ?_); rintro e w2 ⟨rfl, q, hw⟩; have S2 := Lib.hid (S1.out.draw hw); clear hw))
                  | (at_builtin; refine wpList_app rfl _ _ rfl elInt rfl (S2.out.out.below (balloc w2 _)) rfl (lst_one w2 (65533) 3) (by simp <;> omega) (by have := S2.out.bel.size; simp; omega) ?_; intro vO w3 hO hF; obtain ⟨AO, cO, hvO⟩ := own_snoc hO; subst hvO; have S3 := Lib.hid ((S2.out.below (balloc w2 _)).app hF hO); have S4 := Lib.hid S3.out.cut; have hHB1 := isBeg_any S4.out.lon.lst HXB.out; rw [HIB.out] at hHB1; have HB1 := Lib.hid hHB1; clear hHB1; clear hO hF)
                  | (go_at_call 28; ((with_reducible refine HB1.out.mono ?_); rintro e wB ⟨rfl, q, hw⟩; have SB := Lib.hid (S4.out.draw hw); have hHF2 := fits_any SB.out.lon.lst HXB.out; rw [HIF.out] at hHF2; have HF2 := Lib.hid hHF2; clear hHF2; clear hw))
                  | (go_at_call 27; ((with_reducible refine HF2.out.mono ?_); rintro e wF ⟨rfl, q, hw⟩; have SF := Lib.hid (SB.out.draw hw); clear hw))
                  | (at_builtin; refine wpList_app rfl _ _ rfl elInt rfl (SF.out.out.below (balloc wF _)) rfl (lst_one wF (65533) 3) (by simp <;> omega) (by have := SF.out.bel.size; simp; omega) ?_; intro vO wE hO hF; obtain ⟨AO, cO, hvO⟩ := own_snoc hO; subst hvO; have SE := Lib.hid ((SF.out.below (balloc wF _)).app hF hO); clear hO hF))
                go_roundg (bs.length - (k + 1) + 1)
                case measure => omega
                case rel => exact ⟨k + 1, by go_num, by omega, Nat.le_refl _, by rw [HDR.out, HSR.out, HDO.out, HSO.out]; have := SE.out.nil; simpa using this⟩
        · obtain rfl : l = [] := List.eq_nil_of_length_eq_zero (by omega)
          rcases Bool.eq_false_or_eq_true (isBeg ([x])) with hib | hib
          · have HSR : Hid (stepR [] x = _) := Lib.hid ((stepB (r := []) (c := x) fun h => by simp at h).1.trans (oneA hib).1)
            have HSO : Hid (stepO [] x = _) := Lib.hid ((stepB (r := []) (c := x) fun h => by simp at h).2.trans (oneA hib).2)
            have HIB := Lib.hid hib
            clear hib
            go_wp2_with (first
              | (at_builtin; refine wpList_app_tight rfl _ _ rfl elByte rfl (HRD.out.below HW.out) HAN.out rfl (lst_one wo x 5) (by simp) (by simp <;> omega) ?_; intro vL w1 hO hB1; obtain ⟨gL, cL, hvL, hcL, hmL⟩ := own_long hO; simp only [List.length_nil, Nat.zero_add] at hvL; subst hvL; have S1 := Lib.hid (show St w w1 _ [x] _ _ from HS.out.long HW.out hO hB1); have hHB1 := isBeg_any S1.out.lon.lst HXB.out; rw [HIB.out] at hHB1; have HB1 := Lib.hid hHB1; clear hHB1;  clear hO hB1)
              | (go_at_call 28; ((with_reducible refine HB1.out.mono ?_); rintro e wB ⟨rfl, q, hw⟩; have SB := Lib.hid (S1.out.draw hw); clear hw)))
            go_roundg (bs.length - (k + 1) + 1)
            case measure => omega
            case rel => exact ⟨k + 1, by go_num, by omega, Nat.le_refl _, by rw [HDR.out, HSR.out, HDO.out, HSO.out]; have := SB.out; simpa using this⟩
          · rcases Bool.eq_false_or_eq_true (fits ([x])) with hif | hif
            · have HSR : Hid (stepR [] x = _) := Lib.hid ((stepB (r := []) (c := x) fun h => by simp at h).1.trans (oneB hib hif).1)
              have HSO : Hid (stepO [] x = _) := Lib.hid ((stepB (r := []) (c := x) fun h => by simp at h).2.trans (oneB hib hif).2)
              have HIB := Lib.hid hib
              have HIF := Lib.hid hif
              clear hib hif
              go_wp2_with (first
                | (at_builtin; refine wpList_app_tight rfl _ _ rfl elByte rfl (HRD.out.below HW.out) HAN.out rfl (lst_one wo x 5) (by simp) (by simp <;> omega) ?_; intro vL w1 hO hB1; obtain ⟨gL, cL, hvL, hcL, hmL⟩ := own_long hO; simp only [List.length_nil, Nat.zero_add] at hvL; subst hvL; have S1 := Lib.hid (show St w w1 _ [x] _ _ from HS.out.long HW.out hO hB1); have hHB1 := isBeg_any S1.out.lon.lst HXB.out; rw [HIB.out] at hHB1; have HB1 := Lib.hid hHB1; clear hHB1;  clear hO hB1)
                | (go_at_call 28; ((with_reducible refine HB1.out.mono ?_); rintro e wB ⟨rfl, q, hw⟩; have SB := Lib.hid (S1.out.draw hw); have hHF2 := fits_any SB.out.lon.lst HXB.out; rw [HIF.out] at hHF2; have HF2 := Lib.hid hHF2; clear hHF2; clear hw))
                | (go_at_call 27; ((with_reducible refine HF2.out.mono ?_); rintro e wF ⟨rfl, q, hw⟩; have SF := Lib.hid (SB.out.draw hw); have hC := chr_any SF.out.lon.lst HXB.out HIF.out; have HC := Lib.hid hC; clear hC; clear hw))
                | (go_at_call 29; ((with_reducible refine HC.out.mono ?_); rintro e wC ⟨rfl, q, hw⟩; have SC := Lib.hid (SF.out.draw hw); clear hw))
                | (at_builtin; refine wpList_app rfl _ _ rfl elInt rfl (SC.out.out.below (balloc wC _)) rfl (lst_one wC (chr ([x])) 3) (by simp <;> omega) (by have := SC.out.bel.size; simp; omega) ?_; intro vO wE hO hF; obtain ⟨AO, cO, hvO⟩ := own_snoc hO; subst hvO; have SE := Lib.hid ((SC.out.below (balloc wC _)).app hF hO); clear hO hF))
              go_roundg (bs.length - (k + 1) + 1)
              case measure => omega
              case rel => exact ⟨k + 1, by go_num, by omega, Nat.le_refl _, by rw [HDR.out, HSR.out, HDO.out, HSO.out]; have := SE.out.nil; simpa using this⟩
            · have HSR : Hid (stepR [] x = _) := Lib.hid ((stepB (r := []) (c := x) fun h => by simp at h).1.trans (oneC hib hif).1)
              have HSO : Hid (stepO [] x = _) := Lib.hid ((stepB (r := []) (c := x) fun h => by simp at h).2.trans (oneC hib hif).2)
              have HIB := Lib.hid hib
              have HIF := Lib.hid hif
              clear hib hif
              go_wp2_with (first
                | (at_builtin; refine wpList_app_tight rfl _ _ rfl elByte rfl (HRD.out.below HW.out) HAN.out rfl (lst_one wo x 5) (by simp) (by simp <;> omega) ?_; intro vL w1 hO hB1; obtain ⟨gL, cL, hvL, hcL, hmL⟩ := own_long hO; simp only [List.length_nil, Nat.zero_add] at hvL; subst hvL; have S1 := Lib.hid (show St w w1 _ [x] _ _ from HS.out.long HW.out hO hB1); have hHB1 := isBeg_any S1.out.lon.lst HXB.out; rw [HIB.out] at hHB1; have HB1 := Lib.hid hHB1; clear hHB1;  clear hO hB1)
                | (go_at_call 28; ((with_reducible refine HB1.out.mono ?_); rintro e wB ⟨rfl, q, hw⟩; have SB := Lib.hid (S1.out.draw hw); have hHF2 := fits_any SB.out.lon.lst HXB.out; rw [HIF.out] at hHF2; have HF2 := Lib.hid hHF2; clear hHF2; clear hw))
                | (go_at_call 27; ((with_reducible refine HF2.out.mono ?_); rintro e wF ⟨rfl, q, hw⟩; have SF := Lib.hid (SB.out.draw hw); clear hw))
                | (at_builtin; refine wpList_app rfl _ _ rfl elInt rfl (SF.out.out.below (balloc wF _)) rfl (lst_one wF (65533) 3) (by simp <;> omega) (by have := SF.out.bel.size; simp; omega) ?_; intro vO wE hO hF; obtain ⟨AO, cO, hvO⟩ := own_snoc hO; subst hvO; have SE := Lib.hid ((SF.out.below (balloc wF _)).app hF hO); clear hO hF))
              go_roundg (bs.length - (k + 1) + 1)
              case measure => omega
              case rel => exact ⟨k + 1, by go_num, by omega, Nat.le_refl _, by rw [HDR.out, HSR.out, HDO.out, HSO.out]; have := SE.out.nil; simpa using this⟩
      · obtain rfl : k = bs.length := by omega
        have HTL := Lib.hid (List.take_length (l := bs))
        rw [HTL.out] at hst
        have hl3 := valid_le (valid_decR bs HV0.out)
        generalize decR (rest0 r) bs = l at *
        generalize decO (rest0 r) bs = o at *
        have HS := Lib.hid hst
        have hCl := clone_any hst.lon.lst (by omega)
        obtain ⟨A3, c3, rfl, _⟩ := hst.lon
        obtain ⟨Ao, co, rfl⟩ := hst.out.form
        have HCL := Lib.hid hCl
        clear hst hCl hl3
        go_wp2_with (go_at_call 30; ((with_reducible refine HCL.out.mono ?_); rintro e w5 ⟨v5, rfl, hL5, hb5⟩; have L5 := Lib.hid hL5; have B5 := Lib.hid hb5; obtain ⟨A5, c5, rfl, _⟩ := hL5; have K5 := Lib.hid ((hb5.block _ (heap_lt HS.out.res)).trans HS.out.res); have d5 := cell_of_row _ _ 0 _ _ _ K5.out; have f5 := frozen_of_row _ _ 0 _ _ K5.out; clear hb5))
        have hb9 := res_cell w5 (w.heap.size + 1) (.slice A5 l.length c5) (.slice none 0 0) _ K5.out
        refine bodyPost_ret (v := .tuple #[.agg #[.slice A5 l.length c5], .slice Ao o.length co]) (by simp [results, Try.results12, go_sem, cell_of_row _ (w.heap.size + 1) 0 _ _ _ hb9]) rfl ?_
        exact dpost_of L5.out HS.out B5.out
  | false =>
    have HV1 : Hid (rest0 r = []) := Lib.hid (by unfold rest0; rw [if_neg (by simp [hval])])
    rw [hval] at HV
    unfold BPost at HV
    go_enter Try.func12, Try.ntmps12
    go_wp2_with (first
      | (go_at_call 16; ((with_reducible refine HV.out.mono ?_); rintro e w1 ⟨rfl, hb1⟩; have k0 := (hb1.block _ (by rw [HZ.out]; omega)).trans C0.out; have c0 := cell_of_row _ _ 0 _ _ _ k0; have f0 := frozen_of_row _ _ 0 _ _ k0; have K1 := Lib.hid ((hb1.block _ (by rw [HZ.out]; omega)).trans C1.out); have B1 := Lib.hid (HA.out.trans (hb1.mono (by rw [HZ.out]; omega))); clear hb1 k0))
      | (refine wpList_make_own _ rfl _ _ 24 rfl w.heap.size 3 i0 (.int .i64 0) 1 Try.underlying24 hi0 hz0 hz1 .i64 .i64 _ bs.length rfl rfl rfl (by rw [hz2]; omega) (by unfold maxLen; omega) (by have := B1.out.size; simpa using this) ?_; intro w2 hown hgrow; have S2 := Lib.hid (show St w w2 (.slice none 0 0) [] (.slice (some ⟨w1.heap.size, 0, none⟩) 0 bs.length) [] from by have hs := St.start (w1 := w1.setCell ⟨w.heap.size, 0, none⟩ (.slice none 0 0)) (BLst.nil w _) (B1.out.setCell (Nat.le_refl _) _) ((heap_setCell_other _ _ _ _ (by simp)).trans K1.out) hown hgrow; simpa using hs); clear hown hgrow))
    go_loopg [6, 7, 9, 10, 22] (bs.length + 1) (fun g' rest ch _ _ i wr => ∃ (k : Nat), i = .int .i64 k ∧ k ≤ bs.length ∧ bs.length - k + 1 ≤ g' ∧ St w wr rest (decR (rest0 r) (bs.take k)) ch (decO (rest0 r) (bs.take k)))
    case atStart => exact ⟨0, rfl, Nat.zero_le _, by omega, by rw [HV1.out]; exact S2.out⟩
    case round =>
      obtain ⟨k, rfl, hk, hg, hst⟩ := hrel
      obtain ⟨wo, rfl⟩ : ∃ wo : World, wo = wr := ⟨_, rfl⟩
      by_cases hkn : k < bs.length
      · obtain ⟨x, hx⟩ : ∃ x, bs[k]? = some x := ⟨bs[k], List.getElem?_eq_getElem hkn⟩
        have hki : (k : Int) < (bs.length : Int) := by omega
        obtain ⟨gb, ob, hAb', hcb'⟩ : ∃ g off, Ab = some ⟨g, off, none⟩ ∧ wo.cell? ⟨g, off + k, none⟩ = some (.int .u8 x) := by
          obtain ⟨A1, c1, e1, r1, _⟩ := HBD.out.below hst.bel
          simp only [Value.slice.injEq] at e1
          obtain ⟨rfl, _, rfl⟩ := e1
          obtain ⟨g, off, e2, e3⟩ := r1 (by omega)
          exact ⟨g, off, e2, e3 k x hx⟩
        subst hAb'
        have hx01 := HBS.out x (List.mem_of_getElem? hx)
        have HT := Lib.hid (take_snoc' hx)
        have HDR := Lib.hid ((congrArg (decR (rest0 r)) (take_snoc' hx)).trans (decR_snoc _ _ _))
        have HDO := Lib.hid ((congrArg (decO (rest0 r)) (take_snoc' hx)).trans (decO_snoc _ _ _))
        have hl3 := valid_le (valid_decR (bs.take k) HV0.out)
        have hol := decO_le (rest0 r) (bs.take k)
        have hlb := HR0.out.decR (HBS.out.take k)
        rw [List.length_take] at hol
        generalize decR (rest0 r) (bs.take k) = l at *
        generalize decO (rest0 r) (bs.take k) = o at *
        have HLB := Lib.hid (hlb.append (By.one hx01))
        have HXB := Lib.hid (By.one hx01)
        have hol' : o.length ≤ 2000 := by omega
        have HS := Lib.hid hst
        obtain ⟨A3, c3, rfl, hrd3, hA3, hlc3, hm3⟩ := hst.lon
        obtain ⟨Ao, co, rfl⟩ := hst.out.form
        have HRD := Lib.hid hrd3.rd
        have hAn : A3 = none → l = [] := fun e => by
          subst e
          rcases Nat.eq_zero_or_pos l.length with e | e
          · exact List.eq_nil_of_length_eq_zero e
          · obtain ⟨_, _, e', _⟩ := hrd3.rd e; simp at e'
        have HAN := Lib.hid hAn
        have HW : Hid (Below wo.heap.size wo (wo.alloc (.cells #[.int .u8 x] 5))) := Lib.hid ((Below.refl _ _).alloc (Nat.le_refl _) _)
        clear hst hx hx01 hol hlb hrd3 hA3 hAn
        by_cases h0 : 0 < l.length
        · have hp : (0 : Int) < (l.length : Int) := by omega
          rcases Bool.eq_false_or_eq_true (fits (l ++ [x])) with hft | hft
          · rcases Bool.eq_false_or_eq_true (isBeg (l ++ [x])) with hib | hib
            · have HSR := Lib.hid ((stepB fun _ => hft).1.trans (oneA hib).1)
              have HSO := Lib.hid ((stepB fun _ => hft).2.trans (oneA hib).2)
              have HIB := Lib.hid hib
              have HFT := Lib.hid hft
              clear hib hft
              go_wp2_with (first
                | (at_builtin; refine wpList_app_tight rfl _ _ rfl elByte rfl (HRD.out.below HW.out) HAN.out rfl (lst_one wo x 5) (by simp) (by simp <;> omega) ?_; intro vL w1 hO hB1; obtain ⟨gL, cL, hvL, hcL, hmL⟩ := own_long hO; subst hvL; have S1 := Lib.hid (HS.out.long HW.out hO hB1); have hHF := fits_any S1.out.lon.lst HLB.out; rw [HFT.out] at hHF; have HF := Lib.hid hHF; clear hHF;  clear hO hB1)
                | (go_at_call 27; ((with_reducible refine HF.out.mono ?_); rintro e w2 ⟨rfl, q, hw⟩; have S2 := Lib.hid (S1.out.draw hw); have hHB1 := isBeg_any S2.out.lon.lst HLB.out; rw [HIB.out] at hHB1; have HB1 := Lib.hid hHB1; clear hHB1; clear hw))
                | (go_at_call 28; ((with_reducible refine HB1.out.mono ?_); rintro e wB ⟨rfl, q, hw⟩; have SB := Lib.hid (S2.out.draw hw); clear hw)))
              go_roundg (bs.length - (k + 1) + 1)
              case measure => omega
              case rel => exact ⟨k + 1, by go_num, by omega, Nat.le_refl _, by rw [HDR.out, HSR.out, HDO.out, HSO.out]; have := SB.out; simpa using this⟩
            · have hif := hft
              have HSR := Lib.hid ((stepB fun _ => hft).1.trans (oneB hib hif).1)
              have HSO := Lib.hid ((stepB fun _ => hft).2.trans (oneB hib hif).2)
              have HIB := Lib.hid hib
              have HIF := Lib.hid hif
              have HFT := Lib.hid hft
              clear hib hif hft
              go_wp2_with (first
                | (at_builtin; refine wpList_app_tight rfl _ _ rfl elByte rfl (HRD.out.below HW.out) HAN.out rfl (lst_one wo x 5) (by simp) (by simp <;> omega) ?_; intro vL w1 hO hB1; obtain ⟨gL, cL, hvL, hcL, hmL⟩ := own_long hO; subst hvL; have S1 := Lib.hid (HS.out.long HW.out hO hB1); have hHF := fits_any S1.out.lon.lst HLB.out; rw [HFT.out] at hHF; have HF := Lib.hid hHF; clear hHF;  clear hO hB1)
                | (go_at_call 27; ((with_reducible refine HF.out.mono ?_); rintro e w2 ⟨rfl, q, hw⟩; have S2 := Lib.hid (S1.out.draw hw); have hHB1 := isBeg_any S2.out.lon.lst HLB.out; rw [HIB.out] at hHB1; have HB1 := Lib.hid hHB1; clear hHB1; clear hw))
                | (go_at_call 28; ((with_reducible refine HB1.out.mono ?_); rintro e wB ⟨rfl, q, hw⟩; have SB := Lib.hid (S2.out.draw hw); have hHF2 := fits_any SB.out.lon.lst HLB.out; rw [HIF.out] at hHF2; have HF2 := Lib.hid hHF2; clear hHF2; clear hw))
                | (go_at_call 27; ((with_reducible refine HF2.out.mono ?_); rintro e wF ⟨rfl, q, hw⟩; have SF := Lib.hid (SB.out.draw hw); have hC := chr_any SF.out.lon.lst HLB.out HIF.out; have HC := Lib.hid hC; clear hC; clear hw))
                | (go_at_call 29; ((with_reducible refine HC.out.mono ?_); rintro e wC ⟨rfl, q, hw⟩; have SC := Lib.hid (SF.out.draw hw); clear hw))
                | (at_builtin; refine wpList_app rfl _ _ rfl elInt rfl (SC.out.out.below (balloc wC _)) rfl (lst_one wC (chr (l ++ [x])) 3) (by simp <;> omega) (by have := SC.out.bel.size; simp; omega) ?_; intro vO wE hO hF; obtain ⟨AO, cO, hvO⟩ := own_snoc hO; subst hvO; have SE := Lib.hid ((SC.out.below (balloc wC _)).app hF hO); clear hO hF))
              go_roundg (bs.length - (k + 1) + 1)
              case measure => omega
              case rel => exact ⟨k + 1, by go_num, by omega, Nat.le_refl _, by rw [HDR.out, HSR.out, HDO.out, HSO.out]; have := SE.out.nil; simpa using this⟩
          · rcases Bool.eq_false_or_eq_true (isBeg ([x])) with hib | hib
            · have HSR := Lib.hid ((stepA h0 hft).1.trans (oneA hib).1)
              have HSO := Lib.hid ((stepA h0 hft).2.trans (congrArg (65533 :: ·) (oneA hib).2))
              have HIB := Lib.hid hib
              have HFT := Lib.hid hft
              clear hib hft
              go_wp2_with (first
                | (at_builtin; refine wpList_app_tight rfl _ _ rfl elByte rfl (HRD.out.below HW.out) HAN.out rfl (lst_one wo x 5) (by simp) (by simp <;> omega) ?_; intro vL w1 hO hB1; obtain ⟨gL, cL, hvL, hcL, hmL⟩ := own_long hO; subst hvL; have S1 := Lib.hid (HS.out.long HW.out hO hB1); have hHF := fits_any S1.out.lon.lst HLB.out; rw [HFT.out] at hHF; have HF := Lib.hid hHF; clear hHF;  clear hO hB1)
                | (go_at_call 27; ((with_reducible refine HF.out.mono ?_); rintro e w2 ⟨rfl, q, hw⟩; have S2 := Lib.hid (S1.out.draw hw); clear hw))
                | (at_builtin; refine wpList_app rfl _ _ rfl elInt rfl (S2.out.out.below (balloc w2 _)) rfl (lst_one w2 (65533) 3) (by simp <;> omega) (by have := S2.out.bel.size; simp; omega) ?_; intro vO w3 hO hF; obtain ⟨AO, cO, hvO⟩ := own_snoc hO; subst hvO; have S3 := Lib.hid ((S2.out.below (balloc w2 _)).app hF hO); have S4 := Lib.hid S3.out.cut; have hHB1 := isBeg_any S4.out.lon.lst HXB.out; rw [HIB.out] at hHB1; have HB1 := Lib.hid hHB1; clear hHB1; clear hO hF)
                | (go_at_call 28; ((with_reducible refine HB1.out.mono ?_); rintro e wB ⟨rfl, q, hw⟩; have SB := Lib.hid (S4.out.draw hw); clear hw)))
              go_roundg (bs.length - (k + 1) + 1)
              case measure => omega
              case rel => exact ⟨k + 1, by go_num, by omega, Nat.le_refl _, by rw [HDR.out, HSR.out, HDO.out, HSO.out]; have := SB.out; simpa using this⟩
            · rcases Bool.eq_false_or_eq_true (fits ([x])) with hif | hif
              · have HSR := Lib.hid ((stepA h0 hft).1.trans (oneB hib hif).1)
                have HSO := Lib.hid ((stepA h0 hft).2.trans (congrArg (65533 :: ·) (oneB hib hif).2))
                have HIB := Lib.hid hib
                have HIF := Lib.hid hif
                have HFT := Lib.hid hft
                clear hib hif hft
                go_wp2_with (first
                  | (at_builtin; refine wpList_app_tight rfl _ _ rfl elByte rfl (HRD.out.below HW.out) HAN.out rfl (lst_one wo x 5) (by simp) (by simp <;> omega) ?_; intro vL w1 hO hB1; obtain ⟨gL, cL, hvL, hcL, hmL⟩ := own_long hO; subst hvL; have S1 := Lib.hid (HS.out.long HW.out hO hB1); have hHF := fits_any S1.out.lon.lst HLB.out; rw [HFT.out] at hHF; have HF := Lib.hid hHF; clear hHF;  clear hO hB1)
                  | (go_at_call 27; ((with_reducible refine HF.out.mono ?_); rintro e w2 ⟨rfl, q, hw⟩; have S2 := Lib.hid (S1.out.draw hw); clear hw))
                  | (at_builtin; refine wpList_app rfl _ _ rfl elInt rfl (S2.out.out.below (balloc w2 _)) rfl (lst_one w2 (65533) 3) (by simp <;> omega) (by have := S2.out.bel.size; simp; omega) ?_; intro vO w3 hO hF; obtain ⟨AO, cO, hvO⟩ := own_snoc hO; subst hvO; have S3 := Lib.hid ((S2.out.below (balloc w2 _)).app hF hO); have S4 := Lib.hid S3.out.cut; have hHB1 := isBeg_any S4.out.lon.lst HXB.out; rw [HIB.out] at hHB1; have HB1 := Lib.hid hHB1; clear hHB1; clear hO hF)
                  | (go_at_call 28; ((with_reducible refine HB1.out.mono ?_); rintro e wB ⟨rfl, q, hw⟩; have SB := Lib.hid (S4.out.draw hw); have hHF2 := fits_any SB.out.lon.lst HXB.out; rw [HIF.out] at hHF2; have HF2 := Lib.hid hHF2; clear hHF2; clear hw))
                  | (go_at_call 27; ((with_reducible refine HF2.out.mono ?_); rintro e wF ⟨rfl, q, hw⟩; have SF := Lib.hid (SB.out.draw hw); have hC := chr_any SF.out.lon.lst HXB.out HIF.out; have HC := Lib.hid hC; clear hC; clear hw))
                  | (go_at_call 29; ((with_reducible refine HC.out.mono ?_); rintro e wC ⟨rfl, q, hw⟩; have SC := Lib.hid (SF.out.draw hw); clear hw))
                  | (at_builtin; refine wpList_app rfl _ _ rfl elInt rfl (SC.out.out.below (balloc wC _)) rfl (lst_one wC (chr ([x])) 3) (by simp <;> omega) (by have := SC.out.bel.size; simp; omega) ?_; intro vO wE hO hF; obtain ⟨AO, cO, hvO⟩ := own_snoc hO; subst hvO; have SE := Lib.hid ((SC.out.below (balloc wC _)).app hF hO); clear hO hF))
                go_roundg (bs.length - (k + 1) + 1)
                case measure => omega
                case rel => exact ⟨k + 1, by go_num, by omega, Nat.le_refl _, by rw [HDR.out, HSR.out, HDO.out, HSO.out]; have := SE.out.nil; simpa using this⟩
              · have HSR := Lib.hid ((stepA h0 hft).1.trans (oneC hib hif).1)
                have HSO := Lib.hid ((stepA h0 hft).2.trans (congrArg (65533 :: ·) (oneC hib hif).2))
                have HIB := Lib.hid hib
                have HIF := Lib.hid hif
                have HFT := Lib.hid hft
                clear hib hif hft
                go_wp2_with (first
                  | (at_builtin; refine wpList_app_tight rfl _ _ rfl elByte rfl (HRD.out.below HW.out) HAN.out rfl (lst_one wo x 5) (by simp) (by simp <;> omega) ?_; intro vL w1 hO hB1; obtain ⟨gL, cL, hvL, hcL, hmL⟩ := own_long hO; subst hvL; have S1 := Lib.hid (HS.out.long HW.out hO hB1); have hHF := fits_any S1.out.lon.lst HLB.out; rw [HFT.out] at hHF; have HF := Lib.hid hHF; clear hHF;  clear hO hB1)
                  | (go_at_call 27; ((with_reducible refine HF.out.mono ?_); rintro e w2 ⟨rfl, q, hw⟩; have S2 := Lib.hid (S1.out.draw hw); clear hw))
                  | (at_builtin; refine wpList_app rfl _ _ rfl elInt rfl (S2.out.out.below (balloc w2 _)) rfl (lst_one w2 (65533) 3) (by simp <;> omega) (by have := S2.out.bel.size; simp; omega) ?_; intro vO w3 hO hF; obtain ⟨AO, cO, hvO⟩ := own_snoc hO; subst hvO; have S3 := Lib.hid ((S2.out.below (balloc w2 _)).app hF hO); have S4 := Lib.hid S3.out.cut; have hHB1 := isBeg_any S4.out.lon.lst HXB.out; rw [HIB.out] at hHB1; have HB1 := Lib.hid hHB1; clear hHB1; clear hO hF)
                  | (go_at_call 28; ((with_reducible refine HB1.out.mono ?_); rintro e wB ⟨rfl, q, hw⟩; have SB := Lib.hid (S4.out.draw hw); have hHF2 := fits_any SB.out.lon.lst HXB.out; rw [HIF.out] at hHF2; have HF2 := Lib.hid hHF2; clear hHF2; clear hw))
                  | (go_at_call 27; ((with_reducible refine HF2.out.mono ?_); rintro e wF ⟨rfl, q, hw⟩; have SF := Lib.hid (SB.out.draw hw); clear hw))
                  | (at_builtin; refine wpList_app rfl _ _ rfl elInt rfl (SF.out.out.below (balloc wF _)) rfl (lst_one wF (65533) 3) (by simp <;> omega) (by have := SF.out.bel.size; simp; omega) ?_; intro vO wE hO hF; obtain ⟨AO, cO, hvO⟩ := own_snoc hO; subst hvO; have SE := Lib.hid ((SF.out.below (balloc wF _)).app hF hO); clear hO hF))
                go_roundg (bs.length - (k + 1) + 1)
                case measure => omega
                case rel => exact ⟨k + 1, by go_num, by omega, Nat.le_refl _, by rw [HDR.out, HSR.out, HDO.out, HSO.out]; have := SE.out.nil; simpa using this⟩
        · obtain rfl : l = [] := List.eq_nil_of_length_eq_zero (by omega)
          rcases Bool.eq_false_or_eq_true (isBeg ([x])) with hib | hib
          · have HSR : Hid (stepR [] x = _) := Lib.hid ((stepB (r := []) (c := x) fun h => by simp at h).1.trans (oneA hib).1)
            have HSO : Hid (stepO [] x = _) := Lib.hid ((stepB (r := []) (c := x) fun h => by simp at h).2.trans (oneA hib).2)
            have HIB := Lib.hid hib
            clear hib
            go_wp2_with (first
              | (at_builtin; refine wpList_app_tight rfl _ _ rfl elByte rfl (HRD.out.below HW.out) HAN.out rfl (lst_one wo x 5) (by simp) (by simp <;> omega) ?_; intro vL w1 hO hB1; obtain ⟨gL, cL, hvL, hcL, hmL⟩ := own_long hO; simp only [List.length_nil, Nat.zero_add] at hvL; subst hvL; have S1 := Lib.hid (show St w w1 _ [x] _ _ from HS.out.long HW.out hO hB1); have hHB1 := isBeg_any S1.out.lon.lst HXB.out; rw [HIB.out] at hHB1; have HB1 := Lib.hid hHB1; clear hHB1;  clear hO hB1)
              | (go_at_call 28; ((with_reducible refine HB1.out.mono ?_); rintro e wB ⟨rfl, q, hw⟩; have SB := Lib.hid (S1.out.draw hw); clear hw)))
            go_roundg (bs.length - (k + 1) + 1)
            case measure => omega
            case rel => exact ⟨k + 1, by go_num, by omega, Nat.le_refl _, by rw [HDR.out, HSR.out, HDO.out, HSO.out]; have := SB.out; simpa using this⟩
          · rcases Bool.eq_false_or_eq_true (fits ([x])) with hif | hif
            · have HSR : Hid (stepR [] x = _) := Lib.hid ((stepB (r := []) (c := x) fun h => by simp at h).1.trans (oneB hib hif).1)
              have HSO : Hid (stepO [] x = _) := Lib.hid ((stepB (r := []) (c := x) fun h => by simp at h).2.trans (oneB hib hif).2)
              have HIB := Lib.hid hib
              have HIF := Lib.hid hif
              clear hib hif
              go_wp2_with (first
                | (at_builtin; refine wpList_app_tight rfl _ _ rfl elByte rfl (HRD.out.below HW.out) HAN.out rfl (lst_one wo x 5) (by simp) (by simp <;> omega) ?_; intro vL w1 hO hB1; obtain ⟨gL, cL, hvL, hcL, hmL⟩ := own_long hO; simp only [List.length_nil, Nat.zero_add] at hvL; subst hvL; have S1 := Lib.hid (show St w w1 _ [x] _ _ from HS.out.long HW.out hO hB1); have hHB1 := isBeg_any S1.out.lon.lst HXB.out; rw [HIB.out] at hHB1; have HB1 := Lib.hid hHB1; clear hHB1;  clear hO hB1)
                | (go_at_call 28; ((with_reducible refine HB1.out.mono ?_); rintro e wB ⟨rfl, q, hw⟩; have SB := Lib.hid (S1.out.draw hw); have hHF2 := fits_any SB.out.lon.lst HXB.out; rw [HIF.out] at hHF2; have HF2 := Lib.hid hHF2; clear hHF2; clear hw))
                | (go_at_call 27; ((with_reducible refine HF2.out.mono ?_); rintro e wF ⟨rfl, q, hw⟩; have SF := Lib.hid (SB.out.draw hw); have hC := chr_any SF.out.lon.lst HXB.out HIF.out; have HC := Lib.hid hC; clear hC; clear hw))
                | (go_at_call 29; ((with_reducible refine HC.out.mono ?_); rintro e wC ⟨rfl, q, hw⟩; have SC := Lib.hid (SF.out.draw hw); clear hw))
                | (at_builtin; refine wpList_app rfl _ _ rfl elInt rfl (SC.out.out.below (balloc wC _)) rfl (lst_one wC (chr ([x])) 3) (by simp <;> omega) (by have := SC.out.bel.size; simp; omega) ?_; intro vO wE hO hF; obtain ⟨AO, cO, hvO⟩ := own_snoc hO; subst hvO; have SE := Lib.hid ((SC.out.below (balloc wC _)).app hF hO); clear hO hF))
              go_roundg (bs.length - (k + 1) + 1)
              case measure => omega
              case rel => exact ⟨k + 1, by go_num, by omega, Nat.le_refl _, by rw [HDR.out, HSR.out, HDO.out, HSO.out]; have := SE.out.nil; simpa using this⟩
            · have HSR : Hid (stepR [] x = _) := Lib.hid ((stepB (r := []) (c := x) fun h => by simp at h).1.trans (oneC hib hif).1)
              have HSO : Hid (stepO [] x = _) := Lib.hid ((stepB (r := []) (c := x) fun h => by simp at h).2.trans (oneC hib hif).2)
              have HIB := Lib.hid hib
              have HIF := Lib.hid hif
              clear hib hif
              go_wp2_with (first
                | (at_builtin; refine wpList_app_tight rfl _ _ rfl elByte rfl (HRD.out.below HW.out) HAN.out rfl (lst_one wo x 5) (by simp) (by simp <;> omega) ?_; intro vL w1 hO hB1; obtain ⟨gL, cL, hvL, hcL, hmL⟩ := own_long hO; simp only [List.length_nil, Nat.zero_add] at hvL; subst hvL; have S1 := Lib.hid (show St w w1 _ [x] _ _ from HS.out.long HW.out hO hB1); have hHB1 := isBeg_any S1.out.lon.lst HXB.out; rw [HIB.out] at hHB1; have HB1 := Lib.hid hHB1; clear hHB1;  clear hO hB1)
                | (go_at_call 28; ((with_reducible refine HB1.out.mono ?_); rintro e wB ⟨rfl, q, hw⟩; have SB := Lib.hid (S1.out.draw hw); have hHF2 := fits_any SB.out.lon.lst HXB.out; rw [HIF.out] at hHF2; have HF2 := Lib.hid hHF2; clear hHF2; clear hw))
                | (go_at_call 27; ((with_reducible refine HF2.out.mono ?_); rintro e wF ⟨rfl, q, hw⟩; have SF := Lib.hid (SB.out.draw hw); clear hw))
                | (at_builtin; refine wpList_app rfl _ _ rfl elInt rfl (SF.out.out.below (balloc wF _)) rfl (lst_one wF (65533) 3) (by simp <;> omega) (by have := SF.out.bel.size; simp; omega) ?_; intro vO wE hO hF; obtain ⟨AO, cO, hvO⟩ := own_snoc hO; subst hvO; have SE := Lib.hid ((SF.out.below (balloc wF _)).app hF hO); clear hO hF))
              go_roundg (bs.length - (k + 1) + 1)
              case measure => omega
              case rel => exact ⟨k + 1, by go_num, by omega, Nat.le_refl _, by rw [HDR.out, HSR.out, HDO.out, HSO.out]; have := SE.out.nil; simpa using this⟩
      · obtain rfl : k = bs.length := by omega
        have HTL := Lib.hid (List.take_length (l := bs))
        rw [HTL.out] at hst
        have hl3 := valid_le (valid_decR bs HV0.out)
        generalize decR (rest0 r) bs = l at *
        generalize decO (rest0 r) bs = o at *
        have HS := Lib.hid hst
        have hCl := clone_any hst.lon.lst (by omega)
        obtain ⟨A3, c3, rfl, _⟩ := hst.lon
        obtain ⟨Ao, co, rfl⟩ := hst.out.form
        have HCL := Lib.hid hCl
        clear hst hCl hl3
        go_wp2_with (go_at_call 30; ((with_reducible refine HCL.out.mono ?_); rintro e w5 ⟨v5, rfl, hL5, hb5⟩; have L5 := Lib.hid hL5; have B5 := Lib.hid hb5; obtain ⟨A5, c5, rfl, _⟩ := hL5; have K5 := Lib.hid ((hb5.block _ (heap_lt HS.out.res)).trans HS.out.res); have d5 := cell_of_row _ _ 0 _ _ _ K5.out; have f5 := frozen_of_row _ _ 0 _ _ K5.out; clear hb5))
        have hb9 := res_cell w5 (w.heap.size + 1) (.slice A5 l.length c5) (.slice none 0 0) _ K5.out
        refine bodyPost_ret (v := .tuple #[.agg #[.slice A5 l.length c5], .slice Ao o.length co]) (by simp [results, Try.results12, go_sem, cell_of_row _ (w.heap.size + 1) 0 _ _ _ hb9]) rfl ?_
        exact dpost_of L5.out HS.out B5.out
end Go.Proofs.Ytjcgcloanamabaa.Ru
