/-
  Characters come back from their encodings.
-/
import Derived.Test.YtjcgcloanamabaaRuFrame
namespace Go.Proofs.Ytjcgcloanamabaa.Ru
open Go.RowKit

def chm (v : Int) : Int := if 55296 ≤ v % 1114112 ∧ v % 1114112 ≤ 57343 then 65533 else v % 1114112
theorem chm_is (v : Int) : isCh (chm v) = true := by
  unfold chm isCh
  simp only [decide_eq_true_eq]
  split <;> omega
theorem chms_is (l : List Int) : ∀ r ∈ l.map chm, isCh r = true := fun r hr => by obtain ⟨v, _, rfl⟩ := List.mem_map.1 hr; exact chm_is v
theorem chm_in {v : Int} (h0 : 55296 ≤ v % 1114112) (h1 : v % 1114112 ≤ 57343) : chm v = 65533 := by unfold chm; rw [if_pos ⟨h0, h1⟩]
theorem chm_low {v : Int} (h0 : v % 1114112 < 55296) : chm v = v % 1114112 := by unfold chm; rw [if_neg (by omega)]
theorem chm_high {v : Int} (h1 : 57343 < v % 1114112) : chm v = v % 1114112 := by unfold chm; rw [if_neg (by omega)]

structure Bk (w0 w : World) (vb vw : Value) (b m : List Int) : Prop where
  bel : Below w0.heap.size w0 w
  byt : Own 5 .u8 w w0.heap.size vb b
  ints : Own 3 .i64 w w0.heap.size vw m
theorem Bk.below {w0 w w' : World} {vb vw : Value} {b m : List Int} (h : Bk w0 w vb vw b m) (hb : Below w.heap.size w w') : Bk w0 w' vb vw b m :=
  ⟨h.bel.trans (hb.mono h.bel.size), h.byt.below hb, h.ints.below hb⟩
theorem Bk.app8 {w0 w w' : World} {vb vb' vw : Value} {b b' m : List Int} (h : Bk w0 w vb vw b m) (hf : Fr 5 w0.heap.size w w') (ho : Own 5 .u8 w' w0.heap.size vb' b') : Bk w0 w' vb' vw b' m :=
  ⟨h.bel.trans hf.bel, ho, h.ints.fr hf (by decide)⟩
theorem Bk.app64 {w0 w w' : World} {vb vw vw' : Value} {b m m' : List Int} (h : Bk w0 w vb vw b m) (hf : Fr 3 w0.heap.size w w') (ho : Own 3 .i64 w' w0.heap.size vw' m') : Bk w0 w' vb vw' b m' :=
  ⟨h.bel.trans hf.bel, h.byt.fr hf (by decide), ho⟩

theorem few_any {w : World} {A : Option Addr} {n c : Nat} : Calls Try.prog 20 #[.slice A n c] w fun e w' => e = .returned (.bool (decide ((n : Int) ≤ 200))) ∧ w = w' := by
  go_enter Try.func20, Try.ntmps20
  go_wp2
  go_ret
  exact ⟨rfl, rfl⟩

set_option maxRecDepth 100000 in
set_option maxHeartbeats 4000000 in
theorem RunesBack_law {w : World} {v : Value} {l : List Int} (h : Lst .i64 w v l) (hi : Ints l) :
    Calls Try.prog 6 #[v] w (BPost w true) := by
  have HS := Lib.hid (fun W => sane_any W)
  have HV := Lib.hid h
  have HI := Lib.hid hi
  obtain ⟨A, c, rfl, _⟩ := h
  have HF := Lib.hid (fun W => few_any (w := W) (A := A) (n := l.length) (c := c))
  clear hi
  by_cases hl : l.length ≤ 200
  · rw [decide_eq_true (show ((l.length : Int) ≤ 200) by omega)] at HF
    go_enter Try.func6, Try.ntmps6
    go_wp2_with (first
      | (go_at_call 7; ((with_reducible refine (HS.out _).mono ?_); rintro e w1 ⟨rfl, hb1⟩; have B1 := Lib.hid hb1; clear hb1))
      | (go_at_call 20; ((with_reducible refine (HF.out _).mono ?_); rintro e w' ⟨rfl, rfl⟩)))
    go_loopg [3, 4, 6, 7, 17] (l.length + 1) (fun g' vb vw _ _ i wr => ∃ (k : Nat), i = .int .i64 k ∧ k ≤ l.length ∧ l.length - k + 1 ≤ g' ∧ Bk w wr vb vw (encs ((l.take k).map chm)) ((l.take k).map chm))
    case atStart => exact ⟨0, rfl, Nat.zero_le _, by omega, B1.out, Own.nil _ _ _ _, Own.nil _ _ _ _⟩
    case round =>
      obtain ⟨k, rfl, hk, hg, hb⟩ := hrel
      obtain ⟨wo, rfl⟩ : ∃ wo : World, wo = wr := ⟨_, rfl⟩
      have S0 := Lib.hid hb
      by_cases hkn : k < l.length
      · obtain ⟨x, hx⟩ : ∃ x, l[k]? = some x := ⟨l[k], List.getElem?_eq_getElem hkn⟩
        have hki : (k : Int) < (l.length : Int) := by omega
        obtain ⟨g, off, e2, dx⟩ : ∃ g off, A = some ⟨g, off, none⟩ ∧ wo.cell? ⟨g, off + k, none⟩ = some (.int .i64 x) := by
          obtain ⟨A', c', e, hr, _⟩ := HV.out.below hb.bel
          simp only [Value.slice.injEq] at e
          obtain ⟨rfl, _, rfl⟩ := e
          obtain ⟨g, off, e2, e3⟩ := hr (by omega)
          exact ⟨g, off, e2, e3 k x hx⟩
        subst e2
        obtain ⟨x0, x1⟩ := HI.out x (List.mem_of_getElem? hx)
        have HM := Lib.hid (fun W => mod_any x 1114112 (by omega) (by omega) x0 x1 W)
        have hm0 := Int.emod_nonneg x (show (1114112 : Int) ≠ 0 by omega)
        have hm1 := Int.emod_lt_of_pos x (show (0 : Int) < 1114112 by omega)
        have HT : Hid ((l.take (k + 1)).map chm = (l.take k).map chm ++ [chm x]) := Lib.hid (by rw [take_snoc' hx, List.map_append]; rfl)
        have hle := encs_le ((l.take k).map chm)
        have hle2 : ((l.take k).map chm).length ≤ 200 := by rw [List.length_map, List.length_take]; omega
        have hen := enc_le (chm x)
        obtain ⟨Ab, cb, rfl⟩ := hb.byt.form
        obtain ⟨Aw, cw, rfl⟩ := hb.ints.form
        have c1 := @chm_in x
        have c2 := @chm_low x
        have c3 := @chm_high x
        generalize (l.take k).map chm = m at *
        generalize x % 1114112 = y at *
        have HL1 : Hid ((encs m).length + (enc (chm x)).length ≤ 1000000) := Lib.hid (by omega)
        generalize hbs : encs m = bs at *
        have HBS := Lib.hid hbs
        clear hb hx hbs hle hen
        rcases (show y < 55296 ∨ (55296 ≤ y ∧ y ≤ 57343) ∨ 57343 < y by omega) with hy | ⟨hy, hy2⟩ | hy
        · have e := c2 hy
          rw [e] at HT HL1
          have hd : decide (55296 ≤ y) = false := decide_eq_false (by omega)
          clear c1 c2 c3 e
          have HE := Lib.hid (fun W => encode_any (w := W) y)
          go_wp2_with (first
            | (go_at_call 8; ((with_reducible refine (HM.out _).mono ?_); rintro e w' ⟨rfl, rfl⟩))
            | (go_at_call 9; ((with_reducible refine (HE.out _).mono ?_); rintro e w3 ⟨v3, rfl, hL3, hb3⟩; have L3 := Lib.hid hL3; have S3 := Lib.hid (S0.out.below hb3); obtain ⟨A3, c3, rfl, _⟩ := hL3; clear hb3))
            | (at_builtin; refine wpList_app rfl _ _ rfl elByte rfl S3.out.byt rfl L3.out HL1.out S3.out.bel.size ?_; intro v4 w4 hO4 hF4; obtain ⟨A4, c4, rfl⟩ := hO4.form; have S4 := Lib.hid (S3.out.app8 hF4 hO4); clear hO4 hF4)
            | (at_builtin; refine wpList_app rfl _ _ rfl elInt rfl (S4.out.ints.below (balloc w4 _)) rfl (lst_one w4 y 3) (by simp; omega) (by have := S4.out.bel.size; simp; omega) ?_; intro v5 w5 hO5 hF5; obtain ⟨A5, c5, hv5⟩ := own_snoc hO5; subst hv5; have S5 := Lib.hid ((S4.out.below (balloc w4 _)).app64 hF5 hO5); clear hO5 hF5))
          go_roundg (l.length - (k + 1) + 1)
          case measure => omega
          case rel => exact ⟨k + 1, by go_num, by omega, Nat.le_refl _, by rw [HT.out, encs_snoc, HBS.out]; have := S5.out; simpa using this⟩
        · have e := c1 hy hy2
          rw [e] at HT HL1
          have hd : decide (55296 ≤ y) = true := decide_eq_true hy
          have hd2 : decide (y ≤ 57343) = true := decide_eq_true hy2
          clear c1 c2 c3 e
          have HE := Lib.hid (fun W => encode_any (w := W) 65533)
          go_wp2_with (first
            | (go_at_call 8; ((with_reducible refine (HM.out _).mono ?_); rintro e w' ⟨rfl, rfl⟩))
            | (go_at_call 9; ((with_reducible refine (HE.out _).mono ?_); rintro e w3 ⟨v3, rfl, hL3, hb3⟩; have L3 := Lib.hid hL3; have S3 := Lib.hid (S0.out.below hb3); obtain ⟨A3, c3, rfl, _⟩ := hL3; clear hb3))
            | (at_builtin; refine wpList_app rfl _ _ rfl elByte rfl S3.out.byt rfl L3.out HL1.out S3.out.bel.size ?_; intro v4 w4 hO4 hF4; obtain ⟨A4, c4, rfl⟩ := hO4.form; have S4 := Lib.hid (S3.out.app8 hF4 hO4); clear hO4 hF4)
            | (at_builtin; refine wpList_app rfl _ _ rfl elInt rfl (S4.out.ints.below (balloc w4 _)) rfl (lst_one w4 65533 3) (by simp; omega) (by have := S4.out.bel.size; simp; omega) ?_; intro v5 w5 hO5 hF5; obtain ⟨A5, c5, hv5⟩ := own_snoc hO5; subst hv5; have S5 := Lib.hid ((S4.out.below (balloc w4 _)).app64 hF5 hO5); clear hO5 hF5))
          go_roundg (l.length - (k + 1) + 1)
          case measure => omega
          case rel => exact ⟨k + 1, by go_num, by omega, Nat.le_refl _, by rw [HT.out, encs_snoc, HBS.out]; have := S5.out; simpa using this⟩
        · have e := c3 hy
          rw [e] at HT HL1
          have hd : decide (55296 ≤ y) = true := decide_eq_true (by omega)
          have hd2 : decide (y ≤ 57343) = false := decide_eq_false (by omega)
          clear c1 c2 c3 e
          have HE := Lib.hid (fun W => encode_any (w := W) y)
          go_wp2_with (first
            | (go_at_call 8; ((with_reducible refine (HM.out _).mono ?_); rintro e w' ⟨rfl, rfl⟩))
            | (go_at_call 9; ((with_reducible refine (HE.out _).mono ?_); rintro e w3 ⟨v3, rfl, hL3, hb3⟩; have L3 := Lib.hid hL3; have S3 := Lib.hid (S0.out.below hb3); obtain ⟨A3, c3, rfl, _⟩ := hL3; clear hb3))
            | (at_builtin; refine wpList_app rfl _ _ rfl elByte rfl S3.out.byt rfl L3.out HL1.out S3.out.bel.size ?_; intro v4 w4 hO4 hF4; obtain ⟨A4, c4, rfl⟩ := hO4.form; have S4 := Lib.hid (S3.out.app8 hF4 hO4); clear hO4 hF4)
            | (at_builtin; refine wpList_app rfl _ _ rfl elInt rfl (S4.out.ints.below (balloc w4 _)) rfl (lst_one w4 y 3) (by simp; omega) (by have := S4.out.bel.size; simp; omega) ?_; intro v5 w5 hO5 hF5; obtain ⟨A5, c5, hv5⟩ := own_snoc hO5; subst hv5; have S5 := Lib.hid ((S4.out.below (balloc w4 _)).app64 hF5 hO5); clear hO5 hF5))
          go_roundg (l.length - (k + 1) + 1)
          case measure => omega
          case rel => exact ⟨k + 1, by go_num, by omega, Nat.le_refl _, by rw [HT.out, encs_snoc, HBS.out]; have := S5.out; simpa using this⟩
      · obtain rfl : k = l.length := by omega
        have HTL := Lib.hid (List.take_length (l := l))
        rw [HTL.out] at hb
        have hle := encs_le (l.map chm)
        rw [List.length_map] at hle
        obtain ⟨hd1, hd2⟩ := dec_encs (chms_is l)
        have hD := decode_any (w := wo) (Lst.nil .u8 _) By.nil hb.byt.lst (encs_By _) (by omega)
        rw [rest0_of valid_nil, hd1, hd2] at hD
        have HD := Lib.hid hD
        have S1 := Lib.hid hb
        obtain ⟨Ab, cb, rfl⟩ := hb.byt.form
        obtain ⟨Aw, cw, rfl⟩ := hb.ints.form
        clear hb hle hd1 hd2 hD
        generalize l.map chm = m at *
        generalize encs m = bs at *
        go_wp2_with (first
          | (go_at_call 12; ((with_reducible refine HD.out.mono ?_); rintro e w2 ⟨v2, o2, rfl, hv2, ho2, hb2⟩; obtain ⟨A2, c2, hv, _⟩ := id hv2; simp only [List.length_nil] at hv; subst hv; have k2 := heap_alloc_new w2 (.cells #[.slice A2 0 c2] 30); have S2 := Lib.hid ((S1.out.below hb2).below (balloc w2 (.cells #[.slice A2 0 c2] 30))); have HQ := Lib.hid (same_any (ho2.below (balloc w2 (.cells #[.slice A2 0 c2] 30))) S2.out.ints.lst); have V2 := Lib.hid (hv2.below (balloc w2 (.cells #[.slice A2 0 c2] 30))); obtain ⟨A3, c3, rfl, _⟩ := ho2; clear hv2 hb2))
          | (go_at_call 15; ((with_reducible refine HQ.out.mono ?_); rintro e w3 ⟨rfl, q, hw⟩; have S3 : Hid (Bk w w3 _ _ _ _) := Lib.hid (by rw [hw]; exact S2.out.below (below_drewN _ q)); have d3 : w3.cell? ⟨w2.heap.size, 0, none⟩ = some (.slice A2 0 c2) := (by rw [hw]; exact cell_of_row _ _ 0 _ _ _ k2); have HL := Lib.hid (flush_any (w := w3) (by rw [hw]; exact V2.out.drewN q) By.nil); clear hw))
          | (go_at_call 18; ((with_reducible refine HL.out.mono ?_); rintro e w4 ⟨v4, rfl, hv4, hb4⟩; have S4 := Lib.hid (S3.out.below hb4); obtain ⟨A4, c4, hv, _⟩ := hv4; rw [show flush [] = [] from rfl] at hv; simp only [List.length_nil] at hv; subst hv; clear hb4)))
        go_ret
        exact ⟨rfl, S4.out.bel⟩
  · rw [decide_eq_false (show ¬ ((l.length : Int) ≤ 200) by omega)] at HF
    go_enter Try.func6, Try.ntmps6
    go_wp2_with (first
      | (go_at_call 7; ((with_reducible refine (HS.out _).mono ?_); rintro e w1 ⟨rfl, hb1⟩; have B1 := Lib.hid hb1; clear hb1))
      | (go_at_call 20; ((with_reducible refine (HF.out _).mono ?_); rintro e w' ⟨rfl, rfl⟩)))
    go_ret
    exact ⟨rfl, B1.out⟩
end Go.Proofs.Ytjcgcloanamabaa.Ru
