/-
  Layer 4, the reference: the contract of Decode.
-/
import Derived.Test.YtjcgcloanamabaaRuDec
import Derived.Deep.RegionLaw
import Derived.Deep.CutRange
namespace Go.Proofs.Ytjcgcloanamabaa.Ru
open Go.RowKit

theorem refnum_long {w : World} {v : Value} {l : List Int} {x : Int} (h : Lst .u8 w v (l ++ [x])) (hb : By (l ++ [x])) (hf : fits (l ++ [x]) = true) :
    Calls Try.prog 32 #[v, .int .i64 ((l.length : Int) + 1), .int .i64 0] w (QPost w (.int .i64 (chr (l ++ [x])))) := by
  obtain ⟨A, c, rfl, hr, _⟩ := h
  match l, hb, hr, hf with
  | [], hb, hr, _ =>
    obtain ⟨g, off, rfl, k0⟩ := hr (by simp)
    obtain ⟨a0, a1⟩ := hb x (by simp)
    exact num_1 (k0 0 x rfl) a0 a1
  | [a], hb, hr, _ =>
    obtain ⟨g, off, rfl, k0⟩ := hr (by simp)
    obtain ⟨a0, a1⟩ := hb a (by simp)
    exact num_2 (t := [x]) (by simp) (k0 0 a rfl) (fun j y hy => k0 (j + 1) y hy) a0 a1 (fun y hy => hb y (List.mem_cons_of_mem _ hy)) (by decide) (by decide)
  | [a, b], hb, hr, _ =>
    obtain ⟨g, off, rfl, k0⟩ := hr (by simp)
    obtain ⟨a0, a1⟩ := hb a (by simp)
    exact num_3 (t := [b, x]) (by simp) (k0 0 a rfl) (fun j y hy => k0 (j + 1) y hy) a0 a1 (fun y hy => hb y (List.mem_cons_of_mem _ hy)) (by decide) (by decide)
  | [a, b, c'], hb, hr, _ =>
    obtain ⟨g, off, rfl, k0⟩ := hr (by simp)
    obtain ⟨a0, a1⟩ := hb a (by simp)
    exact num_4 (t := [b, c', x]) (by simp) (k0 0 a rfl) (fun j y hy => k0 (j + 1) y hy) a0 a1 (fun y hy => hb y (List.mem_cons_of_mem _ hy)) (by decide) (by decide)
  | _ :: _ :: _ :: _ :: _, _, _, hf => have := fits_len hf; simp at this

/-- An append, and which block may turn. -/
theorem run_app_g {ts e : TypeId} {k : IntKind} (E : Elt ts e k) {w : World} {B : Nat} {v x : Value} {l m : List Int} (h : Own e k w B v l) (hx : Lst k w x m) (hl : l.length + m.length ≤ 1000000) (hB : B ≤ w.heap.size) (ty : TypeId) :
    ∃ v' w', (Builtin.append_ #[ts, ts] ty #[v, x]).run Try.prog w = .ok v' w' ∧ Own e k w' B v' (l ++ m) ∧ Below B w w' ∧ w.grownBy w' v.ownBlock := by
  obtain ⟨i, hi, hz, h1, hb⟩ := E.info
  obtain ⟨A, c, rfl, hr, hA, _⟩ := hx
  cases A with
  | none =>
    have : m = [] := by
      rcases Nat.eq_zero_or_pos m.length with e | e
      · exact List.eq_nil_of_length_eq_zero e
      · obtain ⟨_, _, e', _⟩ := hr e; simp at e'
    subst this
    obtain rfl := hA rfl
    exact ⟨v, w, run_append_owned_none w B ts ty e i 1 E.under hi v _ _ h, by simpa using h, Below.refl _ _, ⟨rfl, rfl, rfl, Nat.le_refl _, fun _ _ _ => rfl⟩⟩
  | some ad =>
    have hnews : ∀ j u, (m.map (Value.int k))[j]? = some u → w.cell? (ad.add j) = some u := by
      intro j u hu
      rw [List.getElem?_map] at hu
      cases hj : m[j]? with
      | none => rw [hj] at hu; simp at hu
      | some y =>
        rw [hj] at hu
        obtain ⟨g, off, e1, e2⟩ := hr (by have := (List.getElem?_eq_some_iff.1 hj).1; omega)
        simp at e1; subst e1
        rw [Addr.add_lit, e2 j y hj]; exact hu
    obtain ⟨v', w', hrun, h2, h3, _⟩ := run_append_own (P := Try.prog) w B ts ty e i (.int k 0) 1 i.bytes E.under hi hz h1 rfl rfl (by decide) v l.length (l.map (Value.int k)) h ad m.length c (m.map (Value.int k)) (by simp) hnews
      (fun u hu => by obtain ⟨y, _, rfl⟩ := List.mem_map.1 hu; rfl) (by unfold maxLen; omega) (Nat.le_trans (Nat.mul_le_mul_left _ hb) (by omega)) hB
    exact ⟨v', w', hrun, by unfold Own; rw [List.length_append, List.map_append]; exact h2, (Below.refl _ _).grown h3 hB fun g e => (h.block g e).1, h3⟩
theorem step_app_g {w : World} {ops : Array Oper} {o : Oper} {a : Act} {K : Act → World → Prop} {Q : Exit → Act → World → Prop} {F : Prop} (hgd : o.guard = none) (s y : Operand) {ts e : TypeId} {k : IntKind}
    (ho : o.op = .call { callee := .builtin .append, args := #[s, y], argTypes := #[ts, ts] }) (E : Elt ts e k)
    {B : Nat} {v x : Value} {l m : List Int} (hs : a.eval s = v) (h : Own e k w B v l) (hy : a.eval y = x) (hx : Lst k w x m) (hl : l.length + m.length ≤ 1000000) (hB : B ≤ w.heap.size)
    (hK : ∀ v' w', Own e k w' B v' (l ++ m) → Below B w w' → w.grownBy w' v.ownBlock → K (a.put o.dst v') w') : if Region.wanted o (yielded ops a.tmps) = true then Oper.wp Try.prog o a w K Q else F := by
  have hw : Region.wanted o (yielded ops a.tmps) = true := by unfold Region.wanted; rw [hgd]
  rw [if_pos hw]
  obtain ⟨v', w', hrun, r1, r2, r3⟩ := run_app_g E h hx hl hB o.type
  unfold Oper.wp
  simp [execOp, ho, resolve, invoke, builtin, hs, hy, hrun, Result.andThen]
  exact hK v' w' r1 r2 r3
theorem own_lit_at (e : TypeId) (k : IntKind) (w : World) {B g : Nat} (hg : g = w.heap.size) (hB : B ≤ w.heap.size) : Own e k (w.alloc (.cells #[] e)) B (.slice (some ⟨g, 0, none⟩) 0 0) [] := by
  subst hg; exact own_lit e k w hB
theorem lit_kept {k : IntKind} {W w' : World} {g b : Nat} {x : Int} {t : TypeId} (hg : W.grownBy w' (some b)) (hne : g ≠ b) (hc : W.heap[g]? = some (.cells #[.int k x] t (0, 0))) : Lst k w' (.slice (some ⟨g, 0, none⟩) 1 1) [x] :=
  lst_row [x] ((hg.block g (heap_lt hc) (by simpa using hne)).trans hc) (by simp)
theorem own_to {e : TypeId} {k : IntKind} {w : World} {B : Nat} {v : Value} {l : List Int} (h : Own e k w B v ([] ++ l)) : ∃ A c, v = .slice A l.length c ∧ Own e k w B (.slice A l.length c) l := by
  obtain ⟨A, c, hv⟩ := h.form
  rw [List.nil_append] at *
  exact ⟨A, c, hv, by rw [← hv]; exact h⟩

/-- What is still to come makes the whole. -/
def Inv (r bs l o : List Int) (k : Nat) : Prop := decR l (bs.drop k) = decR r bs ∧ o ++ decO l (bs.drop k) = decO r bs
variable {r bs l o : List Int} {k : Nat} {x : Int}
theorem drop_at (h : bs[k]? = some x) : bs.drop k = x :: bs.drop (k + 1) := by
  obtain ⟨hk, e⟩ := List.getElem?_eq_some_iff.1 h
  rw [List.drop_eq_getElem_cons hk, e]
theorem Inv.start : Inv r bs r [] 0 := ⟨rfl, rfl⟩
theorem Inv.bound (h : Inv r bs l o k) : o.length ≤ 2 * bs.length := by
  have := congrArg List.length h.2
  have h2 := decO_le r bs
  rw [List.length_append] at this; omega
theorem Inv.full (h : Inv r bs l o k) (hx : bs[k]? = some x) (hf : fits (l ++ [x]) = true) (hb : isBeg (l ++ [x]) = false) : Inv r bs [] (o ++ [chr (l ++ [x])]) (k + 1) := by
  unfold Inv at *; rw [drop_at hx] at h
  simp only [decR, decO, (stepB (r := l) (c := x) fun _ => hf).1, (stepB (r := l) (c := x) fun _ => hf).2, (oneB hb hf).1, (oneB hb hf).2] at h
  rw [List.append_assoc]; exact h
theorem Inv.beg (h : Inv r bs l o k) (hx : bs[k]? = some x) (hb : isBeg (l ++ [x]) = true) : Inv r bs (l ++ [x]) o (k + 1) := by
  have hf := isBeg_fits hb
  unfold Inv at *; rw [drop_at hx] at h
  simp only [decR, decO, (stepB (r := l) (c := x) fun _ => hf).1, (stepB (r := l) (c := x) fun _ => hf).2, (oneA hb).1, (oneA hb).2, List.nil_append] at h
  exact h
theorem Inv.reset (h : Inv r bs l o k) (hx : bs[k]? = some x) (h0 : 0 < l.length) (hf : fits (l ++ [x]) = false) : Inv r bs [] (o ++ [65533]) k := by
  unfold Inv at *; rw [drop_at hx] at *
  have e := stepB (r := []) (c := x) fun h => by simp at h
  simp only [decR, decO, (stepA h0 hf).1, (stepA h0 hf).2] at h
  simp only [decR, decO, e.1, e.2, List.nil_append]
  exact ⟨h.1, by rw [List.append_assoc]; exact h.2⟩
theorem Inv.bad (h : Inv r bs [] o k) (hx : bs[k]? = some x) (hf : fits [x] = false) : Inv r bs [] (o ++ [65533]) (k + 1) := by
  have e := stepB (r := []) (c := x) fun h => by simp at h
  have hb := isBeg_none hf
  unfold Inv at *; rw [drop_at hx] at h
  simp only [decR, decO, e.1, e.2, List.nil_append, (oneC hb hf).1, (oneC hb hf).2] at h
  rw [List.append_assoc]; exact h

theorem bl_none {w0 w w' : World} {v v' vo : Value} {l o : List Int} (_ : St w0 w v l vo o) (h : BLst w' w0.heap.size v' []) : BLst w w0.heap.size v' [] := by
  obtain ⟨A, c, h1, h2, h3⟩ := h
  exact ⟨A, c, h1, fun hn => by simp at hn, h3⟩

set_option maxRecDepth 100000 in
set_option maxHeartbeats 4000000 in
theorem refdec_any {w : World} {v vb : Value} {r bs : List Int} (h : Lst .u8 w v r) (hr : By r) (hb : Lst .u8 w vb bs) (hbs : By bs) (hn : bs.length ≤ 1000) :
    Calls Try.prog 13 #[.agg #[v], vb] w (DPost w (decR (rest0 r) bs) (decO (rest0 r) bs)) := by
  have hA : Below w.heap.size w ((w.alloc (.cells #[v] 30)).alloc (.cells #[.slice none 0 0] 30)) := ((Below.refl w.heap.size w).alloc (Nat.le_refl _) _).alloc (by simp) _
  have hV := refvalid_any (h.below hA) hr
  have hc0 : ((w.alloc (.cells #[v] 30)).alloc (.cells #[.slice none 0 0] 30)).heap[w.heap.size]? = some (.cells #[v] 30 (0, 0)) := heap_alloc2_old w _ _
  have hc1 : ((w.alloc (.cells #[v] 30)).alloc (.cells #[.slice none 0 0] 30)).heap[w.heap.size + 1]? = some (.cells #[.slice none 0 0] 30 (0, 0)) := heap_alloc2_new w _ _
  have BH := Lib.hid (BLst.of h)
  have HBD := Lib.hid hb
  obtain ⟨A, c, rfl, hrd, hA0, hc, hm⟩ := h
  obtain ⟨Ab, cb, rfl, hbd, hAb, hcb, hmb⟩ := hb
  have HV := Lib.hid hV
  have HA := Lib.hid hA
  have C0 := Lib.hid hc0
  have C1 := Lib.hid hc1
  have HBS := Lib.hid hbs
  have HR0 := Lib.hid hr.rest0
  have HV0 := Lib.hid (valid_rest0 r)
  have hsz : ((w.alloc (.cells #[.slice A r.length c] 30)).alloc (.cells #[.slice none 0 0] 30)).heap.size = w.heap.size + 1 + 1 := by simp
  have HZ := Lib.hid hsz
  clear hV hA hc0 hc1 hrd hA0 hbd hAb hcb hmb hsz hbs hr hc hm
  cases hval : valid r with
  | true =>
    have HV1 := Lib.hid (rest0_of hval)
    have hrl := valid_le hval
    rw [hval] at HV
    unfold BPost at HV
    go_enter Try.func13, Try.ntmps13
    go_wp2_with (first
      | (go_at_call 17; ((with_reducible refine HV.out.mono ?_); rintro e w1 ⟨rfl, hb1⟩; have k0 := (hb1.block _ (by rw [HZ.out]; omega)).trans C0.out; have c0 := cell_of_row _ _ 0 _ _ _ k0; have K1 := Lib.hid ((hb1.block _ (by rw [HZ.out]; omega)).trans C1.out); have B1 := Lib.hid (HA.out.trans (hb1.mono (by rw [HZ.out]; omega))); clear hb1 k0))
      | (at_builtin; refine wpList_app rfl _ _ rfl elByte rfl (Own.nil 5 .u8 w1 w.heap.size) rfl ((BH.out.below B1.out).lst) (by simp; omega) B1.out.size ?_; intro v2 w2 hO2 hF2; have S2 := Lib.hid (show St w w2 v2 r (.slice none 0 0) [] from ⟨B1.out.trans hF2.bel, hF2.keep _ _ _ _ K1.out (by decide), BLst.own hO2, Own.nil _ _ _ _⟩); clear hO2 hF2))
    go_loopg [6, 7, 8, 9, 10, 11] (2 * bs.length + 2) (fun g' rest out i _ _ _ wr => ∃ (k : Nat) (l o : List Int), i = .int .i64 k ∧ k ≤ bs.length ∧ 2 * (bs.length - k) + min l.length 1 + 1 ≤ g' ∧ valid l = true ∧ By l ∧ Inv (rest0 r) bs l o k ∧ St w wr rest l out o)
    case atStart => exact ⟨0, rest0 r, [], rfl, Nat.zero_le _, by omega, HV0.out, HR0.out, Inv.start, by rw [HV1.out]; exact S2.out⟩
    case round =>
      obtain ⟨k, l, o, rfl, hk, hg, hvl, hbl, hinv, hst⟩ := hrel
      obtain ⟨wo, rfl⟩ : ∃ wo : World, wo = wr := ⟨_, rfl⟩
      by_cases hkn : k < bs.length
      · obtain ⟨x, hx⟩ : ∃ x, bs[k]? = some x := ⟨bs[k], List.getElem?_eq_getElem hkn⟩
        have hki : (k : Int) < (bs.length : Int) := by omega
        obtain ⟨gb, ob, hAb', hcb'⟩ : ∃ g off, Ab = some ⟨g, off, none⟩ ∧ wo.cell? ⟨g, off + k, none⟩ = some (.int .u8 x) := by
          obtain ⟨A1, c1, e1, r1, _⟩ := HBD.out.below hst.bel
          simp only [Value.slice.injEq] at e1
          obtain ⟨rfl, _, rfl⟩ := e1
          obtain ⟨g, off, e2, e3⟩ := r1 (by omega)
          exact ⟨g, off, e2, e3 k x hx⟩
        subst hAb'
        have hx01 := HBS.out x (List.mem_of_getElem? hx)
        have hl3 := valid_le hvl
        have hol := hinv.bound
        have HLB := Lib.hid (hbl.append (By.one hx01))
        have HX := Lib.hid hx
        have HI := Lib.hid hinv
        have hol' : o.length ≤ 2000 := by omega
        have HS := Lib.hid hst
        have HL0 := Lib.hid hst.lon.lst
        have hSZ := hst.bel.size
        obtain ⟨A3, c3, rfl, _⟩ := hst.lon
        obtain ⟨Ao, co, rfl⟩ := hst.out.form
        have hbk := World.block_lt_of_cell? wo _ hcb'
        have hbk : gb < wo.heap.size := hbk
        have hgb : gb ≠ wo.heap.size := by omega
        have hgb1 : gb ≠ wo.heap.size + 1 := by omega
        clear hst hx hx01 hol hvl hbl hinv
        go_wp2_with fail
        go_cut [9] from 18 to 64 (fun v w5 => ∃ A5 c5, v = .slice A5 (l.length + 1) c5 ∧ St w w5 v (l ++ [x]) (.slice Ao o.length co) o)
        case first =>
          go_region_law (first
            | (refine step_app_g rfl (.tmp 24) (.tmp 25) rfl elByte (B := wo.heap.size) rfl ((own_lit_at _ _ wo rfl (Nat.le_refl _)).below (Below.refl _ _).drew) rfl (HL0.out.below (balloc wo (.cells #[] 5)).drew) ?h1 ?h2 ?_; (case h1 => (simp; omega)); (case h2 => (simp <;> omega)); intro v3 w3 hO3 hB3 hG3; obtain ⟨A4, c4, rfl, hO4⟩ := own_to hO3; have O3 := Lib.hid hO4; have B3 := Lib.hid ((balloc wo (.cells #[] 5)).drew.trans hB3); have d3 := (B3.out.cell hbk).trans hcb'; clear hO3 hO4 hB3 hG3)
            | (refine step_app_g rfl (.tmp 24) (.tmp 25) rfl elByte (B := wo.heap.size) rfl ((own_lit_at _ _ wo rfl (Nat.le_refl _)).below (balloc (wo.alloc (.cells #[] 5)) (.cells #[.int .u8 x] 5)).drew) rfl ((HL0.out.below (balloc wo (.cells #[] 5))).below (balloc (wo.alloc (.cells #[] 5)) (.cells #[.int .u8 x] 5)).drew) ?h1 ?h2 ?_; (case h1 => (simp; omega)); (case h2 => (simp <;> omega)); intro v3 w3 hO3 hB3 hG3; obtain ⟨A4, c4, rfl, hO4⟩ := own_to hO3; have O3 := Lib.hid hO4; have B3 := Lib.hid (((balloc wo (.cells #[] 5)).trans ((balloc (wo.alloc (.cells #[] 5)) (.cells #[.int .u8 x] 5)).mono (by simp))).drew.trans hB3); have d3 := (B3.out.cell hbk).trans hcb'; have N3 := Lib.hid (lit_kept hG3 (Nat.succ_ne_self _) (heap_alloc2_new wo (.cells #[] 5) (.cells #[.int .u8 x] 5))); clear hO3 hO4 hB3 hG3)
            | (refine step_app_g rfl (.tmp 24) (.tmp 25) rfl elByte (B := wo.heap.size) rfl ((own_lit_at _ _ (wo.alloc (.cells #[.int .u8 x] 5)) (by simp) (by simp)).below (Below.refl _ _).drew) rfl ((HL0.out.below (balloc wo (.cells #[.int .u8 x] 5))).below (balloc (wo.alloc (.cells #[.int .u8 x] 5)) (.cells #[] 5)).drew) ?h1 ?h2 ?_; (case h1 => (simp; omega)); (case h2 => (simp <;> omega)); intro v3 w3 hO3 hB3 hG3; obtain ⟨A4, c4, rfl, hO4⟩ := own_to hO3; have O3 := Lib.hid hO4; have B3 := Lib.hid (((balloc wo (.cells #[.int .u8 x] 5)).trans ((balloc (wo.alloc (.cells #[.int .u8 x] 5)) (.cells #[] 5)).mono (by simp))).drew.trans hB3); have d3 := (B3.out.cell hbk).trans hcb'; have N3 := Lib.hid (lit_kept hG3 (Nat.ne_of_lt (Nat.lt_succ_self _)) (heap_alloc2_old wo (.cells #[.int .u8 x] 5) (.cells #[] 5))); clear hO3 hO4 hB3 hG3)
            | (refine step_app_g rfl (.tmp 26) (.tmp 31) rfl elByte (B := wo.heap.size) rfl (O3.out.below (balloc w3 _)) rfl (lst_one w3 x 5) ?h1 ?h2 ?_; (case h1 => (simp <;> omega)); (case h2 => (have := B3.out.size; simp; omega)); intro v5 w5 hO5 hB5 hG5; obtain ⟨A5, c5, hv5⟩ := own_snoc hO5; subst hv5; have S5 := Lib.hid ((HS.out.below ((B3.out.trans ((balloc w3 (.cells #[.int .u8 x] 5)).mono B3.out.size)).trans hB5)).to (BLst.own hO5)); clear hO5 hB5 hG5)
            | (refine step_app_g rfl (.tmp 26) (.tmp 31) rfl elByte (B := wo.heap.size) rfl (O3.out) rfl (N3.out) ?h1 ?h2 ?_; (case h1 => (simp <;> omega)); (case h2 => (have := B3.out.size; omega)); intro v5 w5 hO5 hB5 hG5; obtain ⟨A5, c5, hv5⟩ := own_snoc hO5; subst hv5; have S5 := Lib.hid ((HS.out.below (B3.out.trans hB5)).to (BLst.own hO5)); clear hO5 hB5 hG5))
          all_goals (go_wp2_with fail; go_meet; exact ⟨_, _, rfl, S5.out⟩)
        case rest =>
          obtain ⟨A5, c5, rfl, hS5⟩ := hcut
          have hP := prefix_any hS5.lon.lst HLB.out
          unfold PPost at hP
          rcases Bool.eq_false_or_eq_true (fits (l ++ [x])) with hft | hft
          · rcases Bool.eq_false_or_eq_true (isBeg (l ++ [x])) with hib | hib
            · rw [isBeg_fits hib, show full (l ++ [x]) = false by unfold full; rw [hib]; simp] at hP
              have HP := Lib.hid hP
              have S5 := Lib.hid hS5
              have HI2 := Lib.hid (HI.out.beg HX.out hib)
              have HVL := Lib.hid (show valid (l ++ [x]) = true by unfold valid; rw [hib]; simp)
              clear hP hib hS5
              go_wp2_with (first
                | (go_at_call 31; ((with_reducible refine HP.out.mono ?_); rintro e w6 ⟨rfl, hw⟩; have S6 := Lib.hid (S5.out.below hw); clear hw)))
              go_roundg (2 * (bs.length - (k + 1)) + min (l ++ [x] : List Int).length 1 + 1)
              case measure => (simp; omega)
              case rel => exact ⟨k + 1, l ++ [x], o, by go_num, by omega, Nat.le_refl _, HVL.out, HLB.out, HI2.out, by have := S6.out; simpa using this⟩
            · rw [hft, show full (l ++ [x]) = true by unfold full; rw [hft, hib]; rfl] at hP
              have HP := Lib.hid hP
              have S5 := Lib.hid hS5
              have HFT := Lib.hid hft
              have HI2 := Lib.hid (HI.out.full HX.out hft hib)
              clear hP hft hib hS5
              go_wp2_with (first
                | (go_at_call 31; ((with_reducible refine HP.out.mono ?_); rintro e w6 ⟨rfl, hw⟩; have S6 := Lib.hid (S5.out.below hw); have hN := refnum_long S6.out.lon.lst HLB.out HFT.out; have HN := Lib.hid hN; clear hN; clear hw))
                | (go_at_call 32; ((with_reducible refine HN.out.mono ?_); rintro e w7 ⟨rfl, q, hw⟩; have S7 := Lib.hid (S6.out.draw hw); clear hw))
                | (at_builtin; refine wpList_app rfl _ _ rfl elInt rfl (S7.out.out.below (balloc w7 _)) rfl (lst_one w7 (chr (l ++ [x])) 3) (by simp <;> omega) (by have := S7.out.bel.size; simp; omega) ?_; intro vO w8 hO hF; obtain ⟨AO, cO, hvO⟩ := own_snoc hO; subst hvO; have S8 := Lib.hid ((S7.out.below (balloc w7 _)).app hF hO); clear hO hF))
              go_roundg (2 * (bs.length - (k + 1)) + min ([] : List Int).length 1 + 1)
              case measure => (simp; omega)
              case rel => exact ⟨k + 1, [], o ++ [chr (l ++ [x])], by go_num, by omega, Nat.le_refl _, rfl, By.nil, HI2.out, by have := S8.out.nil; simpa using this⟩
          · by_cases h0 : 0 < l.length
            · rw [hft, full_none hft] at hP
              have HP := Lib.hid hP
              have S5 := Lib.hid hS5
              have HI2 := Lib.hid (HI.out.reset HX.out h0 hft)
              have hl0 : (0 : Int) < (l.length : Int) := by omega
              clear hP hft hS5
              go_wp2_with (first
                | (go_at_call 31; ((with_reducible refine HP.out.mono ?_); rintro e w6 ⟨rfl, hw⟩; have S6 := Lib.hid (S5.out.below hw); clear hw))
                | (at_builtin; refine wpList_app rfl _ _ rfl elInt rfl (S6.out.out.below (balloc w6 _)) rfl (lst_one w6 (65533) 3) (by simp <;> omega) (by have := S6.out.bel.size; simp; omega) ?_; intro vO w8 hO hF; obtain ⟨AO, cO, hvO⟩ := own_snoc hO; subst hvO; have S8 := Lib.hid ((S6.out.below (balloc w6 _)).app hF hO); clear hO hF))
              go_roundg (2 * (bs.length - (k)) + min ([] : List Int).length 1 + 1)
              case measure => (simp; omega)
              case rel => exact ⟨k, [], o ++ [65533], by go_num, by omega, Nat.le_refl _, rfl, By.nil, HI2.out, by have := S8.out.nil; simpa using this⟩
            · obtain rfl : l = [] := List.eq_nil_of_length_eq_zero (by omega)
              rw [hft, full_none hft] at hP
              have HP := Lib.hid hP
              have S5 := Lib.hid hS5
              have HI2 := Lib.hid (HI.out.bad HX.out hft)
              have HOB := Lib.hid HS.out.lon
              clear hP hft hS5
              simp only [List.length_nil] at *
              go_wp2_with (first
                | (go_at_call 31; ((with_reducible refine HP.out.mono ?_); rintro e w6 ⟨rfl, hw⟩; have S6 := Lib.hid (S5.out.below hw); clear hw))
                | (at_builtin; refine wpList_app rfl _ _ rfl elInt rfl (S6.out.out.below (balloc w6 _)) rfl (lst_one w6 (65533) 3) (by simp <;> omega) (by have := S6.out.bel.size; simp; omega) ?_; intro vO w8 hO hF; obtain ⟨AO, cO, hvO⟩ := own_snoc hO; subst hvO; have S8 := Lib.hid ((S6.out.below (balloc w6 _)).app hF hO); clear hO hF))
              go_roundg (2 * (bs.length - (k + 1)) + min ([] : List Int).length 1 + 1)
              case measure => (simp; omega)
              case rel => exact ⟨k + 1, [], o ++ [65533], by go_num, by omega, Nat.le_refl _, rfl, By.nil, HI2.out, by have := S8.out.to (bl_none S8.out HOB.out); simpa using this⟩
      · obtain rfl : k = bs.length := by omega
        obtain ⟨he, ho⟩ := hinv
        rw [List.drop_length] at he ho
        simp only [decR, decO, List.append_nil] at he ho
        subst he; subst ho
        generalize decR (rest0 r) bs = l at *
        generalize decO (rest0 r) bs = o at *
        have HS := Lib.hid hst
        have hres := hst.res
        have d5 := cell_of_row _ _ 0 _ _ _ hres
        have f5 := frozen_of_row _ _ 0 _ _ hres
        have HRS := Lib.hid hres
        obtain ⟨A3, c3, rfl, _⟩ := hst.lon
        obtain ⟨Ao, co, rfl⟩ := hst.out.form
        clear hst hres hvl hbl
        go_wp2_with fail
        have hb9 := res_cell wo (w.heap.size + 1) (.slice A3 l.length c3) (.slice none 0 0) _ HRS.out
        refine bodyPost_ret (v := .tuple #[.agg #[.slice A3 l.length c3], .slice Ao o.length co]) (by simp [results, Try.results13, go_sem, cell_of_row _ (w.heap.size + 1) 0 _ _ _ hb9]) rfl ?_
        exact dpost_of HS.out.lon.lst HS.out (Below.refl _ _)
  | false =>
    have HV1 : Hid (rest0 r = []) := Lib.hid (by unfold rest0; rw [if_neg (by simp [hval])])
    rw [hval] at HV
    unfold BPost at HV
    go_enter Try.func13, Try.ntmps13
    go_wp2_with (first
      | (go_at_call 17; ((with_reducible refine HV.out.mono ?_); rintro e w1 ⟨rfl, hb1⟩; have k0 := (hb1.block _ (by rw [HZ.out]; omega)).trans C0.out; have c0 := cell_of_row _ _ 0 _ _ _ k0; have K1 := Lib.hid ((hb1.block _ (by rw [HZ.out]; omega)).trans C1.out); have B1 := Lib.hid (HA.out.trans (hb1.mono (by rw [HZ.out]; omega))); clear hb1 k0)))
    go_loopg [6, 7, 8, 9, 10, 11] (2 * bs.length + 2) (fun g' rest out i _ _ _ wr => ∃ (k : Nat) (l o : List Int), i = .int .i64 k ∧ k ≤ bs.length ∧ 2 * (bs.length - k) + min l.length 1 + 1 ≤ g' ∧ valid l = true ∧ By l ∧ Inv (rest0 r) bs l o k ∧ St w wr rest l out o)
    case atStart => exact ⟨0, rest0 r, [], rfl, Nat.zero_le _, by omega, HV0.out, HR0.out, Inv.start, by rw [HV1.out]; exact ⟨B1.out, K1.out, BLst.nil _ _, Own.nil _ _ _ _⟩⟩
    case round =>
      obtain ⟨k, l, o, rfl, hk, hg, hvl, hbl, hinv, hst⟩ := hrel
      obtain ⟨wo, rfl⟩ : ∃ wo : World, wo = wr := ⟨_, rfl⟩
      by_cases hkn : k < bs.length
      · obtain ⟨x, hx⟩ : ∃ x, bs[k]? = some x := ⟨bs[k], List.getElem?_eq_getElem hkn⟩
        have hki : (k : Int) < (bs.length : Int) := by omega
        obtain ⟨gb, ob, hAb', hcb'⟩ : ∃ g off, Ab = some ⟨g, off, none⟩ ∧ wo.cell? ⟨g, off + k, none⟩ = some (.int .u8 x) := by
          obtain ⟨A1, c1, e1, r1, _⟩ := HBD.out.below hst.bel
          simp only [Value.slice.injEq] at e1
          obtain ⟨rfl, _, rfl⟩ := e1
          obtain ⟨g, off, e2, e3⟩ := r1 (by omega)
          exact ⟨g, off, e2, e3 k x hx⟩
        subst hAb'
        have hx01 := HBS.out x (List.mem_of_getElem? hx)
        have hl3 := valid_le hvl
        have hol := hinv.bound
        have HLB := Lib.hid (hbl.append (By.one hx01))
        have HX := Lib.hid hx
        have HI := Lib.hid hinv
        have hol' : o.length ≤ 2000 := by omega
        have HS := Lib.hid hst
        have HL0 := Lib.hid hst.lon.lst
        have hSZ := hst.bel.size
        obtain ⟨A3, c3, rfl, _⟩ := hst.lon
        obtain ⟨Ao, co, rfl⟩ := hst.out.form
        have hbk := World.block_lt_of_cell? wo _ hcb'
        have hbk : gb < wo.heap.size := hbk
        have hgb : gb ≠ wo.heap.size := by omega
        have hgb1 : gb ≠ wo.heap.size + 1 := by omega
        clear hst hx hx01 hol hvl hbl hinv
        go_wp2_with fail
        go_cut [9] from 18 to 64 (fun v w5 => ∃ A5 c5, v = .slice A5 (l.length + 1) c5 ∧ St w w5 v (l ++ [x]) (.slice Ao o.length co) o)
        case first =>
          go_region_law (first
            | (refine step_app_g rfl (.tmp 24) (.tmp 25) rfl elByte (B := wo.heap.size) rfl ((own_lit_at _ _ wo rfl (Nat.le_refl _)).below (Below.refl _ _).drew) rfl (HL0.out.below (balloc wo (.cells #[] 5)).drew) ?h1 ?h2 ?_; (case h1 => (simp; omega)); (case h2 => (simp <;> omega)); intro v3 w3 hO3 hB3 hG3; obtain ⟨A4, c4, rfl, hO4⟩ := own_to hO3; have O3 := Lib.hid hO4; have B3 := Lib.hid ((balloc wo (.cells #[] 5)).drew.trans hB3); have d3 := (B3.out.cell hbk).trans hcb'; clear hO3 hO4 hB3 hG3)
            | (refine step_app_g rfl (.tmp 24) (.tmp 25) rfl elByte (B := wo.heap.size) rfl ((own_lit_at _ _ wo rfl (Nat.le_refl _)).below (balloc (wo.alloc (.cells #[] 5)) (.cells #[.int .u8 x] 5)).drew) rfl ((HL0.out.below (balloc wo (.cells #[] 5))).below (balloc (wo.alloc (.cells #[] 5)) (.cells #[.int .u8 x] 5)).drew) ?h1 ?h2 ?_; (case h1 => (simp; omega)); (case h2 => (simp <;> omega)); intro v3 w3 hO3 hB3 hG3; obtain ⟨A4, c4, rfl, hO4⟩ := own_to hO3; have O3 := Lib.hid hO4; have B3 := Lib.hid (((balloc wo (.cells #[] 5)).trans ((balloc (wo.alloc (.cells #[] 5)) (.cells #[.int .u8 x] 5)).mono (by simp))).drew.trans hB3); have d3 := (B3.out.cell hbk).trans hcb'; have N3 := Lib.hid (lit_kept hG3 (Nat.succ_ne_self _) (heap_alloc2_new wo (.cells #[] 5) (.cells #[.int .u8 x] 5))); clear hO3 hO4 hB3 hG3)
            | (refine step_app_g rfl (.tmp 24) (.tmp 25) rfl elByte (B := wo.heap.size) rfl ((own_lit_at _ _ (wo.alloc (.cells #[.int .u8 x] 5)) (by simp) (by simp)).below (Below.refl _ _).drew) rfl ((HL0.out.below (balloc wo (.cells #[.int .u8 x] 5))).below (balloc (wo.alloc (.cells #[.int .u8 x] 5)) (.cells #[] 5)).drew) ?h1 ?h2 ?_; (case h1 => (simp; omega)); (case h2 => (simp <;> omega)); intro v3 w3 hO3 hB3 hG3; obtain ⟨A4, c4, rfl, hO4⟩ := own_to hO3; have O3 := Lib.hid hO4; have B3 := Lib.hid (((balloc wo (.cells #[.int .u8 x] 5)).trans ((balloc (wo.alloc (.cells #[.int .u8 x] 5)) (.cells #[] 5)).mono (by simp))).drew.trans hB3); have d3 := (B3.out.cell hbk).trans hcb'; have N3 := Lib.hid (lit_kept hG3 (Nat.ne_of_lt (Nat.lt_succ_self _)) (heap_alloc2_old wo (.cells #[.int .u8 x] 5) (.cells #[] 5))); clear hO3 hO4 hB3 hG3)
            | (refine step_app_g rfl (.tmp 26) (.tmp 31) rfl elByte (B := wo.heap.size) rfl (O3.out.below (balloc w3 _)) rfl (lst_one w3 x 5) ?h1 ?h2 ?_; (case h1 => (simp <;> omega)); (case h2 => (have := B3.out.size; simp; omega)); intro v5 w5 hO5 hB5 hG5; obtain ⟨A5, c5, hv5⟩ := own_snoc hO5; subst hv5; have S5 := Lib.hid ((HS.out.below ((B3.out.trans ((balloc w3 (.cells #[.int .u8 x] 5)).mono B3.out.size)).trans hB5)).to (BLst.own hO5)); clear hO5 hB5 hG5)
            | (refine step_app_g rfl (.tmp 26) (.tmp 31) rfl elByte (B := wo.heap.size) rfl (O3.out) rfl (N3.out) ?h1 ?h2 ?_; (case h1 => (simp <;> omega)); (case h2 => (have := B3.out.size; omega)); intro v5 w5 hO5 hB5 hG5; obtain ⟨A5, c5, hv5⟩ := own_snoc hO5; subst hv5; have S5 := Lib.hid ((HS.out.below (B3.out.trans hB5)).to (BLst.own hO5)); clear hO5 hB5 hG5))
          all_goals (go_wp2_with fail; go_meet; exact ⟨_, _, rfl, S5.out⟩)
        case rest =>
          obtain ⟨A5, c5, rfl, hS5⟩ := hcut
          have hP := prefix_any hS5.lon.lst HLB.out
          unfold PPost at hP
          rcases Bool.eq_false_or_eq_true (fits (l ++ [x])) with hft | hft
          · rcases Bool.eq_false_or_eq_true (isBeg (l ++ [x])) with hib | hib
            · rw [isBeg_fits hib, show full (l ++ [x]) = false by unfold full; rw [hib]; simp] at hP
              have HP := Lib.hid hP
              have S5 := Lib.hid hS5
              have HI2 := Lib.hid (HI.out.beg HX.out hib)
              have HVL := Lib.hid (show valid (l ++ [x]) = true by unfold valid; rw [hib]; simp)
              clear hP hib hS5
              go_wp2_with (first
                | (go_at_call 31; ((with_reducible refine HP.out.mono ?_); rintro e w6 ⟨rfl, hw⟩; have S6 := Lib.hid (S5.out.below hw); clear hw)))
              go_roundg (2 * (bs.length - (k + 1)) + min (l ++ [x] : List Int).length 1 + 1)
              case measure => (simp; omega)
              case rel => exact ⟨k + 1, l ++ [x], o, by go_num, by omega, Nat.le_refl _, HVL.out, HLB.out, HI2.out, by have := S6.out; simpa using this⟩
            · rw [hft, show full (l ++ [x]) = true by unfold full; rw [hft, hib]; rfl] at hP
              have HP := Lib.hid hP
              have S5 := Lib.hid hS5
              have HFT := Lib.hid hft
              have HI2 := Lib.hid (HI.out.full HX.out hft hib)
              clear hP hft hib hS5
              go_wp2_with (first
                | (go_at_call 31; ((with_reducible refine HP.out.mono ?_); rintro e w6 ⟨rfl, hw⟩; have S6 := Lib.hid (S5.out.below hw); have hN := refnum_long S6.out.lon.lst HLB.out HFT.out; have HN := Lib.hid hN; clear hN; clear hw))
                | (go_at_call 32; ((with_reducible refine HN.out.mono ?_); rintro e w7 ⟨rfl, q, hw⟩; have S7 := Lib.hid (S6.out.draw hw); clear hw))
                | (at_builtin; refine wpList_app rfl _ _ rfl elInt rfl (S7.out.out.below (balloc w7 _)) rfl (lst_one w7 (chr (l ++ [x])) 3) (by simp <;> omega) (by have := S7.out.bel.size; simp; omega) ?_; intro vO w8 hO hF; obtain ⟨AO, cO, hvO⟩ := own_snoc hO; subst hvO; have S8 := Lib.hid ((S7.out.below (balloc w7 _)).app hF hO); clear hO hF))
              go_roundg (2 * (bs.length - (k + 1)) + min ([] : List Int).length 1 + 1)
              case measure => (simp; omega)
              case rel => exact ⟨k + 1, [], o ++ [chr (l ++ [x])], by go_num, by omega, Nat.le_refl _, rfl, By.nil, HI2.out, by have := S8.out.nil; simpa using this⟩
          · by_cases h0 : 0 < l.length
            · rw [hft, full_none hft] at hP
              have HP := Lib.hid hP
              have S5 := Lib.hid hS5
              have HI2 := Lib.hid (HI.out.reset HX.out h0 hft)
              have hl0 : (0 : Int) < (l.length : Int) := by omega
              clear hP hft hS5
              go_wp2_with (first
                | (go_at_call 31; ((with_reducible refine HP.out.mono ?_); rintro e w6 ⟨rfl, hw⟩; have S6 := Lib.hid (S5.out.below hw); clear hw))
                | (at_builtin; refine wpList_app rfl _ _ rfl elInt rfl (S6.out.out.below (balloc w6 _)) rfl (lst_one w6 (65533) 3) (by simp <;> omega) (by have := S6.out.bel.size; simp; omega) ?_; intro vO w8 hO hF; obtain ⟨AO, cO, hvO⟩ := own_snoc hO; subst hvO; have S8 := Lib.hid ((S6.out.below (balloc w6 _)).app hF hO); clear hO hF))
              go_roundg (2 * (bs.length - (k)) + min ([] : List Int).length 1 + 1)
              case measure => (simp; omega)
              case rel => exact ⟨k, [], o ++ [65533], by go_num, by omega, Nat.le_refl _, rfl, By.nil, HI2.out, by have := S8.out.nil; simpa using this⟩
            · obtain rfl : l = [] := List.eq_nil_of_length_eq_zero (by omega)
              rw [hft, full_none hft] at hP
              have HP := Lib.hid hP
              have S5 := Lib.hid hS5
              have HI2 := Lib.hid (HI.out.bad HX.out hft)
              have HOB := Lib.hid HS.out.lon
              clear hP hft hS5
              simp only [List.length_nil] at *
              go_wp2_with (first
                | (go_at_call 31; ((with_reducible refine HP.out.mono ?_); rintro e w6 ⟨rfl, hw⟩; have S6 := Lib.hid (S5.out.below hw); clear hw))
                | (at_builtin; refine wpList_app rfl _ _ rfl elInt rfl (S6.out.out.below (balloc w6 _)) rfl (lst_one w6 (65533) 3) (by simp <;> omega) (by have := S6.out.bel.size; simp; omega) ?_; intro vO w8 hO hF; obtain ⟨AO, cO, hvO⟩ := own_snoc hO; subst hvO; have S8 := Lib.hid ((S6.out.below (balloc w6 _)).app hF hO); clear hO hF))
              go_roundg (2 * (bs.length - (k + 1)) + min ([] : List Int).length 1 + 1)
              case measure => (simp; omega)
              case rel => exact ⟨k + 1, [], o ++ [65533], by go_num, by omega, Nat.le_refl _, rfl, By.nil, HI2.out, by have := S8.out.to (bl_none S8.out HOB.out); simpa using this⟩
      · obtain rfl : k = bs.length := by omega
        obtain ⟨he, ho⟩ := hinv
        rw [List.drop_length] at he ho
        simp only [decR, decO, List.append_nil] at he ho
        subst he; subst ho
        generalize decR (rest0 r) bs = l at *
        generalize decO (rest0 r) bs = o at *
        have HS := Lib.hid hst
        have hres := hst.res
        have d5 := cell_of_row _ _ 0 _ _ _ hres
        have f5 := frozen_of_row _ _ 0 _ _ hres
        have HRS := Lib.hid hres
        obtain ⟨A3, c3, rfl, _⟩ := hst.lon
        obtain ⟨Ao, co, rfl⟩ := hst.out.form
        clear hst hres hvl hbl
        go_wp2_with fail
        have hb9 := res_cell wo (w.heap.size + 1) (.slice A3 l.length c3) (.slice none 0 0) _ HRS.out
        refine bodyPost_ret (v := .tuple #[.agg #[.slice A3 l.length c3], .slice Ao o.length co]) (by simp [results, Try.results13, go_sem, cell_of_row _ (w.heap.size + 1) 0 _ _ _ hb9]) rfl ?_
        exact dpost_of HS.out.lon.lst HS.out (Below.refl _ _)
end Go.Proofs.Ytjcgcloanamabaa.Ru
