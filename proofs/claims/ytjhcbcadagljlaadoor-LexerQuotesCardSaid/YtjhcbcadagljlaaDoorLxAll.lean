/-
  Layer 5, the reference: the contract of All.
-/
import Derived.Test.YtjhcbcadagljlaaDoorLxTok
namespace Go.Proofs.YtjhcbcadagljlaaDoor.Lx
open Go.RowKit

/-- What All returns. -/
def APost (w : World) (ts : List Tok) (f : Flt) (e : Ending) (w' : World) : Prop :=
  ∃ v', e = .returned (.tuple #[v', .agg #[.int .i64 f.1, .int .i64 f.2.1, .int .i64 f.2.2]]) ∧ TLst w' v' ts ∧ Below w.heap.size w w'
/-- What is to come makes the whole. -/
def Inv (R : Except Flt (List Tok)) (l : List Int) (out : List Tok) (k : Nat) : Prop :=
  ∃ f, l.length - k < f ∧ R = (lexC f out.length (l.drop k) (adv (1, 1) (l.take k))).map fun r => out ++ r
theorem adv_take {l : List Int} {k n : Nat} : adv (adv (1, 1) (l.take k)) ((l.drop k).take n) = adv (1, 1) (l.take (k + n)) := by
  rw [← adv_append, List.take_add]
theorem Inv.start (l : List Int) : Inv (lexC (l.length + 1) 0 l (1, 1)) l [] 0 := ⟨l.length + 1, by omega, by
  simp only [List.length_nil, List.drop_zero, List.take_zero, adv, List.nil_append]
  cases lexC (l.length + 1) 0 l (1, 1) <;> rfl⟩
theorem lexC_end {f c : Nat} {l : List Int} {p : Int × Int} (h : (l.drop (skip l)).length = 0) : lexC (f + 1) c l p = .ok [⟨6, [], (adv p (l.take (skip l))).1, (adv p (l.take (skip l))).2⟩] := by
  unfold lexC; rw [if_pos h]
theorem lexC_bad {f c : Nat} {l : List Int} {p : Int × Int} {e : Int} (h : (l.drop (skip l)).length ≠ 0) (h1 : one (l.drop (skip l)) = .bad e) : lexC (f + 1) c l p = .error (e, adv p (l.take (skip l))) := by
  unfold lexC; rw [if_neg h, h1]
theorem lexC_lim {f c : Nat} {l : List Int} {p : Int × Int} {k : Int} {t : List Int} {n : Nat} (h : (l.drop (skip l)).length ≠ 0) (h1 : one (l.drop (skip l)) = .tok k t n) (hc : 2000 ≤ c) : lexC (f + 1) c l p = .error (1, adv p (l.take (skip l))) := by
  unfold lexC; rw [if_neg h, h1]; simp [hc]
theorem lexC_tok {f c : Nat} {l : List Int} {p : Int × Int} {k : Int} {t : List Int} {n : Nat} (h : (l.drop (skip l)).length ≠ 0) (h1 : one (l.drop (skip l)) = .tok k t n) (hc : ¬ 2000 ≤ c) :
    lexC (f + 1) c l p = (lexC f (c + 1) (l.drop (skip l + n)) (adv p (l.take (skip l + n)))).map fun r => ⟨k, t, (adv p (l.take (skip l))).1, (adv p (l.take (skip l))).2⟩ :: r := by
  conv => lhs; unfold lexC
  rw [if_neg h, h1]; simp [hc]
variable {R : Except Flt (List Tok)} {l : List Int} {out : List Tok} {k m : Nat}
theorem Inv.done (h : Inv R l out k) (hm : m = k + skip (l.drop k)) (he : (l.drop m).length = 0) : R = .ok (out ++ [⟨6, [], (adv (1, 1) (l.take m)).1, (adv (1, 1) (l.take m)).2⟩]) := by
  obtain ⟨f, hf, h⟩ := h
  subst hm
  obtain ⟨f, rfl⟩ : ∃ g, f = g + 1 := ⟨f - 1, by omega⟩
  rw [h, lexC_end (by rw [List.drop_drop]; exact he), adv_take]; rfl
theorem Inv.bad (h : Inv R l out k) (hm : m = k + skip (l.drop k)) (he : (l.drop m).length ≠ 0) {e : Int} (h1 : one (l.drop m) = .bad e) : R = .error (e, adv (1, 1) (l.take m)) := by
  obtain ⟨f, hf, h⟩ := h
  subst hm
  obtain ⟨f, rfl⟩ : ∃ g, f = g + 1 := ⟨f - 1, by omega⟩
  rw [h, lexC_bad (by rw [List.drop_drop]; exact he) (by rw [List.drop_drop]; exact h1), adv_take]; rfl
theorem Inv.lim (h : Inv R l out k) (hm : m = k + skip (l.drop k)) (he : (l.drop m).length ≠ 0) {a : Int} {t : List Int} {n : Nat} (h1 : one (l.drop m) = .tok a t n) (hc : 2000 ≤ out.length) : R = .error (1, adv (1, 1) (l.take m)) := by
  obtain ⟨f, hf, h⟩ := h
  subst hm
  obtain ⟨f, rfl⟩ : ∃ g, f = g + 1 := ⟨f - 1, by omega⟩
  rw [h, lexC_lim (by rw [List.drop_drop]; exact he) (by rw [List.drop_drop]; exact h1) hc, adv_take]; rfl
theorem Inv.more (h : Inv R l out k) (hm : m = k + skip (l.drop k)) (he : (l.drop m).length ≠ 0) {a : Int} {t : List Int} {n : Nat} (h1 : one (l.drop m) = .tok a t n) (hc : ¬ 2000 ≤ out.length) :
    Inv R l (out ++ [⟨a, t, (adv (1, 1) (l.take m)).1, (adv (1, 1) (l.take m)).2⟩]) (m + n) := by
  obtain ⟨f, hf, h⟩ := h
  have hn := one_len h1
  rw [List.length_drop] at hn he
  obtain ⟨f, rfl⟩ : ∃ g, f = g + 1 := ⟨f - 1, by omega⟩
  refine ⟨f, by omega, ?_⟩
  rw [h, lexC_tok (by rw [List.drop_drop, ← hm, List.length_drop]; exact he) (by rw [List.drop_drop, ← hm]; exact h1) hc]
  rw [List.drop_drop, adv_take, adv_take, ← Nat.add_assoc, ← hm, List.length_append]
  simp only [List.length_cons, List.length_nil, Nat.zero_add]
  cases lexC f (out.length + 1) (l.drop (m + n)) (adv (1, 1) (l.take (m + n))) <;> simp [Except.map]

theorem one_code {l : List Int} {e : Int} (h : one l = .bad e) : e ≠ 0 := by
  match l, h with
  | [], h => simp [one] at h; omega
  | a :: r, h =>
    cases hl : letter a with
    | true => rw [one_letter hl] at h; simp at h
    | false =>
      cases hd : digit a with
      | true =>
        rw [one_digit hl hd] at h
        split at h
        · simp at h; omega
        · simp at h
      | false =>
        by_cases h34 : a = 34
        · subst h34
          rw [one_str] at h
          cases hq : quo r with
          | none => rw [hq] at h; simp at h; omega
          | some x => rw [hq] at h; simp at h
        by_cases h47 : a = 47
        · subst h47
          rw [one_pat] at h
          cases hq : sla r with
          | none => rw [hq] at h; simp at h; omega
          | some x => rw [hq] at h; simp at h
        by_cases hs : a = 123 ∨ a = 125 ∨ a = 44 ∨ a = 61
        · rw [one_sign hs] at h; simp at h
        · rw [one_char hl hd h34 h47 hs] at h; simp at h; omega
theorem res3 (w : World) (R : Nat) (a b c x y z : Value) (t : TypeId) (h : w.heap[R]? = some (.cells #[a, b, c] t (0, 0))) : (((w.setCell ⟨R, 0, none⟩ x).setCell ⟨R, 1, none⟩ y).setCell ⟨R, 2, none⟩ z).heap[R]? = some (.cells #[x, y, z] t (0, 0)) := by
  simp [World.setCell, Array.getElem?_modify, h]
theorem below3 {B : Nat} {w0 w : World} (h : Below B w0 w) {R : Nat} (hR : B ≤ R) (x y z : Value) : Below B w0 (((w.setCell ⟨R, 0, none⟩ x).setCell ⟨R, 1, none⟩ y).setCell ⟨R, 2, none⟩ z) :=
  ((h.setCell hR x).setCell hR y).setCell hR z
theorem tlst3 {w : World} {R : Nat} {a b c x y z : Value} {t : TypeId} (h : w.heap[R]? = some (.cells #[a, b, c] t (0, 0))) (ht : t ≠ 38) {B : Nat} {v : Value} {ts : List Tok} (ho : TOwn w B v ts) : TLst (((w.setCell ⟨R, 0, none⟩ x).setCell ⟨R, 1, none⟩ y).setCell ⟨R, 2, none⟩ z) v ts := by
  have hk : TOwn (((w.setCell ⟨R, 0, none⟩ x).setCell ⟨R, 1, none⟩ y).setCell ⟨R, 2, none⟩ z) B v ts := by
    refine ⟨ho.1, ?_⟩
    rcases ho.2 with h1 | ⟨g, cap, cur, h1, h2, h3, h4⟩
    · exact .inl h1
    · refine .inr ⟨g, cap, cur, h1, h2, ?_, h4⟩
      have hne : g ≠ R := fun e => by subst e; rw [h] at h3; injection h3 with h3; injection h3 with _ e2; exact ht e2
      rw [heap_setCell_other _ _ _ _ hne, heap_setCell_other _ _ _ _ hne, heap_setCell_other _ _ _ _ hne, h3]
  exact hk.lst

theorem tlst_res {w : World} {R : Nat} {u v2 u2 : Value} {t : TypeId} (h : w.heap[R]? = some (.cells #[.int .i64 0, .int .i64 0, .int .i64 0] t (0, 0))) {v : Value} {ts : List Tok} (ho : TLst w v ts) : TLst (((w.setCell ⟨R, 0, none⟩ u).setCell ⟨R, 1, none⟩ v2).setCell ⟨R, 2, none⟩ u2) v ts := by
  obtain ⟨A, c, e1, e2, e3⟩ := ho
  refine ⟨A, c, e1, fun hn => ?_, e3⟩
  obtain ⟨g, off, e4, e5⟩ := e2 hn
  refine ⟨g, off, e4, fun k t ht => ?_⟩
  have hne : g ≠ R := by
    intro e
    subst e
    have := (e5 k t ht).2.1
    rw [cell_of_row _ _ _ _ _ _ h] at this
    match off + k * 4 + 1, this with
    | 0, this => simp at this
    | 1, this => simp at this
    | 2, this => simp at this
    | n + 3, this => simp at this
  have hk : ∀ o, (((w.setCell ⟨R, 0, none⟩ u).setCell ⟨R, 1, none⟩ v2).setCell ⟨R, 2, none⟩ u2).cell? ⟨g, o, none⟩ = w.cell? ⟨g, o, none⟩ := fun o =>
    World.cell?_of_block (by rw [heap_setCell_other _ _ _ _ hne, heap_setCell_other _ _ _ _ hne, heap_setCell_other _ _ _ _ hne])
  obtain ⟨a, b, c, d⟩ := e5 k t ht
  exact ⟨(hk _).trans a, (hk _).trans b, (hk _).trans c, (hk _).trans d⟩

set_option maxRecDepth 100000 in
set_option maxHeartbeats 4000000 in
theorem all_any {s : ByteArray} {l : List Int} (hs : ch s = l) (hn : l.length ≤ 100000) (w : World) : Calls Tryd.prog 8 #[.string s] w (APost w (allT l) (allF l)) := by
  have hsz : s.size = l.length := by rw [← hs, ch_length]
  have HSZ := Lib.hid hsz
  have HSK := Lib.hid (fun (k : Nat) (hk : k ≤ l.length) (W : World) => skip_any (s := s.extract k s.size) (l := l.drop k) (by rw [ch_drop, hs]) (by rw [List.length_drop]; omega) W)
  have HW := Lib.hid (fun (k : Nat) (hk : k ≤ l.length) (W : World) => where_any hs hn hk W)
  have HO := Lib.hid (fun (k : Nat) (a : Int) (r : List Int) (hk : k ≤ l.length) (e : l.drop k = a :: r) (W : World) => one_any (s := s.extract k s.size) (a := a) (r := r) (by rw [ch_drop, hs, e]) (by rw [← e, List.length_drop]; omega) W)
  have k1 := heap_alloc_new w (.cells #[.int .i64 0, .int .i64 0, .int .i64 0] 29)
  have K1 := Lib.hid k1
  have B1 := Lib.hid (balloc w (.cells #[.int .i64 0, .int .i64 0, .int .i64 0] 29))
  clear hs
  by_cases hbig : 8192 < l.length
  · have E1 : Hid (allT l = []) := Lib.hid (by unfold allT all; rw [if_pos hbig])
    have E2 : Hid (allF l = (1, 0, 0)) := Lib.hid (by unfold allF all; rw [if_pos hbig])
    have hb : (8192 : Int) < (s.size : Int) := by omega
    clear hsz k1
    rw [E1.out, E2.out]
    go_enter Tryd.func8, Tryd.ntmps8
    go_wp2_with fail
    have hb9 := heap_alloc_new w (.cells #[.int .i64 1, .int .i64 0, .int .i64 0] 29)
    refine bodyPost_ret (v := .tuple #[.slice none 0 0, .agg #[.int .i64 1, .int .i64 0, .int .i64 0]]) (by simp [results, Tryd.results8, go_sem, cell_of_row _ w.heap.size 0 _ _ _ hb9, cell_of_row _ w.heap.size 1 _ _ _ hb9, cell_of_row _ w.heap.size 2 _ _ _ hb9]) rfl ?_
    exact ⟨_, rfl, TLst.nil _, balloc w _⟩
  · have E : Hid (all l = lexC (l.length + 1) 0 l (1, 1)) := Lib.hid (by unfold all; rw [if_neg hbig])
    have hb : (s.size : Int) ≤ 8192 := by omega
    clear hsz k1
    go_enter Tryd.func8, Tryd.ntmps8
    go_wp2_with fail
    go_loopg [4, 5, 6, 7, 8, 9, 10, 11] (l.length + 1) (fun g' ov at_ _ _ _ _ _ _ wr => ∃ (k : Nat) (out : List Tok), at_ = .int .i64 k ∧ k ≤ l.length ∧ l.length - k + 1 ≤ g' ∧ out.length ≤ 2000 ∧ TOwn wr w.heap.size ov out ∧ Below w.heap.size w wr ∧ wr.heap[w.heap.size]? = some (.cells #[.int .i64 0, .int .i64 0, .int .i64 0] 29 (0, 0)) ∧ Inv (all l) l out k)
    case atStart => exact ⟨0, [], rfl, Nat.zero_le _, by omega, by simp, TOwn.nil _ _, B1.out, K1.out, by rw [E.out]; exact Inv.start l⟩
    case round =>
      obtain ⟨k, out, rfl, hk, hg, hol, hown, hbel, hres, hinv⟩ := hrel
      obtain ⟨wo, rfl⟩ : ∃ wo : World, wo = wr := ⟨_, rfl⟩
      have O0 := Lib.hid hown
      have BW := Lib.hid hbel
      have KR := Lib.hid hres
      have I0 := Lib.hid hinv
      obtain ⟨Ao, co, rfl⟩ := hown.form
      have hsl := skipS_le false (l.drop k)
      rw [List.length_drop] at hsl
      have HSKk := Lib.hid (HSK.out k hk)
      obtain ⟨n0, hn0⟩ : ∃ n, n = skip (l.drop k) := ⟨_, rfl⟩
      have HM : Hid (k + n0 = k + skip (l.drop k)) := Lib.hid (by rw [hn0])
      have hml : k + n0 ≤ l.length := by unfold skip at hn0; omega
      rw [← hn0] at HSKk
      have HWm := Lib.hid (HW.out (k + n0) hml)
      unfold placeV at HWm
      rw [Int.natCast_add] at HWm
      obtain ⟨p1, p2, p3, p4⟩ := adv_bd (l.take (k + n0)) (1, 1) 1 (by simp) (by simp) (by simp) (by simp)
      have hki : (k : Int) ≤ (s.size : Int) := by have := HSZ.out; omega
      have hmi : (k : Int) + (n0 : Int) ≤ (s.size : Int) := by have := HSZ.out; omega
      clear hown hbel hres hinv hsl hn0
      by_cases hend : k + n0 = l.length
      · have E3 := Lib.hid (I0.out.done HM.out (by rw [hend]; simp))
        generalize adv (1, 1) (l.take (k + n0)) = p at *
        obtain ⟨pl, pc⟩ := p
        have hge : (s.size : Int) ≤ (k : Int) + (n0 : Int) := by have := HSZ.out; omega
        have E4 : Hid (allT l = out ++ [⟨6, [], pl, pc⟩]) := Lib.hid (by unfold allT; rw [E3.out])
        have E5 : Hid (allF l = (0, 0, 0)) := Lib.hid (by unfold allF; rw [E3.out])
        clear p1 p2 p3 p4 hend
        go_wp2_with (first
          | (go_at_call 15; ((with_reducible refine (HSKk.out _).mono ?_); rintro e w' ⟨rfl, rfl⟩))
          | (go_at_call 16; ((with_reducible refine (HWm.out _).mono ?_); rintro e w' ⟨rfl, rfl⟩))
          | (at_builtin; refine wpList_app_tok rfl _ _ rfl ⟨6, [], pl, pc⟩ rfl (O0.out.below (balloc wo _)) wo.heap.size 1 rfl (heap_alloc_new wo _) (by omega) (by have := BW.out.size; simp; omega) ?_; intro v5 w5 hO hF; obtain ⟨A5, c5, hv5⟩ := tok_snoc hO; subst hv5; have O5 := Lib.hid hO; have B5 := Lib.hid ((BW.out.alloc BW.out.size _).trans hF.bel); have kr := hF.keep _ _ _ _ ((Below.heap_alloc wo _ _ (heap_lt KR.out)).trans KR.out) (by decide); have K5 := Lib.hid kr; have d0 := cell_of_row _ _ 0 _ _ _ kr; have d1 := cell_of_row _ _ 1 _ _ _ kr; have d2 := cell_of_row _ _ 2 _ _ _ kr; have f0 := frozen_of_row _ _ 0 _ _ kr; have f1 := frozen_of_row _ _ 1 _ _ kr; have f2 := frozen_of_row _ _ 2 _ _ kr; clear hO hF kr))
        have hb9 := res3 w5 w.heap.size (.int .i64 0) (.int .i64 0) (.int .i64 0) (.int .i64 0) (.int .i64 0) (.int .i64 0) _ K5.out
        refine bodyPost_ret (v := .tuple #[.slice A5 (out.length + 1) c5, .agg #[.int .i64 0, .int .i64 0, .int .i64 0]]) (by simp [results, Tryd.results8, go_sem, cell_of_row _ w.heap.size 0 _ _ _ hb9, cell_of_row _ w.heap.size 1 _ _ _ hb9, cell_of_row _ w.heap.size 2 _ _ _ hb9]) rfl ?_
        exact ⟨_, by rw [E5.out], by rw [E4.out]; exact tlst3 K5.out (by decide) O5.out, below3 B5.out (Nat.le_refl _) _ _ _⟩
      · have hlt : (k : Int) + (n0 : Int) < (s.size : Int) := by have := HSZ.out; omega
        have hlen : (l.drop (k + n0)).length ≠ 0 := by rw [List.length_drop]; omega
        obtain ⟨a, r, har⟩ : ∃ a r, l.drop (k + n0) = a :: r := by
          cases h : l.drop (k + n0) with
          | nil => rw [h] at hlen; simp at hlen
          | cons a r => exact ⟨a, r, rfl⟩
        have HOk := Lib.hid (HO.out (k + n0) a r hml har)
        rw [← har] at HOk
        unfold VPost at HOk
        cases ho : one (l.drop (k + n0)) with
        | bad e =>
          simp only [ho, oneV] at HOk
          have he0 := one_code ho
          have q0 : (e == 0) = false := beq_eq_false_iff_ne.2 he0
          have q1 : (e != 0) = true := bne_iff_ne.2 he0
          have E3 := Lib.hid (I0.out.bad HM.out hlen ho)
          generalize adv (1, 1) (l.take (k + n0)) = p at *
          obtain ⟨pl, pc⟩ := p
          have E4 : Hid (allT l = []) := Lib.hid (by unfold allT; rw [E3.out])
          have E5 : Hid (allF l = (e, pl, pc)) := Lib.hid (by unfold allF; rw [E3.out])
          clear p1 p2 p3 p4 hend hlen har ho he0
          go_wp2_with (first
            | (go_at_call 15; ((with_reducible refine (HSKk.out _).mono ?_); rintro e w' ⟨rfl, rfl⟩))
            | (go_at_call 16; ((with_reducible refine (HWm.out _).mono ?_); rintro e w' ⟨rfl, rfl⟩))
            | (go_at_call 17; ((with_reducible refine (HOk.out _).mono ?_); rintro e w8 ⟨rfl, hb8⟩; have B8 := Lib.hid (BW.out.trans (hb8.mono BW.out.size)); have k8 := (hb8.block _ (heap_lt KR.out)).trans KR.out; have K8 := Lib.hid k8; have O8 := Lib.hid (O0.out.below hb8); have d0 := cell_of_row _ _ 0 _ _ _ k8; have d1 := cell_of_row _ _ 1 _ _ _ k8; have d2 := cell_of_row _ _ 2 _ _ _ k8; have f0 := frozen_of_row _ _ 0 _ _ k8; have f1 := frozen_of_row _ _ 1 _ _ k8; have f2 := frozen_of_row _ _ 2 _ _ k8; clear hb8 k8)))
          have hb9 := res3 w8 w.heap.size (.int .i64 0) (.int .i64 0) (.int .i64 0) (.int .i64 e) (.int .i64 pl) (.int .i64 pc) _ K8.out
          refine bodyPost_ret (v := .tuple #[.slice none 0 0, .agg #[.int .i64 e, .int .i64 pl, .int .i64 pc]]) (by simp [results, Tryd.results8, go_sem, cell_of_row _ w.heap.size 0 _ _ _ hb9, cell_of_row _ w.heap.size 1 _ _ _ hb9, cell_of_row _ w.heap.size 2 _ _ _ hb9]) rfl ?_
          exact ⟨_, by rw [E5.out], by rw [E4.out]; exact TLst.nil _, below3 B8.out (Nat.le_refl _) _ _ _⟩
        | tok kk t n =>
          simp only [ho, oneV] at HOk
          have hnl := one_len ho
          rw [List.length_drop] at hnl
          by_cases hlim : 2000 ≤ out.length
          · have hlim' : (2000 : Int) ≤ (out.length : Int) := by omega
            have E3 := Lib.hid (I0.out.lim HM.out hlen ho hlim)
            generalize adv (1, 1) (l.take (k + n0)) = p at *
            obtain ⟨pl, pc⟩ := p
            have E4 : Hid (allT l = []) := Lib.hid (by unfold allT; rw [E3.out])
            have E5 : Hid (allF l = (1, pl, pc)) := Lib.hid (by unfold allF; rw [E3.out])
            clear p1 p2 p3 p4 hend hlen har ho hlim
            go_wp2_with (first
              | (go_at_call 15; ((with_reducible refine (HSKk.out _).mono ?_); rintro e w' ⟨rfl, rfl⟩))
              | (go_at_call 16; ((with_reducible refine (HWm.out _).mono ?_); rintro e w' ⟨rfl, rfl⟩))
              | (go_at_call 17; ((with_reducible refine (HOk.out _).mono ?_); rintro e w8 ⟨rfl, hb8⟩; have B8 := Lib.hid (BW.out.trans (hb8.mono BW.out.size)); have k8 := (hb8.block _ (heap_lt KR.out)).trans KR.out; have K8 := Lib.hid k8; have O8 := Lib.hid (O0.out.below hb8); have d0 := cell_of_row _ _ 0 _ _ _ k8; have d1 := cell_of_row _ _ 1 _ _ _ k8; have d2 := cell_of_row _ _ 2 _ _ _ k8; have f0 := frozen_of_row _ _ 0 _ _ k8; have f1 := frozen_of_row _ _ 1 _ _ k8; have f2 := frozen_of_row _ _ 2 _ _ k8; clear hb8 k8)))
            have hb9 := res3 w8 w.heap.size (.int .i64 0) (.int .i64 0) (.int .i64 0) (.int .i64 1) (.int .i64 pl) (.int .i64 pc) _ K8.out
            refine bodyPost_ret (v := .tuple #[.slice none 0 0, .agg #[.int .i64 1, .int .i64 pl, .int .i64 pc]]) (by simp [results, Tryd.results8, go_sem, cell_of_row _ w.heap.size 0 _ _ _ hb9, cell_of_row _ w.heap.size 1 _ _ _ hb9, cell_of_row _ w.heap.size 2 _ _ _ hb9]) rfl ?_
            exact ⟨_, by rw [E5.out], by rw [E4.out]; exact TLst.nil _, below3 B8.out (Nat.le_refl _) _ _ _⟩
          · have hlim' : decide ((2000 : Int) ≤ (out.length : Int)) = false := decide_eq_false (by omega)
            have I1 := Lib.hid (I0.out.more HM.out hlen ho hlim)
            generalize adv (1, 1) (l.take (k + n0)) = p at *
            obtain ⟨pl, pc⟩ := p
            have hlim2 : out.length < 2000 := by omega
            clear p1 p2 p3 p4 hend hlen har ho hlim
            go_wp2_with (first
              | (go_at_call 15; ((with_reducible refine (HSKk.out _).mono ?_); rintro e w' ⟨rfl, rfl⟩))
              | (go_at_call 16; ((with_reducible refine (HWm.out _).mono ?_); rintro e w' ⟨rfl, rfl⟩))
              | (go_at_call 17; ((with_reducible refine (HOk.out _).mono ?_); rintro e w8 ⟨rfl, hb8⟩; have B8 := Lib.hid (BW.out.trans (hb8.mono BW.out.size)); have k8 := (hb8.block _ (heap_lt KR.out)).trans KR.out; have K8 := Lib.hid k8; have O8 := Lib.hid (O0.out.below hb8); have d0 := cell_of_row _ _ 0 _ _ _ k8; have d1 := cell_of_row _ _ 1 _ _ _ k8; have d2 := cell_of_row _ _ 2 _ _ _ k8; have f0 := frozen_of_row _ _ 0 _ _ k8; have f1 := frozen_of_row _ _ 1 _ _ k8; have f2 := frozen_of_row _ _ 2 _ _ k8; clear hb8 k8))
              | (at_builtin; refine wpList_app_tok rfl _ _ rfl ⟨kk, t, pl, pc⟩ rfl (O8.out.below (balloc w8 _)) w8.heap.size 1 rfl (heap_alloc_new w8 _) (by omega) (by have := B8.out.size; simp; omega) ?_; intro v5 w5 hO hF; obtain ⟨A5, c5, hv5⟩ := tok_snoc hO; subst hv5; have O5 := Lib.hid hO; have B5 := Lib.hid ((B8.out.alloc B8.out.size _).trans hF.bel); have K5 := Lib.hid (hF.keep _ _ _ _ ((Below.heap_alloc w8 _ _ (heap_lt K8.out)).trans K8.out) (by decide)); clear hO hF))
            go_roundg (l.length - (k + n0 + n) + 1)
            case measure => omega
            case rel => exact ⟨k + n0 + n, out ++ [⟨kk, t, pl, pc⟩], by go_num, by omega, Nat.le_refl _, by simp; omega, by have := O5.out; simpa using this, B5.out, K5.out, I1.out⟩
end Go.Proofs.YtjhcbcadagljlaaDoor.Lx
