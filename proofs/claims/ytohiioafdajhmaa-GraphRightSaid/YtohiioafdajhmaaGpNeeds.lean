/-
  Layer 7: the jobs that a job needs, in the program and in the reference.
-/
import Derived.Test.YtohiioafdajhmaaGpSort
namespace Go.Proofs.Ytohiioafdajhmaa.Gp
open Go.RowKit

/-- The places that names lead to, as they are written. -/
def rawN (js : List GJ) (ns : List ByteArray) : List Nat := ns.filterMap (idxN js)
def needsN (js : List GJ) (x : GJ) : List Nat := ascN js.length (rawN js x.ns)
/-- What each job needs. -/
def nnOf (js : List GJ) : List (List Nat) := js.map (needsN js)
theorem nnOf_length (js : List GJ) : (nnOf js).length = js.length := List.length_map _
def needsI (js : List GJ) (i : Int) : List Nat := if 0 ≤ i then (nnOf js).getD i.toNat [] else []
theorem needsI_nat (js : List GJ) (k : Nat) : needsI js k = (nnOf js).getD k [] := by unfold needsI; rw [if_pos (by omega)]; rfl
theorem needsI_neg {js : List GJ} {i : Int} (h : i < 0) : needsI js i = [] := by unfold needsI; rw [if_neg (by omega)]
theorem needsI_big {js : List GJ} {i : Int} (h : (js.length : Int) ≤ i) : needsI js i = [] := by
  unfold needsI
  rw [if_pos (by omega), List.getD_eq_getElem?_getD, List.getElem?_eq_none (by rw [nnOf_length]; omega)]
  rfl
theorem nnOf_at {js : List GJ} {k : Nat} {x : GJ} (h : js[k]? = some x) : (nnOf js).getD k [] = needsN js x := by
  unfold nnOf
  rw [List.getD_eq_getElem?_getD, List.getElem?_map, h]
  rfl
theorem nnOf_bd (js : List GJ) : ∀ i, ∀ k ∈ (nnOf js).getD i [], k < (nnOf js).length := by
  intro i k hk
  rw [nnOf_length]
  cases h : js[i]? with
  | some x => rw [nnOf_at h] at hk; exact (mem_ascN.1 hk).1
  | none =>
    rw [List.getD_eq_getElem?_getD, List.getElem?_eq_none (by rw [nnOf_length]; exact List.getElem?_eq_none_iff.1 h)] at hk
    simp at hk
theorem rawN_lt {js : List GJ} {ns : List ByteArray} : ∀ x ∈ rawN js ns, x < js.length := by
  intro x hx
  obtain ⟨s, _, e⟩ := List.mem_filterMap.1 hx
  exact idxN_lt e
theorem rawN_snoc_some {js : List GJ} {l : List ByteArray} {t : ByteArray} {q : Nat} (h : idxN js t = some q) : rawN js (l ++ [t]) = rawN js l ++ [q] := by unfold rawN; simp [h]
theorem rawN_snoc_none {js : List GJ} {l : List ByteArray} {t : ByteArray} (h : idxN js t = none) : rawN js (l ++ [t]) = rawN js l := by unfold rawN; simp [h]
theorem rawN_len (js : List GJ) (l : List ByteArray) : (rawN js l).length ≤ l.length := List.length_filterMap_le _ _

/-- A list, in a row of its own. -/
def LPostF (k : IntKind) (w : World) (l : List Int) (e : Ending) (w' : World) : Prop := ∃ v', e = .returned v' ∧ Lst k w' v' l ∧ (∀ q, v'.ownBlock = some q → w.heap.size ≤ q) ∧ Below w.heap.size w w'
set_option maxHeartbeats 2000000 in
set_option maxRecDepth 100000 in
theorem gneeds_in {w : World} {v : Value} {js : List GJ} (h : JL w v js) {k0 : Nat} {x : GJ} (hx : js[k0]? = some x) :
    Calls Try.prog 17 #[v, .int .i64 k0] w (LPostF .i64 w (ints (needsN js x))) := by
  have hfew := h.few
  have hk0 : k0 < js.length := (List.getElem?_eq_some_iff.1 hx).1
  have hk0i : (k0 : Int) < (js.length : Int) := by omega
  have hneg : decide ((k0 : Int) < 0) = false := decide_eq_false (by omega)
  have hge : decide ((js.length : Int) ≤ (k0 : Int)) = false := decide_eq_false (by omega)
  obtain ⟨A, c, rfl⟩ := h.form
  obtain ⟨_, hl⟩ := h.lies
  obtain ⟨⟨An, cn, hnv, hnl, hna, _, _, hncap⟩, hnm⟩ := h.needs x (List.mem_of_getElem? hx)
  rw [List.length_map, Nat.mul_one] at hnl
  obtain ⟨g, off, rfl, _, _, _, h3, _⟩ := hl k0 x hx
  rw [hnv] at h3
  have IX := Lib.hid (fun (W : World) (s : ByteArray) (hb : Below w.heap.size w W) => gindex_ex (h.below hb) s)
  obtain ⟨m, hm⟩ : ∃ m, m = x.ns.length := ⟨_, rfl⟩
  rw [← hm] at hnm hnv h3
  have HM := Lib.hid hm
  have HA := Lib.hid hna
  have H0 := Lib.hid h
  obtain ⟨nj, hnj⟩ : ∃ nj, nj = js.length := ⟨_, rfl⟩
  rw [← hnj] at IX
  rw [← hnj] at hfew hk0i hge ⊢
  have HJ := Lib.hid hnj
  clear hnl hna hl h hnv hncap hm hnj hk0
  go_enter Try.func17, Try.ntmps17
  go_wp2_with fail
  go_loopg [5, 23] (m + 1) (fun g' v5 i wr => ∃ (k : Nat), i = .int .i64 k ∧ k ≤ m ∧ Own 3 .i64 wr w.heap.size v5 (ints (rawN js (x.ns.take k))) ∧ m - k + 1 ≤ g' ∧ Below w.heap.size w wr)
  case atStart => exact ⟨0, rfl, by omega, Own.nil _ _ _ _, by omega, Below.refl _ _⟩
  case round =>
    obtain ⟨k, rfl, hk, ho, hg, hbr⟩ := hrel
    obtain ⟨wo, rfl⟩ : ∃ wo : World, wo = wr := ⟨_, rfl⟩
    have BR := Lib.hid hbr
    obtain ⟨raw, hraw⟩ : ∃ raw, raw = rawN js (x.ns.take k) := ⟨_, rfl⟩
    rw [← hraw] at ho
    have hrl : raw.length ≤ 2000000 := by rw [hraw]; have := rawN_len js (x.ns.take k); have := List.length_take_le k x.ns; omega
    have hrlt : ∀ y ∈ raw, y < js.length := by rw [hraw]; exact rawN_lt
    obtain ⟨A5, c5, hv5⟩ := own_formN ho
    subst hv5
    have O := Lib.hid ho
    have R := Lib.hid hraw
    have RL := Lib.hid hrlt
    by_cases hkn : k < m
    · have hki : (k : Int) < (m : Int) := by omega
      have hkl : k < x.ns.length := by rw [← HM.out]; exact hkn
      obtain ⟨gn, on, rfl, hc⟩ := HA.out (by rw [List.length_map]; omega)
      have e0 := cell_up hbr (hc k (.string (x.ns[k]'hkl)) (by rw [List.getElem?_map, List.getElem?_eq_getElem hkl]; rfl))
      have htk : x.ns.take (k + 1) = x.ns.take k ++ [x.ns[k]'hkl] := List.take_succ_eq_append_getElem hkl
      generalize x.ns[k]'hkl = t at *
      have TK := Lib.hid htk
      have HI := Lib.hid (IX.out wo t hbr)
      clear hc hbr htk ho hraw hrlt
      cases hix : idxN js t with
      | some q =>
        rw [show idxI js t = (q : Int) by unfold idxI; rw [hix]; rfl] at HI
        have hq : decide ((0 : Int) ≤ (q : Int)) = true := decide_eq_true (by omega)
        have HX := Lib.hid hix
        clear hix
        go_wp2_with (first
          | (go_at_call 22; ((with_reducible refine HI.out.mono ?_); rintro e w1 ⟨rfl, hb1⟩; have B1 := Lib.hid (BR.out.trans (hb1.mono BR.out.size)); have O1 := Lib.hid (O.out.below hb1); clear hb1))
          | (at_builtin; refine wpList_app rfl _ _ rfl elInt rfl (O1.out.below (balloc w1 _)) rfl (lst_one w1 (q : Int) 3) (by simp; omega) (by have := B1.out.size; simp; omega) ?_; intro v5 w5 hO5 hF5; obtain ⟨A5, c5, hv5, hO6⟩ := own_snocN hO5; subst hv5; have B5 := Lib.hid ((B1.out.alloc B1.out.size _).trans hF5.bel); have O5 := Lib.hid hO6; clear hO5 hF5 hO6))
        go_roundg (m - (k + 1) + 1)
        case measure => omega
        case rel => exact ⟨k + 1, by go_num, by omega, by rw [TK.out, rawN_snoc_some HX.out, ← R.out]; exact O5.out, Nat.le_refl _, B5.out⟩
      | none =>
        rw [show idxI js t = -1 by unfold idxI; rw [hix]; rfl] at HI
        have HX := Lib.hid hix
        clear hix
        go_wp2_with (go_at_call 22; ((with_reducible refine HI.out.mono ?_); rintro e w1 ⟨rfl, hb1⟩; have B1 := Lib.hid (BR.out.trans (hb1.mono BR.out.size)); have O1 := Lib.hid (O.out.below hb1); clear hb1))
        go_roundg (m - (k + 1) + 1)
        case measure => omega
        case rel => exact ⟨k + 1, by go_num, by omega, by rw [TK.out, rawN_snoc_none HX.out, ← R.out]; exact O1.out, Nat.le_refl _, B1.out⟩
    · obtain rfl : k = m := by omega
      have e1 : x.ns.take k = x.ns := List.take_of_length_le (by rw [HM.out]; exact Nat.le_refl _)
      rw [e1] at hraw
      have R := Lib.hid hraw
      have HS := Lib.hid (sort_own ho (by rw [ints_length]; omega) hbr.size)
      clear ho hraw hrlt e1 hbr
      go_wp2_with (first
        | (go_at_call 38; ((with_reducible refine HS.out.mono ?_); rintro e w1 ⟨rfl, ho1, hb1⟩; have B1 := Lib.hid (BR.out.trans hb1); have HC := Lib.hid (compact_own ho1 B1.out.size); clear hb1 ho1))
        | (go_at_call 39; ((with_reducible refine HC.out.mono ?_); rintro e w2 ⟨v2, rfl, hl2, hf2, hb2⟩; have F2 := Lib.hid hf2; clear hf2; rw [compact_sorted (n := js.length) RL.out] at hl2; have L2 := Lib.hid hl2; have B2 := Lib.hid (B1.out.trans hb2); clear hb2 hl2)))
      go_ret
      exact ⟨_, rfl, by unfold needsN; rw [← R.out]; exact L2.out, F2.out, B2.out⟩
theorem gneeds_out {w : World} {v : Value} {js : List GJ} (h : JL w v js) {i : Int} (hi : i < 0 ∨ (js.length : Int) ≤ i) :
    Calls Try.prog 17 #[v, .int .i64 i] w (LPostF .i64 w (ints (needsI js i))) := by
  have e : needsI js i = [] := hi.elim needsI_neg needsI_big
  rw [e]
  obtain ⟨A, c, rfl⟩ := h.form
  by_cases h0 : i < 0
  · clear h hi e
    go_enter Try.func17, Try.ntmps17
    go_wp2_with fail
    go_ret
    exact ⟨_, rfl, Lst.nil _ _, fun q hq => by simp [Value.ownBlock] at hq, Below.refl _ _⟩
  · have h1 : (js.length : Int) ≤ i := hi.resolve_left h0
    clear h hi e
    go_enter Try.func17, Try.ntmps17
    go_wp2_with fail
    go_ret
    exact ⟨_, rfl, Lst.nil _ _, fun q hq => by simp [Value.ownBlock] at hq, Below.refl _ _⟩
theorem gneeds_ex {w : World} {v : Value} {js : List GJ} (h : JL w v js) (i : Int) :
    Calls Try.prog 17 #[v, .int .i64 i] w (LPostF .i64 w (ints (needsI js i))) := by
  by_cases hi : i < 0 ∨ (js.length : Int) ≤ i
  · exact gneeds_out h hi
  · obtain ⟨k, rfl⟩ := Int.eq_ofNat_of_zero_le (show 0 ≤ i by omega)
    have hk : k < js.length := by omega
    have hx : js[k]? = some js[k] := List.getElem?_eq_getElem hk
    rw [needsI_nat, nnOf_at hx]
    exact gneeds_in h hx
theorem gneeds_pl {w : World} {v : Value} {js : List GJ} (h : JL w v js) (i : Int) :
    Calls Try.prog 17 #[v, .int .i64 i] w (LPost .i64 w (ints (needsI js i))) :=
  (gneeds_ex h i).mono fun _ _ ⟨v', h1, h2, _, h3⟩ => ⟨v', h1, h2, h3⟩
end Go.Proofs.Ytohiioafdajhmaa.Gp
