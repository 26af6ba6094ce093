/-
  Layer 7, the reference: Has, wants, Needs, free.
-/
import Derived.Test.YtohiioafdajhmaaGpNeeds
namespace Go.Proofs.Ytohiioafdajhmaa.Gp
open Go.RowKit

theorem mem_ints {l : List Nat} {n : Nat} : (n : Int) ∈ ints l ↔ n ∈ l := by
  constructor
  · intro h
    obtain ⟨k, hk, e⟩ := List.mem_map.1 h
    have : k = n := by omega
    rw [← this]; exact hk
  · intro h; exact List.mem_map.2 ⟨n, h, rfl⟩
theorem notin_snoc {α : Type} {s t : α} {l : List α} (h : ¬ s ∈ l) (h2 : ¬ t = s) : ¬ s ∈ l ++ [t] := by
  rw [List.mem_append]
  rintro (q | q)
  · exact h q
  · exact h2 (by simp at q; exact q.symm)
set_option maxRecDepth 100000 in
theorem rhas_ex {w : World} {v : Value} {l : List Int} (h : Lst .i64 w v l) (x : Int) :
    Calls Try.prog 24 #[v, .int .i64 x] w fun e w' => e = .returned (.bool (decide (x ∈ l))) ∧ ∃ m, w' = w.drewN m := by
  obtain ⟨A, c, rfl, hr, _, hlc, hcm⟩ := h
  obtain ⟨n, hn⟩ : ∃ n, n = l.length := ⟨_, rfl⟩
  have hnm : n ≤ 9223372036854775807 := by unfold maxLen at hcm; omega
  rw [← hn]
  have HN := Lib.hid hn
  have H := Lib.hid hr
  clear hr hlc hcm hn
  go_enter Try.func24, Try.ntmps24
  go_wp2_with fail
  go_loopg [5] (n + 1) (fun g' i wr => ∃ (k : Nat), i = .int .i64 k ∧ k ≤ n ∧ x ∉ l.take k ∧ n - k + 1 ≤ g' ∧ ∃ m, wr = w.drewN m)
  case atStart => exact ⟨0, rfl, by omega, by simp, by omega, 0, rfl⟩
  case round =>
    obtain ⟨k, rfl, hk, hno, hg, m, rfl⟩ := hrel
    have NO := Lib.hid hno
    clear hno
    by_cases hkn : k < n
    · have hki : (k : Int) < (n : Int) := by omega
      have hkl : k < l.length := by rw [← HN.out]; exact hkn
      obtain ⟨g, off, rfl, hc⟩ := H.out (by omega)
      have h0 := hc k _ (List.getElem?_eq_getElem hkl)
      have hmem : l[k]'hkl ∈ l := List.getElem_mem hkl
      have htk : l.take (k + 1) = l.take k ++ [l[k]'hkl] := List.take_succ_eq_append_getElem hkl
      generalize l[k]'hkl = t at *
      have TK := Lib.hid htk
      have M := Lib.hid hmem
      clear hc htk hmem
      by_cases hst : t = x
      · subst hst
        go_wp2_with fail
        go_ret
        exact ⟨ret_b (decide_eq_true M.out).symm, m, rfl⟩
      · have hsb : (t == x) = false := beq_eq_false_iff_ne.2 hst
        go_wp2_with fail
        go_roundg (n - (k + 1) + 1)
        case measure => omega
        case rel => exact ⟨k + 1, by go_num, by omega, by rw [TK.out]; exact notin_snoc NO.out hst, Nat.le_refl _, m, rfl⟩
    · obtain rfl : k = n := by omega
      have hno := NO.out
      rw [List.take_of_length_le (by rw [HN.out]; exact Nat.le_refl _)] at hno
      have NO2 := Lib.hid hno
      clear hno
      go_wp2_with fail
      go_ret
      exact ⟨ret_b (decide_eq_false NO2.out).symm, m, rfl⟩

theorem idxI_eq {js : List GJ} {t : ByteArray} {q : Nat} : (idxI js t == (q : Int)) = decide (idxN js t = some q) := by
  unfold idxI
  cases h : idxN js t with
  | none => rw [decide_eq_false (by simp)]; exact beq_eq_false_iff_ne.2 (by unfold optI; simp only; omega)
  | some k =>
    by_cases e : k = q
    · subst e; rw [decide_eq_true rfl]; exact beq_self_eq_true _
    · rw [decide_eq_false (by simpa using e)]; exact beq_eq_false_iff_ne.2 (by unfold optI; simp only; omega)
theorem rawN_hit {js : List GJ} {ns : List ByteArray} {t : ByteArray} {q : Nat} (ht : t ∈ ns) (h : idxN js t = some q) : q ∈ rawN js ns := List.mem_filterMap.2 ⟨t, ht, h⟩
theorem rawN_miss {js : List GJ} {l : List ByteArray} {t : ByteArray} {q : Nat} (h : q ∉ rawN js l) (h2 : ¬ idxN js t = some q) : q ∉ rawN js (l ++ [t]) := by
  cases e : idxN js t with
  | none => rw [rawN_snoc_none e]; exact h
  | some k => rw [rawN_snoc_some e]; exact notin_snoc h (fun e2 => h2 (by rw [e, e2]))
set_option maxHeartbeats 2000000 in
set_option maxRecDepth 100000 in
theorem rwants_ex {w : World} {v : Value} {js : List GJ} (h : JL w v js) {k0 : Nat} {x : GJ} (hx : js[k0]? = some x) (q : Nat) :
    Calls Try.prog 40 #[v, .int .i64 k0, .int .i64 q] w fun e w' => e = .returned (.bool (decide (q ∈ rawN js x.ns))) ∧ ∃ m, w' = w.drewN m := by
  have hfew := h.few
  have hk0 : k0 < js.length := (List.getElem?_eq_some_iff.1 hx).1
  have hk0i : (k0 : Int) < (js.length : Int) := by omega
  obtain ⟨A, c, rfl⟩ := h.form
  obtain ⟨_, hl⟩ := h.lies
  obtain ⟨⟨An, cn, hnv, hnl, hna, _, _, hncap⟩, hnm⟩ := h.needs x (List.mem_of_getElem? hx)
  rw [List.length_map, Nat.mul_one] at hnl
  obtain ⟨g, off, rfl, _, _, _, h3, _⟩ := hl k0 x hx
  rw [hnv] at h3
  have IX := Lib.hid (fun (W : World) (s : ByteArray) (hb : Below w.heap.size w W) => rindex_ex (h.below hb) s)
  obtain ⟨m, hm⟩ : ∃ m, m = x.ns.length := ⟨_, rfl⟩
  rw [← hm] at hnm hnv h3
  have HM := Lib.hid hm
  have HA := Lib.hid hna
  obtain ⟨nj, hnj⟩ : ∃ nj, nj = js.length := ⟨_, rfl⟩
  rw [← hnj] at IX
  rw [← hnj] at hfew hk0i ⊢
  have HJ := Lib.hid hnj
  clear hnl hna hl h hnv hncap hm hnj hk0
  go_enter Try.func40, Try.ntmps40
  go_wp2_with fail
  go_loopg [7] (m + 1) (fun g' i wr => ∃ (k : Nat), i = .int .i64 k ∧ k ≤ m ∧ q ∉ rawN js (x.ns.take k) ∧ m - k + 1 ≤ g' ∧ ∃ d, wr = w.drewN d)
  case atStart => exact ⟨0, rfl, by omega, by simp [rawN], by omega, 0, rfl⟩
  case round =>
    obtain ⟨k, rfl, hk, hno, hg, d, rfl⟩ := hrel
    have NO := Lib.hid hno
    clear hno
    by_cases hkn : k < m
    · have hki : (k : Int) < (m : Int) := by omega
      have hkl : k < x.ns.length := by rw [← HM.out]; exact hkn
      obtain ⟨gn, on, rfl, hc⟩ := HA.out (by rw [List.length_map]; omega)
      have e0 := hc k (.string (x.ns[k]'hkl)) (by rw [List.getElem?_map, List.getElem?_eq_getElem hkl]; rfl)
      have htk : x.ns.take (k + 1) = x.ns.take k ++ [x.ns[k]'hkl] := List.take_succ_eq_append_getElem hkl
      have hmem : x.ns[k]'hkl ∈ x.ns := List.getElem_mem hkl
      generalize x.ns[k]'hkl = t at *
      have TK := Lib.hid htk
      have M := Lib.hid hmem
      have HI := Lib.hid (IX.out (w.drewN d) t (below_drewN w d))
      have HE := idxI_eq (js := js) (t := t) (q := q)
      clear hc htk hmem
      by_cases hix : idxN js t = some q
      · rw [decide_eq_true hix] at HE
        have HX := Lib.hid hix
        clear hix
        go_wp2_with (go_at_call 23; ((with_reducible refine HI.out.mono ?_); rintro e w1 ⟨rfl, d1, rfl⟩))
        go_ret
        exact ⟨ret_b (decide_eq_true (rawN_hit M.out HX.out)).symm, d + d1, rfl⟩
      · rw [decide_eq_false hix] at HE
        have HX := Lib.hid hix
        clear hix
        go_wp2_with (go_at_call 23; ((with_reducible refine HI.out.mono ?_); rintro e w1 ⟨rfl, d1, rfl⟩))
        go_roundg (m - (k + 1) + 1)
        case measure => omega
        case rel => exact ⟨k + 1, by go_num, by omega, by rw [TK.out]; exact rawN_miss NO.out HX.out, Nat.le_refl _, d + d1, rfl⟩
    · obtain rfl : k = m := by omega
      have hno := NO.out
      rw [List.take_of_length_le (by rw [HM.out]; exact Nat.le_refl _)] at hno
      have NO2 := Lib.hid hno
      clear hno
      go_wp2_with fail
      go_ret
      exact ⟨ret_b (decide_eq_false NO2.out).symm, d, rfl⟩
theorem ascN_succ_in {n : Nat} {l : List Nat} (h : n ∈ l) : ascN (n + 1) l = ascN n l ++ [n] := by unfold ascN; rw [List.range_succ, List.filter_append]; simp [h]
theorem ascN_succ_out {n : Nat} {l : List Nat} (h : n ∉ l) : ascN (n + 1) l = ascN n l := by unfold ascN; rw [List.range_succ, List.filter_append]; simp [h]
theorem ascN_len (n : Nat) (l : List Nat) : (ascN n l).length ≤ n := by have := List.length_filter_le (fun k => decide (k ∈ l)) (List.range n); unfold ascN; rw [List.length_range] at this; exact this
set_option maxHeartbeats 2000000 in
set_option maxRecDepth 100000 in
theorem rneeds_in {w : World} {v : Value} {js : List GJ} (h : JL w v js) {k0 : Nat} {x : GJ} (hx : js[k0]? = some x) :
    Calls Try.prog 18 #[v, .int .i64 k0] w (LPost .i64 w (ints (needsN js x))) := by
  have hfew := h.few
  have hk0 : k0 < js.length := (List.getElem?_eq_some_iff.1 hx).1
  have hk0i : (k0 : Int) < (js.length : Int) := by omega
  have hneg : decide ((0 : Int) ≤ (k0 : Int)) = true := decide_eq_true (by omega)
  have HW := Lib.hid (fun (W : World) (q : Nat) (hb : Below w.heap.size w W) => rwants_ex (h.below hb) hx q)
  obtain ⟨A, c, rfl⟩ := h.form
  obtain ⟨n, hn⟩ : ∃ n, n = js.length := ⟨_, rfl⟩
  rw [← hn] at HW hfew hk0i ⊢
  have HN := Lib.hid hn
  clear h hk0 hn
  go_enter Try.func18, Try.ntmps18
  go_wp2_with fail
  go_loopg [5, 6] (n + 1) (fun g' v5 i wr => ∃ (k : Nat), i = .int .i64 k ∧ k ≤ n ∧ Own 3 .i64 wr w.heap.size v5 (ints (ascN k (rawN js x.ns))) ∧ n - k + 1 ≤ g' ∧ Below w.heap.size w wr)
  case atStart => exact ⟨0, rfl, by omega, Own.nil _ _ _ _, by omega, Below.refl _ _⟩
  case round =>
    obtain ⟨k, rfl, hk, ho, hg, hbr⟩ := hrel
    obtain ⟨wo, rfl⟩ : ∃ wo : World, wo = wr := ⟨_, rfl⟩
    obtain ⟨A5, c5, hv5⟩ := own_formN ho
    have hal := ascN_len k (rawN js x.ns)
    have BR := Lib.hid hbr
    have O := Lib.hid ho
    clear ho
    by_cases hkn : k < n
    · have hki : (k : Int) < (n : Int) := by omega
      have HI := Lib.hid (HW.out wo k hbr)
      clear hbr
      by_cases hq : k ∈ rawN js x.ns
      · rw [decide_eq_true hq] at HI
        have Q := Lib.hid hq
        obtain ⟨out, hout⟩ : ∃ out, out = ascN k (rawN js x.ns) := ⟨_, rfl⟩
        rw [← hout] at O hv5 hal
        subst hv5
        have HO := Lib.hid hout
        clear hq hout
        go_wp2_with (first
          | (go_at_call 40; ((with_reducible refine HI.out.mono ?_); rintro e w1 ⟨rfl, d1, rfl⟩; have O1 := Lib.hid (O.out.below (below_drewN wo d1)); have B1 := Lib.hid (BR.out.trans ((below_drewN wo d1).mono BR.out.size))))
          | (at_builtin; refine wpList_app rfl _ _ rfl elInt rfl (O1.out.below (balloc _ _)) rfl (lst_one _ (k : Int) 3) (by simp; omega) (by have := B1.out.size; simp at this ⊢; omega) ?_; intro v5 w5 hO5 hF5; obtain ⟨A5, c5, hv5, hO6⟩ := own_snocN hO5; subst hv5; have B5 := Lib.hid ((B1.out.alloc B1.out.size _).trans hF5.bel); have O5 := Lib.hid hO6; clear hO5 hF5 hO6))
        go_roundg (n - (k + 1) + 1)
        case measure => omega
        case rel => exact ⟨k + 1, by go_num, by omega, by rw [ascN_succ_in Q.out, ← HO.out]; exact O5.out, Nat.le_refl _, B5.out⟩
      · rw [decide_eq_false hq] at HI
        have Q := Lib.hid hq
        subst hv5
        clear hq
        go_wp2_with (go_at_call 40; ((with_reducible refine HI.out.mono ?_); rintro e w1 ⟨rfl, d1, rfl⟩; have O1 := Lib.hid (O.out.below (below_drewN wo d1)); have B1 := Lib.hid (BR.out.trans ((below_drewN wo d1).mono BR.out.size))))
        go_roundg (n - (k + 1) + 1)
        case measure => omega
        case rel => exact ⟨k + 1, by go_num, by omega, by rw [ascN_succ_out Q.out]; exact O1.out, Nat.le_refl _, B1.out⟩
    · obtain rfl : k = n := by omega
      subst hv5
      clear hbr
      go_wp2_with fail
      go_ret
      exact ⟨_, rfl, by unfold needsN; rw [← HN.out]; exact O.out.lst, BR.out⟩
theorem rneeds_out {w : World} {v : Value} {js : List GJ} (h : JL w v js) {i : Int} (hi : i < 0 ∨ (js.length : Int) ≤ i) :
    Calls Try.prog 18 #[v, .int .i64 i] w (LPost .i64 w (ints (needsI js i))) := by
  have e : needsI js i = [] := hi.elim needsI_neg needsI_big
  rw [e]
  obtain ⟨A, c, rfl⟩ := h.form
  have hfew := h.few
  obtain ⟨n, hn⟩ : ∃ n, n = js.length := ⟨_, rfl⟩
  rw [← hn] at hi hfew ⊢
  rcases Nat.eq_zero_or_pos n with h0 | h0
  · subst h0
    clear h hi e hn
    go_enter Try.func18, Try.ntmps18
    go_wp2_with fail
    go_loopg [5, 6] 1 (fun g' v5 i wr => v5 = .slice none 0 0 ∧ i = .int .i64 0 ∧ wr = w ∧ 1 ≤ g')
    case atStart => exact ⟨rfl, rfl, rfl, by omega⟩
    case round =>
      obtain ⟨rfl, rfl, rfl, hg⟩ := hrel
      go_wp2_with fail
      go_ret
      exact ⟨_, rfl, Lst.nil _ _, Below.refl _ _⟩
  · have h0i : (0 : Int) < (n : Int) := by omega
    by_cases h1 : i < 0
    · have hd : decide (0 ≤ i) = false := decide_eq_false (by omega)
      clear h hi e hn
      go_enter Try.func18, Try.ntmps18
      go_wp2_with fail
      go_loopg [5, 6] 1 (fun g' v5 i wr => v5 = .slice none 0 0 ∧ i = .int .i64 0 ∧ wr = w ∧ 1 ≤ g')
      case atStart => exact ⟨rfl, rfl, rfl, by omega⟩
      case round =>
        obtain ⟨rfl, rfl, rfl, hg⟩ := hrel
        go_wp2_with fail
        go_ret
        exact ⟨_, rfl, Lst.nil _ _, Below.refl _ _⟩
    · have hd : decide (0 ≤ i) = true := decide_eq_true (by omega)
      have hd2 : decide (i < (n : Int)) = false := decide_eq_false (by omega)
      clear h hi e hn
      go_enter Try.func18, Try.ntmps18
      go_wp2_with fail
      go_loopg [5, 6] 1 (fun g' v5 i wr => v5 = .slice none 0 0 ∧ i = .int .i64 0 ∧ wr = w ∧ 1 ≤ g')
      case atStart => exact ⟨rfl, rfl, rfl, by omega⟩
      case round =>
        obtain ⟨rfl, rfl, rfl, hg⟩ := hrel
        go_wp2_with fail
        go_ret
        exact ⟨_, rfl, Lst.nil _ _, Below.refl _ _⟩
theorem rneeds_ex {w : World} {v : Value} {js : List GJ} (h : JL w v js) (i : Int) :
    Calls Try.prog 18 #[v, .int .i64 i] w (LPost .i64 w (ints (needsI js i))) := by
  by_cases hi : i < 0 ∨ (js.length : Int) ≤ i
  · exact rneeds_out h hi
  · obtain ⟨k, rfl⟩ := Int.eq_ofNat_of_zero_le (show 0 ≤ i by omega)
    have hk : k < js.length := by omega
    have hx : js[k]? = some js[k] := List.getElem?_eq_getElem hk
    rw [needsI_nat, nnOf_at hx]
    exact rneeds_in h hx
end Go.Proofs.Ytohiioafdajhmaa.Gp
