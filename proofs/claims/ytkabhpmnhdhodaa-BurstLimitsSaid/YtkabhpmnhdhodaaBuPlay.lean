/-
  The contract of the program's Play.
-/
import Derived.Test.YtkabhpmnhdhodaaBuAllow
import Derived.OwnWalk
namespace Go.Proofs.Ytkabhpmnhdhodaa.Bu
open Go.RowKit Go.Shelf

/-- Decisions in memory: block D has n cells, the first ones hold bs. -/
def Dec (w : World) (D n : Nat) (bs : List Bool) : Prop := ∃ ds : Array Value, w.heap[D]? = some (.cells ds 4 (0, 0)) ∧ ds.size = n ∧ ∀ (j : Nat) (b : Bool), bs[j]? = some b → ds[j]? = some (.bool b)
section
variable {w w' : World} {B D n : Nat} {bs : List Bool}
theorem Dec.fr (h : Dec w D n bs) (hf : Fr B w w') : Dec w' D n bs := by
  obtain ⟨ds, h1, h2⟩ := h; exact ⟨ds, hf.keep D ds _ _ h1 (by decide), h2⟩
theorem Dec.below (h : Dec w D n bs) (hb : Below w.heap.size w w') : Dec w' D n bs := by
  obtain ⟨ds, h1, h2⟩ := h; exact ⟨ds, (hb.block D (heap_lt h1)).trans h1, h2⟩
theorem Dec.lt (h : Dec w D n bs) : D < w.heap.size := by obtain ⟨ds, h1, _⟩ := h; exact heap_lt h1
theorem Dec.at_ (h : Dec w D n bs) {k : Nat} (hk : k < n) : w.frozen? ⟨D, k, none⟩ = false ∧ ∃ u, w.cell? ⟨D, k, none⟩ = some u := by
  obtain ⟨ds, h1, h2, _⟩ := h
  exact ⟨by simp [World.frozen?, h1], ds[k], (cell_of_row w D k ds _ _ h1).trans (Array.getElem?_eq_getElem (by omega))⟩
theorem Dec.store (h : Dec w D n bs) {k : Nat} (hk : bs.length = k) (hn : k < n) (b : Bool) : Dec (w.setCell ⟨D, k, none⟩ (.bool b)) D n (bs ++ [b]) := by
  obtain ⟨ds, h1, h2, h3⟩ := h
  refine ⟨ds.setIfInBounds k (.bool b), setCell_block h1, by simpa using h2, fun j c hj => ?_⟩
  rw [Array.getElem?_setIfInBounds]
  by_cases e : j < bs.length
  · rw [if_neg (by omega)]
    rw [List.getElem?_append_left e] at hj
    exact h3 j c hj
  · have hkl : j < (bs ++ [b]).length := (List.getElem?_eq_some_iff.1 hj).1
    have e2 : j = bs.length := by simp at hkl; omega
    subst e2
    rw [if_pos hk.symm, if_pos (by omega)]
    simp at hj
    rw [hj]
theorem Seg.store {v : Value} {l : List Int} (h : Seg w B v l) (hd : Dec w D n bs) (k : Nat) (u : Value) : Seg (w.setCell ⟨D, k, none⟩ u) B v l := by
  rcases h with h | ⟨g, off, cap, cur, h1, h2, h3, h4⟩
  · exact .inl h
  · refine .inr ⟨g, off, cap, cur, h1, h2, ?_, h4⟩
    rw [Below.heap_setCell w ⟨D, k, none⟩ u g ?_]
    · exact h3
    · intro e
      have e : g = D := e
      subst e
      obtain ⟨ds, h5, _⟩ := hd
      rw [h3] at h5; injection h5 with h5; injection h5 with _ e; simp at e
end
theorem dec_made {w : World} {B D n : Nat} {xs : List Value} (h : w.ownsRow B 4 1 (.slice (some ⟨D, 0, none⟩) n n) n xs) : Dec w D n [] := by
  rcases h.2 with ⟨hv, _⟩ | ⟨g, cap, cur, hv, hb, hg, hc, hm, hs, ht⟩
  · simp at hv
  · simp only [Value.slice.injEq, Option.some.injEq, Addr.mk.injEq, and_true, true_and] at hv
    obtain ⟨rfl, rfl⟩ := hv
    exact ⟨cur, hg, by omega, fun j b hj => by simp at hj⟩

/-- Bools as they are read. -/
def BL (w : World) (v : Value) (bs : List Bool) : Prop := ∃ A c, v = .slice A bs.length c ∧ (0 < bs.length → ∃ g off, A = some ⟨g, off, none⟩ ∧ ∀ k b, bs[k]? = some b → w.cell? ⟨g, off + k, none⟩ = some (.bool b))
theorem BL.below {w w' : World} {v : Value} {bs : List Bool} (h : BL w v bs) (hb : Below w.heap.size w w') : BL w' v bs := by
  obtain ⟨A, c, h1, h2⟩ := h
  refine ⟨A, c, h1, fun hn => ?_⟩
  obtain ⟨g, off, h3, h4⟩ := h2 hn
  exact ⟨g, off, h3, fun k b hk => (hb.cell (World.block_lt_of_cell? w _ (h4 k b hk))).trans (h4 k b hk)⟩
theorem BL.drewN {w : World} {v : Value} {bs : List Bool} (h : BL w v bs) (m : Nat) : BL (w.drewN m) v bs := h
theorem Dec.bl {w : World} {D : Nat} {bs : List Bool} (h : Dec w D bs.length bs) : BL w (.slice (some ⟨D, 0, none⟩) bs.length bs.length) bs := by
  obtain ⟨ds, h1, h2, h3⟩ := h
  exact ⟨_, _, rfl, fun _ => ⟨D, 0, rfl, fun k b hk => (cell_of_row w D (0 + k) ds _ _ h1).trans (by rw [Nat.zero_add]; exact h3 k b hk)⟩⟩
def PlayPost (w : World) (bs : List Bool) (e : Ending) (w' : World) : Prop := ∃ v', e = .returned v' ∧ BL w' v' bs ∧ Below w.heap.size w w'

/-- Is one more allowed, and what is then kept. -/
def yesB (l : List Int) (most : Int) : Bool := decide ((l.length : Int) < most)
def nextL (l : List Int) (most now : Int) : List Int := if (l.length : Int) < most then l ++ [now] else l
theorem decide_any {w : World} {B : Nat} {v : Value} {l : List Int} (most now : Int) (h : Seg w B v l) (hl : l.length ≤ 1000) (hB : B ≤ w.heap.size) :
    Calls Try.prog 16 #[v, .int .i64 most, .int .u64 now] w fun e w' => ∃ A n c, e = .returned (.tuple #[.slice A n c, .bool (yesB l most)]) ∧ Seg w' B (.slice A n c) (nextL l most now) ∧ Fr B w w' := by
  unfold yesB nextL
  by_cases hm : (l.length : Int) < most
  · rw [if_pos hm, decide_eq_true hm]
    refine (decide_yes now h hl hB hm).mono ?_
    rintro e w' ⟨v', rfl, hs, hf⟩
    obtain ⟨A, n, c, rfl⟩ := hs.form
    exact ⟨A, n, c, rfl, hs, hf⟩
  · rw [if_neg hm, decide_eq_false hm]
    obtain ⟨A, c, rfl, _⟩ := h.shape
    refine (decide_no now hm).mono ?_
    rintro e w' ⟨rfl, rfl⟩
    exact ⟨_, _, _, rfl, h, Fr.refl _ _⟩

/-- The builtin max of two u64. -/
theorem wpList_max {P : Program} (w : World) {ops : Array Oper} {rest : List Oper} {o : Oper} {a : Act} {Q : Exit → Act → World → Prop} (hgd : o.guard = none) (s x : Operand) (t : TypeId)
    (ho : o.op = .call { callee := .builtin .max, args := #[s, x], argTypes := #[t, t] }) (m n : Int) (hs : a.eval s = .int .u64 m) (hx : a.eval x = .int .u64 n)
    (h : wpList P ops Q rest (a.put o.dst (.int .u64 (max m n))) w) : wpList P ops Q (o :: rest) a w := by
  refine wpList_plain hgd fun K hK => ?_
  have hr : (Builtin.max_ #[t, t] o.type #[.int .u64 m, .int .u64 n]).run P w = .ok (.int .u64 (max m n)) w := by
    unfold Builtin.max_
    have e : (if n > m then n else m) = max m n := by split <;> omega
    show ((List.foldlM Builtin.max2 (.int .u64 m) [.int .u64 n]).run P w) = _
    simp only [List.foldlM_cons, List.foldlM_nil, Builtin.max2, e]
    rfl
  unfold Oper.wp execOp
  simp only [ho, resolve, invoke, builtin, Sem.run_bind, Sem.run_pure, Result.andThen_ok, List.map_toArray, List.map_cons, List.map_nil, hs, hx, hr]
  exact hK _ _ h

theorem allow_of {ts rs : List Int} {most now win : Int} (h : trim rs now win = trim ts now win) (hr : trim rs now win = rs) :
    allowL ts most now win = nextL rs most now ∧ allowB ts most now win = yesB rs most := by
  unfold allowL allowB; rw [← h, hr]; exact ⟨rfl, rfl⟩

set_option maxRecDepth 100000 in
set_option maxHeartbeats 2000000 in
theorem play_any {w : World} {v : Value} {l : List Int} {most win : Int} (h : Lst w v l) (hU : U l) (hn : l.length ≤ 1000) :
    Calls Try.prog 14 #[.int .i64 most, .int .u64 win, v] w (PlayPost w (play most win [] 0 l)) := by
  obtain ⟨i0, hi0, hz0, hz1, hz2⟩ := info_parts Try.info4
  obtain ⟨A, c, rfl, hr, _⟩ := h
  have HR := Lib.hid hr
  have HU := Lib.hid hU
  clear hr hU
  go_enter Try.func14, Try.ntmps14
  go_wp2_with (refine wpList_make_full _ rfl _ _ 33 rfl w.heap.size 4 i0 (.bool false) 1 Try.underlying33 hi0 hz0 hz1 .i64 .i64 _ _ l.length rfl rfl rfl rfl (by rw [hz2]; omega) (by unfold maxLen; omega) (Nat.le_refl _) ?_; intro w1 hown hgrow; have D1 := Lib.hid (dec_made hown); have B1 := Lib.hid ((Below.refl w.heap.size w).grown hgrow (Nat.le_refl _) (by intro k hk; simp at hk)); clear hown hgrow)
  go_loopg [8, 9, 10, 11, 12, 18] (l.length + 1) (fun g t nw _ _ _ i wr => ∃ k : Nat, i = .int .i64 k ∧ k ≤ l.length ∧ l.length - k + 1 ≤ g ∧ nw = .int .u64 (runN 0 (l.take k)) ∧ Seg wr w.heap.size t (runT most win [] 0 (l.take k)) ∧ Dec wr w.heap.size l.length (play most win [] 0 (l.take k)) ∧ Below w.heap.size w wr)
  case atStart => exact ⟨0, rfl, Nat.zero_le _, by omega, rfl, Seg.nil _ _, D1.out, B1.out⟩
  case round =>
    obtain ⟨k, rfl, hk, hg, rfl, hs, hd, hb⟩ := hrel
    obtain ⟨A1, n1, c1, rfl⟩ := hs.form
    obtain ⟨wo, rfl⟩ : ∃ wo : World, wo = wr := ⟨_, rfl⟩
    by_cases hkn : k < l.length
    · obtain ⟨x, hx⟩ : ∃ x, l[k]? = some x := ⟨l[k], List.getElem?_eq_getElem hkn⟩
      have hts := take_snoc' hx
      obtain ⟨g1, o1, e1, k1⟩ := (HR.out.below hb).2 (by omega)
      have d1 := k1 k x hx
      obtain ⟨x0, x1⟩ := HU.out x (List.mem_of_getElem? hx)
      have hlt : g1 < wo.heap.size := World.block_lt_of_cell? wo _ d1
      have hi1 : (k : Int) < (l.length : Int) := by omega
      have hUt : U (l.take k) := fun y hy => HU.out y (List.mem_of_mem_take hy)
      have e0 : (0 : Int) ≤ mx := by unfold mx; omega
      obtain ⟨r0, r1⟩ := runN_bd (Int.le_refl 0) e0 hUt
      have hUr := runT_U (most := most) (win := win) U_nil (Int.le_refl 0) e0 hUt
      have hle := runT_le most win [] 0 (l.take k)
      have hAs := (runT_asc most win (l.take k) (Asc.nil 0)).later (Int.le_max_left _ x)
      have hln : (play most win [] 0 (l.take k)).length = k := by rw [play_length, List.length_take]; omega
      have HN := Lib.hid ((congrArg (runN 0) hts).trans (runN_snoc _ _ _))
      have HT := Lib.hid ((congrArg (runT most win [] 0) hts).trans (runT_snoc _ _ _ _ _ _))
      have HP := Lib.hid ((congrArg (play most win [] 0) hts).trans (play_snoc _ _ _ _ _ _))
      rw [List.length_take] at hle
      have hm0 : 0 ≤ max (runN 0 (l.take k)) x := by omega
      have hm1 : max (runN 0 (l.take k)) x ≤ mx := by omega
      generalize play most win [] 0 (l.take k) = bs at hd HP hln
      generalize runT most win [] 0 (l.take k) = ts at hs HT HP hUr hle hAs
      generalize runN 0 (l.take k) = nw at *
      have SS := Lib.hid hs
      have DD := Lib.hid hd
      have BB := Lib.hid hb
      have UR := Lib.hid hUr
      have AS := Lib.hid hAs
      have LN := Lib.hid hln
      have hwr := hb.size
      have hle' : ts.length ≤ 1000 := by simp at hle; omega
      have M0 := Lib.hid hm0
      have M1 := Lib.hid hm1
      subst e1
      clear k1 hx hts hUt e0 r0 r1 hUr hle hAs hln hs hd hb hm0 hm1 x0 x1
      generalize hmn : max nw x = nm at *
      have MN := Lib.hid hmn
      clear hmn
      go_wp2_with (first
        | (refine wpList_max _ rfl _ _ 23 rfl nw x rfl rfl ?_; rw [MN.out])
        | (go_at_call 19; ((with_reducible refine (outside_any _ _ _).mono ?_); rintro e w2 ⟨rfl, hw2⟩; have W2 := Lib.hid hw2; clear hw2)))
      have hbx := boxes wo nm win
      rw [← W2.out] at hbx
      have S2 := Lib.hid (SS.out.below hbx.2.2)
      have D2 := Lib.hid (DD.out.below hbx.2.2)
      have B2 := Lib.hid (BB.out.trans (hbx.2.2.mono BB.out.size))
      have HC := Lib.hid (fun (t : Int) (q : Nat) t0 t1 => old_any (w := w2.drewN q) (t := t) hbx.1 hbx.2.1 M0.out M1.out t0 t1)
      clear hbx
      go_loopg [8] (ts.length + 1) (fun g t wr => ∃ (rs : List Int) (q : Nat), wr = w2.drewN q ∧ Seg w2 w.heap.size t rs ∧ Asc rs nm ∧ U rs ∧ trim rs nm win = trim ts nm win ∧ rs.length ≤ ts.length ∧ rs.length + 1 ≤ g)
      case atStart => exact ⟨ts, 0, rfl, S2.out, AS.out, UR.out, rfl, Nat.le_refl _, Nat.le_refl _⟩
      case round =>
        obtain ⟨rs, q, hwq, hs, has, hu, htr, hle1, hg1⟩ := hrel
        cases rs with
        | nil =>
          obtain ⟨A4, c4, hv, _⟩ := hs.shape
          subst hv
          simp only [List.length_nil] at hs
          obtain ⟨ea, eb⟩ := allow_of (most := most) htr (trim_nil _ _)
          have HT2 := Lib.hid (HT.out.trans ea)
          have HP2 := Lib.hid (HP.out.trans (congrArg (fun b => bs ++ [b]) eb))
          have HLR := Lib.hid (show ([] : List Int).length ≤ 1000 by simp)
          have S3 := Lib.hid (show Seg wr w.heap.size _ [] by rw [hwq]; exact hs.drewN q)
          have D3 := Lib.hid (show Dec wr w.heap.size l.length bs by rw [hwq]; exact D2.out)
          have B3 := Lib.hid (show Below w.heap.size w wr by rw [hwq]; exact B2.out.trans ((below_drewN _ _).mono B2.out.size))
          have Z3 := Lib.hid B3.out.size
          clear hs has hu htr hle1 hwq ea eb
          simp only [List.length_nil]
          go_wp2_with (go_at_call 16; ((with_reducible refine (decide_any most nm S3.out HLR.out Z3.out).mono ?_); rintro e w4 ⟨A5, n5, c5, rfl, hs4, hf4⟩; have S4 := Lib.hid hs4; have F4 := Lib.hid hf4; obtain ⟨f4, u4, k4⟩ := (D3.out.fr hf4).at_ hkn; clear hs4 hf4))
          go_roundg (l.length - (k + 1) + 1)
          case measure => omega
          case rel =>
            refine ⟨k + 1, by go_num, by omega, Nat.le_refl _, by rw [HN.out], ?_, ?_, ?_⟩
            · rw [HT2.out]; exact S4.out.store (D3.out.fr F4.out) k _
            · rw [HP2.out]; exact (D3.out.fr F4.out).store LN.out hkn _
            · exact (B3.out.trans F4.out.bel).setCell (Nat.le_refl _) _

        | cons y r =>
          obtain ⟨A4, c4, hv, _⟩ := hs.shape
          subst hv
          simp only [List.length_cons] at hs
          obtain ⟨g4, o4, hA, hn4, hc4, cy, htl⟩ := hs.tail
          subst hA
          obtain ⟨y0, y1⟩ := hu y (by simp)
          have cy' : wr.cell? ⟨g4, o4, none⟩ = some (.int .u64 y) := by rw [hwq]; exact cy
          have hC := HC.out y q y0 y1
          rw [← hwq] at hC
          by_cases hy : young nm win y = true
          · rw [hy, Bool.not_true] at hC
            obtain ⟨ea, eb⟩ := allow_of (most := most) htr (trim_young has hy)
            have HT2 := Lib.hid (HT.out.trans ea)
            have HP2 := Lib.hid (HP.out.trans (congrArg (fun b => bs ++ [b]) eb))
            have HLR := Lib.hid (show (y :: r).length ≤ 1000 by omega)
            have HS := Lib.hid hs
            have HWQ := Lib.hid hwq
            have HC2 := Lib.hid hC
            have cy2 := cy'
            clear hs has hu htr hle1 hwq ea eb hC htl cy cy' y0 y1 hy
            simp only [List.length_cons]
            go_wp2_with (first
              | (go_at_call 22; (refine HC2.out.mono ?_; rintro e w3 ⟨rfl, q3, hw3⟩; have S3 := Lib.hid (show Seg w3 w.heap.size _ (y :: r) by rw [hw3, HWQ.out]; exact (HS.out.drewN q).drewN q3); have D3 := Lib.hid (show Dec w3 w.heap.size l.length bs by rw [hw3, HWQ.out]; exact D2.out); have B3 := Lib.hid (show Below w.heap.size w w3 by rw [hw3, HWQ.out]; exact (B2.out.trans ((below_drewN w2 q).mono B2.out.size)).trans ((below_drewN (w2.drewN q) q3).mono B2.out.size)); have Z3 := Lib.hid B3.out.size; clear hw3))
              | (go_at_call 16; ((with_reducible refine (decide_any most nm S3.out HLR.out Z3.out).mono ?_); rintro e w4 ⟨A5, n5, c5, rfl, hs4, hf4⟩; have S4 := Lib.hid hs4; have F4 := Lib.hid hf4; obtain ⟨f4, u4, k4⟩ := (D3.out.fr hf4).at_ hkn; clear hs4 hf4)))
            go_roundg (l.length - (k + 1) + 1)
            case measure => omega
            case rel =>
              refine ⟨k + 1, by go_num, by omega, Nat.le_refl _, by rw [HN.out], ?_, ?_, ?_⟩
              · rw [HT2.out]; exact S4.out.store (D3.out.fr F4.out) k _
              · rw [HP2.out]; exact (D3.out.fr F4.out).store LN.out hkn _
              · exact (B3.out.trans F4.out.bel).setCell (Nat.le_refl _) _
          · have hy' : young nm win y = false := by simpa using hy
            rw [hy', Bool.not_false] at hC
            have htr2 := (trim_old (r := r) hy').symm.trans htr
            have HTL := Lib.hid htl
            have HTR := Lib.hid htr2
            have HA := Lib.hid has.tail
            have HUU := Lib.hid (show U r from fun z hz => hu z (by simp [hz]))
            have HWQ := Lib.hid hwq
            have HC2 := Lib.hid hC
            have hr1 : r.length + 1 ≤ ts.length := hle1
            have hr2 : r.length + 1 + 1 ≤ gk := hg1
            have cy2 : ∀ m, (wr.drewN m).cell? ⟨g4, o4, none⟩ = some (.int .u64 y) := fun _ => cy'
            clear hs has hu htr hle1 hwq hC htl cy hy hy' htr2 hg1 y0 y1
            simp only [List.length_cons]
            by_cases hc1 : c4 = 1
            · subst hc1
              have hr0 : r.length = 0 := by omega
              have HT1 := Lib.hid (show Seg w2 w.heap.size (.slice (some ⟨g4, o4, none⟩) 0 0) r by have := HTL.out; rw [if_pos rfl, hn4, hr0] at this; exact this)
              clear hr0
              go_wp2_with (go_at_call 22; refine HC2.out.mono ?_; rintro e w3 ⟨rfl, q3, hw3⟩; have W3 := Lib.hid hw3; clear hw3)
              go_roundg (r.length + 1)
              case measure => omega
              case rel => exact ⟨r, q + q3, by rw [W3.out, HWQ.out]; exact World.drewN_drewN _ _ _, HT1.out, HA.out, HUU.out, HTR.out, by omega, Nat.le_refl _⟩
            · have HT1 := Lib.hid (show Seg w2 w.heap.size (.slice (some ⟨g4, o4 + 1, none⟩) r.length (c4 - 1)) r by have := HTL.out; rw [if_neg hc1] at this; exact this)
              go_wp2_with (go_at_call 22; refine HC2.out.mono ?_; rintro e w3 ⟨rfl, q3, hw3⟩; have W3 := Lib.hid hw3; clear hw3)
              go_roundg (r.length + 1)
              case measure => omega
              case rel => exact ⟨r, q + q3, by rw [W3.out, HWQ.out]; exact World.drewN_drewN _ _ _, HT1.out, HA.out, HUU.out, HTR.out, by omega, Nat.le_refl _⟩
    · obtain rfl : k = l.length := by omega
      have HT := Lib.hid (List.take_length (l := l))
      have HB := Lib.hid hb
      have HD := Lib.hid (show Dec wo w.heap.size (play most win [] 0 l).length (play most win [] 0 l) by rw [play_length]; rw [HT.out] at hd; exact hd)
      have HL := Lib.hid (play_length most win [] 0 l)
      clear hs hd hb
      go_wp2_with fail
      go_ret
      exact ⟨_, rfl, by have := HD.out.bl; rw [HL.out] at this; exact this, HB.out⟩
end Go.Proofs.Ytkabhpmnhdhodaa.Bu
