/-
  The contracts of the reference's Play and of the sanity check.
-/
import Derived.Test.YtkabhpmnhdhodaaBuPlay
namespace Go.Proofs.Ytkabhpmnhdhodaa.Bu
open Go.RowKit Go.Shelf

theorem own_below {w w' : World} {B : Nat} {e : TypeId} {size n : Nat} {v : Value} {xs : List Value} (h : w.ownsRow B e size v n xs) (hb : Below w.heap.size w w') : w'.ownsRow B e size v n xs :=
  h.kept (row := none) ⟨hb.os, hb.tape, hb.output, hb.size, fun k hk _ => hb.block k hk⟩ (by cases v.ownBlock <;> simp)
theorem own_shape {w : World} {B : Nat} {e : TypeId} {size n : Nat} {v : Value} {xs : List Value} (h : w.ownsRow B e size v n xs) : ∃ A c, v = .slice A n c := by
  rcases h.2 with ⟨hv, h0⟩ | ⟨g, cap, cur, hv, _⟩
  · exact ⟨none, 0, by rw [hv, h0]⟩
  · exact ⟨_, cap, hv⟩
theorem own_bl {w : World} {B n : Nat} {v : Value} {bs : List Bool} (h : w.ownsRow B 4 1 v n (bs.map Value.bool)) : BL w v bs := by
  have hl : bs.length = n := by have := h.1; simpa using this
  rcases h.2 with ⟨hv, h0⟩ | ⟨g, cap, cur, hv, hb, hg, hc, hm, hs, ht⟩
  · exact ⟨none, 0, by rw [hv, hl, h0], fun hn => by omega⟩
  · refine ⟨_, cap, by rw [hl]; exact hv, fun _ => ⟨g, 0, rfl, fun k x hk => ?_⟩⟩
    have hkl : k < bs.length := (List.getElem?_eq_some_iff.1 hk).1
    have e : (bs.map Value.bool)[k]? = some (.bool x) := by rw [List.getElem?_map, hk]; rfl
    rw [← ht, List.getElem?_take, if_pos (by omega)] at e
    rw [cell_of_row w g _ cur _ _ hg, Nat.zero_add]
    simpa using e
theorem own_type {w : World} {B : Nat} {e : TypeId} {size n : Nat} {v : Value} {xs : List Value} (h : w.ownsRow B e size v n xs) : ∀ k, v.ownBlock = some k → B ≤ k ∧ ∃ cur, w.heap[k]? = some (.cells cur e (0, 0)) := by
  intro k hk
  rcases h.2 with ⟨hv, _⟩ | ⟨g, cap, cur, hv, hb, hg, _⟩
  · rw [hv] at hk; simp [Value.ownBlock] at hk
  · rw [hv] at hk
    have e : g = k := by simpa [Value.ownBlock] using hk
    subst e
    exact ⟨hb, cur, hg⟩
theorem Seg.kept {w w' : World} {B : Nat} {v : Value} {l : List Int} {row : Option Nat} (h : Seg w B v l) (hg : w.grownBy w' row) (hr : ∀ k, row = some k → ∃ cur, w.heap[k]? = some (.cells cur 4 (0, 0))) : Seg w' B v l := by
  rcases h with h | ⟨g, off, cap, cur, h1, h2, h3, h4⟩
  · exact .inl h
  · refine .inr ⟨g, off, cap, cur, h1, h2, (hg.block g (heap_lt h3) (fun e => ?_)).trans h3, h4⟩
    obtain ⟨cur', hc⟩ := hr g e.symm
    rw [h3] at hc; injection hc with hc; injection hc with _ e; simp at e
theorem news_one (w : World) (x : Value) (t : TypeId) : ∀ j u, [x][j]? = some u → (w.alloc (.cells #[x] t)).cell? ((⟨w.heap.size, 0, none⟩ : Addr).add j) = some u := by
  intro j u hu
  have h := heap_alloc_new w (.cells #[x] t)
  match j, hu with
  | 0, hu => exact (cell_of_row _ _ 0 _ _ _ h).trans (by simpa using hu)

set_option maxRecDepth 100000 in
set_option maxHeartbeats 2000000 in
theorem refplay_any {w : World} {v : Value} {l : List Int} {most win : Int} (h : Lst w v l) (hU : U l) (hn : l.length ≤ 900) :
    Calls Try.prog 15 #[.int .i64 most, .int .u64 win, v] w (PlayPost w (play most win [] 0 l)) := by
  obtain ⟨i0, hi0, hz0, hz1, hz2⟩ := info_parts Try.info4
  obtain ⟨A, c, rfl, hr, _⟩ := h
  have HR := Lib.hid hr
  have HU := Lib.hid hU
  clear hr hU
  go_enter Try.func15, Try.ntmps15
  go_wp2
  go_loopg [7, 8, 9, 10, 11, 12] (l.length + 1) (fun g o t nw i _ _ wr => ∃ k : Nat, i = .int .i64 k ∧ k ≤ l.length ∧ l.length - k + 1 ≤ g ∧ nw = .int .u64 (runN 0 (l.take k)) ∧ Seg wr w.heap.size t (runT most win [] 0 (l.take k)) ∧ wr.ownsRow w.heap.size 4 1 o k ((play most win [] 0 (l.take k)).map Value.bool) ∧ Below w.heap.size w wr)
  case atStart => exact ⟨0, rfl, Nat.zero_le _, by omega, rfl, Seg.nil _ _, World.ownsRow_nil _ _ _ _, Below.refl _ _⟩
  case round =>
    obtain ⟨k, rfl, hk, hg, rfl, hs, ho, hb⟩ := hrel
    obtain ⟨A1, n1, c1, rfl⟩ := hs.form
    obtain ⟨A2, c2, rfl⟩ := own_shape ho
    obtain ⟨wo, rfl⟩ : ∃ wo : World, wo = wr := ⟨_, rfl⟩
    by_cases hkn : k < l.length
    · obtain ⟨x, hx⟩ : ∃ x, l[k]? = some x := ⟨l[k], List.getElem?_eq_getElem hkn⟩
      have hts := take_snoc' hx
      obtain ⟨g1, o1, e1, k1⟩ := (HR.out.below hb).2 (by omega)
      have d1 := k1 k x hx
      obtain ⟨x0, x1⟩ := HU.out x (List.mem_of_getElem? hx)
      have hi1 : (k : Int) < (l.length : Int) := by omega
      have hUt : U (l.take k) := fun y hy => HU.out y (List.mem_of_mem_take hy)
      have e0 : (0 : Int) ≤ mx := by unfold mx; omega
      obtain ⟨r0, r1⟩ := runN_bd (Int.le_refl 0) e0 hUt
      have hUr := runT_U (most := most) (win := win) U_nil (Int.le_refl 0) e0 hUt
      have hle := runT_le most win [] 0 (l.take k)
      have HN := Lib.hid ((congrArg (runN 0) hts).trans (runN_snoc _ _ _))
      have HT := Lib.hid ((congrArg (runT most win [] 0) hts).trans (runT_snoc _ _ _ _ _ _))
      have HP := Lib.hid ((congrArg (play most win [] 0) hts).trans (play_snoc _ _ _ _ _ _))
      rw [List.length_take] at hle
      have hm0 : 0 ≤ max (runN 0 (l.take k)) x := by omega
      have hm1 : max (runN 0 (l.take k)) x ≤ mx := by omega
      generalize play most win [] 0 (l.take k) = bs at ho HP
      generalize runT most win [] 0 (l.take k) = ts at hs HT HP hUr hle
      generalize runN 0 (l.take k) = nw at *
      generalize hmn : max nw x = nm at *
      have MN := Lib.hid hmn
      have hle' : ts.length ≤ 1000 := by simp at hle; omega
      have HA := Lib.hid (refallow_any most win hs.lst hUr hle' hm0 hm1)
      have OO := Lib.hid ho
      have BB := Lib.hid hb
      have hwr := hb.size
      generalize allowL ts most nm win = ts' at HA HT
      generalize allowB ts most nm win = b at HA HP
      subst e1
      clear k1 hx hts hUt e0 r0 r1 hUr hle hle' hs ho hb hm0 hm1 x0 x1 hmn
      go_wp2_with (first
        | (refine wpList_max _ rfl _ _ 23 rfl nw x rfl rfl ?_; rw [MN.out])
        | (go_at_call 10; ((with_reducible refine HA.out.mono ?_); rintro e w2 ⟨v2, rfl, hs2, hb2⟩; obtain ⟨A3, n3, c3, rfl⟩ := hs2.form; have S2 := Lib.hid hs2; have O2 := Lib.hid (own_below OO.out hb2); have B2 := Lib.hid (BB.out.trans (hb2.mono hwr)); have Z2 := B2.out.size; clear hs2 hb2))
        | (at_builtin; refine wpList_append_lies _ rfl _ _ 33 rfl w.heap.size 4 i0 (.bool false) 1 1 Try.underlying33 hi0 hz0 hz1 hz2 rfl (by decide) _ k _ rfl (O2.out.alloc _) ⟨w2.heap.size, 0, none⟩ 1 1 [.bool b] rfl rfl (news_one w2 _ _) (by simp [Value.oneCell']) (by omega) (by unfold maxLen; omega) (by omega) (by simp; omega) _ rfl ?_; intro g5 cap5 w5 hown5 hgrow5 _ _; have O5 := Lib.hid hown5; have G5 := Lib.hid hgrow5; clear hown5 hgrow5))
      have hA2 := O2.out.alloc (.cells #[.bool b] 4)
      have hbA : Below w.heap.size w (w2.alloc (.cells #[.bool b] 4)) := B2.out.alloc Z2 _
      have hb5 := Lib.hid (hbA.grown G5.out hbA.size (fun j e => (own_type hA2 j e).1))
      have hs5 := Lib.hid (((S2.out.mono hwr).below ((Below.refl _ _).alloc (Nat.le_refl _) _)).kept G5.out (fun j e => (own_type hA2 j e).2))
      clear hA2 hbA
      go_roundg (l.length - (k + 1) + 1)
      case measure => omega
      case rel => exact ⟨k + 1, by go_num, by omega, Nat.le_refl _, by rw [HN.out], by rw [HT.out]; exact hs5.out, by rw [HP.out, List.map_append]; exact O5.out, hb5.out⟩
    · obtain rfl : k = l.length := by omega
      have HT := Lib.hid (List.take_length (l := l))
      have HO := Lib.hid (show wo.ownsRow w.heap.size 4 1 (.slice A2 l.length c2) l.length ((play most win [] 0 l).map Value.bool) by rw [HT.out] at ho; exact ho)
      have HB := Lib.hid hb
      clear hs ho hb
      go_wp2_with fail
      go_ret
      exact ⟨_, rfl, own_bl HO.out, HB.out⟩

set_option maxRecDepth 100000 in
set_option maxHeartbeats 1000000 in
theorem sane_any (w : World) : Calls Try.prog 7 #[] w (BTrue w) := by
  obtain ⟨W1, hW1⟩ : ∃ W1, W1 = w.alloc (.cells #[.int .u64 0, .int .u64 5, .int .u64 9, .int .u64 10, .int .u64 30] 23) := ⟨_, rfl⟩
  have hb1 : Below w.heap.size w W1 := by rw [hW1]; exact (Below.refl _ _).alloc (Nat.le_refl _) _
  have hblk : W1.heap[w.heap.size]? = some (.cells #[.int .u64 0, .int .u64 5, .int .u64 9, .int .u64 10, .int .u64 30] 23 (0, 0)) := by rw [hW1]; exact heap_alloc_new w _
  have hl : Lst W1 (.slice (some ⟨w.heap.size, 0, none⟩) 5 5) [0, 5, 9, 10, 30] := by
    refine ⟨_, 5, rfl, ⟨rfl, fun _ => ⟨w.heap.size, 0, rfl, fun k x hk => ?_⟩⟩, fun e => by cases e⟩
    rw [cell_of_row W1 _ _ _ _ _ hblk]
    match k, hk with
    | 0, hk => simpa using hk
    | 1, hk => simpa using hk
    | 2, hk => simpa using hk
    | 3, hk => simpa using hk
    | 4, hk => simpa using hk
  have hU : U [0, 5, 9, 10, 30] := by
    intro x hx
    unfold mx
    simp at hx
    omega
  have hp := play_any (most := 2) (win := 10) hl hU (by simp)
  have hpl : play 2 10 [] 0 [0, 5, 9, 10, 30] = [true, true, false, true, true] := by decide
  rw [hpl] at hp
  have HP := Lib.hid hp
  have HW := Lib.hid hW1
  have HB := Lib.hid hb1
  clear hp hW1 hb1 hblk hl hU hpl
  go_enter Try.func7, Try.ntmps7
  go_wp2_with (go_at_call 14; rw [← HW.out]; ((with_reducible refine HP.out.mono ?_); rintro e w1 ⟨v, rfl, ⟨A, c, rfl, hr⟩, hb⟩; obtain ⟨g, off, hA, hk⟩ := hr (by simp); subst hA; have k0 := hk 0 true rfl; have k1 := hk 1 true rfl; have k2 := hk 2 false rfl; have k3 := hk 3 true rfl; have k4 := hk 4 true rfl; simp only [Nat.add_zero] at k0; have B1 := Lib.hid hb; clear hr hb hk; simp only [List.length_cons, List.length_nil]))
  go_ret
  exact ⟨rfl, HB.out.trans (B1.out.mono HB.out.size)⟩
end Go.Proofs.Ytkabhpmnhdhodaa.Bu
