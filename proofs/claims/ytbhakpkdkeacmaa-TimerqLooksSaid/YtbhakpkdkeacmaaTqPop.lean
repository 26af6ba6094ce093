/-
  The contracts of the queue's Pop and Push.
-/
import Derived.Test.YtbhakpkdkeacmaaTqSwap
import Derived.Deep.RegionLaw
namespace Go.Proofs.Ytbhakpkdkeacmaa.Tq
open Go.RowKit Go.Maps

section
variable {w : World} {B q mb : Nat} {now : Int} {V : Value} {ts : List Tm} {D : DataW Unit}
theorem QM.cut {g cap : Nat} (h : QM w B q mb now (.slice (some ⟨g, 0, none⟩) ts.length cap) ts D) (k : Nat) (hk : k ≤ ts.length) :
    w.ownsRow B 68 2 (.slice (some ⟨g, 0, none⟩) k cap) (ts.take k).length (flat (ts.take k)) := by
  have hl : (ts.take k).length = k := by simp; omega
  rcases h.row.2 with ⟨hv, _⟩ | ⟨g', cap', cur, hv, hb, hg, hc, hm, hs, ht⟩
  · simp at hv
  · simp only [Value.slice.injEq, Option.some.injEq, Addr.mk.injEq, and_true, true_and] at hv
    obtain ⟨rfl, rfl⟩ := hv
    refine ⟨by rw [flat_length], .inr ⟨g, cap, cur, by rw [hl], hb, hg, by omega, hm, hs, ?_⟩⟩
    rw [flat_take, hl, ← ht, List.take_take]
    congr 1
    omega
end

set_option maxHeartbeats 1000000 in
theorem pop_any {w : World} {B q mb : Nat} {now : Int} {V : Value} {ts : List Tm} {D : DataW Unit} {a : Tm} (h : QM w B q mb now V (ts ++ [a]) D) :
    Calls Try.prog 52 #[.pointer (some ⟨q, 0, none⟩)] w fun e w' => e = .returned (.iface 68 (.agg #[.int .i64 a.1, .int .u64 a.2])) ∧
      (∃ V', QM w' B q mb now V' ts D) ∧ Fr B w w' := by
  have hlen : (ts ++ [a]).length = ts.length + 1 := by simp
  obtain ⟨g, cap, rfl, hb, hg, hc, hm, _⟩ := h.form (by omega)
  have hi : (ts ++ [a])[ts.length]? = some a := by simp
  obtain ⟨ci0, ci1⟩ := h.at_ hi
  have c1 := h.c1
  have hq := h.lt
  have hcut := h.cut ts.length (by omega)
  rw [List.take_left] at hcut
  have f1 := h.fz 1
  have H := Lib.hid h
  have HC := Lib.hid hcut
  rw [hlen] at c1 hc
  have hm' : cap ≤ 9223372036854775807 := by unfold maxLen at hm; omega
  clear h hi hcut
  go_enter Try.func52, Try.ntmps52
  go_wp2
  go_ret
  refine ⟨rfl, ?_⟩
  obtain ⟨hQ, hF⟩ := H.out.field HC.out (fun t ht => H.out.wf t (by simp [ht]))
  exact ⟨⟨_, hQ.below ((Below.refl _ _).alloc (Nat.le_refl _) _)⟩, hF.trans (Fr.of_below ((Below.refl _ _).alloc (Nat.le_refl _) _) hQ.le)⟩

theorem Try.info68 : (Try.prog.info? 68).map (fun i => (i.zero, i.size, i.bytes)) = some (some (.agg #[.int .i64 0, .int .u64 0]), 2, 16) := by kernel_rfl

theorem assert_timer (x y : Int) (w : World) : (Instr.typeAssert (.iface 68 (.agg #[.int .i64 x, .int .u64 y])) 20 68 false).run Try.prog w = .ok (.agg #[.int .i64 x, .int .u64 y]) w := by kernel_rfl

set_option maxHeartbeats 1000000 in
theorem push_any {w : World} {B q mb : Nat} {now : Int} {V : Value} {ts : List Tm} {D : DataW Unit} (a : Tm) (h : QM w B q mb now V ts D) (hl : ts.length ≤ 1000) (wa : (Lit.int .i64 a.1).wf = true) (hsz : Maps.size D < maxLen) :
    Calls Try.prog 53 #[.pointer (some ⟨q, 0, none⟩), .iface 68 (.agg #[.int .i64 a.1, .int .u64 a.2])] w fun e w' => e = .returned (.tuple #[]) ∧
      (∃ V', QM w' B q mb now V' (ts ++ [a]) (D.put (.int .i64 a.1) (.lit (.int .i64 ts.length)))) ∧ Fr B w w' := by
  obtain ⟨i0, hi, hz0, hz1, hz2⟩ := info_parts Try.info68
  obtain ⟨A, cap, rfl, _⟩ := h.shape
  have hka := keyOf_int_mk Try.underlying3 wa
  have wl : (Lit.int .i64 (ts.length : Int)).wf = true := wf_nat (by omega)
  have hta := assert_timer
  obtain ⟨W1, hW1⟩ : ∃ W1, W1 = w.alloc (.cells #[.int .i64 a.1, .int .u64 a.2] 68) := ⟨_, rfl⟩
  obtain ⟨tb, htb⟩ : ∃ tb, tb = w.heap.size := ⟨_, rfl⟩
  have hB1 : Below w.heap.size w W1 := by rw [hW1]; exact (Below.refl _ _).alloc (Nat.le_refl _) _
  have hbt : W1.heap[tb]? = some (.cells #[.int .i64 a.1, .int .u64 a.2] 68 (0, 0)) := by rw [hW1, htb]; exact heap_alloc_new w _
  have h1 := h.below hB1
  have hF1 := Lib.hid (Fr.of_below hB1 h.le)
  have htm : tb ≠ mb := by
    obtain ⟨es, clock, hm, _⟩ := h1.mp
    rintro rfl; rw [hbt] at hm; simp at hm
  have c1 := h1.c1
  have c2 := h1.c2
  have t0 : W1.cell? ⟨tb, 0, none⟩ = some (.int .i64 a.1) := cell_of_row W1 tb 0 _ _ _ hbt
  have HW := Lib.hid hW1
  have HT := Lib.hid htb
  have HBT := Lib.hid hbt
  have H1 := Lib.hid h1
  clear h h1 hW1 htb hB1 hbt
  go_enter Try.func53, Try.ntmps53
  go_wp2
  rw [← HW.out, ← HT.out]
  clear HW HT
  go_still_tail 11, (by kernel_rfl)
  have h2 := H1.out.below ((Below.refl _ _).drew)
  have hF2 := Lib.hid (hF1.out.trans (Fr.of_below ((Below.refl W1.heap.size W1).drew) H1.out.le))
  have hbt : W1.drew.heap[tb]? = some (.cells #[.int .i64 a.1, .int .u64 a.2] 68 (0, 0)) := HBT.out
  clear H1 hF1 HBT
  change wpList _ _ _ _ _ W1.drew
  generalize W1.drew = W2 at *
  at_mapUpdate
  refine wpList_mapUpdate_in _ rfl _ _ _ 46 rfl 3 3 law3 Try.underlying46 _ mb _ D rfl h2.mp hsz _ _ _ rfl rfl hka _ [] (plainElem_int Try.underlying3 wl) ?_
  intro w3 hown3 hturn3
  have hbt3 : w3.heap[tb]? = some (.cells #[.int .i64 a.1, .int .u64 a.2] 68 (0, 0)) := (hturn3.grown.block tb (heap_lt hbt) (by simpa using htm)).trans hbt
  obtain ⟨h4, hF4⟩ := h2.turned hown3 hturn3
  have hF5 := Lib.hid (hF2.out.trans hF4)
  clear c1 c2 t0 hown3 hturn3 hF2 hF4 h2 hbt
  have t0 : w3.cell? ⟨tb, 0, none⟩ = some (.int .i64 a.1) := cell_of_row w3 tb 0 _ _ _ hbt3
  have t1 : w3.cell? ⟨tb, 1, none⟩ = some (.int .u64 a.2) := cell_of_row w3 tb 1 _ _ _ hbt3
  have c1 := h4.c1
  have hq := h4.lt
  have htl := heap_lt hbt3
  have H4 := Lib.hid h4
  clear h4 hbt3
  go_wp2_with fail
  go_region_law (refine step_append_lies _ rfl (.tmp 22) (.tmp 24) 47 rfl B 68 i0 (.agg #[.int .i64 0, .int .u64 0]) 2 16 Try.underlying47 hi hz0 hz1 hz2 rfl (by decide) _ _ _ (by simp [Act.eval]) (H4.out.row.drew.alloc _) ⟨w3.heap.size, 0, none⟩ 1 1 [.int .i64 a.1, .int .u64 a.2] (by simp [Act.eval]) rfl (news_two w3.drew _ _ _) (by simp [Value.oneCell']) (by omega) (by unfold maxLen; omega) (by omega) (by have := H4.out.le; simp; omega) _ rfl ?_; intro g' cap' w5 hown5 hgrow5 hat5 hlt5; have h5 : QM ((w3.alloc (.cells #[.int .i64 a.1, .int .u64 a.2] 68)).drew) B q mb now _ ts _ := H4.out.below (((Below.refl _ _).alloc (Nat.le_refl _) _).drew); have h6 := h5.appended (ts' := ts ++ [a]) hgrow5 (by rw [flat_append, List.length_append]; exact hown5) (fun t ht => by rcases List.mem_append.1 ht with ht | ht; exact H4.out.wf t ht; simp at ht; subst ht; exact wa); obtain ⟨⟨e1, e2⟩, e3⟩ := h6; have H7 := Lib.hid e3; clear e3 h5 hown5 hgrow5 hat5 hlt5)
  all_goals
    have hF6 := hF5.out.trans ((Fr.of_below (((Below.refl w3.heap.size w3).alloc (Nat.le_refl _) (.cells #[.int .i64 a.1, .int .u64 a.2] 68)).drew) H4.out.le).trans H7.out.2)
    have HF := Lib.hid hF6
    clear hF6
    go_wp2_with fail
    go_end0
    exact ⟨rfl, ⟨_, H7.out.1⟩, HF.out⟩
end Go.Proofs.Ytbhakpkdkeacmaa.Tq
