/-
  The contracts of container/heap's Fix, Push and Remove at the queue, and of take.
-/
import Derived.Test.YtbhakpkdkeacmaaTqDown
namespace Go.Proofs.Ytbhakpkdkeacmaa.Tq
open Go.RowKit Go.Maps

theorem len_q {w : World} {B q mb : Nat} {now : Int} {ts : List Tm} (h : QS w B q mb now ts) :
    Calls Try.prog 28 #[.pointer (some ⟨q, 0, none⟩)] w fun e w' => e = .returned (.int .i64 ts.length) ∧ w = w' := by
  obtain ⟨V, D, h1, h2⟩ := h
  exact len_any h1

set_option maxHeartbeats 1000000 in
theorem fix_any {w : World} {B q mb : Nat} {now : Int} {ts : List Tm} {i : Nat} (h : QS w B q mb now ts) (hl : ts.length ≤ 1000) (hi : i < ts.length) (hd : DnInv ts i i) :
    Calls Try.prog 27 #[.iface 56 (.pointer (some ⟨q, 0, none⟩)), .int .i64 i] w fun e w' => e = .returned (.tuple #[]) ∧
      ∃ ts', QS w' B q mb now ts' ∧ ts'.Perm ts ∧ Heap ts' ∧ Fr B w w' := by
  have hL := Lib.hid (len_q h)
  have hD := Lib.hid (down_any (tl := []) (by simpa using h) (by simpa using hl) hi hd)
  have HL := Lib.hid hl
  have HI := Lib.hid hi
  clear h hl hi hd
  go_enter Try.func27, Try.ntmps27
  go_wp2_with (first
    | (go_at_call 28; ((with_reducible refine hL.out.mono ?_); rintro e w' ⟨rfl, rfl⟩))
    | (go_at_call 32; ((with_reducible refine hD.out.mono ?_); rintro e w1 ⟨b, hs', rfl, hq, hp, hT, hF, hf⟩; have Q := Lib.hid hq; have P := Lib.hid hp; have TT := Lib.hid hT; have FF := Lib.hid hF; have G := Lib.hid hf; clear hq hp hT hF hf; cases b))
    | (go_at_call 33; ((with_reducible refine (up_any (hs := ts) (tl := []) (by rw [← (FF.out trivial).1]; exact Q.out) (by simpa using HL.out) HI.out (FF.out trivial).2).mono ?_); rintro e w2 ⟨rfl, ks, hq2, hp2, hh2, hf2⟩; have Q2 := Lib.hid hq2; have P2 := Lib.hid hp2; have H2 := Lib.hid hh2; have F2 := Lib.hid hf2; clear hq2 hp2 hh2 hf2)))
  · go_end0
    exact ⟨rfl, ks, by simpa using Q2.out, P2.out, H2.out, G.out.trans F2.out⟩
  · go_end0
    exact ⟨rfl, hs', by simpa using Q.out, P.out, TT.out trivial, G.out⟩

theorem push_q {w : World} {B q mb : Nat} {now : Int} {ts : List Tm} (a : Tm) (h : QS w B q mb now ts) (hl : ts.length ≤ 999) (wa : (Lit.int .i64 a.1).wf = true) (hnew : ∀ x ∈ ts, x.1 ≠ a.1) :
    Calls Try.prog 53 #[.pointer (some ⟨q, 0, none⟩), .iface 68 (.agg #[.int .i64 a.1, .int .u64 a.2])] w fun e w' => e = .returned (.tuple #[]) ∧ QS w' B q mb now (ts ++ [a]) ∧ Fr B w w' := by
  obtain ⟨V, D, h1, h2⟩ := h
  refine (push_any a h1 (by omega) wa (by rw [h2.size]; unfold maxLen; omega)).mono ?_
  rintro e w' ⟨rfl, ⟨V', h3⟩, h4⟩
  exact ⟨rfl, ⟨V', _, h3, h2.push a hnew⟩, h4⟩

set_option maxHeartbeats 1000000 in
theorem hpush_any {w : World} {B q mb : Nat} {now : Int} {ts : List Tm} (a : Tm) (h : QS w B q mb now ts) (hh : Heap ts) (hl : ts.length ≤ 999) (wa : (Lit.int .i64 a.1).wf = true) (hnew : ∀ x ∈ ts, x.1 ≠ a.1) :
    Calls Try.prog 29 #[.iface 56 (.pointer (some ⟨q, 0, none⟩)), .iface 68 (.agg #[.int .i64 a.1, .int .u64 a.2])] w fun e w' => e = .returned (.tuple #[]) ∧
      ∃ ts', QS w' B q mb now ts' ∧ ts'.Perm (ts ++ [a]) ∧ Heap ts' ∧ Fr B w w' := by
  have hP := Lib.hid (push_q a h hl wa hnew)
  have HS := Lib.hid (hh.snoc a)
  have hl' : ts.length ≤ 999 := hl
  have el : (ts ++ [a]).length = ts.length + 1 := by simp
  have hlen := Lib.hid (show (ts ++ [a]).length ≤ 1000 by omega)
  have EL := Lib.hid el
  clear h hh hl wa hnew el
  go_enter Try.func29, Try.ntmps29
  go_wp2_with (first
    | (go_at_call 53; ((with_reducible refine hP.out.mono ?_); rintro e w1 ⟨rfl, hq, hf⟩; have Q := Lib.hid hq; have F1 := Lib.hid hf; clear hq hf))
    | (go_at_call 28; ((with_reducible refine (len_q Q.out).mono ?_); rintro e w' ⟨rfl, rfl⟩; rw [EL.out]; try simp only [Int.natCast_add, Int.natCast_one]))
    | (go_at_call 33; ((with_reducible refine (up_any (hs := ts ++ [a]) (tl := []) (j := ts.length) (by simpa using Q.out) (by simpa using hlen.out) (by simp) HS.out).mono ?_); rintro e w2 ⟨rfl, ks, hq2, hp2, hh2, hf2⟩; have Q2 := Lib.hid hq2; have P2 := Lib.hid hp2; have H2 := Lib.hid hh2; have F2 := Lib.hid hf2; clear hq2 hp2 hh2 hf2)))
  go_end0
  exact ⟨rfl, ks, by simpa using Q2.out, P2.out, H2.out, F1.out.trans F2.out⟩

/-- The queue behind Pop: the map still has the timer that is gone. -/
def QX (w : World) (B q mb : Nat) (now : Int) (ts : List Tm) (a : Tm) : Prop := ∃ V D, QM w B q mb now V ts D ∧ Placed (ts ++ [a]) D
theorem pop_q {w : World} {B q mb : Nat} {now : Int} {ts : List Tm} {a : Tm} (h : QS w B q mb now (ts ++ [a])) :
    Calls Try.prog 52 #[.pointer (some ⟨q, 0, none⟩)] w fun e w' => e = .returned (.iface 68 (.agg #[.int .i64 a.1, .int .u64 a.2])) ∧ QX w' B q mb now ts a ∧ Fr B w w' := by
  obtain ⟨V, D, h1, h2⟩ := h
  refine (pop_any h1).mono ?_
  rintro e w' ⟨rfl, ⟨V', h3⟩, h4⟩
  exact ⟨rfl, ⟨V', _, h3, h2⟩, h4⟩

theorem swap_last (hs : List Tm) (z : Tm) {i : Nat} (hi : i < hs.length) : swp (hs ++ [z]) i hs.length = hs.set i z ++ [at_ hs i] := by
  unfold swp
  have e1 : at_ (hs ++ [z]) hs.length = z := by unfold at_; simp
  rw [e1, at_append hi, List.set_append_left _ _ hi, List.set_append_right _ _ (by simp)]
  simp

def RemovePost (w : World) (B q mb : Nat) (now : Int) (ts : List Tm) (a : Tm) (e : Ending) (w' : World) : Prop :=
  e = .returned (.iface 68 (.agg #[.int .i64 a.1, .int .u64 a.2])) ∧ ∃ ts', QX w' B q mb now ts' a ∧ Heap ts' ∧ (ts' ++ [a]).Perm ts ∧ Fr B w w'

/-- The last one is removed. -/
theorem remove_last {w : World} {B q mb : Nat} {now : Int} {hs : List Tm} {a : Tm} (h : QS w B q mb now (hs ++ [a])) (hh : Heap (hs ++ [a])) (hl : hs.length ≤ 999) :
    Calls Try.prog 34 #[.iface 56 (.pointer (some ⟨q, 0, none⟩)), .int .i64 hs.length] w (RemovePost w B q mb now (hs ++ [a]) a) := by
  have hL := Lib.hid (len_q h)
  have hP := Lib.hid (pop_q h)
  have HH := Lib.hid hh.init
  have el : (hs ++ [a]).length = hs.length + 1 := by simp
  have EL := Lib.hid el
  clear h hh el
  go_enter Try.func34, Try.ntmps34
  go_wp2_with (first
    | (go_at_call 28; ((with_reducible refine hL.out.mono ?_); rintro e w' ⟨rfl, rfl⟩; rw [EL.out]; try simp only [Int.natCast_add, Int.natCast_one]))
    | (go_at_call 52; ((with_reducible refine hP.out.mono ?_); rintro e w1 ⟨rfl, hq, hf⟩; have Q := Lib.hid hq; have F1 := Lib.hid hf; clear hq hf)))
  go_ret
  exact ⟨rfl, hs, Q.out, HH.out, List.Perm.refl _, F1.out⟩
/-- Another one is removed. -/
theorem remove_mid {w : World} {B q mb : Nat} {now : Int} {hs : List Tm} {z : Tm} {i : Nat} (h : QS w B q mb now (hs ++ [z])) (hh : Heap (hs ++ [z])) (hl : hs.length ≤ 999) (hi : i < hs.length) :
    Calls Try.prog 34 #[.iface 56 (.pointer (some ⟨q, 0, none⟩)), .int .i64 i] w (RemovePost w B q mb now (hs ++ [z]) (at_ hs i)) := by
  have hL := Lib.hid (len_q h)
  have hSw := swap_q (i := i) (j := hs.length) h (by simp; omega) (by simp; omega) (by simp) (by omega)
  rw [swap_last hs z hi] at hSw
  have hperm : (hs.set i z ++ [at_ hs i]).Perm (hs ++ [z]) := by
    rw [← swap_last hs z hi]
    exact swp_perm (by simp; omega) (by simp) (by omega)
  have PM := Lib.hid hperm
  have hd := hh.init.change hi z
  obtain ⟨ks, hks⟩ : ∃ ks, ks = hs.set i z := ⟨_, rfl⟩
  have hkl : ks.length = hs.length := by rw [hks]; simp
  rw [← hks] at hSw hd PM hperm
  have SW := Lib.hid hSw
  have DI := Lib.hid hd
  have KL := Lib.hid hkl
  have el : (hs ++ [z]).length = hs.length + 1 := by simp
  have EL := Lib.hid el
  have l2 : Hid ((ks ++ [at_ hs i]).length ≤ 1000) := by show _ ≤ _; simp; omega
  have hik : Hid (i < ks.length) := by show _ < _; omega
  have hne : ((hs.length : Int) == (i : Int)) = false := by simp; omega
  have hne' : ((hs.length : Int) != (i : Int)) = true := by simp; omega
  clear h hh hSw hd hperm hks hkl el
  go_enter Try.func34, Try.ntmps34
  go_wp2_with (first
    | (go_at_call 28; ((with_reducible refine hL.out.mono ?_); rintro e w' ⟨rfl, rfl⟩; rw [EL.out]; try simp only [Int.natCast_add, Int.natCast_one]))
    | (go_at_call 54; ((with_reducible refine SW.out.mono ?_); rintro e w1 ⟨rfl, hq1, hf1⟩; have Q1 := Lib.hid hq1; have F1 := Lib.hid hf1; clear hq1 hf1; rw [← KL.out]))
    | (go_at_call 32; ((with_reducible refine (down_any (hs := ks) (tl := [at_ hs i]) (i0 := i) Q1.out l2.out hik.out DI.out).mono ?_); rintro e w2 ⟨b, ks2, rfl, hq, hp, hT, hF, hf⟩; have Q2 := Lib.hid hq; have P2 := Lib.hid hp; have TT := Lib.hid hT; have FF := Lib.hid hF; have G := Lib.hid hf; clear hq hp hT hF hf; cases b))
    | (go_at_call 33; ((with_reducible refine (up_any (hs := ks) (tl := [at_ hs i]) (j := i) (by rw [← (FF.out trivial).1]; exact Q2.out) l2.out hik.out (FF.out trivial).2).mono ?_); rintro e w3 ⟨rfl, ks3, hq3, hp3, hh3, hf3⟩; have Q3 := Lib.hid hq3; have P3 := Lib.hid hp3; have H3 := Lib.hid hh3; have F3 := Lib.hid hf3; clear hq3 hp3 hh3 hf3))
    | (go_at_call 52; ((with_reducible refine (pop_q (by first | exact Q3.out | exact Q2.out)).mono ?_); rintro e w4 ⟨rfl, hq4, hf4⟩; have Q4 := Lib.hid hq4; have F4 := Lib.hid hf4; clear hq4 hf4)))
  · go_ret
    exact ⟨rfl, ks3, Q4.out, H3.out, (P3.out.append_right _).trans PM.out, F1.out.trans (G.out.trans (F3.out.trans F4.out))⟩
  · go_ret
    exact ⟨rfl, ks2, Q4.out, TT.out trivial, (P2.out.append_right _).trans PM.out, F1.out.trans (G.out.trans F4.out)⟩

theorem remove_any {w : World} {B q mb : Nat} {now : Int} {ts : List Tm} {i : Nat} (h : QS w B q mb now ts) (hh : Heap ts) (hl : ts.length ≤ 1000) (hi : i < ts.length) :
    Calls Try.prog 34 #[.iface 56 (.pointer (some ⟨q, 0, none⟩)), .int .i64 i] w (RemovePost w B q mb now ts (at_ ts i)) := by
  rcases List.eq_nil_or_concat ts with rfl | ⟨hs, z, rfl⟩
  · simp at hi
  · rw [List.concat_eq_append] at *
    simp at hl hi
    by_cases e : i = hs.length
    · have e1 : at_ (hs ++ [z]) i = z := by subst e; unfold at_; simp
      rw [e1, e]
      exact remove_last h hh (by omega)
    · have e1 : at_ (hs ++ [z]) i = at_ hs i := at_append (by omega)
      rw [e1]
      exact remove_mid h hh (by omega) (by omega)

theorem zero3 (w : World) : (zeroValue 3).run Try.prog w = .ok (.int .i64 0) w := by kernel_rfl

set_option maxHeartbeats 1000000 in
theorem take_any {w : World} {B q mb : Nat} {now : Int} {ts : List Tm} {i : Nat} (h : QS w B q mb now ts) (hh : Heap ts) (hl : ts.length ≤ 1000) (hi : i < ts.length) :
    Calls Try.prog 30 #[.pointer (some ⟨q, 0, none⟩), .int .i64 i] w fun e w' => e = .returned (.int .i64 (at_ ts i).1) ∧
      ∃ ts', QS w' B q mb now ts' ∧ Heap ts' ∧ (ts' ++ [at_ ts i]).Perm ts ∧ Fr B w w' := by
  have hR := Lib.hid (remove_any h hh hl hi)
  have wa : (Lit.int .i64 (at_ ts i).1).wf = true := by
    obtain ⟨V, D, h1, h2⟩ := h
    exact h1.wf _ (at_mem hi)
  generalize at_ ts i = a at *
  have hka := keyOf_int_mk Try.underlying3 wa
  have hta := assert_timer
  clear h hh
  go_enter Try.func30, Try.ntmps30
  go_wp2_with (go_at_call 34; ((with_reducible refine hR.out.mono ?_); rintro e w1 ⟨rfl, ts', ⟨V, D, hq, hp⟩, hh, hpm, hf⟩; have Q := Lib.hid hq; have P := Lib.hid hp; have H := Lib.hid hh; have PM := Lib.hid hpm; have F := Lib.hid hf; clear hq hp hh hpm hf))
  obtain ⟨W1, hW1⟩ : ∃ W1, W1 = w1.alloc (.cells #[.int .i64 a.1, .int .u64 a.2] 68) := ⟨_, rfl⟩
  obtain ⟨tb, htb⟩ : ∃ tb, tb = w1.heap.size := ⟨_, rfl⟩
  have hbt : W1.heap[tb]? = some (.cells #[.int .i64 a.1, .int .u64 a.2] 68 (0, 0)) := by rw [hW1, htb]; exact heap_alloc_new w1 _
  have hB1 : Below w1.heap.size w1 W1 := by rw [hW1]; exact (Below.refl _ _).alloc (Nat.le_refl _) _
  have h1 := Q.out.below hB1
  have htm : tb ≠ mb := by
    obtain ⟨es, clock, hm, _⟩ := h1.mp
    rintro rfl; rw [hbt] at hm; simp at hm
  have F1 := Lib.hid (F.out.trans (Fr.of_below hB1 Q.out.le))
  rw [← hW1, ← htb]
  have c2 := h1.c2
  have t0 : W1.cell? ⟨tb, 0, none⟩ = some (.int .i64 a.1) := cell_of_row W1 tb 0 _ _ _ hbt
  have H1 := Lib.hid h1
  have HBT := Lib.hid hbt
  clear hW1 htb hB1 h1 F Q hbt
  go_still_tail 6, (by kernel_rfl)
  have h2 := H1.out.below ((Below.refl _ _).drew)
  have hF2 := Lib.hid (F1.out.trans (Fr.of_below ((Below.refl W1.heap.size W1).drew) H1.out.le))
  have hbt : W1.drew.heap[tb]? = some (.cells #[.int .i64 a.1, .int .u64 a.2] 68 (0, 0)) := HBT.out
  clear H1 F1 HBT
  change wpList _ _ _ _ _ W1.drew
  generalize W1.drew = W2 at *
  at_delete
  refine wpList_delete_own _ rfl _ _ 46 3 rfl 3 law3 Try.underlying46 _ mb _ D rfl h2.mp _ _ rfl hka ?_
  intro w3 hown3 hturn3
  have hbt3 : w3.heap[tb]? = some (.cells #[.int .i64 a.1, .int .u64 a.2] 68 (0, 0)) := (hturn3.grown.block tb (heap_lt hbt) (by simpa using htm)).trans hbt
  obtain ⟨h4, hF4⟩ := h2.turned hown3 hturn3
  have H4 := Lib.hid h4
  have F5 := Lib.hid (hF2.out.trans hF4)
  clear c2 t0 hown3 hturn3 hF2 hF4 h2 hbt h4
  have t0 : w3.cell? ⟨tb, 0, none⟩ = some (.int .i64 a.1) := cell_of_row w3 tb 0 _ _ _ hbt3
  clear hbt3
  go_wp2_with fail
  go_ret
  exact ⟨rfl, ts', ⟨V, _, H4.out, P.out.pop⟩, H.out, PM.out, F5.out⟩
end Go.Proofs.Ytbhakpkdkeacmaa.Tq
