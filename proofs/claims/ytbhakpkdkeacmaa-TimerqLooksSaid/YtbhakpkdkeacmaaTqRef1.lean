/-
  The contracts of the reference's small functions: before, place, first, without.
-/
import Derived.Test.YtbhakpkdkeacmaaTqReps
import Derived.Maps.AppendAt
namespace Go.Proofs.Ytbhakpkdkeacmaa.Tq
open Go.RowKit Go.Maps

/-- The reference's timers: a row of the call's own. -/
abbrev RL (w : World) (B : Nat) (v : Value) (ts : List Tm) : Prop := w.ownsRow B 64 2 v ts.length (flat ts)
section
variable {w : World} {B : Nat} {ts : List Tm}
theorem RL.at_ {g n cap : Nat} (h : RL w B (.slice (some ⟨g, 0, none⟩) n cap) ts) {i : Nat} {t : Tm} (hi : ts[i]? = some t) :
    w.cell? ⟨g, i * 2, none⟩ = some (.int .i64 t.1) ∧ w.cell? ⟨g, i * 2 + 1, none⟩ = some (.int .u64 t.2) := by
  have hl : i < ts.length := (List.getElem?_eq_some_iff.1 hi).1
  obtain ⟨a, b⟩ := flat_at ts i t hi
  obtain ⟨g', cap', hv, _⟩ := World.ownsRow.form h (by omega)
  simp only [Value.slice.injEq] at hv
  obtain ⟨_, rfl, _⟩ := hv
  rw [World.ownsRow.cellAt h (i * 2) (by omega), World.ownsRow.cellAt h (i * 2 + 1) (by omega)]
  exact ⟨a, b⟩
end

theorem before_any (a b : Tm) (w : World) :
    Calls Try.prog 31 #[.agg #[.int .i64 a.1, .int .u64 a.2], .agg #[.int .i64 b.1, .int .u64 b.2]] w fun e w' => e = .returned (.bool (tlt a b)) ∧ Below w.heap.size w w' := by
  by_cases h1 : a.2 < b.2
  · have ht : tlt a b = true := by rw [tlt_iff]; omega
    have hd : decide (a.2 < b.2) = true := decide_eq_true h1
    rw [ht]
    clear ht
    go_enter Try.func31, Try.ntmps31
    go_wp2
    go_ret
    refine ⟨rfl, ?_⟩
    go_grown
  · have hd : decide (a.2 < b.2) = false := decide_eq_false h1
    by_cases h2 : a.2 = b.2
    · have ht : tlt a b = decide (a.1 < b.1) := by unfold tlt; rw [if_pos h2]
      have he : (a.2 == b.2) = true := by simpa using h2
      rw [ht]
      clear ht h1 h2
      go_enter Try.func31, Try.ntmps31
      go_wp2
      go_ret
      refine ⟨rfl, ?_⟩
      go_grown
    · have ht : tlt a b = false := by rw [Bool.eq_false_iff, ne_eq, tlt_iff]; omega
      have he : (a.2 == b.2) = false := by simpa using h2
      rw [ht]
      clear ht h1 h2
      go_enter Try.func31, Try.ntmps31
      go_wp2
      go_ret
      refine ⟨rfl, ?_⟩
      go_grown

theorem place_none {w : World} {B : Nat} {v : Value} {ts : List Tm} (h : RL w B v ts) (hl : ts.length ≤ 1000) (x : Int) (hm : mem ts x = false) :
    Calls Try.prog 24 #[v, .int .i64 x] w fun e w' => e = .returned (.int .i64 (-1)) ∧ w = w' := by
  obtain ⟨A, cp, rfl⟩ := own_shape h
  have hne : ∀ k, k < ts.length → (at_ ts k).1 ≠ x := fun k hk => mem_false.1 hm _ (at_mem hk)
  have H := Lib.hid h
  have NE := Lib.hid hne
  clear h hm hne
  go_enter Try.func24, Try.ntmps24
  go_wp2
  go_loop [5] (fun i => ∃ k : Nat, k ≤ ts.length ∧ i = .int .i64 k) (fun i => ts.length - (intOf i).toNat)
  case atStart => exact ⟨0, Nat.zero_le _, rfl⟩
  case round =>
    obtain ⟨k, hk, rfl⟩ := hrel
    by_cases hlt : k < ts.length
    · obtain ⟨g, cap, hv, hb, hg⟩ := World.ownsRow.form H.out (by omega)
      have HH := H.out
      rw [hv] at HH
      obtain ⟨c0, c1⟩ := RL.at_ HH (at_some hlt)
      have hnk : ((at_ ts k).1 == x) = false := beq_eq_false_iff_ne.2 (NE.out k hlt)
      simp only [Value.slice.injEq] at hv
      obtain ⟨rfl, _, rfl⟩ := hv
      clear HH c1
      go_wp2
      go_round
      case rel => exact ⟨k + 1, by omega, by go_num⟩
      case measure => simp [intOf]; omega
    · go_wp2
      go_ret
      exact ⟨rfl, rfl⟩

theorem place_some {w : World} {B : Nat} {v : Value} {ts : List Tm} (h : RL w B v ts) (hl : ts.length ≤ 1000) (x : Int) {i : Nat} (hi : i < ts.length) (hx : (at_ ts i).1 = x) (hnd : Nd ts) :
    Calls Try.prog 24 #[v, .int .i64 x] w fun e w' => e = .returned (.int .i64 i) ∧ w = w' := by
  obtain ⟨g, cap, rfl, hb, hg⟩ := World.ownsRow.form h (by omega)
  have hne : ∀ k, k < i → (at_ ts k).1 ≠ x := fun k hk e => by
    unfold Nd List.Nodup at hnd
    rw [List.pairwise_iff_getElem] at hnd
    have hkl : k < ts.length := by omega
    refine hnd k i (by simpa using hkl) (by simpa using hi) hk ?_
    have e1 := at_some hkl
    have e2 := at_some hi
    rw [List.getElem?_eq_getElem hkl] at e1
    rw [List.getElem?_eq_getElem hi] at e2
    simp only [Option.some.injEq] at e1 e2
    rw [List.getElem_map, List.getElem_map, e1, e2, e, hx]
  have H := Lib.hid h
  have NE := Lib.hid hne
  have HX := Lib.hid hx
  clear h hne hnd hx
  go_enter Try.func24, Try.ntmps24
  go_wp2
  go_loop [5] (fun s => ∃ k : Nat, k ≤ i ∧ s = .int .i64 k) (fun s => ts.length - (intOf s).toNat)
  case atStart => exact ⟨0, Nat.zero_le _, rfl⟩
  case round =>
    obtain ⟨k, hk, rfl⟩ := hrel
    have hlt : k < ts.length := by omega
    obtain ⟨c0, c1⟩ := RL.at_ H.out (at_some hlt)
    by_cases hki : k = i
    · subst hki
      have hnk : ((at_ ts k).1 == x) = true := beq_iff_eq.2 HX.out
      clear c1
      go_wp2
      go_ret
      exact ⟨rfl, rfl⟩
    · have hnk : ((at_ ts k).1 == x) = false := beq_eq_false_iff_ne.2 (NE.out k (by omega))
      clear c1
      go_wp2
      go_round
      case rel => exact ⟨k + 1, by omega, by go_num⟩
      case measure => simp [intOf]; omega
end Go.Proofs.Ytbhakpkdkeacmaa.Tq
