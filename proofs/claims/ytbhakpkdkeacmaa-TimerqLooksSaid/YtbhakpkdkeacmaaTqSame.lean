/-
  The contracts of the reference's comparisons, at lists that are equal: they answer true, and only read.
-/
import Derived.Test.YtbhakpkdkeacmaaTqReps
import Derived.Deep.LoopGhost
import Derived.Deep.QuietTactic
namespace Go.Proofs.Ytbhakpkdkeacmaa.Tq
open Go.RowKit Go.Maps

/-- A slice of ints as it is read. -/
def IntsRd (w : World) (A : Option Addr) (n : Nat) (l : List Int) : Prop := l.length = n ∧ (0 < n → ∃ g, A = some ⟨g, 0, none⟩ ∧ ∀ k x, l[k]? = some x → w.cell? ⟨g, k, none⟩ = some (.int .i64 x))
theorem FiredAt.rd {w : World} {B : Nat} {f : Value} {l : List Int} (h : FiredAt w B f l) : ∃ A c, f = .slice A l.length c ∧ IntsRd w A l.length l := by
  rcases h.2 with ⟨hv, h0⟩ | ⟨g, cap, cur, hv, hb, hg, _⟩
  · exact ⟨none, 0, by rw [hv, h0], rfl, fun hn => by omega⟩
  · refine ⟨_, cap, hv, rfl, fun _ => ⟨g, rfl, fun k x hk => ?_⟩⟩
    have hkl : k < l.length := (List.getElem?_eq_some_iff.1 hk).1
    have hw : w.ownsRow B 3 1 f l.length (l.map (Value.int .i64)) := h
    rw [hv] at hw
    rw [hw.cellAt k (by omega), List.getElem?_map, hk]; rfl
theorem IntsRd.drewN {w : World} {A : Option Addr} {n : Nat} {l : List Int} (h : IntsRd w A n l) (m : Nat) : IntsRd (w.drewN m) A n l := h

/-- True, and nothing but draws. -/
def QTrue (w : World) (e : Ending) (w' : World) : Prop := e = .returned (.bool true) ∧ ∃ m, w' = w.drewN m

set_option maxHeartbeats 1000000 in
theorem sameInts_eq {w : World} {A1 A2 : Option Addr} {n c1 c2 : Nat} {l : List Int} (h1 : IntsRd w A1 n l) (h2 : IntsRd w A2 n l) (hn : n ≤ 1000000) :
    Calls Try.prog 14 #[.slice A1 n c1, .slice A2 n c2] w (QTrue w) := by
  have H1 := Lib.hid h1
  have H2 := Lib.hid h2
  clear h1 h2
  go_enter Try.func14, Try.ntmps14
  go_wp2
  go_loopg [5] (n + 1) (fun g s wr => ∃ k m : Nat, s = .int .i64 k ∧ k ≤ n ∧ n - k + 1 ≤ g ∧ wr = w.drewN m)
  case atStart => exact ⟨0, 0, rfl, Nat.zero_le _, by omega, rfl⟩
  case round =>
    obtain ⟨k, m, rfl, hk, hg, rfl⟩ := hrel
    by_cases hkn : k < n
    · obtain ⟨x, hx⟩ : ∃ x, l[k]? = some x := ⟨l[k]'(by have := H1.out.1; omega), List.getElem?_eq_getElem _⟩
      obtain ⟨g1, e1, k1⟩ := H1.out.2 (by omega)
      obtain ⟨g2, e2, k2⟩ := H2.out.2 (by omega)
      have d1 := k1 k x hx
      have d2 := k2 k x hx
      have hi1 : (k : Int) < (n : Int) := by omega
      subst e1
      subst e2
      clear k1 k2 hx
      go_wp2_with fail
      go_quiet (fail)
      go_wp2_with fail
      go_roundg (n - (k + 1) + 1)
      case measure => omega
      case rel => exact ⟨k + 1, _, by go_num, by omega, Nat.le_refl _, rfl⟩
    · go_wp2_with fail
      go_ret
      exact ⟨rfl, m, rfl⟩

/-- Replies as they are read. -/
def RepsRd (w : World) (A : Option Addr) (n : Nat) (rs : List Rep) : Prop :=
  rs.length = n ∧ (∀ r ∈ rs, r.fired.length ≤ 1000) ∧ (0 < n → ∃ g off, A = some ⟨g, off, none⟩ ∧ ∀ k r, rs[k]? = some r →
    ∃ Af cf, w.cell? ⟨g, off + k * 3, none⟩ = some (.int .i64 r.code) ∧ w.cell? ⟨g, off + k * 3 + 1, none⟩ = some (.slice Af r.fired.length cf) ∧ w.cell? ⟨g, off + k * 3 + 2, none⟩ = some (.int .u64 r.time) ∧ IntsRd w Af r.fired.length r.fired)
theorem RepsAt.rd {w : World} {B : Nat} {v : Value} {rs : List Rep} (h : RepsAt w B v rs) (hl : ∀ r ∈ rs, r.fired.length ≤ 1000) : ∃ A c, v = .slice A rs.length c ∧ RepsRd w A rs.length rs := by
  obtain ⟨A, c, rfl⟩ := h.shape
  refine ⟨A, c, rfl, rfl, hl, fun hn => ?_⟩
  obtain ⟨r0, h0⟩ : ∃ r, rs[0]? = some r := ⟨rs[0], List.getElem?_eq_getElem hn⟩
  obtain ⟨g, f, hA, _⟩ := h.get h0
  refine ⟨g, 0, hA, fun k r hk => ?_⟩
  obtain ⟨g', f', hA', _, _, c0, c1, c2, hf⟩ := h.get hk
  rw [hA] at hA'
  obtain rfl : g = g' := by simpa using hA'
  obtain ⟨Af, cf, rfl, hr⟩ := FiredAt.rd hf
  exact ⟨Af, cf, by simpa using c0, by simpa using c1, by simpa using c2, hr⟩
theorem RepsRd.below {w w' : World} {A : Option Addr} {n : Nat} {rs : List Rep} (h : RepsRd w A n rs) (hb : Below w.heap.size w w') : RepsRd w' A n rs := by
  obtain ⟨h1, h2, h3⟩ := h
  refine ⟨h1, h2, fun hn => ?_⟩
  obtain ⟨g, off, hA, hc⟩ := h3 hn
  refine ⟨g, off, hA, fun k r hk => ?_⟩
  obtain ⟨Af, cf, c0, c1, c2, hi, hr⟩ := hc k r hk
  have key : ∀ a v, w.cell? a = some v → w'.cell? a = some v := fun a v ha => (hb.cell (World.block_lt_of_cell? w a ha)).trans ha
  exact ⟨Af, cf, key _ _ c0, key _ _ c1, key _ _ c2, hi, fun hn' => by obtain ⟨g', hg, hk'⟩ := hr hn'; exact ⟨g', hg, fun k x hx => key _ _ (hk' k x hx)⟩⟩

set_option maxRecDepth 100000 in
set_option maxHeartbeats 2000000 in
theorem same_eq {w : World} {A1 A2 : Option Addr} {n c1 c2 : Nat} {rs : List Rep} (h1 : RepsRd w A1 n rs) (h2 : RepsRd w A2 n rs) (hn : n ≤ 1000000) :
    Calls Try.prog 10 #[.slice A1 n c1, .slice A2 n c2] w (QTrue w) := by
  have H1 := Lib.hid h1
  have H2 := Lib.hid h2
  clear h1 h2
  go_enter Try.func10, Try.ntmps10
  go_wp2
  go_loopg [5] (n + 1) (fun g s wr => ∃ k m : Nat, s = .int .i64 k ∧ k ≤ n ∧ n - k + 1 ≤ g ∧ wr = w.drewN m)
  case atStart => exact ⟨0, 0, rfl, Nat.zero_le _, by omega, rfl⟩
  case round =>
    obtain ⟨k, m, rfl, hk, hg, hw⟩ := hrel
    have H1r : RepsRd wr A1 n rs := by rw [hw]; exact H1.out
    have H2r : RepsRd wr A2 n rs := by rw [hw]; exact H2.out
    have HW := Lib.hid hw
    clear hw
    by_cases hkn : k < n
    · obtain ⟨r, hr⟩ : ∃ r, rs[k]? = some r := ⟨rs[k]'(by have := H1.out.1; omega), List.getElem?_eq_getElem _⟩
      have hfl := H1r.2.1 r (List.mem_of_getElem? hr)
      obtain ⟨g1, o1, e1, k1⟩ := H1r.2.2 (by omega)
      obtain ⟨g2, o2, e2, k2⟩ := H2r.2.2 (by omega)
      obtain ⟨Af1, cf1, a0, a1, a2, i1⟩ := k1 k r hr
      obtain ⟨Af2, cf2, b0, b1, b2, i2⟩ := k2 k r hr
      have hi1 : (k : Int) < (n : Int) := by omega
      have hC := fun m' => sameInts_eq (c1 := cf1) (c2 := cf2) (i1.drewN m') (i2.drewN m') (by omega)
      have HC := Lib.hid hC
      subst e1
      subst e2
      clear k1 k2 hr hC i1 i2 H1r H2r
      go_wp2_with fail
      go_quiet ((go_at_call 14; exact Calls.quiet_of (HC.out _)))
      go_wp2_with fail
      go_roundg (n - (k + 1) + 1)
      case measure => omega
      case rel => exact ⟨k + 1, _, by go_num, by omega, Nat.le_refl _, by rw [HW.out]; exact World.drewN_drewN _ _ _⟩
    · go_wp2_with fail
      go_ret
      exact ⟨rfl, m, HW.out⟩
end Go.Proofs.Ytbhakpkdkeacmaa.Tq
