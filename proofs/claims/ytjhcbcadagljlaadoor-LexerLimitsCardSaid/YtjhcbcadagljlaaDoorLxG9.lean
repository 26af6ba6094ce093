/-
  Layer 5, the program: blanks and comments are skipped.
-/
import Derived.Test.YtjhcbcadagljlaaDoorLxG8
import Derived.BigRegion
namespace Go.Proofs.YtjhcbcadagljlaaDoor.Lx
open Go.RowKit

/-- Behind skip. -/
def SkPost (w : World) (B b : Nat) (s : ByteArray) (l : List Int) (k0 : Nat) (e : Ending) (w' : World) : Prop :=
  e = .returned (.tuple #[]) ∧ ∃ (ln st : Int), w'.heap[b]? = some (ScnO s ((k0 + skip (l.drop k0) : Nat) : Int) ln st) ∧ Pos l (k0 + skip (l.drop k0)) ln st ∧ Fr 62 B w w'
theorem scn_at {w : World} {b : Nat} {s : ByteArray} {k ln st : Int} (h : w.heap[b]? = some (ScnO s k ln st)) (v : Int) : (w.setCell ⟨b, 1, none⟩ (.int .i64 v)).heap[b]? = some (ScnO s v ln st) := by
  simp [World.setCell, Array.getElem?_modify, h]
theorem scn_line {w : World} {b : Nat} {s : ByteArray} {k ln st : Int} (h : w.heap[b]? = some (ScnO s k ln st)) (v : Int) : (w.setCell ⟨b, 2, none⟩ (.int .i64 v)).heap[b]? = some (ScnO s k v st) := by
  simp [World.setCell, Array.getElem?_modify, h]
theorem scn_start {w : World} {b : Nat} {s : ByteArray} {k ln st : Int} (h : w.heap[b]? = some (ScnO s k ln st)) (v : Int) : (w.setCell ⟨b, 3, none⟩ (.int .i64 v)).heap[b]? = some (ScnO s k ln v) := by
  simp [World.setCell, Array.getElem?_modify, h]

/-- A quiet call behind draws. -/
theorem quiet_at {P : Program} {f : FuncId} {args : Array Value} {w : World} {a n : Nat} {v : Value} (h : Calls P f args (w.drewN (a + n)) (QPost (w.drewN (a + n)) v)) : Calls P f args (w.drewN (a + n)) fun e w'' => e = .returned v ∧ ∃ m, w'' = w.drewN (a + m) :=
  h.mono fun _ _ ⟨he, m, hm⟩ => ⟨he, n + m, by rw [hm, World.drewN_drewN, Nat.add_assoc]⟩
theorem fr_drN {e : TypeId} {B : Nat} (w : World) (m : Nat) : Fr e B w (w.drewN m) := ⟨drN (Below.refl _ _) m, fun _ _ _ _ h _ => h⟩
theorem fr_one {w : World} {B b : Nat} {s : ByteArray} {k ln st : Int} (h : w.heap[b]? = some (ScnO s k ln st)) (hB : B ≤ b) (m : Nat) (v : Int) : Fr 62 B w ((w.drewN m).setCell ⟨b, 1, none⟩ (.int .i64 v)) :=
  (fr_drN w m).trans (fr_set (w := w.drewN m) h hB _)
theorem fr_line {w : World} {B b : Nat} {s : ByteArray} {k ln st : Int} (h : w.heap[b]? = some (ScnO s k ln st)) (hB : B ≤ b) (m : Nat) (x y v : Int) : Fr 62 B w ((((w.drewN m).setCell ⟨b, 2, none⟩ (.int .i64 x)).setCell ⟨b, 3, none⟩ (.int .i64 y)).setCell ⟨b, 1, none⟩ (.int .i64 v)) :=
  (((fr_drN w m).trans (fr_set (w := w.drewN m) h hB _)).trans (fr_set (scn_line (w := w.drewN m) h x) hB _)).trans (fr_set (scn_start (scn_line (w := w.drewN m) h x) y) hB _)
theorem fr_two {w : World} {B b : Nat} {s : ByteArray} {k ln st : Int} (h : w.heap[b]? = some (ScnO s k ln st)) (hB : B ≤ b) (m : Nat) (x v : Int) : Fr 62 B w (((w.drewN m).setCell ⟨b, 1, none⟩ (.int .i64 x)).setCell ⟨b, 1, none⟩ (.int .i64 v)) :=
  ((fr_drN w m).trans (fr_set (w := w.drewN m) h hB _)).trans (fr_set (scn_at (w := w.drewN m) h x) hB _)

set_option maxRecDepth 100000 in
set_option maxHeartbeats 8000000 in
theorem gskip_any {s : ByteArray} {l : List Int} (hs : ch s = l) (hn : l.length ≤ 100000) {B b k0 : Nat} {ln0 st0 : Int} (w : World) (hb : w.heap[b]? = some (ScnO s k0 ln0 st0)) (hB : B ≤ b) (hk0 : k0 ≤ l.length) (hp : Pos l k0 ln0 st0) :
    Calls Tryd.prog 21 #[.pointer (some ⟨b, 0, none⟩)] w (SkPost w B b s l k0) := by
  have HSZ : Hid (s.size = l.length) := Lib.hid (by rw [← hs, ch_length])
  have HAT : Hid (∀ k x, l[k]? = some x → ∃ hk : k < s.size, ((s[k]'hk).toNat : Int) = x) := Lib.hid (fun k x h => ch_at (by rw [hs]; exact h))
  have HC := Lib.hid (fun (k : Nat) => cut_any (s := s.extract k s.size) (m := l.drop k) (by rw [ch_drop, hs]) (by rw [List.length_drop]; omega))
  have HB := Lib.hid hb
  have HP := Lib.hid hp
  clear hs hb hp
  go_enter Tryd.func21, Tryd.ntmps21
  go_wp2_with fail
  go_loopg [2, 3, 4, 31, 49, 53] (l.length + 1) (fun g' _ _ _ _ _ _ wr => ∃ (k : Nat) (ln st : Int), wr.heap[b]? = some (ScnO s k ln st) ∧ k ≤ l.length ∧ l.length - k + 1 ≤ g' ∧ Pos l k ln st ∧ SkA l k0 k ∧ Fr 62 B w wr)
  case atStart => exact ⟨k0, ln0, st0, HB.out, hk0, by omega, HP.out, rfl, Fr.refl _ _ _⟩
  case round =>
    obtain ⟨k, ln, st, hrow, hk, hg, hp, hsk, hfr⟩ := hrel
    obtain ⟨wo, rfl⟩ : ∃ wo : World, wo = wr := ⟨_, rfl⟩
    have R0 := Lib.hid hrow
    have P0 := Lib.hid hp
    have S0 := Lib.hid hsk
    have F0 := Lib.hid hfr
    obtain ⟨b1, b2, b3, b4⟩ := hp.bytes hk
    have d0 := cell_of_row _ _ 0 _ _ _ hrow
    have d1 := cell_of_row _ _ 1 _ _ _ hrow
    have d2 := cell_of_row _ _ 2 _ _ _ hrow
    have d3 := cell_of_row _ _ 3 _ _ _ hrow
    have f1 := frozen_of_row _ _ 1 _ _ hrow
    have f2 := frozen_of_row _ _ 2 _ _ hrow
    have f3 := frozen_of_row _ _ 3 _ _ hrow
    clear hrow hp hsk hfr
    have hks2 : (k : Int) ≤ (s.size : Int) := by have := HSZ.out; omega
    by_cases hkn : k < l.length
    · obtain ⟨x, hx⟩ : ∃ x, l[k]? = some x := ⟨l[k], List.getElem?_eq_getElem hkn⟩
      obtain ⟨hks, x0⟩ := HAT.out k x hx
      have hki : (k : Int) < (s.size : Int) := by omega
      have HX := Lib.hid hx
      clear hx
      by_cases h10 : x = 10
      · subst h10
        have P1 := Lib.hid (P0.out.nl HX.out)
        have S1 := Lib.hid (S0.out.blank HX.out (by decide))
        go_wp2_with fail
        go_quiet (fail)
        go_wp2_with fail
        go_quiet (fail)
        go_wp2_with fail
        go_region
        go_wp2_with fail
        go_roundg (l.length - (k + 1) + 1)
        case measure => omega
        case rel => exact ⟨k + 1, ln + 1, (k : Int) + 1, scn_at (scn_start (scn_line (w := wo.drewN _) R0.out _) _) _, by omega, Nat.le_refl _, P1.out, S1.out, F0.out.trans (fr_line R0.out hB _ _ _ _)⟩
      by_cases h32 : x = 32
      · subst h32
        have P1 := Lib.hid (P0.out.step HX.out (by decide))
        have S1 := Lib.hid (S0.out.blank HX.out (by decide))
        go_wp2_with fail
        go_quiet (fail)
        go_wp2_with fail
        go_quiet (fail)
        go_wp2_with fail
        go_roundg (l.length - (k + 1) + 1)
        case measure => omega
        case rel => exact ⟨k + 1, ln, st, by have := scn_at (w := wo.drewN 0) R0.out ((k : Int) + 1); exact this, by omega, Nat.le_refl _, P1.out, S1.out, F0.out.trans (fr_one R0.out hB _ _)⟩
      by_cases h9 : x = 9
      · subst h9
        have P1 := Lib.hid (P0.out.step HX.out (by decide))
        have S1 := Lib.hid (S0.out.blank HX.out (by decide))
        go_wp2_with fail
        go_quiet (fail)
        go_wp2_with fail
        go_quiet (fail)
        go_wp2_with fail
        go_roundg (l.length - (k + 1) + 1)
        case measure => omega
        case rel => exact ⟨k + 1, ln, st, by have := scn_at (w := wo.drewN 0) R0.out ((k : Int) + 1); exact this, by omega, Nat.le_refl _, P1.out, S1.out, F0.out.trans (fr_one R0.out hB _ _)⟩
      by_cases h13 : x = 13
      · subst h13
        have P1 := Lib.hid (P0.out.step HX.out (by decide))
        have S1 := Lib.hid (S0.out.blank HX.out (by decide))
        go_wp2_with fail
        go_quiet (fail)
        go_wp2_with fail
        go_quiet (fail)
        go_wp2_with fail
        go_roundg (l.length - (k + 1) + 1)
        case measure => omega
        case rel => exact ⟨k + 1, ln, st, by have := scn_at (w := wo.drewN 0) R0.out ((k : Int) + 1); exact this, by omega, Nat.le_refl _, P1.out, S1.out, F0.out.trans (fr_one R0.out hB _ _)⟩
      have q10 : (x == 10) = false := beq_eq_false_iff_ne.2 h10
      have q32 : (x == 32) = false := beq_eq_false_iff_ne.2 h32
      have q9 : (x == 9) = false := beq_eq_false_iff_ne.2 h9
      have q13 : (x == 13) = false := beq_eq_false_iff_ne.2 h13
      by_cases h35 : x = 35
      · subst h35
        obtain ⟨t, r, bb, ht, hcut⟩ := HC.out k
        have HCk := Lib.hid hcut
        have hnl := nl_le (l.drop k)
        rw [List.length_drop] at hnl
        have hnl1 : 1 ≤ nl (l.drop k) := by rw [drop_at HX.out, nl_cons (by omega)]; omega
        have P1 : Hid (Pos l (k + nl (l.drop k)) ln st) := Lib.hid (P0.out.run _ fun i hi => by
          obtain ⟨y, h1, h2⟩ := nl_ne _ i hi
          rw [List.getElem?_drop] at h1
          exact ⟨y, h1, h2⟩)
        have S1 := Lib.hid (S0.out.comment HX.out)
        generalize nl (l.drop k) = c at *
        clear h10 h32 h9 h13 hcut
        go_wp2_with fail
        go_quiet (fail)
        go_wp2_with fail
        go_quiet (fail)
        go_wp2_with fail
        go_quiet ((go_at_call 33; exact quiet_at (HCk.out _)))
        go_wp2_with fail
        go_roundg (l.length - (k + c) + 1)
        case measure => omega
        case rel => exact ⟨k + c, ln, st, by rw [show ((k + c : Nat) : Int) = (k : Int) + ((c : Int) - 1) + 1 by omega]; exact scn_at (scn_at (w := wo.drewN _) R0.out _) _, by omega, Nat.le_refl _, P1.out, S1.out, F0.out.trans (fr_two R0.out hB _ _ _)⟩
      · have q35 : (x == 35) = false := beq_eq_false_iff_ne.2 h35
        have E := Lib.hid (S0.out.stop HX.out (blank_no h32 h9 h10 h13) h35)
        clear h10 h32 h9 h13 h35
        go_wp2_with fail
        go_quiet (fail)
        go_wp2_with fail
        go_quiet (fail)
        go_wp2_with fail
        go_end0
        exact ⟨rfl, ln, st, by rw [← E.out]; exact R0.out, by rw [← E.out]; exact P0.out, F0.out.trans (fr_drN wo _)⟩
    · obtain rfl : k = l.length := by omega
      have E := Lib.hid S0.out.over
      have hmi : (s.size : Int) ≤ (l.length : Int) := by have := HSZ.out; omega
      have hmi2 : decide ((l.length : Int) < (s.size : Int)) = false := decide_eq_false (by omega)
      go_wp2_with fail
      go_quiet (fail)
      go_wp2_with fail
      go_end0
      exact ⟨rfl, ln, st, by rw [← E.out]; exact R0.out, by rw [← E.out]; exact P0.out, F0.out.trans (fr_drN wo _)⟩
end Go.Proofs.YtjhcbcadagljlaaDoor.Lx
