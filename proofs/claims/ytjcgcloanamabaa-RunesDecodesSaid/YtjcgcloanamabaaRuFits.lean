/-
  Layer 4: which bytes fit, which are a beginning; a character of its bytes; Valid, Flush.
-/
import Derived.Test.YtjcgcloanamabaaRuMem
namespace Go.Proofs.Ytjcgcloanamabaa.Ru
open Go.RowKit

theorem cells1 {w : World} {A : Option Addr} {l : List Int} (h : Rd .u8 w A l) (hn : 0 < l.length) :
    ∃ g off, A = some ⟨g, off, none⟩ ∧ (∀ x, l[0]? = some x → w.cell? ⟨g, off, none⟩ = some (.int .u8 x)) ∧ (∀ x, l[1]? = some x → w.cell? ⟨g, off + 1, none⟩ = some (.int .u8 x)) ∧
      (∀ x, l[2]? = some x → w.cell? ⟨g, off + 2, none⟩ = some (.int .u8 x)) ∧ ∀ x, l[3]? = some x → w.cell? ⟨g, off + 3, none⟩ = some (.int .u8 x) := by
  obtain ⟨g, off, hA, hc⟩ := h hn
  exact ⟨g, off, hA, fun x hx => hc 0 x hx, fun x hx => hc 1 x hx, fun x hx => hc 2 x hx, fun x hx => hc 3 x hx⟩
theorem same_of {P : Program} {f : Nat} {args : Array Value} {v : Value} (h : ∀ W, Calls P f args W fun e w' => e = .returned v ∧ W = w') : ∀ W, Calls P f args W fun e w' => e = .returned v ∧ w' = W :=
  fun W => (h W).mono fun _ _ ⟨he, hw⟩ => ⟨he, hw.symm⟩

set_option maxRecDepth 100000 in
set_option maxHeartbeats 1000000 in
theorem fits_any {w : World} {v : Value} {l : List Int} (h : Lst .u8 w v l) (hb : By l) : Calls Try.prog 27 #[v] w (QPost w (.bool (fits l))) := by
  obtain ⟨A, c, rfl, hr, _⟩ := h
  match l, hb, hr with
  | [], hb, hr =>
    clear hb hr
    simp only [List.length_nil]
    go_enter Try.func27, Try.ntmps27
    go_wp2_with fail
    go_ret
    exact ⟨rfl, 0, rfl⟩
  | [a], hb, hr =>
    obtain ⟨g, off, rfl, k0, k1, k2, k3⟩ := cells1 hr (by simp)
    have d0 := k0 a rfl
    obtain ⟨a0, a1⟩ := hb a (by simp)
    have HL := Lib.hid (same_of (length_any a a0 a1))
    have HR : Hid (fits [a] = (decide (1 ≤ len1 a))) := Lib.hid rfl
    generalize fits [a] = R at *
    generalize len1 a = n at *
    clear hb hr k0 k1 k2 k3 a0 a1
    simp only [List.length_cons, List.length_nil, Nat.zero_add]
    go_enter Try.func27, Try.ntmps27
    go_wp2_with (first | (go_at_call 35; ((with_reducible refine (HL.out _).mono ?_); rintro e w' ⟨rfl, rfl⟩)))
    go_ret
    exact ⟨ret_b HR.out.symm, 0, rfl⟩
  | [a, b], hb, hr =>
    obtain ⟨g, off, rfl, k0, k1, k2, k3⟩ := cells1 hr (by simp)
    have d0 := k0 a rfl
    obtain ⟨a0, a1⟩ := hb a (by simp)
    have d1 := k1 b rfl
    obtain ⟨b0, b1⟩ := hb b (by simp)
    have HL := Lib.hid (same_of (length_any a a0 a1))
    have HF := Lib.hid (same_of (contF_any a b b0 b1))
    have HR : Hid (fits [a, b] = (contF a b && decide (2 ≤ len1 a))) := Lib.hid rfl
    generalize fits [a, b] = R at *
    generalize len1 a = n at *
    generalize contF a b = z at *
    clear hb hr k0 k1 k2 k3 a0 a1 b0 b1
    simp only [List.length_cons, List.length_nil, Nat.zero_add, Nat.reduceAdd]
    go_enter Try.func27, Try.ntmps27
    go_wp2_with fail
    go_quiet ((go_at_call 34; exact Calls.quiet_of_same (HF.out _)))
    go_wp2_with (first | (go_at_call 35; ((with_reducible refine (HL.out _).mono ?_); rintro e w' ⟨rfl, rfl⟩)))
    all_goals
      go_ret
      exact ⟨ret_b (by rw [HR.out]; simp_all), _, rfl⟩
  | [a, b, c], hb, hr =>
    obtain ⟨g, off, rfl, k0, k1, k2, k3⟩ := cells1 hr (by simp)
    have d0 := k0 a rfl
    obtain ⟨a0, a1⟩ := hb a (by simp)
    have d1 := k1 b rfl
    obtain ⟨b0, b1⟩ := hb b (by simp)
    have d2 := k2 c rfl
    obtain ⟨c0, c1⟩ := hb c (by simp)
    have HL := Lib.hid (same_of (length_any a a0 a1))
    have HF := Lib.hid (same_of (contF_any a b b0 b1))
    have HCc := Lib.hid (same_of (continues_any c c0 c1))
    have HR : Hid (fits [a, b, c] = (cont c && contF a b && decide (3 ≤ len1 a))) := Lib.hid rfl
    generalize fits [a, b, c] = R at *
    generalize len1 a = n at *
    generalize contF a b = z at *
    generalize cont c = x at *
    clear hb hr k0 k1 k2 k3 a0 a1 b0 b1 c0 c1
    simp only [List.length_cons, List.length_nil, Nat.zero_add, Nat.reduceAdd]
    cases x with
    | false =>
      go_enter Try.func27, Try.ntmps27
      go_wp2_with (first | (go_at_call 33; ((with_reducible refine (HCc.out _).mono ?_); rintro e w' ⟨rfl, rfl⟩)) | (go_at_call 35; ((with_reducible refine (HL.out _).mono ?_); rintro e w' ⟨rfl, rfl⟩)))
      go_ret
      exact ⟨ret_b (by rw [HR.out]; rfl), 0, rfl⟩
    | true =>
      go_enter Try.func27, Try.ntmps27
      go_wp2_with (first | (go_at_call 33; ((with_reducible refine (HCc.out _).mono ?_); rintro e w' ⟨rfl, rfl⟩)) | (go_at_call 35; ((with_reducible refine (HL.out _).mono ?_); rintro e w' ⟨rfl, rfl⟩)))
      go_quiet ((go_at_call 34; exact Calls.quiet_of_same (HF.out _)))
      go_wp2_with (first | (go_at_call 33; ((with_reducible refine (HCc.out _).mono ?_); rintro e w' ⟨rfl, rfl⟩)) | (go_at_call 35; ((with_reducible refine (HL.out _).mono ?_); rintro e w' ⟨rfl, rfl⟩)))
      all_goals
        go_ret
        exact ⟨ret_b (by rw [HR.out]; simp_all), _, rfl⟩
  | [a, b, c, d], hb, hr =>
    obtain ⟨g, off, rfl, k0, k1, k2, k3⟩ := cells1 hr (by simp)
    have d0 := k0 a rfl
    obtain ⟨a0, a1⟩ := hb a (by simp)
    have d1 := k1 b rfl
    obtain ⟨b0, b1⟩ := hb b (by simp)
    have d2 := k2 c rfl
    obtain ⟨c0, c1⟩ := hb c (by simp)
    have d3 := k3 d rfl
    obtain ⟨d0, d1⟩ := hb d (by simp)
    have HL := Lib.hid (same_of (length_any a a0 a1))
    have HF := Lib.hid (same_of (contF_any a b b0 b1))
    have HCc := Lib.hid (same_of (continues_any c c0 c1))
    have HCd := Lib.hid (same_of (continues_any d d0 d1))
    have HR : Hid (fits [a, b, c, d] = (cont d && cont c && contF a b && decide (4 ≤ len1 a))) := Lib.hid rfl
    generalize fits [a, b, c, d] = R at *
    generalize len1 a = n at *
    generalize contF a b = z at *
    generalize cont c = x at *
    generalize cont d = y at *
    clear hb hr k0 k1 k2 k3 a0 a1 b0 b1 c0 c1 d0 d1
    simp only [List.length_cons, List.length_nil, Nat.zero_add, Nat.reduceAdd]
    cases y with
    | false =>
      go_enter Try.func27, Try.ntmps27
      go_wp2_with (first | (go_at_call 33; ((with_reducible refine (HCd.out _).mono ?_); rintro e w' ⟨rfl, rfl⟩)) | (go_at_call 35; ((with_reducible refine (HL.out _).mono ?_); rintro e w' ⟨rfl, rfl⟩)))
      go_ret
      exact ⟨ret_b (by rw [HR.out]; rfl), 0, rfl⟩
    | true =>
      cases x with
      | false =>
        go_enter Try.func27, Try.ntmps27
        go_wp2_with (first | (go_at_call 33; ((with_reducible refine (HCd.out _).mono ?_); rintro e w' ⟨rfl, rfl⟩)) | (go_at_call 33; ((with_reducible refine (HCc.out _).mono ?_); rintro e w' ⟨rfl, rfl⟩)) | (go_at_call 35; ((with_reducible refine (HL.out _).mono ?_); rintro e w' ⟨rfl, rfl⟩)))
        go_ret
        exact ⟨ret_b (by rw [HR.out]; rfl), 0, rfl⟩
      | true =>
        go_enter Try.func27, Try.ntmps27
        go_wp2_with (first | (go_at_call 33; ((with_reducible refine (HCd.out _).mono ?_); rintro e w' ⟨rfl, rfl⟩)) | (go_at_call 33; ((with_reducible refine (HCc.out _).mono ?_); rintro e w' ⟨rfl, rfl⟩)) | (go_at_call 35; ((with_reducible refine (HL.out _).mono ?_); rintro e w' ⟨rfl, rfl⟩)))
        go_quiet ((go_at_call 34; exact Calls.quiet_of_same (HF.out _)))
        go_wp2_with (first | (go_at_call 33; ((with_reducible refine (HCd.out _).mono ?_); rintro e w' ⟨rfl, rfl⟩)) | (go_at_call 33; ((with_reducible refine (HCc.out _).mono ?_); rintro e w' ⟨rfl, rfl⟩)) | (go_at_call 35; ((with_reducible refine (HL.out _).mono ?_); rintro e w' ⟨rfl, rfl⟩)))
        all_goals
          go_ret
          exact ⟨ret_b (by rw [HR.out]; simp_all), _, rfl⟩
  | _ :: _ :: _ :: _ :: _ :: r, hb, hr =>
    have h1 : ((r.length + 1 + 1 + 1 + 1 + 1 : Nat) : Int) ≠ 4 := by omega
    have h2 : ((r.length + 1 + 1 + 1 + 1 + 1 : Nat) : Int) ≠ 3 := by omega
    have h3 : ((r.length + 1 + 1 + 1 + 1 + 1 : Nat) : Int) ≠ 2 := by omega
    have h4 : ((r.length + 1 + 1 + 1 + 1 + 1 : Nat) : Int) ≠ 1 := by omega
    have e1 : (((r.length + 1 + 1 + 1 + 1 + 1 : Nat) : Int) == 4) = false := beq_eq_false_iff_ne.2 h1
    have e2 : (((r.length + 1 + 1 + 1 + 1 + 1 : Nat) : Int) == 3) = false := beq_eq_false_iff_ne.2 h2
    have e3 : (((r.length + 1 + 1 + 1 + 1 + 1 : Nat) : Int) == 2) = false := beq_eq_false_iff_ne.2 h3
    have e4 : (((r.length + 1 + 1 + 1 + 1 + 1 : Nat) : Int) == 1) = false := beq_eq_false_iff_ne.2 h4
    clear hb hr h1 h2 h3 h4
    simp only [List.length_cons]
    generalize r.length + 1 + 1 + 1 + 1 + 1 = N at *
    go_enter Try.func27, Try.ntmps27
    go_wp2_with fail
    go_ret
    exact ⟨ret_b rfl, 0, rfl⟩
end Go.Proofs.Ytjcgcloanamabaa.Ru
