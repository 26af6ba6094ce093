/-
  A string comes back from its token.
-/
import Derived.Test.YtjhcbcadagljlaaDoorLxSane
namespace Go.Proofs.YtjhcbcadagljlaaDoor.Lx
open Go.RowKit

theorem quoteL_By {l : List Int} (h : By l) : By (quoteL l) := by
  unfold quoteL
  exact (By.one (x := 34) (by omega)).append ((quoBs_By h).append (By.one (by omega)))
set_option maxRecDepth 100000 in
set_option maxHeartbeats 4000000 in
theorem LexerQuotes_law (s : ByteArray) (w : World) (het : ET w) : Calls Tryd.prog 5 #[.string s] w (BPost w true) := by
  have HS := Lib.hid (fun W h => sane_any W h)
  have HET := Lib.hid het
  clear het
  have hsz := ch_length s
  by_cases hbig : 1000 < s.size
  · have hb : (1000 : Int) < (s.size : Int) := by omega
    clear hsz hbig
    go_enter Tryd.func5, Tryd.ntmps5
    go_wp2_with (go_at_call 6; ((with_reducible refine (HS.out _ HET.out).mono ?_); rintro e w1 ⟨rfl, hb1⟩; have B1 := Lib.hid hb1; clear hb1))
    go_ret
    exact ⟨rfl, B1.out⟩
  · have hb : (s.size : Int) ≤ 1000 := by omega
    have hle := quoBs_le (ch s)
    have hql : (quoteL (ch s)).length ≤ 8192 := by rw [quoteL_length]; omega
    obtain ⟨a, b, hall⟩ := all_quote (ch_By s) hql
    have HQ := Lib.hid (fun W => prog_quote (s := s) rfl (by omega) W)
    have HR := Lib.hid (fun W => quote_any (s := s) rfl (by omega) W)
    have hA := fun W (h : ET W) => prog_all (s := bytesOf (quoteL (ch s))) (ch_bytesOf (quoteL_By (ch_By s))) (by omega) W h
    rw [show allT (quoteL (ch s)) = [⟨3, ch s, 1, 1⟩, ⟨6, [], a, b⟩] by unfold allT; rw [hall], show allF (quoteL (ch s)) = (0, 0, 0) by unfold allF; rw [hall]] at hA
    have HA := Lib.hid hA
    unfold VPost at HQ HR
    have HT := Lib.hid (bytesOf_ch s)
    clear hA hall hql hle hsz hbig
    generalize bytesOf (quoteL (ch s)) = q at *
    generalize ch s = l at *
    go_enter Tryd.func5, Tryd.ntmps5
    go_wp2_with (first
      | (go_at_call 6; ((with_reducible refine (HS.out _ HET.out).mono ?_); rintro e w1 ⟨rfl, hb1⟩; have B1 := Lib.hid hb1; clear hb1))
      | (go_at_call 11; ((with_reducible refine (HQ.out _).mono ?_); rintro e w2 ⟨rfl, hb2⟩; have B2 := Lib.hid (B1.out.trans (hb2.mono B1.out.size)); clear hb2))
      | (go_at_call 7; ((with_reducible refine (HA.out _ (HET.out.below B2.out)).mono ?_); rintro e w3 ⟨v3, rfl, hv3, hb3⟩; have V3 := Lib.hid (hv3.below (balloc w3 (.cells #[.int .i64 0, .int .i64 0, .int .i64 0] 29))); have B3 := Lib.hid ((B2.out.trans (hb3.mono B2.out.size)).alloc (by have := B2.out.size; have := hb3.size; omega) (.cells #[.int .i64 0, .int .i64 0, .int .i64 0] 29)); have K3 := Lib.hid (heap_alloc_new w3 (.cells #[.int .i64 0, .int .i64 0, .int .i64 0] 29)); obtain ⟨A3, c3, hv, _⟩ := hv3; simp only [List.length_cons, List.length_nil, Nat.zero_add, Nat.reduceAdd] at hv; subst hv; clear hb3))
      | (go_at_call 12; ((with_reducible refine (HR.out _).mono ?_); rintro e w4 ⟨rfl, hb4⟩; have B4 := Lib.hid (B3.out.trans (hb4.mono B3.out.size)); have k4 := (hb4.block _ (heap_lt K3.out)).trans K3.out; have d0 := cell_of_row _ _ 0 _ _ _ k4; have d1 := cell_of_row _ _ 1 _ _ _ k4; have d2 := cell_of_row _ _ 2 _ _ _ k4; obtain ⟨A5, c5, hv5, ht5, _⟩ := V3.out.below hb4; simp only [List.length_cons, List.length_nil, Nat.zero_add, Nat.reduceAdd, Value.slice.injEq, true_and] at hv5; obtain ⟨rfl, rfl⟩ := hv5; obtain ⟨g, off, rfl, ht⟩ := ht5 (by simp); have t0 := ht 0 _ rfl; have u0 := t0.1; have u1 := t0.2.1; simp only [HT.out, Nat.zero_mul, Nat.add_zero] at u0 u1; have t1 := (ht 1 _ rfl).1; clear hb4 k4 ht t0)))
    go_ret
    exact ⟨ret_b (by simp), B4.out⟩
end Go.Proofs.YtjhcbcadagljlaaDoor.Lx
