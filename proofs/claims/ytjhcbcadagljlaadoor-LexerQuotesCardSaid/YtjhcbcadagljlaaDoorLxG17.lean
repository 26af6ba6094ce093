/-
  Layer 5, the program: All.
-/
import Derived.Test.YtjhcbcadagljlaaDoorLxG16
namespace Go.Proofs.YtjhcbcadagljlaaDoor.Lx
open Go.RowKit Go.Extern.Stop Go.Stop Go.Extern

theorem gas_flt {w : World} {R : Nat} (f : Flt) (het : ET w) (hR : w.heap[R]? = some (.cells #[.int .i64 0, .int .i64 0, .int .i64 0] 45 (0, 0))) :
    Calls Tryd.prog 14 #[fltV f, .iface 47 (.pointer (some ⟨R, 0, none⟩))] w (AsPost w R f) :=
  as_any het hR ⟨_, _, rfl⟩ fun V W t hV hRV hRW => asi_hit f.1 f.2.1 f.2.2 R V W hV hRV hRW t
theorem gas_wrap {w : World} {R : Nat} (i : Nat) (f : Flt) (het : ET w) (hR : w.heap[R]? = some (.cells #[.int .i64 0, .int .i64 0, .int .i64 0] 45 (0, 0))) :
    Calls Tryd.prog 14 #[wrapV i f, .iface 47 (.pointer (some ⟨R, 0, none⟩))] w (AsPost w R f) :=
  as_any het hR ⟨_, _, rfl⟩ fun V W t hV hRV hRW => asi_wrap i f.1 f.2.1 f.2.2 R V W hV hRV hRW t

theorem gas_any {w : World} {R : Nat} {f : Flt} {ev : Value} (hev : ev = fltV f ∨ ∃ i : Nat, ev = wrapV i f) (het : ET w) (hR : w.heap[R]? = some (.cells #[.int .i64 0, .int .i64 0, .int .i64 0] 45 (0, 0))) :
    Calls Tryd.prog 14 #[ev, .iface 47 (.pointer (some ⟨R, 0, none⟩))] w (AsPost w R f) := by
  rcases hev with rfl | ⟨i, rfl⟩
  · exact gas_flt f het hR
  · exact gas_wrap i f het hR
set_option maxRecDepth 100000 in
set_option maxHeartbeats 4000000 in
theorem gall_any {s : ByteArray} {l : List Int} (hs : ch s = l) (hn : l.length ≤ 100000) (w : World) (het : ET w) : Calls Tryd.prog 7 #[.string s] w (APost w (allT l) (allF l)) := by
  have HR := Lib.hid (fun W h => read_any hs hn W h)
  have B0 := Lib.hid (balloc w (.cells #[.int .i64 0, .int .i64 0, .int .i64 0] 29))
  have K0 := Lib.hid (heap_alloc_new w (.cells #[.int .i64 0, .int .i64 0, .int .i64 0] 29))
  have ET0 := Lib.hid (het.below B0.out)
  have hET := Lib.hid het
  unfold RdPost at HR
  clear hs hn het
  cases ha : all l with
  | ok ts =>
    have E1 : Hid (allT l = ts) := Lib.hid (by unfold allT; rw [ha])
    have E2 : Hid (allF l = (0, 0, 0)) := Lib.hid (by unfold allF; rw [ha])
    rw [ha] at HR
    have HN := Lib.hid (fun (t : Value) (W : World) => as_nil t W)
    clear ha
    go_enter Tryd.func7, Tryd.ntmps7
    go_wp2_with (first
      | (go_at_call 13; ((refine (HR.out _ ET0.out).mono ?_); rintro e w1 ⟨hb1, v1, rfl, hl1⟩; have V1 := Lib.hid hl1; have B1 : Hid (Below w.heap.size w w1) := Lib.hid (B0.out.trans (hb1.mono B0.out.size)); have k1 := (hb1.block _ (heap_lt K0.out)).trans K0.out; have K1 := Lib.hid k1; have c0 := cell_of_row _ _ 0 _ _ _ k1; have c1 := cell_of_row _ _ 1 _ _ _ k1; have c2 := cell_of_row _ _ 2 _ _ _ k1; have f0 := frozen_of_row _ _ 0 _ _ k1; have f1 := frozen_of_row _ _ 1 _ _ k1; have f2 := frozen_of_row _ _ 2 _ _ k1; have hwl := heap_lt k1; clear hb1 hl1 k1))
      | (go_at_call 14; ((refine (HN.out _ _).mono ?_); rintro e w2 ⟨rfl, rfl⟩)))
    have hwl1 : w.heap.size < (((w1.setCell ⟨w.heap.size, 0, none⟩ (.int .i64 0)).setCell ⟨w.heap.size, 1, none⟩ (.int .i64 0)).setCell ⟨w.heap.size, 2, none⟩ (.int .i64 0)).heap.size := heap_lt (res3 w1 w.heap.size (.int .i64 0) (.int .i64 0) (.int .i64 0) (.int .i64 0) (.int .i64 0) (.int .i64 0) _ K1.out)
    have hb9 := (Below.heap_alloc (((w1.setCell ⟨w.heap.size, 0, none⟩ (.int .i64 0)).setCell ⟨w.heap.size, 1, none⟩ (.int .i64 0)).setCell ⟨w.heap.size, 2, none⟩ (.int .i64 0)) (.cells #[.int .i64 0, .int .i64 0, .int .i64 0] 45) w.heap.size hwl1).trans (res3 w1 w.heap.size (.int .i64 0) (.int .i64 0) (.int .i64 0) (.int .i64 0) (.int .i64 0) (.int .i64 0) _ K1.out)
    refine bodyPost_ret (v := .tuple #[v1, .agg #[.int .i64 0, .int .i64 0, .int .i64 0]]) (by simp [results, Tryd.results7, go_sem, cell_of_row _ w.heap.size 0 _ _ _ hb9, cell_of_row _ w.heap.size 1 _ _ _ hb9, cell_of_row _ w.heap.size 2 _ _ _ hb9]) rfl ?_
    exact ⟨v1, by rw [E2.out], by rw [E1.out]; exact (tlst_res K1.out V1.out).below (balloc _ _), (below3 B1.out (Nat.le_refl _) _ _ _).alloc (Nat.le_of_lt hwl1) _⟩
  | error f =>
    obtain ⟨c, p, q⟩ := f
    have E1 : Hid (allT l = []) := Lib.hid (by unfold allT; rw [ha])
    have E2 : Hid (allF l = (c, p, q)) := Lib.hid (by unfold allF; rw [ha])
    rw [ha] at HR
    clear ha
    go_enter Tryd.func7, Tryd.ntmps7
    go_wp2_with (first
      | (go_at_call 13; ((refine (HR.out _ ET0.out).mono ?_); rintro e w1 ⟨hb1, ev, rfl, hev⟩; have HEV := Lib.hid hev; have B1 : Hid (Below w.heap.size w w1) := Lib.hid (B0.out.trans (hb1.mono B0.out.size)); have k1 := (hb1.block _ (heap_lt K0.out)).trans K0.out; have K1 := Lib.hid k1; have hwl := heap_lt k1; clear hb1 hev k1))
      | (go_at_call 14; ((refine (gas_any HEV.out (hET.out.below (B1.out.alloc B1.out.size _)) (heap_alloc_new w1 _)).mono ?_); rintro e w2 ⟨rfl, hr2, hb2⟩; have R2 := Lib.hid hr2; have B2 : Hid (Below w.heap.size w w2) := Lib.hid ((B1.out.alloc B1.out.size _).trans (hb2.mono (by omega))); have k2 := (hb2.block _ hwl).trans ((Below.heap_alloc w1 _ _ hwl).trans K1.out); have K2 := Lib.hid k2; have c0 := cell_of_row _ _ 0 _ _ _ k2; have c1 := cell_of_row _ _ 1 _ _ _ k2; have c2 := cell_of_row _ _ 2 _ _ _ k2; have f0 := frozen_of_row _ _ 0 _ _ k2; have f1 := frozen_of_row _ _ 1 _ _ k2; have f2 := frozen_of_row _ _ 2 _ _ k2; have e0 := cell_of_row _ _ 0 _ _ _ hr2; have e1 := cell_of_row _ _ 1 _ _ _ hr2; have e2 := cell_of_row _ _ 2 _ _ _ hr2; clear hr2 hb2 k2)))
    go_region
    go_wp2_with fail
    have hb9 : (((w2.setCell ⟨w.heap.size, 0, none⟩ (.int .i64 c)).setCell ⟨w.heap.size, 1, none⟩ (.int .i64 p)).setCell ⟨w.heap.size, 2, none⟩ (.int .i64 q)).drew.heap[w.heap.size]? = _ := res3 w2 w.heap.size (.int .i64 0) (.int .i64 0) (.int .i64 0) (.int .i64 c) (.int .i64 p) (.int .i64 q) _ K2.out
    refine bodyPost_ret (v := .tuple #[.slice none 0 0, .agg #[.int .i64 c, .int .i64 p, .int .i64 q]]) (by simp [results, Tryd.results7, go_sem, cell_of_row _ w.heap.size 0 _ _ _ hb9, cell_of_row _ w.heap.size 1 _ _ _ hb9, cell_of_row _ w.heap.size 2 _ _ _ hb9]) rfl ?_
    exact ⟨_, by rw [E2.out], by rw [E1.out]; exact TLst.nil _, (below3 B2.out (Nat.le_refl _) _ _ _).drew⟩
end Go.Proofs.YtjhcbcadagljlaaDoor.Lx
