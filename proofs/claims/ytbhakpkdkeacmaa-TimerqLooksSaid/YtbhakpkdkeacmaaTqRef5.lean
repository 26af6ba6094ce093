/-
  The contract of the reference's step: a timer that waits already is set anew.
-/
import Derived.Test.YtbhakpkdkeacmaaTqRef3
namespace Go.Proofs.Ytbhakpkdkeacmaa.Tq
open Go.RowKit Go.Maps

set_option maxRecDepth 100000 in
set_option maxHeartbeats 2000000 in
theorem sold_any {w : World} {B : Nat} {v : Value} {now : Int} {l : List Tm} (h : RH w B v l) (x t : Int) (hx : 0 ≤ x) (hm : mem l x = true) (hB : B ≤ w.heap.size) :
    Calls Try.prog 19 #[v, .int .u64 now, .agg #[.int .i64 1, .int .i64 x, .int .u64 t]] w (StepPost w B now (rem l x ++ [(x, t)]) ⟨0, [], 0⟩) := by
  obtain ⟨i0, hi0, hz0, hz1, hz2⟩ := info_parts Try.info64
  obtain ⟨ts, h1, h2, h3, h4⟩ := h
  have hmt : mem ts x = true := by rw [mem_perm h2]; exact hm
  obtain ⟨u, hu, hux⟩ := mem_iff.1 hmt
  obtain ⟨j, hj⟩ := List.getElem?_of_mem hu
  have hjl := (List.getElem?_eq_some_iff.1 hj).1
  have hjx : (at_ ts j).1 = x := by rw [at_of hj]; exact hux
  obtain ⟨A, cp, rfl⟩ := own_shape h1
  obtain ⟨W, hW⟩ : ∃ W, W = (w.alloc (.cells #[.int .i64 1, .int .i64 x, .int .u64 t] 33)).alloc zrep := ⟨_, rfl⟩
  obtain ⟨bx, hbx⟩ : ∃ bx, bx = w.heap.size := ⟨_, rfl⟩
  obtain ⟨R, hR⟩ : ∃ R, R = w.heap.size + 1 := ⟨_, rfl⟩
  have hL : Laid w W bx R 1 x t := by rw [hW, hbx, hR]; exact Laid.mk_ w 1 x t
  have hS : RL W B (.slice A ts.length cp) ts := own_below h1 (by rw [hW]; go_grown)
  have b0 := cell_of_row W bx 0 _ _ _ hL.box
  have b1 := cell_of_row W bx 1 _ _ _ hL.box
  have b2 := cell_of_row W bx 2 _ _ _ hL.box
  have hbs := heap_lt hL.box
  have LD := Lib.hid hL
  have HS := Lib.hid hS
  have HP := Lib.hid (place_some hS (by omega) x hjl hjx h3)
  have HT := Lib.hid (without_any hS (by omega) hjl)
  have HW := Lib.hid hW
  have HX := Lib.hid hbx
  have HR := Lib.hid hR
  obtain ⟨e1, e2, e3⟩ := h3.erase hjl
  rw [hjx] at e1 e3
  have hlen3 : (ts.eraseIdx j).length + 1 = ts.length := by rw [List.length_eraseIdx_of_lt hjl]; omega
  have hpm : (ts.eraseIdx j ++ [(x, t)]).Perm (rem l x ++ [(x, t)]) := (e1.trans (h2.filter _)).append_right _
  have hnd := Nd.snoc (a := (x, t)) e2 e3
  obtain ⟨ts3, hts3⟩ : ∃ ts3, ts3 = ts.eraseIdx j := ⟨_, rfl⟩
  rw [← hts3] at hlen3 hpm hnd
  have E3 := Lib.hid hts3
  clear hts3
  have ND := Lib.hid hnd
  have PM := Lib.hid hpm
  have hBW : B ≤ W.heap.size := by have := hL.bel.size; omega
  have hlt3 : (ts3.length : Int) < 256 := by omega
  have h33 : ts3.length < 256 := by omega
  have hjz : (0 : Int) ≤ (j : Int) := by omega
  clear h1 hW hbx hR hL hS hmt hm hu hux hj hjx e1 e2 e3 hpm hnd h3 h2
  go_enter Try.func19, Try.ntmps19
  go_wp2_with (first
    | (go_at_call 24; rw [← HW.out, ← HR.out, ← HX.out]; ((with_reducible refine HP.out.mono ?_); rintro e w1 ⟨rfl, rfl⟩))
    | (go_at_call 25; ((with_reducible refine HT.out.mono ?_); rintro e w3 ⟨v3, rfl, hr3, hb3⟩; rw [← E3.out] at hr3; obtain ⟨A3, cp3, rfl⟩ := own_shape hr3; have HS3 := Lib.hid hr3; have LD3 := Lib.hid (LD.out.step hb3); have hbs3 := heap_lt LD3.out.box; have b13 := cell_of_row w3 bx 1 _ _ _ LD3.out.box; have b23 := cell_of_row w3 bx 2 _ _ _ LD3.out.box; have hBW3 : B ≤ w3.heap.size := (by have := hb3.size; omega); clear hr3 hb3)))
  go_region_law (first
    | (refine step_append_row _ rfl (.tmp 38) (.tmp 39) 51 rfl w3.heap.size W.heap.size 64 i0 (.agg #[.int .i64 0, .int .u64 0]) 2 16 Try.underlying51 hi0 hz0 hz1 hz2 rfl (by decide) (.slice (some ⟨w3.heap.size, 0, none⟩) 0 0) 0 [] rfl (by first | exact World.ownsRow_lit w3 #[] 0 (Nat.le_refl _) (by unfold maxLen; omega) (by simp) | exact (World.ownsRow_lit w3 #[] 0 (Nat.le_refl _) (by unfold maxLen; omega) (by simp)).alloc _) (.slice A3 ts3.length cp3) ts3.length (flat ts3) rfl (by first | exact HS3.out.alloc _ | exact (HS3.out.alloc _).alloc _) (flat_one _) (by unfold maxLen; omega) (by omega) (by first | (simp; done) | (simp; omega)) ?_; intro v1 w1 hown1 hgrow1 hat1; have hb1 := grown_new (W := w3) (by go_grown) hgrow1 (by omega); have d1 := (hb1.cell (p := ⟨bx, 1, none⟩) hbs3).trans b13; have d2 := (hb1.cell (p := ⟨bx, 2, none⟩) hbs3).trans b23; have hsz1 := hb1.size; have HB1 := Lib.hid hb1; have G1 := Lib.hid hgrow1; have O1 := Lib.hid hown1; have T1 := Lib.hid hat1; clear hb1 hgrow1 hown1 hat1)
    | (refine step_append_row _ rfl (.tmp 38) (.tmp 39) 51 rfl w3.heap.size W.heap.size 64 i0 (.agg #[.int .i64 0, .int .u64 0]) 2 16 Try.underlying51 hi0 hz0 hz1 hz2 rfl (by decide) (.slice (some ⟨w3.heap.size + 1, 0, none⟩) 0 0) 0 [] rfl (lit_second w3 _ _) (.slice A3 ts3.length cp3) ts3.length (flat ts3) rfl ((HS3.out.alloc _).alloc _) (flat_one _) (by unfold maxLen; omega) (by omega) (by first | (simp; done) | (simp; omega)) ?_; intro v1 w1 hown1 hgrow1 hat1; have hb1 := grown_new (W := w3) (by go_grown) hgrow1 (by omega); have d1 := (hb1.cell (p := ⟨bx, 1, none⟩) hbs3).trans b13; have d2 := (hb1.cell (p := ⟨bx, 2, none⟩) hbs3).trans b23; have hsz1 := hb1.size; have HB1 := Lib.hid hb1; have G1 := Lib.hid hgrow1; have O1 := Lib.hid hown1; have T1 := Lib.hid hat1; clear hb1 hgrow1 hown1 hat1)
    | (refine step_append_row _ rfl (.tmp 40) (.tmp 46) 51 rfl w3.heap.size 0 64 i0 (.agg #[.int .i64 0, .int .u64 0]) 2 16 Try.underlying51 hi0 hz0 hz1 hz2 rfl (by decide) v1 (0 + ts3.length) ([] ++ flat ts3) rfl (O1.out.alloc _) (.slice (some ⟨w1.heap.size, 0, none⟩) 1 1) 1 [.int .i64 x, .int .u64 t] rfl (two_row _ (Nat.zero_le _) (heap_alloc_new w1 _)) (by simp [Value.oneCell']) (by unfold maxLen; omega) (by omega) (by first | omega | (simp; done) | (simp; omega)) ?_; intro v2 w2 hown2 hgrow2 hat2; have H2 := Lib.hid hown2; have G2 := Lib.hid hgrow2; have T2 := Lib.hid hat2; have hb2 := row_below HB1.out T1.out ((Below.refl _ _).alloc (Nat.le_refl _) _) hgrow2; have LD2 := LD3.out.step hb2; have r0 := cell_of_row w2 R 0 _ _ _ LD2.res; have r1 := cell_of_row w2 R 1 _ _ _ LD2.res; have r2 := cell_of_row w2 R 2 _ _ _ LD2.res; have z0 : w2.frozen? ⟨R, 0, none⟩ = false := (by simp [World.frozen?, LD2.res]); have z1 : w2.frozen? ⟨R, 1, none⟩ = false := (by simp [World.frozen?, LD2.res]); have z2 : w2.frozen? ⟨R, 2, none⟩ = false := (by simp [World.frozen?, LD2.res]); have LL := Lib.hid LD2; clear hown2 hgrow2 hat2 hb2 LD2)
    | (refine step_append_row _ rfl (.tmp 40) (.tmp 46) 51 rfl w3.heap.size 0 64 i0 (.agg #[.int .i64 0, .int .u64 0]) 2 16 Try.underlying51 hi0 hz0 hz1 hz2 rfl (by decide) v1 (0 + ts3.length) ([] ++ flat ts3) rfl O1.out (.slice (some ⟨w3.heap.size + 1, 0, none⟩) 1 1) 1 [.int .i64 x, .int .u64 t] rfl (two_row _ (Nat.zero_le _) ((G1.out.block _ (by first | (simp; done) | (simp; omega)) (by first | (simp [Value.ownBlock]; done) | (simp [Value.ownBlock]; omega))).trans (blk_second w3 _ _))) (by simp [Value.oneCell']) (by unfold maxLen; omega) (by omega) (by first | omega | (simp; done) | (simp; omega)) ?_; intro v2 w2 hown2 hgrow2 hat2; have H2 := Lib.hid hown2; have G2 := Lib.hid hgrow2; have T2 := Lib.hid hat2; have hb2 := row_below HB1.out T1.out (Below.refl _ _) hgrow2; have LD2 := LD3.out.step hb2; have r0 := cell_of_row w2 R 0 _ _ _ LD2.res; have r1 := cell_of_row w2 R 1 _ _ _ LD2.res; have r2 := cell_of_row w2 R 2 _ _ _ LD2.res; have z0 : w2.frozen? ⟨R, 0, none⟩ = false := (by simp [World.frozen?, LD2.res]); have z1 : w2.frozen? ⟨R, 1, none⟩ = false := (by simp [World.frozen?, LD2.res]); have z2 : w2.frozen? ⟨R, 2, none⟩ = false := (by simp [World.frozen?, LD2.res]); have LL := Lib.hid LD2; clear hown2 hgrow2 hat2 hb2 LD2)
    | (refine step_append_row _ rfl (.tmp 40) (.tmp 46) 51 rfl w3.heap.size 0 64 i0 (.agg #[.int .i64 0, .int .u64 0]) 2 16 Try.underlying51 hi0 hz0 hz1 hz2 rfl (by decide) v1 (0 + ts3.length) ([] ++ flat ts3) rfl O1.out (.slice (some ⟨w3.heap.size, 0, none⟩) 1 1) 1 [.int .i64 x, .int .u64 t] rfl (two_row _ (Nat.zero_le _) ((G1.out.block _ (by first | (simp; done) | (simp; omega)) (by first | (simp [Value.ownBlock]; done) | (simp [Value.ownBlock]; omega))).trans (blk_first w3 _ _))) (by simp [Value.oneCell']) (by unfold maxLen; omega) (by omega) (by first | omega | (simp; done) | (simp; omega)) ?_; intro v2 w2 hown2 hgrow2 hat2; have H2 := Lib.hid hown2; have G2 := Lib.hid hgrow2; have T2 := Lib.hid hat2; have hb2 := row_below HB1.out T1.out (Below.refl _ _) hgrow2; have LD2 := LD3.out.step hb2; have r0 := cell_of_row w2 R 0 _ _ _ LD2.res; have r1 := cell_of_row w2 R 1 _ _ _ LD2.res; have r2 := cell_of_row w2 R 2 _ _ _ LD2.res; have z0 : w2.frozen? ⟨R, 0, none⟩ = false := (by simp [World.frozen?, LD2.res]); have z1 : w2.frozen? ⟨R, 1, none⟩ = false := (by simp [World.frozen?, LD2.res]); have z2 : w2.frozen? ⟨R, 2, none⟩ = false := (by simp [World.frozen?, LD2.res]); have LL := Lib.hid LD2; clear hown2 hgrow2 hat2 hb2 LD2))
  all_goals
    have hRL : RL w2 B v2 (ts3 ++ [(x, t)]) := by
      have := H2.out.mono hBW3
      unfold RL
      rw [List.length_append, flat_append]
      simpa [flat] using this
    have RL2 := Lib.hid hRL
    clear hRL
    go_wp2_with fail
    have hb9 := res_cells w2 R (.int .i64 0) (.slice none 0 0) (.int .u64 0) LL.out.res
    refine bodyPost_ret (v := .tuple #[v2, .int .u64 now, .agg #[.int .i64 0, .slice none 0 0, .int .u64 0]]) (by simp [results, Try.results19, go_sem, cell_of_row _ R 0 _ _ _ hb9, cell_of_row _ R 1 _ _ _ hb9, cell_of_row _ R 2 _ _ _ hb9]) rfl ?_
    exact step_done LL.out ⟨_, RL2.out, PM.out, ND.out, by simp; omega⟩ (RepAt.none_ _ _ _ _)

end Go.Proofs.Ytbhakpkdkeacmaa.Tq
