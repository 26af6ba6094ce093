/-
  The contract of the made scripts: operations with few IDs and times, in memory of their own.
-/
import Derived.Test.YtbhakpkdkeacmaaTqMill
import Derived.Deep.RegionLaw
namespace Go.Proofs.Ytbhakpkdkeacmaa.Tq
open Go.RowKit Go.Maps

theorem next_b {w W : World} {d n c k : Nat} {A : Option Addr} {zs : List Int} (h : Deck w d A n c zs k) (hb : Below w.heap.size w W) (m : Int) (h0 : 1 ≤ m) (h1 : m ≤ 1000000) :
    Calls Try.prog 17 #[.pointer (some ⟨d, 0, none⟩), .int .i64 m] W (NextPost W d A n c zs k m) := next_any (h.keep hb) m h0 h1

/-- An operation as it is made. -/
def Fine (o : TOp) : Prop := (o.kind = 1 ∨ o.kind = 2 ∨ o.kind = 3 ∨ o.kind = 4) ∧ 0 ≤ o.id ∧ o.id < 9 ∧ 0 ≤ o.time ∧ o.time < 40
theorem Fine.wf {o : TOp} (h : Fine o) : OpWf o := by
  obtain ⟨h1, h2, h3, h4, h5⟩ := h
  exact ⟨WalkArith.wf_i64 (by omega), WalkArith.wf_i64 (by omega), WalkArith.wf_u64 (by omega)⟩
def MadePost (w : World) (e : Ending) (w' : World) : Prop := ∃ v os, e = .returned v ∧ OpsOwn w' w.heap.size v os ∧ os.length ≤ 120 ∧ (∀ o ∈ os, Fine o) ∧ Below w.heap.size w w'

theorem kinds_at (r : Int) (h0 : 0 ≤ r) (h1 : r < 6) : ∃ kd : Int, (#[.int .i64 1, .int .i64 1, .int .i64 1, .int .i64 2, .int .i64 3, .int .i64 4] : Array Value)[r.toNat]? = some (.int .i64 kd) ∧ (kd = 1 ∨ kd = 2 ∨ kd = 3 ∨ kd = 4) := by
  have : r = 0 ∨ r = 1 ∨ r = 2 ∨ r = 3 ∨ r = 4 ∨ r = 5 := by omega
  rcases this with rfl | rfl | rfl | rfl | rfl | rfl <;> exact ⟨_, rfl, by omega⟩
theorem Try.info33 : (Try.prog.info? 33).map (fun i => (i.zero, i.size, i.bytes)) = some (some (.agg #[.int .i64 0, .int .i64 0, .int .u64 0]), 3, 24) := by kernel_rfl

/-- The script so far. -/
structure Mk (w W : World) (d : Nat) (A : Option Addr) (n c : Nat) (zs : List Int) (v : Value) (os : List TOp) (k : Nat) : Prop where
  row : W.ownsRow w.heap.size 33 3 v os.length (flatO os)
  dk : Deck W d A n c zs k
  bel : Below w.heap.size w W
  hd : w.heap.size ≤ d
  inb : ∀ b off, A = some ⟨b, off, none⟩ → 0 < n → b < w.heap.size
theorem Mk.step {w W W' : World} {d n c k : Nat} {A : Option Addr} {zs : List Int} {v : Value} {os : List TOp} (h : Mk w W d A n c zs v os k) (hb : Below W.heap.size W W') : Mk w W' d A n c zs v os k :=
  ⟨own_below h.row hb, h.dk.keep hb, h.bel.trans (hb.mono h.bel.size), h.hd, h.inb⟩
theorem Mk.next {w W W' W'' : World} {d n c k k' : Nat} {A : Option Addr} {zs : List Int} {v : Value} {os : List TOp} (h : Mk w W d A n c zs v os k) (hb : Below W.heap.size W W') (hD : Deck W'' d A n c zs k') (hg : W'.grownBy W'' (some d)) : Mk w W'' d A n c zs v os k' := by
  have h1 := h.step hb
  exact ⟨h1.row.kept hg (.inr (own_ne h1.row h1.dk.blk (by decide))), hD, h1.bel.grown hg h1.bel.size (fun j e => by have := h.hd; simp at e; omega), h.hd, h.inb⟩
theorem Mk.append {w W W' : World} {d n c k : Nat} {A : Option Addr} {zs : List Int} {v v' : Value} {os : List TOp} {o : TOp} (h : Mk w W d A n c zs v os k) (hg : W.grownBy W' v.ownBlock)
    (hown : W'.ownsRow w.heap.size 33 3 v' (os.length + 1) (flatO os ++ [.int .i64 o.kind, .int .i64 o.id, .int .u64 o.time])) : Mk w W' d A n c zs v' (os ++ [o]) k := by
  have hdne : some d ≠ v.ownBlock := (own_ne h.row h.dk.blk (by decide)).symm
  refine ⟨by rw [List.length_append, flatO_append]; exact hown, ⟨(hg.block d (heap_lt h.dk.blk) hdne).trans h.dk.blk, h.dk.le, h.dk.bd, h.dk.wf, h.dk.len, fun hn => ?_⟩, h.bel.grown hg h.bel.size (fun j e => (own_type h.row j e).1), h.hd, h.inb⟩
  obtain ⟨b, off, h1, h2, h3, h4⟩ := h.dk.rd hn
  have hb := h.inb b off h1 hn
  exact ⟨b, off, h1, h2, Nat.lt_of_lt_of_le h3 hg.size, fun i z hz => (World.cell?_of_block (a := ⟨b, off + i, none⟩) (hg.block b h3 (fun e => by have := (own_type h.row b e.symm).1; omega))).trans (h4 i z hz)⟩
theorem news3_at {W : World} {s : Nat} (hs : W.heap.size = s) (x y z : Value) (t : TypeId) : ∀ j u, [x, y, z][j]? = some u → (W.alloc (.cells #[x, y, z] t)).cell? ((⟨s, 0, none⟩ : Addr).add j) = some u := by
  subst hs; exact news_three W x y z t
theorem lit_cell (W : World) (r kd : Int) (h : (#[.int .i64 1, .int .i64 1, .int .i64 1, .int .i64 2, .int .i64 3, .int .i64 4] : Array Value)[r.toNat]? = some (.int .i64 kd)) : (W.alloc (.cells #[.int .i64 1, .int .i64 1, .int .i64 1, .int .i64 2, .int .i64 3, .int .i64 4] 3)).cell? ⟨W.heap.size, r.toNat, none⟩ = some (.int .i64 kd) :=
  (cell_of_row _ _ _ _ _ _ (heap_alloc_new W _)).trans h
theorem keep_cell {W' W'' : World} {d S j : Nat} {v : Value} (hg : W'.grownBy W'' (some d)) (hne : S ≠ d) (h : W'.cell? ⟨S, j, none⟩ = some v) : W''.cell? ⟨S, j, none⟩ = some v :=
  (World.cell?_of_block (hg.block S (World.block_lt_of_cell? _ _ h) (by simpa using hne))).trans h

set_option maxRecDepth 100000 in
set_option maxHeartbeats 4000000 in
theorem made_any {w : World} {A : Option Addr} {n c : Nat} {zs : List Int} (h : IntsIn w A n zs) :
    Calls Try.prog 9 #[.slice A n c] w (MadePost w) := by
  obtain ⟨i0, hi0, hz0, hz1, hz2⟩ := info_parts Try.info33
  have H := Lib.hid (new_any (c := c) h)
  have IB : Hid (∀ b off, A = some ⟨b, off, none⟩ → 0 < n → b < w.heap.size) := fun b off hA hn => by
    obtain ⟨b', off', h1, h2, _⟩ := h.rd hn
    rw [h1] at hA
    injection hA with hA
    injection hA with hA
    omega
  clear h
  go_enter Try.func9, Try.ntmps9
  go_wp2_with (go_at_call 15; ((with_reducible refine H.out.mono ?_); rintro e w1 ⟨rfl, hD, hb, hs⟩; have D0 := Lib.hid hD; have B0 := Lib.hid hb; clear hD hb hs))
  obtain ⟨d, hd⟩ : ∃ d, d = w.heap.size := ⟨_, rfl⟩
  rw [← hd]
  have DE := Lib.hid hd
  clear hd
  go_loopg [4] (n + 1) (fun g v wr => ∃ os k, os.length ≤ 120 ∧ (∀ o ∈ os, Fine o) ∧ n - k + 1 ≤ g ∧ Mk w wr d A n c zs v os k)
  case atStart => exact ⟨[], 0, by simp, fun o ho => by simp at ho, by omega, ⟨World.ownsRow_nil _ _ _ _, by rw [DE.out]; exact D0.out, B0.out, Nat.le_of_eq DE.out.symm, IB.out⟩⟩
  case round =>
    obtain ⟨os, k, hlen, hfine, hg, hmk⟩ := hrel
    obtain ⟨Av, cv, rfl⟩ := own_shape hmk.row
    have hL := left_any hmk.dk
    have MK := Lib.hid hmk
    have FN := Lib.hid hfine
    clear hmk hfine
    by_cases hk : k < n
    · rw [decide_eq_true hk] at hL
      have HL := Lib.hid hL
      clear hL
      by_cases h120 : os.length < 120
      · have hl' : (os.length : Int) < 120 := by omega
        go_wp2_with (go_at_call 16; ((with_reducible refine HL.out.mono ?_); rintro e w' ⟨rfl, q, rfl⟩))
        have hm1 := MK.out.step (below_drewN wr q)
        generalize wr.drewN q = W at *
        have M0 := Lib.hid hm1
        have hdW := heap_lt hm1.dk.blk
        clear hm1
        go_region_law (first
          | (go_simp; go_at_call 17; ((with_reducible refine (next_b M0.out.dk (by go_grown) 6 (by omega) (by omega)).mono ?_); rintro e w1 ⟨r1, k1, rfl, hr10, hr11, hkk1, hkx1, hD1, hg1⟩; obtain ⟨kd, hkd, hkdv⟩ := kinds_at r1 hr10 hr11; have KD := Lib.hid hkdv; have LK := Lib.hid hkd; have M1 := Lib.hid (M0.out.next (by go_grown) hD1 hg1); have hd1 := heap_lt M1.out.dk.blk; have q1 : k + 1 ≤ k1 := (by have := hkx1 hk; omega); (first | (have f1 := keep_cell hg1 (by omega) (lit_cell W r1 kd hkd)) | skip); have g1 := lit_cell w1 r1 kd hkd; clear hkdv hkd hkk1 hkx1 hD1 hg1))
          | (go_simp; go_at_call 17; ((with_reducible refine (next_b M1.out.dk (by go_grown) 9 (by omega) (by omega)).mono ?_); rintro e w2 ⟨r2, k2, rfl, hr20, hr21, hkk2, hkx2, hD2, hg2⟩; have M2 := Lib.hid (M1.out.next (by go_grown) hD2 hg2); have hd2 := heap_lt M2.out.dk.blk; (first | (have f2 := keep_cell hg2 (by omega) f1) | (have f2 := keep_cell hg2 (by omega) g1) | skip); have g2 := lit_cell w2 r1 kd LK.out; clear hkx2 hD2 hg2))
          | (go_simp; go_at_call 17; ((with_reducible refine (next_b M2.out.dk (by go_grown) 40 (by omega) (by omega)).mono ?_); rintro e w3 ⟨r3, k3, rfl, hr30, hr31, hkk3, hkx3, hD3, hg3⟩; have M3 := Lib.hid (M2.out.next (by go_grown) hD3 hg3); have hd3 := heap_lt M3.out.dk.blk; (first | (have f3 := keep_cell hg3 (by omega) f2) | (have f3 := keep_cell hg3 (by omega) g2) | skip); have g3 := lit_cell w3 r1 kd LK.out; have hw3 : IntKind.u64.wrap r3 = r3 := (by rw [IntKind.wrap_u64]; omega); clear hkx3 hD3 hg3))
          | (refine step_append_lies _ rfl (.tmp 14) (.tmp 26) 23 rfl w.heap.size 33 i0 (.agg #[.int .i64 0, .int .i64 0, .int .u64 0]) 3 24 Try.underlying23 hi0 hz0 hz1 hz2 rfl (by decide) (.slice Av os.length cv) os.length _ rfl (M3.out.row.alloc _) ⟨w3.heap.size, 0, none⟩ 1 1 [.int .i64 kd, .int .i64 r2, .int .u64 r3] rfl rfl (news_three w3 _ _ _ _) (by simp [Value.oneCell']) (by omega) (by unfold maxLen; omega) (by omega) (by have := M3.out.bel.size; simp; omega) _ rfl ?_; intro g' cap' w5 hown5 hgrow5 hat5 hlt5; have M5 := Lib.hid (Mk.append (o := ⟨kd, r2, r3⟩) (M3.out.step ((Below.refl _ _).alloc (Nat.le_refl _) _)) hgrow5 hown5); clear hown5 hgrow5 hat5 hlt5)
          | (refine step_append_lies _ rfl (.tmp 14) (.tmp 26) 23 rfl w.heap.size 33 i0 (.agg #[.int .i64 0, .int .i64 0, .int .u64 0]) 3 24 Try.underlying23 hi0 hz0 hz1 hz2 rfl (by decide) (.slice Av os.length cv) os.length _ rfl ((M3.out.row.alloc _).alloc _) ⟨w3.heap.size + 1, 0, none⟩ 1 1 [.int .i64 kd, .int .i64 r2, .int .u64 r3] rfl rfl (news3_at (by simp) _ _ _ _) (by simp [Value.oneCell']) (by omega) (by unfold maxLen; omega) (by omega) (by have := M3.out.bel.size; simp; omega) _ rfl ?_; intro g' cap' w5 hown5 hgrow5 hat5 hlt5; have M5 := Lib.hid (Mk.append (o := ⟨kd, r2, r3⟩) (M3.out.step (((Below.refl _ _).alloc (Nat.le_refl _) _).alloc (by simp) _)) hgrow5 hown5); clear hown5 hgrow5 hat5 hlt5))
        all_goals
          have hk3 := M3.out.dk.le
          go_wp2_with fail
          go_roundg (n - k3 + 1)
          case measure => omega
          case rel =>
            refine ⟨os ++ [⟨kd, r2, r3⟩], k3, by simp; omega, fun o ho => ?_, Nat.le_refl _, M5.out⟩
            rcases List.mem_append.1 ho with ho | ho
            · exact FN.out o ho
            · simp at ho; subst ho; exact ⟨KD.out, hr20, hr21, hr30, hr31⟩
      · have hl' : decide ((os.length : Int) < 120) = false := decide_eq_false (by omega)
        go_wp2_with (go_at_call 16; ((with_reducible refine HL.out.mono ?_); rintro e w' ⟨rfl, q, rfl⟩))
        go_ret
        have h5 := MK.out.step (below_drewN wr q)
        exact ⟨_, os, rfl, ⟨h5.row, fun o ho => (FN.out o ho).wf⟩, hlen, FN.out, h5.bel⟩
    · rw [decide_eq_false hk] at hL
      have HL := Lib.hid hL
      clear hL
      go_wp2_with (go_at_call 16; ((with_reducible refine HL.out.mono ?_); rintro e w' ⟨rfl, q, rfl⟩))
      go_ret
      have h5 := MK.out.step (below_drewN wr q)
      exact ⟨_, os, rfl, ⟨h5.row, fun o ho => (FN.out o ho).wf⟩, hlen, FN.out, h5.bel⟩
end Go.Proofs.Ytbhakpkdkeacmaa.Tq
