/-
  The contracts of the reference's first and without.
-/
import Derived.Test.YtbhakpkdkeacmaaTqRef1
import Derived.Deep.LoopGhost
import Derived.Deep.RegionWith
namespace Go.Proofs.Ytbhakpkdkeacmaa.Tq
open Go.RowKit Go.Maps

theorem first_nil {w : World} (A : Option Addr) (c : Nat) :
    Calls Try.prog 26 #[.slice A 0 c] w fun e w' => e = .returned (.int .i64 (-1)) ∧ w = w' := by
  go_enter Try.func26, Try.ntmps26
  go_wp2
  go_loop [3, 4] (fun o i => o = .int .i64 (-1) ∧ i = .int .i64 0) (fun _ _ => 0)
  case atStart => exact ⟨rfl, rfl⟩
  case round =>
    obtain ⟨rfl, rfl⟩ := hrel
    go_wp2
    go_ret
    exact ⟨rfl, rfl⟩

/-- The first one's place. -/
def FirstPost (w : World) (ts : List Tm) (e : Ending) (w' : World) : Prop := ∃ i : Nat, e = .returned (.int .i64 i) ∧ i < ts.length ∧ (∀ k, k < ts.length → tle (at_ ts i) (at_ ts k)) ∧ Below w.heap.size w w'
/-- The best among the first k. -/
def BestOf (ts : List Tm) (k : Nat) (v : Value) : Prop := (k = 0 ∧ v = .int .i64 (-1)) ∨ ∃ o : Nat, o < k ∧ v = .int .i64 o ∧ ∀ j, j < k → tle (at_ ts o) (at_ ts j)

set_option maxHeartbeats 1000000 in
theorem first_some {w : World} {B : Nat} {v : Value} {ts : List Tm} (h : RL w B v ts) (hl : ts.length ≤ 1000) (hn : 0 < ts.length) :
    Calls Try.prog 26 #[v] w (FirstPost w ts) := by
  obtain ⟨g, cap, rfl, hb, hg⟩ := World.ownsRow.form h hn
  have H := Lib.hid h
  clear h
  go_enter Try.func26, Try.ntmps26
  go_wp2
  go_loopg [3, 4] (ts.length + 1) (fun n o i wr => ∃ k : Nat, i = .int .i64 k ∧ k ≤ ts.length ∧ ts.length - k + 1 ≤ n ∧ BestOf ts k o ∧ Below w.heap.size w wr)
  case atStart => exact ⟨0, rfl, Nat.zero_le _, by omega, .inl ⟨rfl, rfl⟩, Below.refl _ _⟩
  case round =>
    obtain ⟨k, rfl, hk, hm, hbest, hbl⟩ := hrel
    have BL := Lib.hid hbl
    have hsz : w.heap.size ≤ wr.heap.size := hbl.size
    clear hbl
    by_cases hlt : k < ts.length
    · rcases hbest with ⟨rfl, rfl⟩ | ⟨o, hok, rfl, hmin⟩
      · go_wp2_with fail
        go_quiet (fail)
        go_wp2_with fail
        go_roundg (ts.length - 1 + 1)
        case measure => omega
        case rel => exact ⟨1, by go_num, by omega, by omega, .inr ⟨0, by omega, by go_num, fun j hj => by rw [show j = 0 by omega]; exact tle_refl _⟩, BL.out.trans ((below_drewN wr _).mono hsz)⟩
      · obtain ⟨ck0, ck1⟩ := RL.at_ H.out (at_some hlt)
        obtain ⟨co0, co1⟩ := RL.at_ H.out (at_some (show o < ts.length by omega))
        have ck0' := (BL.out.cell (p := ⟨g, k * 2, none⟩) hg).trans ck0
        have ck1' := (BL.out.cell (p := ⟨g, k * 2 + 1, none⟩) hg).trans ck1
        have co0' := (BL.out.cell (p := ⟨g, o * 2, none⟩) hg).trans co0
        have co1' := (BL.out.cell (p := ⟨g, o * 2 + 1, none⟩) hg).trans co1
        have hd : decide ((o : Int) < 0) = false := decide_eq_false (by omega)
        have hol : o < ts.length := by omega
        have MN := Lib.hid hmin
        clear ck0 ck1 co0 co1 hmin
        obtain ⟨b, hb'⟩ : ∃ b, tlt (at_ ts k) (at_ ts o) = b := ⟨_, rfl⟩
        have hC := fun W => before_any (at_ ts k) (at_ ts o) W
        rw [hb'] at hC
        have HC := Lib.hid hC
        have HB := Lib.hid hb'
        clear hC hb'
        cases b
        · go_wp2_with fail
          go_still_tail 11, (by kernel_rfl)
          change wpList _ _ _ _ _ wr.drew
          go_wp2_with (go_at_call 31; ((with_reducible refine (HC.out _).mono ?_); rintro e w' ⟨rfl, hw'⟩))
          go_roundg (ts.length - (k + 1) + 1)
          case measure => omega
          case rel =>
            refine ⟨k + 1, by go_num, by omega, Nat.le_refl _, .inr ⟨o, by omega, rfl, fun j hj => ?_⟩, BL.out.trans (((Below.refl wr.heap.size wr).drew.trans hw').mono hsz)⟩
            by_cases e : j = k
            · rw [e]; exact tle_of_not HB.out
            · exact MN.out j (by omega)
        · go_wp2_with fail
          go_still_tail 11, (by kernel_rfl)
          change wpList _ _ _ _ _ wr.drew
          go_wp2_with (go_at_call 31; ((with_reducible refine (HC.out _).mono ?_); rintro e w' ⟨rfl, hw'⟩))
          go_roundg (ts.length - (k + 1) + 1)
          case measure => omega
          case rel =>
            refine ⟨k + 1, by go_num, by omega, Nat.le_refl _, .inr ⟨k, by omega, rfl, fun j hj => ?_⟩, BL.out.trans (((Below.refl wr.heap.size wr).drew.trans hw').mono hsz)⟩
            by_cases e : j = k
            · rw [e]; exact tle_refl _
            · exact tle_trans (tle_of_tlt HB.out) (MN.out j (by omega))
    · rcases hbest with ⟨rfl, _⟩ | ⟨o, hok, rfl, hmin⟩
      · omega
      · have MN := Lib.hid hmin
        have hkl : k = ts.length := by omega
        have KL := Lib.hid hkl
        clear hmin hkl
        go_wp2_with fail
        go_ret
        exact ⟨o, rfl, by omega, fun j hj => MN.out j (by have := KL.out; omega), BL.out⟩

/-- One step of a region that draws: an append onto a row of the call's own, of any number of elements. -/
theorem step_append_at {P : Program} (w : World) {ops : Array Oper} {o : Oper} {a : Act} {K : Act → World → Prop} {Q : Exit → Act → World → Prop} {E : Prop} (hgd : o.guard = none) (s x : Operand) (t : TypeId)
    (ho : o.op = .call { callee := .builtin .append, args := #[s, x], argTypes := #[t, t] })
    (base : Nat) (e : TypeId) (i : TypeInfo) (z : Value) (size bytes : Nat) (ht : P.underlying t = some (.slice e)) (hi : P.info? e = some i) (hz : i.zero = some z)
    (hsize : i.size = size) (hby : i.bytes = bytes) (hzs : z.cells.size = size) (hsz : 0 < size)
    (v : Value) (n : Nat) (xs : List Value) (hs : a.eval s = v) (hown : w.ownsRow base e size v n xs)
    (ad : Addr) (m c : Nat) (news : List Value) (hx : a.eval x = .slice (some ad) m c) (hl : news.length = m * size) (hnews : ∀ j u, news[j]? = some u → w.cell? (ad.add j) = some u) (h1 : ∀ u ∈ news, u.oneCell' = true)
    (h63 : n + m ≤ maxLen) (hbytes : (n + m) * bytes ≤ 140737488355328) (hbase : base ≤ w.heap.size)
    (h : ∀ v' w', w'.ownsRow base e size v' (n + m) (xs ++ news) → w.grownBy w' v.ownBlock → (v'.ownBlock = v.ownBlock ∨ v'.ownBlock = some w.heap.size) → K (a.put o.dst v') w') :
    if Region.wanted o (yielded ops a.tmps) = true then Oper.wp P o a w K Q else E := by
  have hw : Region.wanted o (yielded ops a.tmps) = true := by simp [Region.wanted, hgd]
  rw [if_pos hw]
  obtain ⟨v', w', hr, h2, h3, _, h5⟩ := run_append_own_at (P := P) w base t o.type e i z size bytes ht hi hz hsize hby hzs hsz v n xs hown ad m c news hl hnews h1 h63 hbytes hbase
  unfold Oper.wp execOp
  simp only [ho, resolve, invoke, builtin, Sem.run_bind, Sem.run_pure, Result.andThen_ok, List.map_toArray, List.map_cons, List.map_nil, hs, hx, hr]
  exact h v' w' h2 h3 h5

theorem Try.info64 : (Try.prog.info? 64).map (fun i => (i.zero, i.size, i.bytes)) = some (some (.agg #[.int .i64 0, .int .u64 0]), 2, 16) := by kernel_rfl
theorem flat_drop (ts : List Tm) (k : Nat) : flat (ts.drop k) = (flat ts).drop (k * 2) := by
  induction ts generalizing k with
  | nil => simp [flat]
  | cons x r ih =>
    cases k with
    | zero => simp [flat]
    | succ k => rw [show (k + 1) * 2 = k * 2 + 2 by omega]; simp [flat, ih]

theorem src_keep {w w1 : World} {Ad : Addr} {g : Nat} {o : Obj} (hA : Ad.block = g) (hg : g < w.heap.size) {row : Option Nat} (hgrow : ((w.alloc o).drew).grownBy w1 row) (hrow : row = some w.heap.size) {j : Nat} {u : Value} (h : w.cell? (Ad.add j) = some u) : w1.cell? (Ad.add j) = some u := by
  have hbk : (Ad.add j).block = g := by rw [← hA]; unfold Addr.add; split <;> rfl
  refine (World.cell?_of_block (w := (w.alloc o).drew) (hgrow.block _ (by rw [hbk]; simp; omega) (by rw [hbk, hrow]; simp; omega))).trans ?_
  exact (World.cell?_alloc_lt w _ _ (by rw [hbk]; exact hg)).trans h

/-- A list without one place, in memory of its own. -/
def WithoutPost (w : World) (B : Nat) (ts : List Tm) (i : Nat) (e : Ending) (w' : World) : Prop := ∃ v, e = .returned v ∧ RL w' B v (ts.eraseIdx i) ∧ Below w.heap.size w w'

set_option maxHeartbeats 1000000 in
theorem without_any {w : World} {B : Nat} {v : Value} {ts : List Tm} (h : RL w B v ts) (hl : ts.length ≤ 1000) {i : Nat} (hi : i < ts.length) :
    Calls Try.prog 25 #[v, .int .i64 i] w (WithoutPost w w.heap.size ts i) := by
  obtain ⟨i0, hi0, hz0, hz1, hz2⟩ := info_parts Try.info64
  obtain ⟨g, cap, rfl, hb, hg⟩ := World.ownsRow.form h (by omega)
  have hcap : ts.length ≤ cap ∧ cap ≤ 9223372036854775807 := by
    rcases h.2 with ⟨hv, _⟩ | ⟨g', cap', cur, hv, _, _, hc, hm, _⟩
    · simp at hv
    · simp only [Value.slice.injEq] at hv
      obtain ⟨_, _, rfl⟩ := hv
      unfold maxLen at hm; omega
  obtain ⟨hc1, hc2⟩ := hcap
  have hic : i ≤ cap := by omega
  have hwr : IntKind.i64.wrap ((i : Int) + 1) = (i : Int) + 1 := by rw [IntKind.wrap_i64]; omega
  have hp0 : (0 : Int) ≤ (i : Int) + 1 := by omega
  have hp1 : (i : Int) + 1 ≤ (ts.length : Int) := by omega
  have hp2 : ((i : Int) + 1).toNat = i + 1 := by omega
  -- the cells of both parts
  have n1 : ∀ j u, (flat (ts.take i))[j]? = some u → w.cell? ((⟨g, 0, none⟩ : Addr).add j) = some u := by
    intro j u hu
    rw [flat_take, List.getElem?_take] at hu
    split at hu
    · exact h.cells (g := g) rfl j u hu
    · cases hu
  obtain ⟨Ad, hA, n2⟩ : ∃ Ad : Addr, (if cap = i + 1 then some (⟨g, 0, none⟩ : Addr) else some ⟨g, (i + 1) * 2, none⟩) = some Ad ∧ Hid (Ad.block = g ∧ ∀ j u, (flat (ts.drop (i + 1)))[j]? = some u → w.cell? (Ad.add j) = some u) := by
    by_cases hcp : cap = i + 1
    · refine ⟨⟨g, 0, none⟩, by simp [hcp], rfl, fun j u hu => ?_⟩
      rw [List.drop_eq_nil_of_le (by omega)] at hu
      simp [flat] at hu
    · refine ⟨⟨g, (i + 1) * 2, none⟩, by simp [hcp], rfl, fun j u hu => ?_⟩
      rw [flat_drop, List.getElem?_drop] at hu
      have := h.cells (g := g) rfl _ u hu
      rw [Addr.add_lit] at this ⊢
      simpa using this
  have N1 := Lib.hid n1
  have l1 : Hid ((flat (ts.take i)).length = i * 2) := by show _ = _; rw [flat_length, List.length_take]; omega
  have l2 : Hid ((flat (ts.drop (i + 1))).length = (ts.length - (i + 1)) * 2) := by show _ = _; rw [flat_length, List.length_drop]
  have hgne : g ≠ w.heap.size := by omega
  clear h n1
  go_enter Try.func25, Try.ntmps25
  go_wp2_with fail
  go_region_law (first
    | (refine step_append_at _ rfl (.tmp 5) (.tmp 8) 51 rfl w.heap.size 64 i0 (.agg #[.int .i64 0, .int .u64 0]) 2 16 Try.underlying51 hi0 hz0 hz1 hz2 rfl (by decide) _ _ _ (by simp [Act.eval]) (World.ownsRow_lit w #[] 0 (Nat.le_refl _) (by unfold maxLen; omega) (by simp)) ⟨g, 0, none⟩ i cap (flat (ts.take i)) (by simp [Act.eval]) l1.out (fun j u hu => (World.cell?_alloc_lt w _ _ (by rw [Addr.add_lit]; exact hg)).trans (N1.out j u hu)) (flat_one _) (by unfold maxLen; omega) (by omega) (by simp) ?_; intro v1 w1 hown1 hgrow1 hat1)
    | (refine step_append_at _ rfl (.tmp 9) (.tmp 13) 51 rfl w.heap.size 64 i0 (.agg #[.int .i64 0, .int .u64 0]) 2 16 Try.underlying51 hi0 hz0 hz1 hz2 rfl (by decide) _ _ _ (by simp [Act.eval]) hown1 Ad (ts.length - (i + 1)) (cap - (i + 1)) (flat (ts.drop (i + 1))) (by simp [Act.eval]) l2.out (fun j u hu => src_keep n2.out.1 hg hgrow1 rfl (n2.out.2 j u hu)) (flat_one _) (by unfold maxLen; omega) (by omega) (by have := hgrow1.size; simp at this; omega) ?_; intro v2 w2 hown2 hgrow2 hat2))
  all_goals
    have hb1 : Below w.heap.size w w1 := (((Below.refl w.heap.size w).alloc (Nat.le_refl _) _).drew).grown hgrow1 (by simp) (fun k e => by simp [Value.ownBlock] at e; omega)
    have hb2 : Below w.heap.size w w2 := hb1.grown hgrow2 hb1.size (fun k e => by
      rcases hat1 with h1 | h1
      · rw [h1] at e; simp [Value.ownBlock] at e; omega
      · rw [h1] at e; simp at e; omega)
    have hR : RL w2 w.heap.size v2 (ts.eraseIdx i) := by
      have e1 : ts.eraseIdx i = ts.take i ++ ts.drop (i + 1) := List.eraseIdx_eq_take_drop_succ ts i
      have e2 : (ts.eraseIdx i).length = 0 + i + (ts.length - (i + 1)) := by rw [List.length_eraseIdx_of_lt hi]; omega
      unfold RL
      rw [e2, e1, flat_append]
      simpa using hown2
    have HR := Lib.hid hR
    have HB := Lib.hid hb2
    clear hb1 hb2 hR hown1 hgrow1 hat1 hown2 hgrow2 hat2
    go_wp2_with fail
    go_ret
    exact ⟨v2, rfl, HR.out, HB.out⟩
end Go.Proofs.Ytbhakpkdkeacmaa.Tq
