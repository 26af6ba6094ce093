/-
  The walk of TimerqPlays.
-/
import Derived.Test.YtbhakpkdkeacmaaTqFull
namespace Go.Proofs.Ytbhakpkdkeacmaa.Tq
open Go.RowKit Go.Maps

/-- What the frame knows of a slice of ints that came in. -/
theorem IntsIn.of_row {w : World} {a : Option Addr} {len cap : Nat} {zs : List Int}
    (h : (a = none ∧ len = 0 ∧ cap = 0 ∧ zs = []) ∨ ∃ x, a = some x ∧ len ≤ cap ∧ cap ≤ maxLen ∧ zs.length = cap ∧ (∀ i, i < zs.length → w.cell? (x.add i) = some (.int .i64 (zs.getD i 0))) ∧ ∀ n ∈ zs, (Lit.int .i64 n).wf = true) :
    IntsIn w a len (zs.take len) := by
  rcases h with ⟨rfl, rfl, rfl, rfl⟩ | ⟨x, rfl, hl, hm, hz, hc, hw⟩
  · exact ⟨by omega, fun z hz => by simp at hz, rfl, fun hn => by omega⟩
  · refine ⟨by unfold maxLen at hm; omega, fun z hz => i64_bd (hw z (List.mem_of_mem_take hz)), by rw [List.length_take]; omega, fun hn => ?_⟩
    obtain ⟨b, off, spot⟩ := x
    have h0 := hc 0 (by omega)
    have hs : spot = none := by simpa [Addr.add] using World.cell?_spot h0
    subst hs
    refine ⟨b, off, rfl, World.block_lt_of_cell? _ _ h0, fun i z hi => ?_⟩
    have hil : i < len := by have := (List.getElem?_eq_some_iff.1 hi).1; rw [List.length_take] at this; omega
    rw [List.getElem?_take, if_pos hil] at hi
    have := hc i (by omega)
    rw [Addr.add_lit] at this
    rw [this, List.getD_eq_getElem?_getD, hi]; rfl

theorem flatO_inv : ∀ (os : List TOp) (j : Nat) (u : Value), (flatO os)[j]? = some u → ∃ k o, os[k]? = some o ∧ ((j = k * 3 ∧ u = .int .i64 o.kind) ∨ (j = k * 3 + 1 ∧ u = .int .i64 o.id) ∨ (j = k * 3 + 2 ∧ u = .int .u64 o.time))
  | [], j, u, h => by simp [flatO] at h
  | o :: r, 0, u, h => by simp [flatO] at h; exact ⟨0, o, rfl, .inl ⟨rfl, h.symm⟩⟩
  | o :: r, 1, u, h => by simp [flatO] at h; exact ⟨0, o, rfl, .inr (.inl ⟨rfl, h.symm⟩)⟩
  | o :: r, 2, u, h => by simp [flatO] at h; exact ⟨0, o, rfl, .inr (.inr ⟨rfl, h.symm⟩)⟩
  | o :: r, j + 3, u, h => by
    have h' : (flatO r)[j]? = some u := by simpa [flatO] using h
    obtain ⟨k, o', hk, hj⟩ := flatO_inv r j u h'
    refine ⟨k + 1, o', by simpa using hk, ?_⟩
    rcases hj with ⟨hj, hu⟩ | ⟨hj, hu⟩ | ⟨hj, hu⟩
    · exact .inl ⟨by omega, hu⟩
    · exact .inr (.inl ⟨by omega, hu⟩)
    · exact .inr (.inr ⟨by omega, hu⟩)
theorem OpsAt.cells {w : World} {B b off n : Nat} {os : List TOp} (h : OpsAt w B (some ⟨b, off, none⟩) n os) : ∀ j u, (flatO os)[j]? = some u → w.cell? ((⟨b, off, none⟩ : Addr).add j) = some u := by
  intro j u hu
  obtain ⟨k, o, hk, hj⟩ := flatO_inv os j u hu
  have hkl : k < os.length := (List.getElem?_eq_some_iff.1 hk).1
  obtain ⟨b', off', hA, _, hc⟩ := h.at_ (by have := h.len; omega)
  simp only [Option.some.injEq, Addr.mk.injEq, and_true] at hA
  obtain ⟨rfl, rfl⟩ := hA
  obtain ⟨c0, c1, c2⟩ := hc k o hk
  rw [Addr.add_lit]
  rcases hj with ⟨rfl, rfl⟩ | ⟨rfl, rfl⟩ | ⟨rfl, rfl⟩
  · exact c0
  · exact c1
  · exact c2

theorem wpList_want {P : Program} {ops : Array Oper} {Q : Exit → Act → World → Prop} {a : Act} {w : World} {rest : List Oper} {o : Oper} (hw : Region.wanted o (yielded ops a.tmps) = true)
    (h : ∀ K : Act → World → Prop, (∀ a w, wpList P ops Q rest a w → K a w) → o.wp P a w K Q) : wpList P ops Q (o :: rest) a w :=
  wpList_step fun K hK => by rw [if_pos hw]; exact h K hK
/-- As wpList_append_row, at an operation whose guard is true. -/
theorem wpList_append_row_g {P : Program} (w : World) {ops : Array Oper} {rest : List Oper} {o : Oper} {a : Act} {Q : Exit → Act → World → Prop} (hw : Region.wanted o (yielded ops a.tmps) = true) (s x : Operand) (t : TypeId)
    (ho : o.op = .call { callee := .builtin .append, args := #[s, x], argTypes := #[t, t] })
    (base base2 : Nat) (e : TypeId) (i : TypeInfo) (z : Value) (size bytes : Nat) (ht : P.underlying t = some (.slice e)) (hi : P.info? e = some i) (hz : i.zero = some z)
    (hsize : i.size = size) (hby : i.bytes = bytes) (hzs : z.cells.size = size) (hsz : 0 < size)
    (v : Value) (n : Nat) (xs : List Value) (hs : a.eval s = v) (hown : w.ownsRow base e size v n xs)
    (xv : Value) (m : Nat) (news : List Value) (hx : a.eval x = xv) (hsrc : w.ownsRow base2 e size xv m news) (h1 : ∀ u ∈ news, u.oneCell' = true)
    (h63 : n + m ≤ maxLen) (hbytes : (n + m) * bytes ≤ 140737488355328) (hbase : base ≤ w.heap.size)
    (h : ∀ v' w', w'.ownsRow base e size v' (n + m) (xs ++ news) → w.grownBy w' v.ownBlock → (v'.ownBlock = v.ownBlock ∨ v'.ownBlock = some w.heap.size) → wpList P ops Q rest (a.put o.dst v') w') :
    wpList P ops Q (o :: rest) a w := by
  refine wpList_want hw fun K hK => ?_
  obtain ⟨v', w', hr, h2, h3, h5⟩ := run_append_row (P := P) w base base2 t o.type e i z size bytes ht hi hz hsize hby hzs hsz v n xs hown xv m news hsrc h1 h63 hbytes hbase
  unfold Oper.wp execOp
  simp only [ho, resolve, invoke, builtin, Sem.run_bind, Sem.run_pure, Result.andThen_ok, List.map_toArray, List.map_cons, List.map_nil, hs, hx, hr]
  exact hK _ _ (h v' w' h2 h3 h5)

/-- An append of operations that came in. -/
theorem wpList_append_ops {w : World} {ops : Array Oper} {rest : List Oper} {o : Oper} {a : Act} {Q : Exit → Act → World → Prop} (hgd : Region.wanted o (yielded ops a.tmps) = true) (s x : Operand)
    (ho : o.op = .call { callee := .builtin .append, args := #[s, x], argTypes := #[23, 23] })
    {base B : Nat} {v : Value} {os : List TOp} (hs : a.eval s = v) (hown : OpsOwn w base v os)
    {A : Option Addr} {n c : Nat} {os2 : List TOp} (hx : a.eval x = .slice A n c) (hat : OpsAt w B A n os2) (hnil : A = none → c = 0)
    (hl : os.length + n ≤ 100000) (hbase : base ≤ w.heap.size)
    (h : ∀ v' w', OpsOwn w' base v' (os ++ os2) → w.grownBy w' v.ownBlock → (v'.ownBlock = v.ownBlock ∨ v'.ownBlock = some w.heap.size) → wpList Try.prog ops Q rest (a.put o.dst v') w') :
    wpList Try.prog ops Q (o :: rest) a w := by
  obtain ⟨i0, hi0, hz0, hz1, hz2⟩ := info_parts Try.info33
  have key : ∃ v' w', (Builtin.append_ #[23, 23] o.type #[v, .slice A n c]).run Try.prog w = .ok v' w' ∧ OpsOwn w' base v' (os ++ os2) ∧ w.grownBy w' v.ownBlock ∧ (v'.ownBlock = v.ownBlock ∨ v'.ownBlock = some w.heap.size) := by
    have hw : ∀ o ∈ os ++ os2, OpWf o := fun o ho => by
      rcases List.mem_append.1 ho with ho | ho
      · exact hown.2 o ho
      · exact hat.wf o ho
    have fromAd : ∀ (ad : Addr), A = some ad → (∀ j u, (flatO os2)[j]? = some u → w.cell? (ad.add j) = some u) → ∃ v' w', (Builtin.append_ #[23, 23] o.type #[v, .slice A n c]).run Try.prog w = .ok v' w' ∧ OpsOwn w' base v' (os ++ os2) ∧ w.grownBy w' v.ownBlock ∧ (v'.ownBlock = v.ownBlock ∨ v'.ownBlock = some w.heap.size) := by
      rintro ad rfl hc
      obtain ⟨v', w', hr, h2, h3, _, h5⟩ := run_append_own_at (P := Try.prog) w base 23 o.type 33 i0 (.agg #[.int .i64 0, .int .i64 0, .int .u64 0]) 3 24 Try.underlying23 hi0 hz0 hz1 hz2 rfl (by decide) v os.length (flatO os) hown.1 ad n c (flatO os2) (by rw [flatO_length, hat.len]) hc (flatO_one _) (by unfold maxLen; omega) (by omega) hbase
      exact ⟨v', w', hr, ⟨by rw [List.length_append, hat.len, flatO_append]; exact h2, hw⟩, h3, h5⟩
    by_cases hn : 0 < n
    · obtain ⟨b, off, hA, _, _⟩ := hat.at_ hn
      subst hA
      exact fromAd _ rfl hat.cells
    · have h0 : n = 0 := by omega
      have h2 : os2 = [] := List.length_eq_zero_iff.1 (by rw [hat.len, h0])
      cases A with
      | some ad => exact fromAd ad rfl (fun j u hu => by rw [h2] at hu; simp [flatO] at hu)
      | none =>
        rw [hnil rfl, h0, h2]
        exact ⟨v, w, run_append_owned_none w base 23 o.type 33 i0 3 Try.underlying23 hi0 v os.length (flatO os) hown.1, by simpa using hown, ⟨rfl, rfl, rfl, Nat.le_refl _, fun _ _ _ => rfl⟩, .inl rfl⟩
  obtain ⟨v', w', hr, h2, h3, h5⟩ := key
  refine wpList_want hgd fun K hK => ?_
  unfold Oper.wp execOp
  simp only [ho, resolve, invoke, builtin, Sem.run_bind, Sem.run_pure, Result.andThen_ok, List.map_toArray, List.map_cons, List.map_nil, hs, hx, hr]
  exact hK _ _ (h v' w' h2 h3 h5)

/-- Both Plays of a script: what they leave for the comparison. -/
def Pair (w : World) (os : List TOp) (A6 A7 : Option Addr) : Prop := RepsRd w A6 os.length (play [] 0 os) ∧ RepsRd w A7 os.length (play [] 0 os)

set_option maxRecDepth 100000 in
set_option maxHeartbeats 4000000 in
theorem TimerqPlays_walk (a0 : Option Addr) (len0 cap0 : Nat) (zs : List Int) (A : Option Addr) (n c : Nat) (raw : List TOp) (w : World) (h0 : IntsIn w a0 len0 zs) (h1 : OpsAt w w.heap.size A n raw) (hnil : A = none → c = 0) (hbig : n ≤ 9223372036854775807) :
    Calls Try.prog 3 #[.slice a0 len0 cap0, .slice A n c] w (BTrue w) := by
  have H0 := Lib.hid h0
  have H1 := Lib.hid h1
  have HN := Lib.hid hnil
  clear h0 h1 hnil
  obtain ⟨i0, hi0, hz0, hz1, hz2⟩ := info_parts Try.info33
  by_cases hn : 300 < n
  · have hn' : (300 : Int) < (n : Int) := by omega
    go_enter Try.func3, Try.ntmps3
    go_wp2_with (go_at_call 8; ((with_reducible refine (sane_any _).mono ?_); rintro e w1 ⟨rfl, hb⟩; have B0 := Lib.hid hb; clear hb))
    go_ret
    exact ⟨rfl, B0.out⟩
  · have hn' : (n : Int) ≤ 300 := by omega
    go_enter Try.func3, Try.ntmps3
    go_wp2_with (go_at_call 8; ((with_reducible refine (sane_any _).mono ?_); rintro e w1 ⟨rfl, hb⟩; have B1 := Lib.hid hb; clear hb))
    have h01 : IntsIn w1 a0 len0 zs := ⟨H0.out.bd, H0.out.wf, H0.out.len, fun hn => by
      obtain ⟨b, off, hA, hb, hc⟩ := H0.out.rd hn
      exact ⟨b, off, hA, Nat.lt_of_lt_of_le hb B1.out.size, fun i z hz => (B1.out.cell (p := ⟨b, off + i, none⟩) hb).trans (hc i z hz)⟩⟩
    have HM := Lib.hid (made_any (c := cap0) h01)
    clear h01
    go_wp2_with (go_at_call 9; ((with_reducible refine HM.out.mono ?_); rintro e w2 ⟨vx, xs, rfl, hx, hxl, _, hb⟩; have X2 := Lib.hid hx; have B2 := Lib.hid (B1.out.trans (hb.mono B1.out.size)); clear hx hb))
    obtain ⟨Ax, cx, rfl, hatx⟩ := X2.out.read
    have ATx := Lib.hid hatx
    clear hatx
    -- the made script
    with_reducible refine (play_any ATx.out (by omega)).mono ?_
    rintro e w3 ⟨v3, rfl, hr3, hb3⟩
    obtain ⟨A3, c3, rfl, _⟩ := hr3.rd0
    have R3 := Lib.hid hr3
    have C3 := Lib.hid hb3
    clear hr3 hb3
    go_wp2_with fail
    with_reducible refine (rplay_any ((ATx.out.below C3.out).mono C3.out.size) (by omega)).mono ?_
    rintro e w4 ⟨v4, rfl, hr4, hb4⟩
    obtain ⟨A4, c4, rfl, hd4⟩ := hr4.rd0
    obtain ⟨A3', c3', hv3, hd3⟩ := (R3.out.below hb4).rd0
    simp only [Value.slice.injEq] at hv3
    obtain ⟨rfl, _, rfl⟩ := hv3
    have D3 := Lib.hid hd3
    have D4 := Lib.hid hd4
    have C4 := Lib.hid (C3.out.trans (hb4.mono C3.out.size))
    clear hr4 hb4 hd3 hd4
    go_wp2_with fail
    with_reducible refine (same_eq D3.out D4.out (by omega)).mono ?_
    rintro e w5' ⟨rfl, q5, rfl⟩
    have hC5 := C4.out.trans ((below_drewN w4 q5).mono C4.out.size)
    go_wp2_with fail
    generalize w4.drewN q5 = w5 at *
    have C5 := Lib.hid hC5
    have B5 := Lib.hid (B2.out.trans (hC5.mono B2.out.size))
    clear hC5 C3 C4 R3 D3 D4
    -- the arbitrary one
    have AT5 := Lib.hid ((H1.out.below B5.out).mono B5.out.size)
    with_reducible refine (play_any AT5.out (by omega)).mono ?_
    rintro e w6 ⟨v6, rfl, hr6, hb6⟩
    have HLEN := Lib.hid AT5.out.len
    obtain ⟨A6, c6, rfl, _⟩ := hr6.rd0
    have R6 := Lib.hid hr6
    have C6 := Lib.hid (C5.out.trans (hb6.mono C5.out.size))
    have B6 := Lib.hid (B5.out.trans (hb6.mono B5.out.size))
    have AT6 := Lib.hid ((AT5.out.below hb6).mono hb6.size)
    clear hr6 hb6
    go_wp2_with fail
    with_reducible refine (rplay_any AT6.out (by omega)).mono ?_
    rintro e w7 ⟨v7, rfl, hr7, hb7⟩
    obtain ⟨A7, c7, rfl, hd7⟩ := hr7.rd0
    obtain ⟨A6', c6', hv6, hd6⟩ := (R6.out.below hb7).rd0
    simp only [Value.slice.injEq] at hv6
    obtain ⟨rfl, _, rfl⟩ := hv6
    have D6 := Lib.hid hd6
    have D7 := Lib.hid hd7
    have C7 := Lib.hid (C6.out.trans (hb7.mono C6.out.size))
    have B7 := Lib.hid (B6.out.trans (hb7.mono B6.out.size))
    clear hr7 hb7 hd6 hd7
    go_wp2_with fail
    with_reducible refine (same_eq D6.out D7.out (by have := HLEN.out; omega)).mono ?_
    rintro e w8' ⟨rfl, q8, rfl⟩
    have hC8 := C7.out.trans ((below_drewN w7 q8).mono C7.out.size)
    have hB8 := B7.out.trans ((below_drewN w7 q8).mono B7.out.size)
    obtain ⟨w8, hw8⟩ : ∃ w8, w8 = w7.drewN q8 := ⟨_, rfl⟩
    rw [← hw8] at hC8 hB8 ⊢
    have C8 := Lib.hid hC8
    have B8 := Lib.hid hB8
    clear hC8 hB8 C6 C7 R6 D6 D7 AT5 AT6 B6 B7 C5 hw8
    -- both, one after the other
    have hax : (w8.alloc (.cells #[] 33)).ownsRow w1.heap.size 33 3 (.slice Ax xs.length cx) xs.length (flatO xs) := (own_below X2.out.1 C8.out).alloc _
    have HAX := Lib.hid hax
    have hls : w.heap.size ≤ w8.heap.size := B8.out.size
    have hb8a : Below w.heap.size w (w8.alloc (.cells #[] 33)) := B8.out.alloc B8.out.size _
    have B8a := Lib.hid hb8a
    have hc8a : Below w2.heap.size w2 (w8.alloc (.cells #[] 33)) := C8.out.alloc C8.out.size _
    have C8a := Lib.hid hc8a
    clear hax hb8a hc8a
    go_wp2_with (first
      | (at_builtin; refine wpList_append_row_g _ (by rfl) (.tmp 26) (.tmp 27) 23 rfl w8.heap.size w1.heap.size 33 i0 (.agg #[.int .i64 0, .int .i64 0, .int .u64 0]) 3 24 Try.underlying23 hi0 hz0 hz1 hz2 rfl (by decide) (.slice (some ⟨w8.heap.size, 0, none⟩) 0 0) 0 [] rfl (World.ownsRow_lit w8 #[] 0 (Nat.le_refl _) (by unfold maxLen; omega) (by simp)) (.slice Ax xs.length cx) xs.length (flatO xs) rfl HAX.out (flatO_one _) (by unfold maxLen; omega) (by omega) (by simp) ?_; intro v9 w9 hown hgrow hat; have Ow9 := Lib.hid hown; have Gw9 := Lib.hid hgrow; have Tw9 := Lib.hid hat; clear hown hgrow hat; have bw9 : Below w8.heap.size w8 w9 := ((Below.refl w8.heap.size w8).alloc (Nat.le_refl _) (.cells #[] 33)).grown Gw9.out (by simp) (fun k e => by simp [Value.ownBlock] at e; omega); have ow9 : OpsOwn w9 w8.heap.size v9 xs := ⟨by simpa using Ow9.out, X2.out.2⟩; have OOw9 := Lib.hid ow9; have BBw9 := Lib.hid bw9; have ATw9 := Lib.hid ((H1.out.below (B8.out.trans (bw9.mono B8.out.size))).mono (Nat.le_trans B8.out.size bw9.size)); have hsw9 := bw9.size; clear ow9 bw9)
      | (at_builtin; refine wpList_append_ops (by rfl) (.tmp 28) (.tmp 29) rfl rfl OOw9.out rfl ATw9.out HN.out (by omega) hsw9 ?_; intro v10 w10 hown hgrow hat; have Ow10 := Lib.hid hown; have Gw10 := Lib.hid hgrow; clear hown hgrow hat))
    have bw10 : Below w8.heap.size w8 w10 := BBw9.out.grown Gw10.out hsw9 (fun k e => (own_type OOw9.out.1 k e).1)
    have BBw10 := Lib.hid bw10
    have Bw10 := Lib.hid (B8.out.trans (bw10.mono B8.out.size))
    have Cw10 := Lib.hid (C8.out.trans (bw10.mono C8.out.size))
    clear bw10
    obtain ⟨A10, c10, rfl, hat10⟩ := Ow10.out.read
    have hlen10 : (xs ++ raw).length ≤ 2000 := by rw [List.length_append, HLEN.out]; omega
    have HL10 := Lib.hid hlen10
    have AT10 := Lib.hid hat10
    clear hat10 hlen10
    with_reducible refine (play_any AT10.out HL10.out).mono ?_
    rintro e w11 ⟨v11, rfl, hr11, hb11⟩
    obtain ⟨A11, c11, rfl, _⟩ := hr11.rd0
    have R11 := Lib.hid hr11
    have B11 := Lib.hid (Bw10.out.trans (hb11.mono Bw10.out.size))
    have C11 := Lib.hid (Cw10.out.trans (hb11.mono Cw10.out.size))
    have hax11 : (w11.alloc (.cells #[] 33)).ownsRow w1.heap.size 33 3 (.slice Ax xs.length cx) xs.length (flatO xs) := (own_below X2.out.1 C11.out).alloc _
    have HAX11 := Lib.hid hax11
    clear hr11 hb11 hax11
    go_wp2_with (first
      | (at_builtin; refine wpList_append_row_g _ (by rfl) (.tmp 32) (.tmp 33) 23 rfl w11.heap.size w1.heap.size 33 i0 (.agg #[.int .i64 0, .int .i64 0, .int .u64 0]) 3 24 Try.underlying23 hi0 hz0 hz1 hz2 rfl (by decide) (.slice (some ⟨w11.heap.size, 0, none⟩) 0 0) 0 [] rfl (World.ownsRow_lit w11 #[] 0 (Nat.le_refl _) (by unfold maxLen; omega) (by simp)) (.slice Ax xs.length cx) xs.length (flatO xs) rfl HAX11.out (flatO_one _) (by unfold maxLen; omega) (by omega) (by simp) ?_; intro v12 w12 hown hgrow hat; have Ow12 := Lib.hid hown; have Gw12 := Lib.hid hgrow; have Tw12 := Lib.hid hat; clear hown hgrow hat; have bw12 : Below w11.heap.size w11 w12 := ((Below.refl w11.heap.size w11).alloc (Nat.le_refl _) (.cells #[] 33)).grown Gw12.out (by simp) (fun k e => by simp [Value.ownBlock] at e; omega); have ow12 : OpsOwn w12 w11.heap.size v12 xs := ⟨by simpa using Ow12.out, X2.out.2⟩; have OOw12 := Lib.hid ow12; have BBw12 := Lib.hid bw12; have ATw12 := Lib.hid ((H1.out.below (B11.out.trans (bw12.mono B11.out.size))).mono (Nat.le_trans B11.out.size bw12.size)); have hsw12 := bw12.size; clear ow12 bw12)
      | (at_builtin; refine wpList_append_ops (by rfl) (.tmp 34) (.tmp 35) rfl rfl OOw12.out rfl ATw12.out HN.out (by omega) hsw12 ?_; intro v13 w13 hown hgrow hat; have Ow13 := Lib.hid hown; have Gw13 := Lib.hid hgrow; clear hown hgrow hat))
    have bw13 : Below w11.heap.size w11 w13 := BBw12.out.grown Gw13.out hsw12 (fun k e => (own_type OOw12.out.1 k e).1)
    have BBw13 := Lib.hid bw13
    have Bw13 := Lib.hid (B11.out.trans (bw13.mono B11.out.size))
    have Cw13 := Lib.hid (C11.out.trans (bw13.mono C11.out.size))
    clear bw13
    obtain ⟨A13, c13, rfl, hat13⟩ := Ow13.out.read
    have AT13 := Lib.hid hat13
    have R13 := Lib.hid (R11.out.below BBw13.out)
    clear hat13
    with_reducible refine (rplay_any AT13.out HL10.out).mono ?_
    rintro e w14 ⟨v14, rfl, hr14, hb14⟩
    obtain ⟨A14, c14, rfl, hd14⟩ := hr14.rd0
    obtain ⟨A11', c11', hv11, hd11⟩ := (R13.out.below hb14).rd0
    simp only [Value.slice.injEq] at hv11
    obtain ⟨rfl, _, rfl⟩ := hv11
    rw [List.length_append] at hd11 hd14
    have D11 := Lib.hid hd11
    have D14 := Lib.hid hd14
    have B14 := Lib.hid (Bw13.out.trans (hb14.mono Bw13.out.size))
    clear hr14 hb14 hd11 hd14
    go_wp2_with fail
    with_reducible refine (same_eq D11.out D14.out (by have h9 := HL10.out; rw [List.length_append] at h9; omega)).mono ?_
    rintro e w15' ⟨rfl, q15, rfl⟩
    go_wp2_with fail
    go_ret
    exact ⟨rfl, B14.out.trans ((below_drewN w14 q15).mono B14.out.size)⟩
end Go.Proofs.Ytbhakpkdkeacmaa.Tq
