/-
  The walk of TimerqDivides.
-/
import Derived.Test.YtbhakpkdkeacmaaTqPlays
import Derived.Test.YtbhakpkdkeacmaaTqDivMath
namespace Go.Proofs.Ytbhakpkdkeacmaa.Tq
open Go.RowKit Go.Maps

/-- A slice of u64 among the arguments, as it is read. -/
structure U64In (w : World) (A : Option Addr) (n : Nat) (ts : List Int) : Prop where
  bd : n ≤ 9223372036854775807
  wf : ∀ t ∈ ts, 0 ≤ t ∧ t ≤ 18446744073709551615
  len : ts.length = n
  rd : 0 < n → ∃ b off, A = some ⟨b, off, none⟩ ∧ b < w.heap.size ∧ ∀ i z, ts[i]? = some z → w.cell? ⟨b, off + i, none⟩ = some (.int .u64 z)
theorem U64In.of_row {w : World} {a : Option Addr} {len cap : Nat} {zs : List Int}
    (h : (a = none ∧ len = 0 ∧ cap = 0 ∧ zs = []) ∨ ∃ x, a = some x ∧ len ≤ cap ∧ cap ≤ maxLen ∧ zs.length = cap ∧ (∀ i, i < zs.length → w.cell? (x.add i) = some (.int .u64 (zs.getD i 0))) ∧ ∀ n ∈ zs, (Lit.int .u64 n).wf = true) :
    U64In w a len (zs.take len) := by
  rcases h with ⟨rfl, rfl, rfl, rfl⟩ | ⟨x, rfl, hl, hm, hz, hc, hw⟩
  · exact ⟨by omega, fun z hz => by simp at hz, rfl, fun hn => by omega⟩
  · refine ⟨by unfold maxLen at hm; omega, fun z hz => u64_bd (hw z (List.mem_of_mem_take hz)), by rw [List.length_take]; omega, fun hn => ?_⟩
    obtain ⟨b, off, spot⟩ := x
    have h0 := hc 0 (by omega)
    have hs : spot = none := by simpa [Addr.add] using World.cell?_spot h0
    subst hs
    refine ⟨b, off, rfl, World.block_lt_of_cell? _ _ h0, fun i z hi => ?_⟩
    have hil : i < len := by have := (List.getElem?_eq_some_iff.1 hi).1; rw [List.length_take] at this; omega
    rw [List.getElem?_take, if_pos hil] at hi
    have := hc i (by omega)
    rw [Addr.add_lit] at this
    rw [this, List.getD_eq_getElem?_getD, hi]; rfl
theorem IntsIn.below {w w' : World} {B : Nat} {A : Option Addr} {n : Nat} {zs : List Int} (h : IntsIn w A n zs) (hb : Below B w w') (hB : w.heap.size ≤ B) : IntsIn w' A n zs :=
  ⟨h.bd, h.wf, h.len, fun hn => by
    obtain ⟨b, off, hA, hl, hc⟩ := h.rd hn
    exact ⟨b, off, hA, Nat.lt_of_lt_of_le hl hb.size, fun i z hz => (hb.cell (p := ⟨b, off + i, none⟩) (by show b < B; omega)).trans (hc i z hz)⟩⟩

/-- Two rows that do not lie in one block. -/
def Sep (v u : Value) : Prop := v.ownBlock = none ∨ v.ownBlock ≠ u.ownBlock
theorem Sep.symm {v u : Value} (h : Sep v u) : Sep u v := by
  unfold Sep at *
  cases hu : u.ownBlock with
  | none => exact .inl rfl
  | some k =>
    right
    intro e
    rw [hu, ← e] at h
    rcases h with h | h
    · cases h
    · exact h rfl
theorem own_lt {w : World} {B : Nat} {e : TypeId} {size n : Nat} {v : Value} {xs : List Value} (h : w.ownsRow B e size v n xs) {k : Nat} (hk : v.ownBlock = some k) : k < w.heap.size := by
  obtain ⟨_, cur, hc⟩ := own_type h k hk
  exact heap_lt hc
theorem Sep.step {w : World} {B : Nat} {e : TypeId} {size n : Nat} {v u u' : Value} {xs : List Value} (h : Sep v u) (hv : w.ownsRow B e size v n xs) (hu : u'.ownBlock = u.ownBlock ∨ ∃ k, u'.ownBlock = some k ∧ w.heap.size ≤ k) : Sep v u' := by
  unfold Sep at *
  rcases hu with hu | ⟨k, hk, hl⟩
  · rw [hu]; exact h
  · cases hvb : v.ownBlock with
    | none => exact .inl rfl
    | some j =>
      right
      rw [hk]
      intro e
      have := own_lt hv hvb
      have e : j = k := by simpa using e
      omega
theorem OpsOwn.kept {w w' : World} {B : Nat} {v u : Value} {os : List TOp} (h : OpsOwn w B v os) (hg : w.grownBy w' u.ownBlock) (hs : Sep v u) : OpsOwn w' B v os := ⟨h.1.kept hg hs, h.2⟩
theorem OpsOwn.mono {w : World} {B B' : Nat} {v : Value} {os : List TOp} (h : OpsOwn w B v os) (hB : B' ≤ B) : OpsOwn w B' v os := ⟨h.1.mono hB, h.2⟩
theorem OpsOwn.shape {w : World} {B : Nat} {v : Value} {os : List TOp} (h : OpsOwn w B v os) : ∃ A c, v = .slice A os.length c := own_shape h.1
theorem OpsOwn.at_ {w : World} {B : Nat} {A : Option Addr} {m c : Nat} {os : List TOp} (h : OpsOwn w B (.slice A m c) os) : m = os.length ∧ OpsAt w w.heap.size A m os := by
  obtain ⟨A', c', hv, hat⟩ := h.read
  simp only [Value.slice.injEq] at hv
  obtain ⟨rfl, rfl, rfl⟩ := hv
  exact ⟨rfl, hat⟩
theorem OpsOwn.snoc {w : World} {B : Nat} {v : Value} {os : List TOp} {o : TOp} (h : ∀ x ∈ os, OpWf x) (ho : OpWf o) (hr : w.ownsRow B 33 3 v (os.length + 1) (flatO os ++ [.int .i64 o.kind, .int .i64 o.id, .int .u64 o.time])) : OpsOwn w B v (os ++ [o]) := by
  refine ⟨by rw [List.length_append, flatO_append]; exact hr, fun x hx => ?_⟩
  rcases List.mem_append.1 hx with hx | hx
  · exact h x hx
  · simp at hx; subst hx; exact ho

set_option maxRecDepth 100000 in
set_option maxHeartbeats 4000000 in
theorem TimerqDivides_walk (a0 : Option Addr) (len0 cap0 : Nat) (zs : List Int) (A : Option Addr) (n c : Nat) (us : List Int) (w : World) (h0 : IntsIn w a0 len0 zs) (h1 : U64In w A n us) :
    Calls Try.prog 6 #[.slice a0 len0 cap0, .slice A n c] w (BTrue w) := by
  have H0 := Lib.hid h0
  have H1 := Lib.hid h1
  have hbig := h1.bd
  clear h0 h1
  obtain ⟨i0, hi0, hz0, hz1, hz2⟩ := info_parts Try.info33
  obtain ⟨i1, hj0, hj1, hj2, hj3⟩ := info_parts Try.info3
  by_cases hn : 20 < n
  · have hn' : (20 : Int) < (n : Int) := by omega
    go_enter Try.func6, Try.ntmps6
    go_wp2_with (go_at_call 8; ((with_reducible refine (sane_any _).mono ?_); rintro e w1 ⟨rfl, hb⟩; have B0 := Lib.hid hb; clear hb))
    go_ret
    exact ⟨rfl, B0.out⟩
  · have hn' : (n : Int) ≤ 20 := by omega
    go_enter Try.func6, Try.ntmps6
    go_wp2_with (go_at_call 8; ((with_reducible refine (sane_any _).mono ?_); rintro e w1 ⟨rfl, hb⟩; have B1 := Lib.hid hb; clear hb))
    have HM := Lib.hid (made_any (c := cap0) (H0.out.below B1.out (Nat.le_refl _)))
    go_wp2_with (go_at_call 9; ((with_reducible refine HM.out.mono ?_); rintro e w2 ⟨vx, xs, rfl, hx, hxl, hfine, hb⟩; obtain ⟨Ax, cx, rfl, hatx⟩ := hx.read; have X2 := Lib.hid hatx; have FN := Lib.hid hfine; have B2 := Lib.hid (B1.out.trans (hb.mono B1.out.size)); clear hx hb hatx hfine))
    go_loopg [5, 27] (xs.length + 1) (fun g v i wr => ∃ (k : Nat) (ss : List TOp), i = .int .i64 k ∧ k ≤ xs.length ∧ xs.length - k + 1 ≤ g ∧ ss.length ≤ k ∧ (∀ o ∈ ss, o.kind = 1) ∧ OpsOwn wr w2.heap.size v ss ∧ Below w2.heap.size w2 wr)
    case atStart => exact ⟨0, [], rfl, Nat.zero_le _, by omega, Nat.le_refl _, fun o ho => by simp at ho, ⟨World.ownsRow_nil _ _ _ _, fun o ho => by simp at ho⟩, Below.refl _ _⟩
    case round =>
      obtain ⟨k, ss, rfl, hk, hg, hsl, hs1, ho, hbl⟩ := hrel
      obtain ⟨As, cs, rfl⟩ := ho.shape
      have HO := Lib.hid ho
      have HS := Lib.hid hs1
      have BL := Lib.hid hbl
      have hwr := hbl.size
      clear ho hs1 hbl
      by_cases hkn : k < xs.length
      · obtain ⟨o, hxo⟩ : ∃ o, xs[k]? = some o := ⟨xs[k], List.getElem?_eq_getElem _⟩
        obtain ⟨b, off, rfl, hbB, hcells⟩ := X2.out.at_ (by omega)
        obtain ⟨a0, a1, a2⟩ := hcells k o hxo
        have a0' := (BL.out.cell (p := ⟨b, off + k * 3, none⟩) hbB).trans a0
        have a1' := (BL.out.cell (p := ⟨b, off + k * 3 + 1, none⟩) hbB).trans a1
        have a2' := (BL.out.cell (p := ⟨b, off + k * 3 + 2, none⟩) hbB).trans a2
        have hki : (k : Int) < (xs.length : Int) := by omega
        have OW := Lib.hid (X2.out.wf o (List.mem_of_getElem? hxo))
        clear a0 a1 a2 hcells hxo
        obtain ⟨kd, x, t⟩ := o
        by_cases hk1 : kd = 1
        · subst hk1
          have hgrA : Below wr.heap.size wr ((wr.alloc (.cells #[.int .i64 1, .int .i64 x, .int .u64 t] 33)).alloc (.cells #[.int .i64 1, .int .i64 x, .int .u64 t] 33)) := ((Below.refl _ _).alloc (Nat.le_refl _) _).alloc (by simp) _
          have GA := Lib.hid hgrA
          clear hgrA
          go_wp2_with (at_builtin; refine wpList_append_lies _ rfl (.tmp 34) (.tmp 36) 23 rfl w2.heap.size 33 i0 (.agg #[.int .i64 0, .int .i64 0, .int .u64 0]) 3 24 Try.underlying23 hi0 hz0 hz1 hz2 rfl (by decide) (.slice As ss.length cs) ss.length _ rfl ((HO.out.1.alloc _).alloc _) ⟨wr.heap.size + 1, 0, none⟩ 1 1 [.int .i64 1, .int .i64 x, .int .u64 t] rfl rfl (news3_at (by simp) _ _ _ _) (by simp [Value.oneCell']) (by omega) (by unfold maxLen; omega) (by omega) (by simp; omega) _ rfl ?_; intro g' cap' w5 hown5 hgrow5 hat5 hlt5; have O5 := Lib.hid hown5; have G5 := Lib.hid (show ((wr.alloc (.cells #[.int .i64 1, .int .i64 x, .int .u64 t] 33)).alloc (.cells #[.int .i64 1, .int .i64 x, .int .u64 t] 33)).grownBy w5 (Value.slice As ss.length cs).ownBlock from ⟨hgrow5.os, hgrow5.tape, hgrow5.output, hgrow5.size, hgrow5.block⟩); clear hown5 hgrow5 hat5 hlt5)
          have hB5 := (BL.out.trans (GA.out.mono hwr)).grown G5.out (by simp; omega) (fun j e => (own_type (own_below HO.out.1 GA.out) j e).1)
          go_wp2_with fail
          go_roundg (xs.length - (k + 1) + 1)
          case measure => omega
          case rel =>
            refine ⟨k + 1, ss ++ [⟨1, x, t⟩], by go_num, by omega, Nat.le_refl _, by simp; omega, fun o ho => ?_, OpsOwn.snoc HO.out.2 OW.out O5.out, hB5⟩
            rcases List.mem_append.1 ho with ho | ho
            · exact HS.out o ho
            · simp at ho; subst ho; rfl
        · have hB5 : Below w2.heap.size w2 (wr.alloc (.cells #[.int .i64 kd, .int .i64 x, .int .u64 t] 33)) := BL.out.alloc hwr _
          have hO5 : OpsOwn (wr.alloc (.cells #[.int .i64 kd, .int .i64 x, .int .u64 t] 33)) w2.heap.size (.slice As ss.length cs) ss := ⟨HO.out.1.alloc _, HO.out.2⟩
          have B5 := Lib.hid hB5
          have O5 := Lib.hid hO5
          clear hB5 hO5
          go_wp2_with fail
          go_roundg (xs.length - (k + 1) + 1)
          case measure => omega
          case rel => exact ⟨k + 1, ss, by go_num, by omega, Nat.le_refl _, by omega, HS.out, O5.out, B5.out⟩
      · have hkk : ¬ (k : Int) < (xs.length : Int) := by omega
        have hlx : ss.length ≤ 120 := by omega
        clear hkn hk hg
        have hl0 : Below wr.heap.size wr (wr.alloc (.cells #[] 33)) := (Below.refl _ _).alloc (Nat.le_refl _) _
        have L0 := Lib.hid hl0
        clear hl0
        go_wp2_with (first
          | (at_builtin; refine wpList_append_row _ rfl (.tmp 39) (.tmp 40) 23 rfl w2.heap.size w2.heap.size 33 i0 (.agg #[.int .i64 0, .int .i64 0, .int .u64 0]) 3 24 Try.underlying23 hi0 hz0 hz1 hz2 rfl (by decide) (.slice (some ⟨wr.heap.size, 0, none⟩) 0 0) 0 [] rfl (World.ownsRow_lit wr #[] 0 hwr (by unfold maxLen; omega) (by simp)) (.slice As ss.length cs) ss.length (flatO ss) rfl (HO.out.1.alloc _) (flatO_one _) (by unfold maxLen; omega) (by omega) (by simp; omega) ?_; intro v3 w3 hown hgrow hat; have bw3 : Below wr.heap.size wr w3 := L0.out.grown hgrow (by simp) (fun k e => by simp [Value.ownBlock] at e; omega); have O3 := Lib.hid (show OpsOwn w3 w2.heap.size v3 ss from ⟨by simpa using hown, HO.out.2⟩); have BW3 := Lib.hid bw3; have hw3 := bw3.size; clear hown hgrow hat bw3)
          | (at_builtin; refine wpList_append_row _ rfl (.tmp 42) (.tmp 43) 23 rfl w3.heap.size w2.heap.size 33 i0 (.agg #[.int .i64 0, .int .i64 0, .int .u64 0]) 3 24 Try.underlying23 hi0 hz0 hz1 hz2 rfl (by decide) (.slice (some ⟨w3.heap.size, 0, none⟩) 0 0) 0 [] rfl (World.ownsRow_lit w3 #[] 0 (Nat.le_refl _) (by unfold maxLen; omega) (by simp)) (.slice As ss.length cs) ss.length (flatO ss) rfl ((own_below HO.out.1 BW3.out).alloc _) (flatO_one _) (by unfold maxLen; omega) (by omega) (by simp) ?_; intro v4 w4 hown hgrow hat; have O4 := Lib.hid (show OpsOwn w4 w3.heap.size v4 ss from ⟨by simpa using hown, HO.out.2⟩); have G4 := Lib.hid hgrow; clear hown hgrow hat))
        have hb4 : Below w3.heap.size w3 w4 := ((Below.refl w3.heap.size w3).alloc (Nat.le_refl _) (.cells #[] 33)).grown G4.out (by simp) (fun k e => by simp [Value.ownBlock] at e; omega)
        have hS43 : Sep v4 v3 := by
          unfold Sep
          cases hvb : v4.ownBlock with
          | none => exact .inl rfl
          | some k =>
            right
            intro e
            have h1 := own_lt O3.out.1 e.symm
            have h2 := (own_type O4.out.1 k hvb).1
            omega
        have M4 := Lib.hid (O3.out.below hb4)
        have N4 := Lib.hid (O4.out.mono (B' := w2.heap.size) (by omega))
        have SP := Lib.hid hS43
        have B4 := Lib.hid (BL.out.trans ((BW3.out.trans (hb4.mono hw3)).mono hwr))
        clear hb4 hS43
        obtain ⟨A3, c3, rfl⟩ := O3.out.shape
        obtain ⟨A4, c4, rfl⟩ := O4.out.shape
        obtain ⟨S, hSS⟩ : ∃ S, S = w2.heap.size := ⟨_, rfl⟩
        rw [← hSS] at M4 N4 B4
        have hS4 := B4.out.size
        clear O3 BW3 O4 G4 L0 hw3 HO BL hwr
        obtain ⟨ts, hts⟩ : ∃ ts, ts = us.map (· % 50) := ⟨_, rfl⟩
        have htl : ts.length = n := by rw [hts, List.length_map, H1.out.len]
        have htb : ∀ t ∈ ts, 0 ≤ t ∧ t < 50 := fun t ht => by rw [hts] at ht; obtain ⟨u, hu, rfl⟩ := List.mem_map.1 ht; have := H1.out.wf u hu; omega
        have HT := Lib.hid hts
        have TL := Lib.hid htl
        have TB := Lib.hid htb
        clear hts htl htb
        go_loopg [8, 10, 47] (n + 1) (fun g vm vl i wr => ∃ k : Nat, i = .int .i64 k ∧ k ≤ n ∧ n - k + 1 ≤ g ∧ vl = .int .u64 (lastOf 0 (ts.take k)) ∧ OpsOwn wr S vm (ss ++ (ts.take k).map adv) ∧ OpsOwn wr S (.slice A4 ss.length c4) ss ∧ Sep (.slice A4 ss.length c4) vm ∧ Below S w2 wr)
        case atStart => exact ⟨0, rfl, Nat.zero_le _, by omega, rfl, by simpa using M4.out, N4.out, SP.out, B4.out⟩
        case round =>
          obtain ⟨k, rfl, hk, hg, rfl, hm, h1, hsp, hbl⟩ := hrel
          obtain ⟨Am, cm, rfl⟩ := hm.shape
          have hml : (ss ++ (ts.take k).map adv).length = ss.length + k := by rw [List.length_append, List.length_map, List.length_take, TL.out]; omega
          rw [hml] at hm hsp ⊢
          have hrow : wr.ownsRow S 33 3 (.slice Am (ss.length + k) cm) (ss.length + k) (flatO (ss ++ (ts.take k).map adv)) := by have := hm.1; rwa [hml] at this
          have ML := Lib.hid hml
          have HMm := Lib.hid hm
          have RW := Lib.hid hrow
          have HO1 := Lib.hid h1
          have SP1 := Lib.hid hsp
          have BL := Lib.hid hbl
          have hwr := hbl.size
          have hlb := lastOf_bd (ts.take k) (fun t ht => TB.out t (List.mem_of_mem_take ht))
          clear hm h1 hsp hbl hml hrow
          by_cases hkn : k < n
          · have hki : (k : Int) < (n : Int) := by omega
            obtain ⟨u, hu⟩ : ∃ u, us[k]? = some u := ⟨us[k]'(by have := H1.out.len; omega), List.getElem?_eq_getElem _⟩
            obtain ⟨b, off, rfl, hbB, hcells⟩ := H1.out.rd (by omega)
            have hwu := H1.out.wf u (List.mem_of_getElem? hu)
            have a0 := (BL.out.cell (p := ⟨b, off + k, none⟩) (by show b < S; have := B2.out.size; omega)).trans ((B2.out.cell (p := ⟨b, off + k, none⟩) hbB).trans (hcells k u hu))
            have ht : ts[k]? = some (u % 50) := by rw [HT.out, List.getElem?_map, hu]; rfl
            have hnx : lastOf 0 (ts.take (k + 1)) = max (lastOf 0 (ts.take k)) (u % 50) := by rw [take_snoc' ht, lastOf_snoc]
            have NX := Lib.hid hnx
            have HTK := Lib.hid ht
            have hu0 := Int.emod_nonneg u (show (50 : Int) ≠ 0 by omega)
            have hu1 := Int.emod_lt_of_pos u (show (0 : Int) < 50 by omega)
            clear hnx hcells hu ht
            generalize lastOf 0 (ts.take k) = la at *
            have hgrA : Below wr.heap.size wr (wr.alloc (.cells #[.int .i64 3, .int .i64 0, .int .u64 (u % 50)] 33)) := (Below.refl _ _).alloc (Nat.le_refl _) _
            have GA := Lib.hid hgrA
            clear hgrA
            have key : ∀ (g' cap' : Nat) (w5 : World), w5.ownsRow S 33 3 (.slice (some ⟨g', 0, none⟩) (ss.length + k + 1) cap') (ss.length + k + 1) (flatO (ss ++ (ts.take k).map adv) ++ [.int .i64 3, .int .i64 0, .int .u64 (u % 50)]) →
                (wr.alloc (.cells #[.int .i64 3, .int .i64 0, .int .u64 (u % 50)] 33)).grownBy w5 (Value.slice Am (ss.length + k) cm).ownBlock → ((Value.slice Am (ss.length + k) cm).ownBlock = some g' ∨ g' = (wr.alloc (.cells #[.int .i64 3, .int .i64 0, .int .u64 (u % 50)] 33)).heap.size) →
                OpsOwn w5 S (.slice (some ⟨g', 0, none⟩) (ss.length + k + 1) cap') (ss ++ (ts.take (k + 1)).map adv) ∧ OpsOwn w5 S (.slice A4 ss.length c4) ss ∧ Sep (.slice A4 ss.length c4) (.slice (some ⟨g', 0, none⟩) (ss.length + k + 1) cap') ∧ Below S w2 w5 := by
              intro g' cap' w5 hown hgrow hat
              refine ⟨?_, ?_, ?_, ?_⟩
              · rw [take_snoc' HTK.out, List.map_append, ← List.append_assoc]
                exact OpsOwn.snoc HMm.out.2 ⟨rfl, rfl, WalkArith.wf_u64 (by show _ ∧ _; simp [adv]; omega)⟩ (by rw [ML.out]; exact hown)
              · exact OpsOwn.kept (HO1.out.below GA.out) hgrow SP1.out
              · exact SP1.out.step (own_below HO1.out.1 GA.out) (by
                  rcases hat with h | h
                  · exact .inl (by rw [h]; rfl)
                  · exact .inr ⟨g', rfl, by omega⟩)
              · exact (BL.out.trans (GA.out.mono (by omega))).grown hgrow (by simp; omega) (fun j e => (own_type (own_below RW.out GA.out) j e).1)
            have KEY := Lib.hid key
            clear key
            go_wp2_with (at_builtin; refine wpList_append_lies _ rfl (.tmp 51) (.tmp 55) 23 rfl S 33 i0 (.agg #[.int .i64 0, .int .i64 0, .int .u64 0]) 3 24 Try.underlying23 hi0 hz0 hz1 hz2 rfl (by decide) (.slice Am (ss.length + k) cm) (ss.length + k) _ rfl (RW.out.alloc _) ⟨wr.heap.size, 0, none⟩ 1 1 [.int .i64 3, .int .i64 0, .int .u64 (u % 50)] rfl rfl (news_three wr _ _ _ _) (by simp [Value.oneCell']) (by omega) (by unfold maxLen; omega) (by omega) (by simp; omega) _ rfl ?_; intro g' cap' w5 hown5 hgrow5 hat5 hlt5; have K5 := Lib.hid (KEY.out g' cap' w5 hown5 hgrow5 hat5); clear hown5 hgrow5 hat5 hlt5)
            all_goals
              obtain ⟨k1, k2, k3, k4⟩ := K5.out
              go_roundg (n - (k + 1) + 1)
              case measure => omega
              case rel => exact ⟨k + 1, by go_num, by omega, Nat.le_refl _, by rw [NX.out]; congr 1; omega, k1, k2, k3, k4⟩
          · have hkk : k = n := by omega
            have hki : ¬ (k : Int) < (n : Int) := by omega
            subst hkk
            rw [show ts.take k = ts from by rw [← TL.out]; exact List.take_length] at *
            have hgrA : Below wr.heap.size wr (wr.alloc (.cells #[.int .i64 3, .int .i64 0, .int .u64 (lastOf 0 ts)] 33)) := (Below.refl _ _).alloc (Nat.le_refl _) _
            have GA := Lib.hid hgrA
            have hdv : 0 < k → firedOf (play [] 0 (ss ++ ts.map adv)) = firedOf (play [] 0 (ss ++ [adv (lastOf 0 ts)])) := fun hk0 => by
              have h9 := TL.out
              match ts, h9 with
              | [], h9 => simp at h9; omega
              | t :: us, _ => exact divides ss HS.out t us
            have DV := Lib.hid hdv
            clear hgrA hdv
            go_wp2_with (first
              | (at_builtin; refine wpList_append_lies _ rfl (.tmp 62) (.tmp 65) 23 rfl S 33 i0 (.agg #[.int .i64 0, .int .i64 0, .int .u64 0]) 3 24 Try.underlying23 hi0 hz0 hz1 hz2 rfl (by decide) (.slice A4 ss.length c4) ss.length _ rfl (HO1.out.1.alloc _) ⟨wr.heap.size, 0, none⟩ 1 1 [.int .i64 3, .int .i64 0, .int .u64 (lastOf 0 ts)] rfl rfl (news_three wr _ _ _ _) (by simp [Value.oneCell']) (by omega) (by unfold maxLen; omega) (by omega) (by simp; omega) _ rfl ?_; intro g' cap' w5 hown5 hgrow5 hat5 hlt5; have hB5 := (BL.out.trans (GA.out.mono (by omega))).grown hgrow5 (by simp; omega) (fun j e => (own_type (own_below HO1.out.1 GA.out) j e).1); have B5 := Lib.hid (B2.out.trans (hB5.mono (by have := B2.out.size; omega))); have hM5 := ((HMm.out.below GA.out).kept hgrow5 SP1.out.symm).at_; have M5 := Lib.hid hM5.2; have O5 := Lib.hid (OpsOwn.snoc HO1.out.2 (show OpWf (adv (lastOf 0 ts)) from ⟨rfl, rfl, WalkArith.wf_u64 (by simp [adv]; omega)⟩) hown5); clear hown5 hgrow5 hat5 hlt5 hB5 hM5)
              | (go_at_call 11; ((with_reducible refine (play_any M5.out (by omega)).mono ?_); rintro e w6 ⟨v6, rfl, hr6, hb6⟩; obtain ⟨A6, c6, rfl⟩ := hr6.shape; rw [play_length, ML.out]; rw [play_length, ML.out] at hr6; have R6 := Lib.hid hr6; have B6 := Lib.hid hb6; clear hr6 hb6)))
            obtain ⟨reps, hreps⟩ : ∃ reps, reps = play [] 0 (ss ++ ts.map adv) := ⟨_, rfl⟩
            have hrl : reps.length = ss.length + k := by rw [hreps, play_length, ML.out]
            have hrf : ∀ r ∈ reps, r.fired.length ≤ 1000 := by rw [hreps]; exact play_fired [] 0 _ (by simp)
            have hR6 := R6.out
            have hDV := DV.out
            rw [← hreps] at hR6 hDV
            have P6 := Lib.hid hR6
            have DV6 := Lib.hid hDV
            have RF := Lib.hid hrf
            have RLh := Lib.hid hrl
            clear hreps hrl hrf hR6 hDV
            have hs6 := B6.out.size
            go_loopg [13, 70] (ss.length + k + 1) (fun g va i wr => ∃ j : Nat, i = .int .i64 j ∧ j ≤ ss.length + k ∧ ss.length + k - j + 1 ≤ g ∧ FiredAt wr w6.heap.size va (firedOf (reps.take j)) ∧ Below w6.heap.size w6 wr)
            case atStart => exact ⟨0, rfl, Nat.zero_le _, by omega, World.ownsRow_nil _ _ _ _, Below.refl _ _⟩
            case round =>
              obtain ⟨j, rfl, hj, hg, hfa, hbl⟩ := hrel
              obtain ⟨Aa, ca, rfl⟩ := own_shape hfa
              have hwr := hbl.size
              have HFA := Lib.hid hfa
              have BL6 := Lib.hid hbl
              clear hfa hbl
              by_cases hjn : j < ss.length + k
              · have hji : (j : Int) < ((ss.length + k : Nat) : Int) := by omega
                obtain ⟨r, hr⟩ : ∃ r, reps[j]? = some r := ⟨reps[j]'(by have := RLh.out; omega), List.getElem?_eq_getElem _⟩
                obtain ⟨gb, f, rfl, hBg, hgl, q0, q1, q2, hf⟩ := (P6.out.below BL6.out).get hr
                obtain ⟨Af, cf, rfl⟩ := own_shape hf
                have hfl := RF.out r (List.mem_of_getElem? hr)
                have hsum := fired_len_le (reps.take j) (fun x hx => RF.out x (List.mem_of_mem_take hx))
                have htk := fired_take hr
                rw [List.length_take] at hsum
                have HFf := Lib.hid hf
                have HTK := Lib.hid htk
                clear hf htk hr
                have hfb : (firedOf (reps.take j)).length ≤ 140000 := by omega
                clear hsum
                generalize firedOf (reps.take j) = fl at *
                have hgrA : Below wr.heap.size wr (wr.alloc (.cells #[.int .i64 r.code, .slice Af r.fired.length cf, .int .u64 r.time] 39)) := (Below.refl _ _).alloc (Nat.le_refl _) _
                have GA := Lib.hid hgrA
                clear hgrA
                go_wp2_with (at_builtin; refine wpList_append_row _ rfl (.tmp 74) (.tmp 76) 22 rfl w6.heap.size w5.heap.size 3 i1 (.int .i64 0) 1 8 Try.underlying22 hj0 hj1 hj2 hj3 rfl (by decide) (.slice Aa fl.length ca) fl.length (fl.map (Value.int .i64)) rfl (HFA.out.alloc _) (.slice Af r.fired.length cf) r.fired.length (r.fired.map (Value.int .i64)) rfl (HFf.out.alloc _) (by simp [Value.oneCell']) (by unfold maxLen; omega) (by omega) (by simp; omega) ?_; intro v7 w7 hown hgrow hat; have A7 := Lib.hid (show FiredAt w7 w6.heap.size v7 (fl ++ r.fired) from (by show w7.ownsRow _ _ _ _ _ _; rw [List.length_append, List.map_append]; exact hown)); have B7 := Lib.hid ((BL6.out.trans (GA.out.mono hwr)).grown hgrow (by simp; omega) (fun j e => (own_type (own_below HFA.out GA.out) j e).1)); clear hown hgrow hat)
                go_roundg (ss.length + k - (j + 1) + 1)
                case measure => omega
                case rel => exact ⟨j + 1, by go_num, by omega, Nat.le_refl _, by rw [HTK.out]; exact A7.out, B7.out⟩
              · have hji : ¬ (j : Int) < ((ss.length + k : Nat) : Int) := by omega
                have e1 : reps.take j = reps := by rw [show j = reps.length from by have := RLh.out; omega]; exact List.take_length
                rw [e1] at HFA ⊢
                have hO := ((O5.out.below B6.out).below BL6.out).at_
                have OW := Lib.hid hO.2
                have hsz : (firedOf reps).length ≤ 140000 := by
                  have := fired_len_le reps RF.out
                  have := RLh.out
                  omega
                have Bw := Lib.hid ((B5.out.trans (B6.out.mono B5.out.size)).trans (BL6.out.mono (by have := B5.out.size; omega)))
                clear hO
                have hol : (ss ++ [adv (lastOf 0 ts)]).length = ss.length + 1 := by simp
                have OL := Lib.hid hol
                clear hol
                obtain ⟨one, hone⟩ : ∃ one, one = ss ++ [adv (lastOf 0 ts)] := ⟨_, rfl⟩
                rw [← hone] at OW OL DV6
                go_wp2_with (go_at_call 11; ((with_reducible refine (play_any OW.out (by omega)).mono ?_); rintro e w8 ⟨v8, rfl, hr8, hb8⟩; obtain ⟨A8, c8, rfl⟩ := hr8.shape; rw [play_length, OL.out]; rw [play_length, OL.out] at hr8; have R8 := Lib.hid hr8; have B8 := Lib.hid hb8; have F8 := Lib.hid (own_below HFA.out hb8); clear hr8 hb8))
                obtain ⟨rep2, hrep2⟩ : ∃ rep2, rep2 = play [] 0 one := ⟨_, rfl⟩
                have hrl2 : rep2.length = ss.length + 1 := by rw [hrep2, play_length, OL.out]
                have hrf2 : ∀ r ∈ rep2, r.fired.length ≤ 1000 := by rw [hrep2]; exact play_fired [] 0 _ (by simp)
                have hR8 := R8.out
                have hDV2 := DV6.out
                rw [← hrep2] at hR8 hDV2
                have P8 := Lib.hid hR8
                have DV8 := Lib.hid hDV2
                have RF2 := Lib.hid hrf2
                have RL2 := Lib.hid hrl2
                clear hrep2 hrl2 hrf2 hR8 hDV2
                have hs8 := B8.out.size
                go_loopg [14, 82] (ss.length + 1 + 1) (fun g va i w9 => ∃ j : Nat, i = .int .i64 j ∧ j ≤ ss.length + 1 ∧ ss.length + 1 - j + 1 ≤ g ∧ FiredAt w9 w8.heap.size va (firedOf (rep2.take j)) ∧ Below w8.heap.size w8 w9)
                case atStart => exact ⟨0, rfl, Nat.zero_le _, by omega, World.ownsRow_nil _ _ _ _, Below.refl _ _⟩
                case round =>
                  have hB8w : Below w.heap.size w w8 := Bw.out.trans (B8.out.mono Bw.out.size)
                  have B8w := Lib.hid hB8w
                  clear hB8w
                  obtain ⟨j, rfl, hj, hg, hfa, hbl⟩ := hrel
                  obtain ⟨Ab, cb, rfl⟩ := own_shape hfa
                  have hwr := hbl.size
                  have HFB := Lib.hid hfa
                  have BL8 := Lib.hid hbl
                  clear hfa hbl
                  by_cases hjn : j < ss.length + 1
                  · have hji : (j : Int) < ((ss.length + 1 : Nat) : Int) := by omega
                    obtain ⟨r, hr⟩ : ∃ r, rep2[j]? = some r := ⟨rep2[j]'(by have := RL2.out; omega), List.getElem?_eq_getElem _⟩
                    obtain ⟨gb, f, rfl, hBg, hgl, q0, q1, q2, hf⟩ := (P8.out.below BL8.out).get hr
                    obtain ⟨Af, cf, rfl⟩ := own_shape hf
                    have hfl := RF2.out r (List.mem_of_getElem? hr)
                    have hsum := fired_len_le (rep2.take j) (fun x hx => RF2.out x (List.mem_of_mem_take hx))
                    have htk := fired_take hr
                    rw [List.length_take] at hsum
                    have HFf := Lib.hid hf
                    have HTK := Lib.hid htk
                    clear hf htk hr
                    have hfb : (firedOf (rep2.take j)).length ≤ 140000 := by omega
                    clear hsum
                    generalize firedOf (rep2.take j) = fl at *
                    have hgrA : Below wr.heap.size wr (wr.alloc (.cells #[.int .i64 r.code, .slice Af r.fired.length cf, .int .u64 r.time] 39)) := (Below.refl _ _).alloc (Nat.le_refl _) _
                    have GA := Lib.hid hgrA
                    clear hgrA
                    go_wp2_with (at_builtin; refine wpList_append_row _ rfl (.tmp 86) (.tmp 88) 22 rfl w8.heap.size _ 3 i1 (.int .i64 0) 1 8 Try.underlying22 hj0 hj1 hj2 hj3 rfl (by decide) (.slice Ab fl.length cb) fl.length (fl.map (Value.int .i64)) rfl (HFB.out.alloc _) (.slice Af r.fired.length cf) r.fired.length (r.fired.map (Value.int .i64)) rfl (HFf.out.alloc _) (by simp [Value.oneCell']) (by unfold maxLen; omega) (by omega) (by simp; omega) ?_; intro v9 w9 hown hgrow hat; have A9 := Lib.hid (show FiredAt w9 w8.heap.size v9 (fl ++ r.fired) from (by show w9.ownsRow _ _ _ _ _ _; rw [List.length_append, List.map_append]; exact hown)); have B9 := Lib.hid ((BL8.out.trans (GA.out.mono hwr)).grown hgrow (by simp; omega) (fun j e => (own_type (own_below HFB.out GA.out) j e).1)); clear hown hgrow hat)
                    go_roundg (ss.length + 1 - (j + 1) + 1)
                    case measure => omega
                    case rel => exact ⟨j + 1, by go_num, by omega, Nat.le_refl _, by rw [HTK.out]; exact A9.out, B9.out⟩
                  · have hji : ¬ (j : Int) < ((ss.length + 1 : Nat) : Int) := by omega
                    have e1 : rep2.take j = rep2 := by rw [show j = rep2.length from by have := RL2.out; omega]; exact List.take_length
                    rw [e1] at HFB ⊢
                    have hFA := own_below F8.out BL8.out
                    have FA := Lib.hid hFA
                    clear hFA
                    by_cases hk0 : k = 0
                    · have hk0' : (k : Int) = 0 := by omega
                      go_wp2_with fail
                      go_ret
                      exact ⟨rfl, B8w.out.trans (BL8.out.mono B8w.out.size)⟩
                    · have hk0' : ¬ (k : Int) = 0 := by omega
                      have hdv := DV8.out (by omega)
                      rw [hdv] at FA hsz ⊢
                      obtain ⟨A', c', hv', hrd'⟩ := FiredAt.rd HFB.out
                      simp only [Value.slice.injEq] at hv'
                      obtain ⟨rfl, _, rfl⟩ := hv'
                      obtain ⟨A', c', hv', hra'⟩ := FiredAt.rd FA.out
                      simp only [Value.slice.injEq] at hv'
                      obtain ⟨rfl, _, rfl⟩ := hv'
                      have DA := Lib.hid hra'
                      have DB := Lib.hid hrd'
                      clear hdv hra' hrd'
                      go_wp2_with (go_at_call 14; ((with_reducible refine (sameInts_eq DA.out DB.out (by omega)).mono ?_); rintro e w10 ⟨rfl, q, rfl⟩))
                      go_ret
                      exact ⟨rfl, (B8w.out.trans (BL8.out.mono B8w.out.size)).trans ((below_drewN _ _).mono (by have := B8w.out.size; omega))⟩
end Go.Proofs.Ytbhakpkdkeacmaa.Tq
