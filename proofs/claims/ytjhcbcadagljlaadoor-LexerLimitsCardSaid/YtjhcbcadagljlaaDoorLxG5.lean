/-
  Layer 5, the program: the parts of strings.
-/
import Derived.Test.YtjhcbcadagljlaaDoorLxG4
namespace Go.Proofs.YtjhcbcadagljlaaDoor.Lx
open Go.RowKit

/-- What the package-level variables hold that are read. -/
structure ET (w : World) : Prop where
  et : w.cell? ⟨0, 0, none⟩ = some (.iface 93 (.agg #[.pointer (some ⟨7, 41, none⟩)]))
  es : ∃ t p, w.cell? ⟨2, 0, none⟩ = some (.iface t p)
theorem ET.below {w w' : World} (h : ET w) (hb : Below w.heap.size w w') : ET w' := by
  obtain ⟨t, p, hp⟩ := h.es
  exact ⟨(hb.cell (World.block_lt_of_cell? w _ h.et)).trans h.et, t, p, (hb.cell (World.block_lt_of_cell? w _ hp)).trans hp⟩
theorem ET.of {w0 w w' : World} (h : ET w0) (hb : Below w0.heap.size w0 w) (hc : Below w.heap.size w w') : ET w' := (h.below hb).below hc

def UPost (w : World) (x y : Int) (e : Ending) (w' : World) : Prop :=
  Below w.heap.size w w' ∧ ((∃ v, hex2 x y = some v ∧ e = .returned (.tuple #[.int .u64 v, .nilIface])) ∨ (hex2 x y = none ∧ ∃ t p, e = .returned (.tuple #[.int .u64 0, .iface t p])))
theorem UPost.ok {w w' : World} {x y v : Int} {e : Ending} (h : UPost w x y e w') (hv : hex2 x y = some v) : e = .returned (.tuple #[.int .u64 v, .nilIface]) := by
  rcases h.2 with ⟨u, hu, he⟩ | ⟨hu, _⟩
  · rw [hv] at hu
    obtain rfl := Option.some.inj hu
    exact he
  · rw [hv] at hu; simp at hu
theorem UPost.bad {w w' : World} {x y : Int} {e : Ending} (h : UPost w x y e w') (hv : hex2 x y = none) : ∃ t p, e = .returned (.tuple #[.int .u64 0, .iface t p]) := by
  rcases h.2 with ⟨u, hu, _⟩ | ⟨_, he⟩
  · rw [hv] at hu; simp at hu
  · exact he
theorem hexPart_hex2 (x y : Int) (r : List Int) : hexPart (x :: y :: r) = (hex2 x y).map fun v => (v, 4) := by
  unfold hex2
  cases hu : half x with
  | none => rw [hexPart_no1 hu]; rfl
  | some u =>
    cases hv : half y with
    | none => rw [hexPart_no2 hv]; rfl
    | some v => rw [hexPart_ok hu hv]; rfl
theorem hex2_bd {x y v : Int} (hv : hex2 x y = some v) : 0 ≤ v ∧ v ≤ 255 := by
  unfold hex2 at hv
  cases hu : half x with
  | none => rw [hu] at hv; simp at hv
  | some p =>
    cases hw : half y with
    | none => rw [hu, hw] at hv; simp at hv
    | some q =>
      rw [hu, hw] at hv
      have := half_bd hu
      have := half_bd hw
      simp at hv
      omega
set_option maxRecDepth 100000 in
set_option maxHeartbeats 2000000 in
theorem uint_any {s : ByteArray} {x y : Int} (hs : ch s = [x, y]) (w : World) (h : ET w) : Calls Tryd.prog 50 #[.string s, .int .i64 16, .int .i64 8] w (UPost w x y) := by
  have hsz : s.size = 2 := by rw [← ch_length, hs]; rfl
  have HP := Lib.hid (fun W => pu_any hs W)
  unfold VPost puV at HP
  have H := Lib.hid h
  clear hs h
  cases hh : hex2 x y with
  | some v =>
    rw [hh] at HP
    have E := Lib.hid hh
    clear hh
    go_enter Tryd.func50, Tryd.ntmps50
    go_wp2_with (go_at_call 54; ((with_reducible refine (HP.out _).mono ?_); rintro e w1 ⟨rfl, hb1⟩; have B1 := Lib.hid hb1; clear hb1))
    go_ret2
    exact ⟨B1.out, .inl ⟨v, E.out, rfl⟩⟩
  | none =>
    rw [hh] at HP
    have E := Lib.hid hh
    clear hh
    go_enter Tryd.func50, Tryd.ntmps50
    go_wp2_with (first
      | (go_at_call 54; ((with_reducible refine (HP.out _).mono ?_); rintro e w1 ⟨rfl, hb1⟩; have B1 := Lib.hid hb1; clear hb1))
      | (go_at_call 55; ((obtain ⟨t0, p0, hp0⟩ := (H.out.below B1.out).es); (refine (Tryd.strconv_toError_syntax _ _ _ _ (.iface t0 p0) _ (by omega) hp0 (.inr ⟨_, _, rfl⟩)).mono ?_); rintro e w2 ⟨N, rfl, _, _, hb2⟩; have B2 := Lib.hid (B1.out.trans (hb2.mono B1.out.size)); clear hb2 hp0)))
    go_ret2
    exact ⟨B2.out, .inr ⟨E.out, _, _, rfl⟩⟩

/-- What stringPart returns. -/
def spV (l : List Int) : Value := match part l with
  | some x => .tuple #[.string (bytesOf [x.1]), .int .i64 x.2]
  | none => .tuple #[.string ⟨#[]⟩, .int .i64 0]
theorem spV_some {l : List Int} {b : Int} {n : Nat} (h : part l = some (b, n)) : spV l = .tuple #[.string (bytesOf [b]), .int .i64 n] := by unfold spV; rw [h]
theorem spV_none {l : List Int} (h : part l = none) : spV l = .tuple #[.string ⟨#[]⟩, .int .i64 0] := by unfold spV; rw [h]
theorem empty_no {s : ByteArray} (h : 0 < s.size) : s.toList.isEmpty = false := by
  rw [← decide_eq_emptyBytes]
  refine decide_eq_false fun e => ?_
  rw [e] at h
  simp at h
theorem empty_yes {s : ByteArray} (h : s.size = 0) : s.toList.isEmpty = true := by
  rw [← decide_eq_emptyBytes]
  have e1 : ch s = [] := List.eq_nil_of_length_eq_zero (by rw [ch_length]; exact h)
  have e2 : ch ByteArray.empty = [] := List.eq_nil_of_length_eq_zero (by rw [ch_length]; rfl)
  exact decide_eq_true (ch_inj (e1.trans e2.symm))
theorem cut_bytes {s : ByteArray} {l m : List Int} (hs : ch s = l) {i j : Nat} (h : (l.take j).drop i = m) : s.extract i j = bytesOf m := by
  rw [← h, ← hs, ← ch_extract, bytesOf_ch]
set_option maxRecDepth 100000 in
set_option maxHeartbeats 2000000 in
theorem spart_any {s : ByteArray} {l : List Int} (hs : ch s = l) (w : World) (h : ET w) : Calls Tryd.prog 41 #[.string s] w (VPost w (spV l)) := by
  have hby : By l := by rw [← hs]; exact ch_By s
  have hsz : s.size = l.length := by rw [← hs, ch_length]
  have hat : ∀ k x, l[k]? = some x → ∃ hk : k < s.size, ((s[k]'hk).toNat : Int) = x := fun k x h => ch_at (by rw [hs]; exact h)
  have HET := Lib.hid h
  clear h
  cases l with
  | nil =>
    have hz : s.size = 0 := hsz
    have hse := empty_yes hz
    have E := Lib.hid (spV_none (show part [] = none from rfl))
    clear hsz hby hat hs
    go_enter Tryd.func41, Tryd.ntmps41
    go_wp2_with fail
    go_ret2
    exact ⟨ret_t (by rw [E.out]; rfl), Below.refl _ _⟩
  | cons a r =>
    have ha := hby a (by simp)
    obtain ⟨h0, x0⟩ := hat 0 a rfl
    have hz1 : (0 : Int) < (s.size : Int) := by omega
    have hse := empty_no h0
    by_cases h32 : a < 32
    · have E := Lib.hid (spV_none (show part (a :: r) = none by rw [part_cons, if_pos (.inl h32)]))
      clear hsz hby hat hs
      go_enter Tryd.func41, Tryd.ntmps41
      go_wp2_with fail
      go_ret2
      exact ⟨ret_t (by rw [E.out]; rfl), Below.refl _ _⟩
    by_cases h34 : a = 34
    · have E := Lib.hid (spV_none (show part (a :: r) = none by rw [part_cons, if_pos (.inr h34)]))
      subst h34
      clear hsz hby hat hs
      go_enter Tryd.func41, Tryd.ntmps41
      go_wp2_with fail
      go_ret2
      exact ⟨ret_t (by rw [E.out]; rfl), Below.refl _ _⟩
    have hq : (a == 34) = false := beq_eq_false_iff_ne.2 h34
    have hge : 32 ≤ a := by omega
    by_cases h92 : a = 92
    · subst h92
      have e0 : part (92 :: r) = escPart r := by rw [part_cons, if_neg (by omega), if_pos rfl]
      cases r with
      | nil =>
        have hs1 : s.size = 1 := hsz
        have E := Lib.hid (spV_none (show part [92] = none by rw [e0]; rfl))
        clear hsz hby hat hs
        go_enter Tryd.func41, Tryd.ntmps41
        go_wp2_with fail
        go_ret2
        exact ⟨ret_t (by rw [E.out]; rfl), Below.refl _ _⟩
      | cons b r =>
        have hb := hby b (by simp)
        obtain ⟨h1, x1⟩ := hat 1 b rfl
        have hs2 : (2 : Int) ≤ (s.size : Int) := by simp at hsz; omega
        have hs1 : ((s.size : Int) == 1) = false := beq_eq_false_iff_ne.2 (by omega)
        have HC := Lib.hid (cut_bytes (i := 1) (j := 2) (m := [b]) hs (by simp))
        rw [escPart_cons] at e0
        by_cases b34 : b = 34
        · subst b34
          rw [if_pos (.inl rfl)] at e0
          have E := Lib.hid (spV_some e0)
          clear hsz hby hat hs
          go_enter Tryd.func41, Tryd.ntmps41
          go_wp2_with fail
          go_ret2
          exact ⟨ret_t (by rw [E.out, ← HC.out]; rfl), Below.refl _ _⟩
        by_cases b92 : b = 92
        · subst b92
          rw [if_pos (.inr rfl)] at e0
          have E := Lib.hid (spV_some e0)
          clear hsz hby hat hs
          go_enter Tryd.func41, Tryd.ntmps41
          go_wp2_with fail
          go_ret2
          exact ⟨ret_t (by rw [E.out, ← HC.out]; rfl), Below.refl _ _⟩
        by_cases b110 : b = 110
        · subst b110
          rw [if_neg (by omega), if_pos rfl] at e0
          have E := Lib.hid (spV_some e0)
          clear hsz hby hat hs
          go_enter Tryd.func41, Tryd.ntmps41
          go_wp2_with fail
          go_ret2
          exact ⟨ret_t (by rw [E.out]; rfl), Below.refl _ _⟩
        by_cases b116 : b = 116
        · subst b116
          rw [if_neg (by omega), if_neg (by omega), if_pos rfl] at e0
          have E := Lib.hid (spV_some e0)
          clear hsz hby hat hs
          go_enter Tryd.func41, Tryd.ntmps41
          go_wp2_with fail
          go_ret2
          exact ⟨ret_t (by rw [E.out]; rfl), Below.refl _ _⟩
        have q34 : (b == 34) = false := beq_eq_false_iff_ne.2 b34
        have q92 : (b == 92) = false := beq_eq_false_iff_ne.2 b92
        have q110 : (b == 110) = false := beq_eq_false_iff_ne.2 b110
        have q116 : (b == 116) = false := beq_eq_false_iff_ne.2 b116
        rw [if_neg (by omega), if_neg b110, if_neg b116] at e0
        by_cases b120 : b = 120
        · subst b120
          rw [if_pos rfl] at e0
          cases r with
          | nil =>
            have hs4 : (s.size : Int) < 4 := by simp at hsz; omega
            have E := Lib.hid (spV_none (show part [92, 120] = none by rw [e0]; rfl))
            clear hsz hby hat hs
            go_enter Tryd.func41, Tryd.ntmps41
            go_wp2_with fail
            go_ret2
            exact ⟨ret_t (by rw [E.out]; rfl), Below.refl _ _⟩
          | cons x r =>
          cases r with
          | nil =>
            have hs4 : (s.size : Int) < 4 := by simp at hsz; omega
            have E := Lib.hid (spV_none (show part [92, 120, x] = none by rw [e0]; rfl))
            clear hsz hby hat hs
            go_enter Tryd.func41, Tryd.ntmps41
            go_wp2_with fail
            go_ret2
            exact ⟨ret_t (by rw [E.out]; rfl), Below.refl _ _⟩
          | cons y r =>
            have hx := hby x (by simp)
            have hy := hby y (by simp)
            have hs4 : (4 : Int) ≤ (s.size : Int) := by simp at hsz; omega
            have hxy : ch (s.extract 2 4) = [x, y] := by rw [ch_extract, hs]; simp
            have HU := Lib.hid (fun W h => uint_any hxy W h)
            have e1 := hexPart_hex2 x y r
            rw [e1] at e0
            have hv2 := fun v (hv : hex2 x y = some v) => hex2_bd hv
            clear hsz hby hat hs e1 hxy
            cases hh : hex2 x y with
            | none =>
              rw [hh] at e0
              have E := Lib.hid (spV_none e0)
              have HH := Lib.hid hh
              clear e0 hh hv2
              go_enter Tryd.func41, Tryd.ntmps41
              go_wp2_with (go_at_call 50; ((refine (HU.out _ HET.out).mono ?_); rintro e w1 ⟨hb1, he⟩; have B1 := Lib.hid hb1; clear hb1; obtain ⟨t1, p1, rfl⟩ := UPost.bad ⟨B1.out, he⟩ HH.out; clear he))
              go_ret2
              exact ⟨ret_t (by rw [E.out]; rfl), B1.out⟩
            | some v =>
              rw [hh] at e0
              have E := Lib.hid (spV_some e0)
              have HH := Lib.hid hh
              obtain ⟨v0, v1⟩ := hv2 v hh
              clear e0 hh hv2
              go_enter Tryd.func41, Tryd.ntmps41
              go_wp2_with (go_at_call 50; ((refine (HU.out _ HET.out).mono ?_); rintro e w1 ⟨hb1, he⟩; have B1 := Lib.hid hb1; clear hb1; obtain rfl := UPost.ok ⟨B1.out, he⟩ HH.out; clear he; have hcv := conv_lst (lst_one w1 v 5) (By.one ⟨v0, v1⟩)))
              go_ret2
              exact ⟨ret_t (by rw [E.out]; rfl), B1.out.trans ((balloc w1 _).mono B1.out.size)⟩
        · have q120 : (b == 120) = false := beq_eq_false_iff_ne.2 b120
          rw [if_neg b120] at e0
          have E := Lib.hid (spV_none e0)
          clear hsz hby hat hs
          go_enter Tryd.func41, Tryd.ntmps41
          go_wp2_with fail
          go_ret2
          exact ⟨ret_t (by rw [E.out]; rfl), Below.refl _ _⟩
    · have hne : (a != 92) = true := bne_iff_ne.2 h92
      have E := Lib.hid (spV_some (show part (a :: r) = some (a, 1) by rw [part_cons, if_neg (by omega), if_neg h92]))
      have HC := Lib.hid (cut_bytes (i := 0) (j := 1) (m := [a]) hs (by simp))
      clear hsz hby hat hs
      go_enter Tryd.func41, Tryd.ntmps41
      go_wp2_with fail
      go_ret2
      exact ⟨ret_t (by rw [E.out, ← HC.out]; rfl), Below.refl _ _⟩
end Go.Proofs.YtjhcbcadagljlaaDoor.Lx
