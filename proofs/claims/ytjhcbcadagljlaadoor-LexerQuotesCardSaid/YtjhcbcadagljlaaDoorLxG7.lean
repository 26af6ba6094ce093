/-
  Layer 5, the program: what is enclosed: strings and patterns.
-/
import Derived.Test.YtjhcbcadagljlaaDoorLxG6
namespace Go.Proofs.YtjhcbcadagljlaaDoor.Lx
open Go.RowKit

/-- A part of a string, with its text as bytes. -/
def spart (l : List Int) : Option (List Int × Nat) := (part l).map fun x => ([x.1], x.2)
theorem spV_spart_some {l t : List Int} {n : Nat} (h : spart l = some (t, n)) : spV l = .tuple #[.string (bytesOf t), .int .i64 n] := by
  unfold spart at h
  cases hp : part l with
  | none => rw [hp] at h; simp at h
  | some x => rw [hp] at h; simp at h; obtain ⟨rfl, rfl⟩ := h; unfold spV; rw [hp]
theorem spV_spart_none {l : List Int} (h : spart l = none) : spV l = .tuple #[.string ⟨#[]⟩, .int .i64 0] := by
  unfold spart at h
  cases hp : part l with
  | none => exact spV_none hp
  | some x => rw [hp] at h; simp at h
theorem spart_len {l t : List Int} {n : Nat} (h : spart l = some (t, n)) : 1 ≤ n ∧ n ≤ l.length ∧ t.length ≤ n ∧ (By l → By t) := by
  unfold spart at h
  cases hp : part l with
  | none => rw [hp] at h; simp at h
  | some x =>
    obtain ⟨b, m⟩ := x
    rw [hp] at h; simp at h; obtain ⟨rfl, rfl⟩ := h
    have := part_inv hp
    exact ⟨this.1, this.2.1, by simp; omega, fun hb => By.one (this.2.2 hb)⟩
theorem spart_mark (r : List Int) : spart (34 :: r) = none := by unfold spart; rw [part_cons, if_pos (.inr rfl)]; rfl
theorem spart_bad {l : List Int} (h0 : l ≠ []) (h1 : l.head? ≠ some 34) (h : spart l = none) : quo l = none := by
  unfold spart at h
  exact quo_bad h0 h1 (by cases hp : part l with
    | none => rfl
    | some x => rw [hp] at h; simp at h)
theorem spart_step {l t : List Int} {k n : Nat} (h : spart (l.drop k) = some (t, n)) : quo (l.drop k) = (quo (l.drop (k + n))).map fun x => (t ++ x.1, x.2 + n) := by
  have h1 : (l.drop k).head? ≠ some 34 := by
    intro e
    cases hd : l.drop k with
    | nil => rw [hd] at e; simp at e
    | cons a r => rw [hd] at e h; simp at e; subst e; rw [spart_mark] at h; simp at h
  unfold spart at h
  cases hp : part (l.drop k) with
  | none => rw [hp] at h; simp at h
  | some x =>
    obtain ⟨b, m⟩ := x
    rw [hp] at h; simp at h; obtain ⟨rfl, rfl⟩ := h
    exact quo_step h1 hp
theorem ppart_mark (r : List Int) : ppart (47 :: r) = none := ppart_low (.inr rfl)
theorem ppart_bad {l : List Int} (h0 : l ≠ []) (h1 : l.head? ≠ some 47) (h : ppart l = none) : sla l = none := by
  match l, h0, h1, h with
  | a :: r, _, h1, h =>
    simp at h1
    by_cases h32 : a < 32
    · exact sla_low h32 h1
    by_cases h92 : a = 92
    · subst h92
      cases r with
      | nil => exact sla_bs1
      | cons b r =>
        rw [ppart_bs2] at h
        by_cases hb : b < 32
        · exact sla_bs2 hb
        · rw [if_neg hb] at h
          split at h <;> simp at h
    · rw [ppart_one (by omega) h92] at h; simp at h
theorem ppart_step {l t : List Int} {k n : Nat} (h : ppart (l.drop k) = some (t, n)) : sla (l.drop k) = (sla (l.drop (k + n))).map fun x => (t ++ x.1, x.2 + n) := by
  rw [← List.drop_drop]
  cases hd : l.drop k with
  | nil => rw [hd] at h; simp [ppart] at h
  | cons a r =>
    rw [hd] at h
    by_cases h0 : a < 32 ∨ a = 47
    · rw [ppart_low h0] at h; simp at h
    by_cases h92 : a = 92
    · subst h92
      cases r with
      | nil => rw [ppart_bs] at h; simp at h
      | cons b r =>
        rw [ppart_bs2] at h
        by_cases hb : b < 32
        · rw [if_pos hb] at h; simp at h
        rw [if_neg hb] at h
        rw [sla_esc hb]
        by_cases b47 : b = 47
        · subst b47
          rw [if_pos rfl] at h
          simp at h; obtain ⟨rfl, rfl⟩ := h; rfl
        · rw [if_neg b47] at h
          simp at h; obtain ⟨rfl, rfl⟩ := h
          simp only [if_neg b47]; rfl
    · rw [ppart_one h0 h92] at h
      simp at h; obtain ⟨rfl, rfl⟩ := h
      exact sla_one (by omega) (by omega) h92
/-- What enclosed returns. -/
def encV (o : Option (List Int × Nat)) : Value := match o with
  | some x => .tuple #[.string (bytesOf x.1), .int .i64 (x.2 + 1)]
  | none => .tuple #[.string ⟨#[]⟩, .int .i64 0]
theorem drN {B : Nat} {w w' : World} (h : Below B w w') (m : Nat) : Below B w (w'.drewN m) := ⟨h.1, h.2, h.3, h.4, h.5⟩
/-- A Builder that nobody else turns. -/
theorem bld_below {w w' : World} {B b : Nat} {l : List Int} (h : Bld w B b l) (hb : Below w.heap.size w w') (_hB : B ≤ w.heap.size) : Bld w' B b l := by
  have key : ∀ p, Lib.BuilderAtF 55 5 B b p (l.map (Value.int .u8)) w → Lib.BuilderAtF 55 5 B b p (l.map (Value.int .u8)) w' := by
    rintro p ⟨h1, v, h2, h3, h4⟩
    refine ⟨h1, v, (hb.block b (heap_lt h2)).trans h2, ⟨h3.1, ?_⟩, h4⟩
    rcases h3.2 with h | ⟨g, cap, cur, fz, e1, e2, e3, e4⟩
    · exact .inl h
    · exact .inr ⟨g, cap, cur, fz, e1, e2, (hb.block g (heap_lt e3)).trans e3, e4⟩
  rcases h with h | h
  · exact .inl (key _ h)
  · exact .inr (key _ h)

set_option maxRecDepth 100000 in
set_option maxHeartbeats 4000000 in
theorem enc_str {s : ByteArray} {r : List Int} (hs : ch s = 34 :: r) (hn : r.length ≤ 100000) (w : World) (h : ET w) : Calls Tryd.prog 40 #[.string s, .func (.func 41) #[] #[]] w (VPost w (encV (quo r))) := by
  have HBY : Hid (By r) := Lib.hid (by have := ch_By s; rw [hs] at this; exact fun x hx => this x (by simp [hx]))
  have HSZ : Hid (s.size = r.length + 1) := Lib.hid (by rw [← ch_length, hs]; rfl)
  have HAT : Hid (∀ k x, r[k]? = some x → ∃ hk : k + 1 < s.size, ((s[k + 1]'hk).toNat : Int) = x) := Lib.hid (fun k x h => ch_at (by rw [hs]; exact h))
  obtain ⟨h0, x0⟩ := ch_at (s := s) (k := 0) (x := 34) (by rw [hs]; rfl)
  have HET := Lib.hid h
  have HP := Lib.hid (fun (k : Nat) (W : World) (hb : Below w.heap.size w W) => spart_any (s := s.extract (k + 1) s.size) (l := r.drop k) (by rw [ch_drop, hs]; rfl) W (HET.out.below hb))
  unfold VPost at HP
  clear hs h
  have B0 := Lib.hid (balloc w (.cells #[.pointer none, .slice none 0 0] 55))
  have K0 := Lib.hid (bld_new w)
  go_enter Tryd.func40, Tryd.ntmps40
  go_wp2_with fail
  go_loopg [7, 8, 9] (r.length + 1) (fun g' i _ _ wr => ∃ (k : Nat) (out : List Int), i = .int .i64 (k + 1) ∧ k ≤ r.length ∧ r.length - k + 1 ≤ g' ∧ Bld wr w.heap.size w.heap.size out ∧ By out ∧ out.length ≤ k ∧ Below w.heap.size w wr ∧ Rest quo r out k)
  case atStart => exact ⟨0, [], rfl, Nat.zero_le _, by omega, K0.out, By.nil, Nat.le_refl _, B0.out, Rest.start _ _⟩
  case round =>
    obtain ⟨k, out, rfl, hk, hg, hown, hbo, hol, hbel, hrest⟩ := hrel
    obtain ⟨wo, rfl⟩ : ∃ wo : World, wo = wr := ⟨_, rfl⟩
    have O0 := Lib.hid hown
    have BO := Lib.hid hbo
    have BW := Lib.hid hbel
    have HR := Lib.hid hrest
    have hks2 : (k : Int) + 1 ≤ (s.size : Int) := by have := HSZ.out; omega
    have HPk := Lib.hid (fun W hb => HP.out k W hb)
    clear hown hbo hbel hrest
    cases hp : spart (r.drop k) with
    | none =>
      rw [spV_spart_none hp] at HPk
      by_cases hkn : k < r.length
      · obtain ⟨x, hx⟩ : ∃ x, r[k]? = some x := ⟨r[k], List.getElem?_eq_getElem hkn⟩
        obtain ⟨hks, x1⟩ := HAT.out k x hx
        have hdr := drop_at hx
        have hneq : ((k : Int) + 1 == (s.size : Int)) = false := beq_eq_false_iff_ne.2 (by omega)
        have hki : (k : Int) + 1 < (s.size : Int) := by omega
        by_cases hm : x = 34
        · subst hm
          have E := Lib.hid (HR.out.done (by rw [hdr]; exact quo_end _))
          clear hx hdr hp
          go_wp2_with (first
            | (go_at_call 41; ((refine (HPk.out _ BW.out).mono ?_); rintro e w1 ⟨rfl, hb1⟩; have B1 := Lib.hid (BW.out.trans (hb1.mono BW.out.size)); have O1 : Hid (Bld w1 w.heap.size w.heap.size out) := Lib.hid (bld_below O0.out hb1 BW.out.size); clear hb1)))
          go_quiet (fail)
          go_wp2_with (go_at_call 20; ((refine (bld_string (show Bld (w1.drewN _) w.heap.size w.heap.size out from O1.out) BO.out B1.out.size).mono ?_); rintro e w2 ⟨rfl, hb2⟩; have B2 := Lib.hid ((drN B1.out _).trans hb2); clear hb2))
          go_ret2
          exact ⟨ret_t (by rw [E.out]; rfl), B2.out⟩
        · have hne : (x != 34) = true := bne_iff_ne.2 hm
          have E := Lib.hid (HR.out.none (spart_bad (by rw [hdr]; simp) (by rw [hdr]; simpa using hm) hp))
          clear hx hdr hp
          go_wp2_with (first
            | (go_at_call 41; ((refine (HPk.out _ BW.out).mono ?_); rintro e w1 ⟨rfl, hb1⟩; have B1 := Lib.hid (BW.out.trans (hb1.mono BW.out.size)); clear hb1)))
          go_quiet (fail)
          go_wp2_with fail
          go_ret2
          exact ⟨ret_t (by rw [E.out]; rfl), drN B1.out _⟩
      · obtain rfl : k = r.length := by omega
        have E := Lib.hid (HR.out.none (by rw [List.drop_length]; exact quo_nil))
        have heq : ((r.length : Int) + 1 == (s.size : Int)) = true := beq_iff_eq.2 (by have := HSZ.out; omega)
        clear hp
        go_wp2_with (first
          | (go_at_call 41; ((refine (HPk.out _ BW.out).mono ?_); rintro e w1 ⟨rfl, hb1⟩; have B1 := Lib.hid (BW.out.trans (hb1.mono BW.out.size)); clear hb1)))
        go_quiet (fail)
        go_wp2_with fail
        go_ret2
        exact ⟨ret_t (by rw [E.out]; rfl), drN B1.out _⟩
    | some tn =>
      obtain ⟨t, n⟩ := tn
      rw [spV_spart_some hp] at HPk
      obtain ⟨n1, n2, n3, n4⟩ := spart_len hp
      rw [List.length_drop] at n2
      have HT := Lib.hid (n4 (HBY.out.drop k))
      have HR2 := Lib.hid (HR.out.step (spart_step hp))
      have hn0 : ((n : Int) == 0) = false := beq_eq_false_iff_ne.2 (by omega)
      clear hp n4
      go_wp2_with (first
        | (go_at_call 41; ((refine (HPk.out _ BW.out).mono ?_); rintro e w1 ⟨rfl, hb1⟩; have B1 := Lib.hid (BW.out.trans (hb1.mono BW.out.size)); have O1 : Hid (Bld w1 w.heap.size w.heap.size out) := Lib.hid (bld_below O0.out hb1 BW.out.size); clear hb1))
        | (go_at_call 19; ((with_reducible refine (bld_str (ch_bytesOf HT.out) O1.out (by omega) B1.out.size).mono ?_); rintro e w2 ⟨rfl, ho2, hb2⟩; have O2 := Lib.hid ho2; have B2 := Lib.hid (B1.out.trans hb2); clear hb2 ho2)))
      go_roundg (r.length - (k + n) + 1)
      case measure => omega
      case rel => exact ⟨k + n, out ++ t, by go_num, by omega, Nat.le_refl _, O2.out, BO.out.append HT.out, by simp; omega, B2.out, HR2.out⟩

set_option maxRecDepth 100000 in
set_option maxHeartbeats 4000000 in
theorem enc_pat {s : ByteArray} {r : List Int} (hs : ch s = 47 :: r) (hn : r.length ≤ 100000) (w : World) (h : ET w) : Calls Tryd.prog 40 #[.string s, .func (.func 42) #[] #[]] w (VPost w (encV (sla r))) := by
  have HBY : Hid (By r) := Lib.hid (by have := ch_By s; rw [hs] at this; exact fun x hx => this x (by simp [hx]))
  have HSZ : Hid (s.size = r.length + 1) := Lib.hid (by rw [← ch_length, hs]; rfl)
  have HAT : Hid (∀ k x, r[k]? = some x → ∃ hk : k + 1 < s.size, ((s[k + 1]'hk).toNat : Int) = x) := Lib.hid (fun k x h => ch_at (by rw [hs]; exact h))
  obtain ⟨h0, x0⟩ := ch_at (s := s) (k := 0) (x := 47) (by rw [hs]; rfl)
  have HET := Lib.hid h
  have HP := Lib.hid (fun (k : Nat) (W : World) (hb : Below w.heap.size w W) => ppart_any (s := s.extract (k + 1) s.size) (l := r.drop k) (by rw [ch_drop, hs]; rfl) W)
  unfold VPost at HP
  clear hs h
  have B0 := Lib.hid (balloc w (.cells #[.pointer none, .slice none 0 0] 55))
  have K0 := Lib.hid (bld_new w)
  go_enter Tryd.func40, Tryd.ntmps40
  go_wp2_with fail
  go_loopg [7, 8, 9] (r.length + 1) (fun g' i _ _ wr => ∃ (k : Nat) (out : List Int), i = .int .i64 (k + 1) ∧ k ≤ r.length ∧ r.length - k + 1 ≤ g' ∧ Bld wr w.heap.size w.heap.size out ∧ By out ∧ out.length ≤ k ∧ Below w.heap.size w wr ∧ Rest sla r out k)
  case atStart => exact ⟨0, [], rfl, Nat.zero_le _, by omega, K0.out, By.nil, Nat.le_refl _, B0.out, Rest.start _ _⟩
  case round =>
    obtain ⟨k, out, rfl, hk, hg, hown, hbo, hol, hbel, hrest⟩ := hrel
    obtain ⟨wo, rfl⟩ : ∃ wo : World, wo = wr := ⟨_, rfl⟩
    have O0 := Lib.hid hown
    have BO := Lib.hid hbo
    have BW := Lib.hid hbel
    have HR := Lib.hid hrest
    have hks2 : (k : Int) + 1 ≤ (s.size : Int) := by have := HSZ.out; omega
    have HPk := Lib.hid (fun W hb => HP.out k W hb)
    clear hown hbo hbel hrest
    cases hp : ppart (r.drop k) with
    | none =>
      rw [ppV_none hp] at HPk
      by_cases hkn : k < r.length
      · obtain ⟨x, hx⟩ : ∃ x, r[k]? = some x := ⟨r[k], List.getElem?_eq_getElem hkn⟩
        obtain ⟨hks, x1⟩ := HAT.out k x hx
        have hdr := drop_at hx
        have hneq : ((k : Int) + 1 == (s.size : Int)) = false := beq_eq_false_iff_ne.2 (by omega)
        have hki : (k : Int) + 1 < (s.size : Int) := by omega
        by_cases hm : x = 47
        · subst hm
          have E := Lib.hid (HR.out.done (by rw [hdr]; exact sla_end _))
          clear hx hdr hp
          go_wp2_with (first
            | (go_at_call 42; ((refine (HPk.out _ BW.out).mono ?_); rintro e w1 ⟨rfl, hb1⟩; have B1 := Lib.hid (BW.out.trans (hb1.mono BW.out.size)); have O1 : Hid (Bld w1 w.heap.size w.heap.size out) := Lib.hid (bld_below O0.out hb1 BW.out.size); clear hb1)))
          go_quiet (fail)
          go_wp2_with (go_at_call 20; ((refine (bld_string (show Bld (w1.drewN _) w.heap.size w.heap.size out from O1.out) BO.out B1.out.size).mono ?_); rintro e w2 ⟨rfl, hb2⟩; have B2 := Lib.hid ((drN B1.out _).trans hb2); clear hb2))
          go_ret2
          exact ⟨ret_t (by rw [E.out]; rfl), B2.out⟩
        · have hne : (x != 47) = true := bne_iff_ne.2 hm
          have E := Lib.hid (HR.out.none (ppart_bad (by rw [hdr]; simp) (by rw [hdr]; simpa using hm) hp))
          clear hx hdr hp
          go_wp2_with (first
            | (go_at_call 42; ((refine (HPk.out _ BW.out).mono ?_); rintro e w1 ⟨rfl, hb1⟩; have B1 := Lib.hid (BW.out.trans (hb1.mono BW.out.size)); clear hb1)))
          go_quiet (fail)
          go_wp2_with fail
          go_ret2
          exact ⟨ret_t (by rw [E.out]; rfl), drN B1.out _⟩
      · obtain rfl : k = r.length := by omega
        have E := Lib.hid (HR.out.none (by rw [List.drop_length]; exact (rfl : sla [] = none)))
        have heq : ((r.length : Int) + 1 == (s.size : Int)) = true := beq_iff_eq.2 (by have := HSZ.out; omega)
        clear hp
        go_wp2_with (first
          | (go_at_call 42; ((refine (HPk.out _ BW.out).mono ?_); rintro e w1 ⟨rfl, hb1⟩; have B1 := Lib.hid (BW.out.trans (hb1.mono BW.out.size)); clear hb1)))
        go_quiet (fail)
        go_wp2_with fail
        go_ret2
        exact ⟨ret_t (by rw [E.out]; rfl), drN B1.out _⟩
    | some tn =>
      obtain ⟨t, n⟩ := tn
      rw [ppV_some hp] at HPk
      obtain ⟨n1, n2, n3, n4⟩ := ppart_len hp
      rw [List.length_drop] at n2
      have HT := Lib.hid (n4 (HBY.out.drop k))
      have HR2 := Lib.hid (HR.out.step (ppart_step hp))
      have hn0 : ((n : Int) == 0) = false := beq_eq_false_iff_ne.2 (by omega)
      clear hp n4
      go_wp2_with (first
        | (go_at_call 42; ((refine (HPk.out _ BW.out).mono ?_); rintro e w1 ⟨rfl, hb1⟩; have B1 := Lib.hid (BW.out.trans (hb1.mono BW.out.size)); have O1 : Hid (Bld w1 w.heap.size w.heap.size out) := Lib.hid (bld_below O0.out hb1 BW.out.size); clear hb1))
        | (go_at_call 19; ((with_reducible refine (bld_str (ch_bytesOf HT.out) O1.out (by omega) B1.out.size).mono ?_); rintro e w2 ⟨rfl, ho2, hb2⟩; have O2 := Lib.hid ho2; have B2 := Lib.hid (B1.out.trans hb2); clear hb2 ho2)))
      go_roundg (r.length - (k + n) + 1)
      case measure => omega
      case rel => exact ⟨k + n, out ++ t, by go_num, by omega, Nat.le_refl _, O2.out, BO.out.append HT.out, by simp; omega, B2.out, HR2.out⟩
end Go.Proofs.YtjhcbcadagljlaaDoor.Lx
