/-
  Layer 5, the program: all tokens are read.
-/
import Derived.Test.YtjhcbcadagljlaaDoorLxG12
namespace Go.Proofs.YtjhcbcadagljlaaDoor.Lx
open Go.RowKit

/-- A fault in a token, wrapped. -/
def wrapV (i : Nat) (f : Flt) : Value := .iface 66 (.agg #[.int .i64 i, fltV f])
/-- What read returns. -/
def RdPost (w : World) (l : List Int) (e : Ending) (w' : World) : Prop :=
  Below w.heap.size w w' ∧
  match all l with
  | .ok ts => ∃ v, e = .returned (.tuple #[v, .nilIface]) ∧ TLst w' v ts
  | .error f => ∃ ev, e = .returned (.tuple #[.slice none 0 0, ev]) ∧ (ev = fltV f ∨ ∃ i : Nat, ev = wrapV i f)
section
variable {w w' : World} {B b k : Nat} {s : ByteArray} {l : List Int} {ln st : Int} {e : Ending}
theorem TkPost.isEnd (h : TkPost w B b s l k ln st e w') (hE : l.length = k) : e = .returned (.tuple #[.agg #[.int .i64 6, .string ⟨#[]⟩, .int .i64 ln, .int .i64 (k - st + 1)], .nilIface]) ∧ w'.heap[b]? = some (ScnO s k ln st) ∧ Fr 62 B w w' := by
  obtain ⟨h1, h2⟩ := h
  rw [if_pos hE] at h2
  exact ⟨h2.1, h2.2, h1⟩
theorem TkPost.isBad (h : TkPost w B b s l k ln st e w') (hE : l.length ≠ k) {c : Int} (h1 : one (l.drop k) = .bad c) : e = .returned (.tuple #[.agg #[.int .i64 0, .string ⟨#[]⟩, .int .i64 0, .int .i64 0], .iface 45 (.agg #[.int .i64 c, .int .i64 ln, .int .i64 (k - st + 1)])]) ∧ w'.heap[b]? = some (ScnO s k ln st) ∧ Fr 62 B w w' := by
  obtain ⟨h2, h3⟩ := h
  rw [if_neg hE, h1] at h3
  exact ⟨h3.1, h3.2, h2⟩
theorem TkPost.isTok (h : TkPost w B b s l k ln st e w') (hE : l.length ≠ k) {kk : Int} {t : List Int} {n : Nat} (h1 : one (l.drop k) = .tok kk t n) : e = .returned (.tuple #[.agg #[.int .i64 kk, .string (bytesOf t), .int .i64 ln, .int .i64 (k - st + 1)], .nilIface]) ∧ w'.heap[b]? = some (ScnO s ((k + n : Nat) : Int) ln st) ∧ Fr 62 B w w' := by
  obtain ⟨h2, h3⟩ := h
  rw [if_neg hE, h1] at h3
  exact ⟨h3.1, h3.2, h2⟩
end
theorem one_kind {l : List Int} {k : Int} {t : List Int} {n : Nat} (h : one l = .tok k t n) : 1 ≤ k ∧ k ≤ 5 := by
  match l, h with
  | [], h => simp [one] at h
  | a :: r, h =>
    cases hl : letter a with
    | true => rw [one_letter hl] at h; simp only [One.tok.injEq] at h; omega
    | false =>
      cases hd : digit a with
      | true =>
        rw [one_digit hl hd] at h
        split at h
        · simp at h
        · simp only [One.tok.injEq] at h; omega
      | false =>
        by_cases h34 : a = 34
        · subst h34
          rw [one_str] at h
          cases hq : quo r with
          | none => rw [hq] at h; simp at h
          | some x => rw [hq] at h; simp only [One.tok.injEq] at h; omega
        by_cases h47 : a = 47
        · subst h47
          rw [one_pat] at h
          cases hq : sla r with
          | none => rw [hq] at h; simp at h
          | some x => rw [hq] at h; simp only [One.tok.injEq] at h; omega
        by_cases hs : a = 123 ∨ a = 125 ∨ a = 44 ∨ a = 61
        · rw [one_sign hs] at h; simp only [One.tok.injEq] at h; omega
        · rw [one_char hl hd h34 h47 hs] at h; simp at h
/-- One token more; all other blocks stay. -/
theorem run_app_tok2 {w : World} {B : Nat} {v : Value} {ts : List Tok} (t : Tok) (h : TOwn w B v ts) (g c : Nat) (hg : w.heap[g]? = some (.cells t.cells.toArray 38 (0, 0))) (hl : ts.length ≤ 100000) (hB : B ≤ w.heap.size) (ty : TypeId) :
    ∃ v' w', (Builtin.append_ #[26, 26] ty #[v, .slice (some ⟨g, 0, none⟩) 1 c]).run Tryd.prog w = .ok v' w' ∧ TOwn w' B v' (ts ++ [t]) ∧ Below B w w' ∧ ∀ k o, w.heap[k]? = some o → v.ownBlock ≠ some k → w'.heap[k]? = some o := by
  obtain ⟨i, hi, hz, h1, hb⟩ := info_parts Tryd.info38
  have hnews : ∀ j u, t.cells[j]? = some u → w.cell? ((⟨g, 0, none⟩ : Addr).add j) = some u := by
    intro j u hu
    rw [Addr.add_lit, cell_of_row w g _ _ _ _ hg, Nat.zero_add]
    simpa using hu
  obtain ⟨v', w', hrun, h2, h3, _⟩ := run_append_own (P := Tryd.prog) w B 26 ty 38 i (.agg #[.int .i64 0, .string ⟨#[]⟩, .int .i64 0, .int .i64 0]) 4 40 Tryd.underlying26 hi hz h1 hb rfl (by decide) v ts.length (flatT ts) h ⟨g, 0, none⟩ 1 c t.cells rfl hnews
    (fun u hu => by simp [Tok.cells] at hu; rcases hu with rfl | rfl | rfl | rfl <;> rfl) (by unfold maxLen; omega) (by omega) hB
  refine ⟨v', w', hrun, ?_, (Fr.of_grown (e := 38) h3 hB h.block).bel, fun k o hk hne => (h3.block k (heap_lt hk) (fun e => hne e.symm)).trans hk⟩
  unfold TOwn
  rw [List.length_append, flatT_append]
  simpa [flatT] using h2
theorem wpList_app_tok2 {w : World} {ops : Array Oper} {rest : List Oper} {o : Oper} {a : Act} {Q : Exit → Act → World → Prop} (hgd : o.guard = none) (s y : Operand)
    (ho : o.op = .call { callee := .builtin .append, args := #[s, y], argTypes := #[26, 26] })
    {B : Nat} {v : Value} {ts : List Tok} (t : Tok) (hs : a.eval s = v) (h : TOwn w B v ts) (g c : Nat) (hy : a.eval y = .slice (some ⟨g, 0, none⟩) 1 c) (hg : w.heap[g]? = some (.cells t.cells.toArray 38 (0, 0))) (hl : ts.length ≤ 100000) (hB : B ≤ w.heap.size)
    (hK : ∀ v' w', TOwn w' B v' (ts ++ [t]) → Below B w w' → (∀ k o, w.heap[k]? = some o → v.ownBlock ≠ some k → w'.heap[k]? = some o) → wpList Tryd.prog ops Q rest (a.put o.dst v') w') : wpList Tryd.prog ops Q (o :: rest) a w := by
  refine wpList_plain hgd fun K hK' => ?_
  obtain ⟨v', w', hrun, r1, r2, r3⟩ := run_app_tok2 t h g c hg hl hB o.type
  unfold Oper.wp
  simp [execOp, ho, resolve, invoke, builtin, hs, hy, hrun, Result.andThen]
  exact hK' _ _ (hK v' w' r1 r2 r3)
theorem two_new (w : World) (o q : Obj) : ((w.alloc o).alloc q).heap[w.heap.size + 1]? = some q := by
  have := heap_alloc_new (w.alloc o) q
  simpa using this
theorem own_lt {w : World} {B : Nat} {v : Value} {ts : List Tok} (h : TOwn w B v ts) {k : Nat} (hk : w.heap.size ≤ k) : v.ownBlock ≠ some k := by
  intro e
  rcases h.2 with ⟨h1, _⟩ | ⟨g, cap, cur, h1, h2, h3, _⟩
  · rw [h1] at e; simp [Value.ownBlock] at e
  · rw [h1] at e; simp [Value.ownBlock] at e
    subst e
    have := heap_lt h3
    omega
theorem own_other {w : World} {B : Nat} {v : Value} {ts : List Tok} (h : TOwn w B v ts) {k : Nat} {cs : Array Value} {t : TypeId} {f : Nat × Nat} (hk : w.heap[k]? = some (.cells cs t f)) (ht : t ≠ 38) : v.ownBlock ≠ some k := fun e => ht ((h.block k e).2 _ _ _ hk)

set_option maxRecDepth 100000 in
set_option maxHeartbeats 16000000 in
theorem read_any {s : ByteArray} {l : List Int} (hs : ch s = l) (hn : l.length ≤ 100000) (w : World) (het : ET w) : Calls Tryd.prog 13 #[.string s] w (RdPost w l) := by
  have HSZ : Hid (s.size = l.length) := Lib.hid (by rw [← hs, ch_length])
  have HSK := Lib.hid (fun (b k0 : Nat) (ln0 st0 : Int) (W : World) (hb : W.heap[b]? = some (ScnO s k0 ln0 st0)) (hB : w.heap.size ≤ b) (hk0 : k0 ≤ l.length) (hp : Pos l k0 ln0 st0) => gskip_any hs hn W hb hB hk0 hp)
  have HTK := Lib.hid (fun (b k : Nat) (ln st : Int) (W : World) (het : ET W) (hb : W.heap[b]? = some (ScnO s k ln st)) (hB : w.heap.size ≤ b) (hk : k ≤ l.length) (hp : Pos l k ln st) => token_any hs hn W het hb hB hk hp)
  have HET := Lib.hid het
  by_cases hbig : 8192 < l.length
  · have hbig' : (8192 : Int) < (s.size : Int) := by have := HSZ.out; omega
    have E : Hid (all l = .error (1, 0, 0)) := Lib.hid (by unfold all; rw [if_pos hbig])
    clear hs hbig het HSK HTK
    go_enter Tryd.func13, Tryd.ntmps13
    go_wp2_with fail
    go_ret2
    exact ⟨Below.refl _ _, by rw [E.out]; exact ⟨_, rfl, .inl rfl⟩⟩
  have hbig' : (s.size : Int) ≤ 8192 := by have := HSZ.out; omega
  have EA : Hid (all l = lexC (l.length + 1) 0 l (1, 1)) := Lib.hid (by unfold all; rw [if_neg hbig])
  have I0 := Lib.hid (Inv.start l)
  rw [← EA.out] at I0
  have K0 := Lib.hid (heap_alloc_new w (.cells #[.string s, .int .i64 0, .int .i64 1, .int .i64 0] 62))
  have B0 := Lib.hid (balloc w (.cells #[.string s, .int .i64 0, .int .i64 1, .int .i64 0] 62))
  clear hs het
  go_enter Tryd.func13, Tryd.ntmps13
  go_wp2_with fail
  go_loopg [5, 6, 7] (l.length + 1) (fun g' ov _ _ wr => ∃ (k : Nat) (out : List Tok) (ln st : Int), k ≤ l.length ∧ l.length - k + 1 ≤ g' ∧ out.length ≤ 2000 ∧ TOwn wr w.heap.size ov out ∧ Below w.heap.size w wr ∧ wr.heap[w.heap.size]? = some (ScnO s k ln st) ∧ Pos l k ln st ∧ Inv (all l) l out k)
  case atStart => exact ⟨0, [], 1, 0, Nat.zero_le _, by omega, by simp, TOwn.nil _ _, B0.out, K0.out, Pos.start l, I0.out⟩
  case round =>
    obtain ⟨k, out, ln, st, hk, hg, hol, hown, hbel, hrow, hpos, hinv⟩ := hrel
    obtain ⟨wo, rfl⟩ : ∃ wo : World, wo = wr := ⟨_, rfl⟩
    obtain ⟨A0, c0, rfl⟩ := hown.form
    have O0 := Lib.hid hown
    have I1 := Lib.hid hinv
    have HSKk := Lib.hid (HSK.out _ _ _ _ wo hrow (Nat.le_refl _) hk hpos)
    have B1 := Lib.hid hbel
    have hsl := skipS_le false (l.drop k)
    rw [List.length_drop] at hsl
    have HM : Hid (k + skip (l.drop k) = k + skip (l.drop k)) := Lib.hid rfl
    obtain ⟨m, hm⟩ : ∃ m, m = k + skip (l.drop k) := ⟨_, rfl⟩
    have hml : m ≤ l.length := by rw [hm]; unfold skip; omega
    have hkm : k ≤ m := by omega
    unfold SkPost at HSKk
    rw [← hm] at HSKk
    have HMM := Lib.hid hm
    clear hown hinv hbel hrow hpos hsl hm HM
    go_wp2_with (go_at_call 21; ((refine HSKk.out.mono ?_); rintro e w1 ⟨rfl, ln1, st1, hrow1, hp1, hf1⟩; have S1 := Lib.hid hrow1; have P1 := Lib.hid hp1; have F1 := Lib.hid hf1; clear hrow1 hp1 hf1))
    clear HSKk
    have O1 : Hid (TOwn w1 w.heap.size (.slice A0 out.length c0) out) := Lib.hid (O0.out.fr F1.out (by decide))
    have B2 : Hid (Below w.heap.size w w1) := Lib.hid (B1.out.trans F1.out.bel)
    have HTKm := Lib.hid (HTK.out _ _ _ _ w1 (HET.out.below B2.out) S1.out (Nat.le_refl _) hml P1.out)
    have hadv : adv (1, 1) (l.take m) = (ln1, (m : Int) - st1 + 1) := P1.out.1
    by_cases hE : l.length = m
    · have he0 : (l.drop m).length = 0 := by rw [List.length_drop]; omega
      have ED := Lib.hid (I1.out.done HMM.out he0)
      rw [hadv] at ED
      clear hadv he0
      go_wp2_with (first
        | (go_at_call 22; ((refine HTKm.out.mono ?_); intro e w2 hpost; obtain ⟨rfl, hrow2, hf2⟩ := hpost.isEnd hE; have F2 := Lib.hid hf2; have S2 := Lib.hid hrow2; have O2 : Hid (TOwn w2 w.heap.size (.slice A0 out.length c0) out) := Lib.hid (O1.out.fr hf2 (by decide)); have B3 : Hid (Below w.heap.size w w2) := Lib.hid (B2.out.trans hf2.bel); clear hpost hrow2 hf2))
        | (at_builtin; refine wpList_app_tok2 rfl _ _ rfl ⟨6, [], ln1, (m : Int) - st1 + 1⟩ rfl ((O2.out.below (balloc w2 _)).below (balloc _ _)) (w2.heap.size + 1) 1 rfl (two_new w2 _ _) (by omega) (by have := B3.out.size; simp; omega) ?_; intro v5 w5 hO hb5 hk5; obtain ⟨A5, c5, hv5⟩ := tok_snoc hO; subst hv5; have O5 := Lib.hid hO; have B5 : Hid (Below w.heap.size w w5) := Lib.hid (((B3.out.alloc B3.out.size _).alloc (by have := B3.out.size; simp; omega) _).trans hb5); have S5 := Lib.hid (hk5 _ _ ((Below.heap_alloc _ _ _ (by have := heap_lt S2.out; simp; omega)).trans ((Below.heap_alloc w2 _ _ (heap_lt S2.out)).trans S2.out)) (own_other O2.out S2.out (by decide))); have k6 := hk5 _ _ ((Below.heap_alloc _ _ _ (by simp)).trans (heap_alloc_new w2 _)) (own_lt O2.out (Nat.le_refl _)); have e0 := cell_of_row _ _ 0 _ _ _ k6; clear hO hb5 hk5 k6))
      go_ret2
      exact ⟨B5.out, by rw [ED.out]; exact ⟨_, rfl, O5.out.lst⟩⟩
    · have he0 : (l.drop m).length ≠ 0 := by rw [List.length_drop]; omega
      cases ho : one (l.drop m) with
      | bad c =>
        have ED := Lib.hid (I1.out.bad HMM.out he0 ho)
        rw [hadv] at ED
        clear hadv he0
        go_wp2_with (go_at_call 22; ((refine HTKm.out.mono ?_); intro e w2 hpost; obtain ⟨rfl, hrow2, hf2⟩ := hpost.isBad hE ho; have B3 : Hid (Below w.heap.size w w2) := Lib.hid (B2.out.trans hf2.bel); clear hpost hrow2 hf2))
        go_ret2
        exact ⟨B3.out.alloc B3.out.size _, by rw [ED.out]; exact ⟨_, rfl, .inr ⟨out.length + 1, by go_num⟩⟩⟩
      | tok kk t n =>
        obtain ⟨kk1, kk5⟩ := one_kind ho
        have hk6 : (kk == 6) = false := beq_eq_false_iff_ne.2 (by omega)
        have hk6' : (kk != 6) = true := bne_iff_ne.2 (by omega)
        have hnl := one_len ho
        rw [List.length_drop] at hnl
        have HO := Lib.hid ho
        have P2 := Lib.hid (P1.out.tok ho)
        by_cases hlim : 2000 ≤ out.length
        · have hlim' : ((out.length : Int) == 2000) = true := beq_iff_eq.2 (by omega)
          have ED := Lib.hid (I1.out.lim HMM.out he0 ho hlim)
          rw [hadv] at ED
          clear hadv he0 ho hlim
          go_wp2_with (go_at_call 22; ((refine HTKm.out.mono ?_); intro e w2 hpost; obtain ⟨rfl, hrow2, hf2⟩ := hpost.isTok hE HO.out; have B3 : Hid (Below w.heap.size w w2) := Lib.hid (B2.out.trans hf2.bel); clear hpost hrow2 hf2))
          go_ret2
          exact ⟨B3.out.alloc B3.out.size _, by rw [ED.out]; exact ⟨_, rfl, .inr ⟨out.length + 1, by go_num⟩⟩⟩
        · have hlim' : ((out.length : Int) == 2000) = false := beq_eq_false_iff_ne.2 (by omega)
          have ED := Lib.hid (I1.out.more HMM.out he0 ho hlim)
          rw [hadv] at ED
          have hlim2 : out.length < 2000 := by omega
          clear hadv he0 ho hlim
          go_wp2_with (first
            | (go_at_call 22; ((refine HTKm.out.mono ?_); intro e w2 hpost; obtain ⟨rfl, hrow2, hf2⟩ := hpost.isTok hE HO.out; have F2 := Lib.hid hf2; have S2 := Lib.hid hrow2; have O2 : Hid (TOwn w2 w.heap.size (.slice A0 out.length c0) out) := Lib.hid (O1.out.fr hf2 (by decide)); have B3 : Hid (Below w.heap.size w w2) := Lib.hid (B2.out.trans hf2.bel); clear hpost hrow2 hf2))
            | (at_builtin; refine wpList_app_tok2 rfl _ _ rfl ⟨kk, t, ln1, (m : Int) - st1 + 1⟩ rfl ((O2.out.below (balloc w2 _)).below (balloc _ _)) (w2.heap.size + 1) 1 rfl (two_new w2 _ _) (by omega) (by have := B3.out.size; simp; omega) ?_; intro v5 w5 hO hb5 hk5; obtain ⟨A5, c5, hv5⟩ := tok_snoc hO; subst hv5; have O5 := Lib.hid hO; have B5 : Hid (Below w.heap.size w w5) := Lib.hid (((B3.out.alloc B3.out.size _).alloc (by have := B3.out.size; simp; omega) _).trans hb5); have S5 := Lib.hid (hk5 _ _ ((Below.heap_alloc _ _ _ (by have := heap_lt S2.out; simp; omega)).trans ((Below.heap_alloc w2 _ _ (heap_lt S2.out)).trans S2.out)) (own_other O2.out S2.out (by decide))); have k6 := hk5 _ _ ((Below.heap_alloc _ _ _ (by simp)).trans (heap_alloc_new w2 _)) (own_lt O2.out (Nat.le_refl _)); have e0 := cell_of_row _ _ 0 _ _ _ k6; clear hO hb5 hk5 k6))
          go_roundg (l.length - (m + n) + 1)
          case measure => omega
          case rel => exact ⟨m + n, out ++ [⟨kk, t, ln1, (m : Int) - st1 + 1⟩], ln1, st1, by omega, Nat.le_refl _, by simp; omega, by have := O5.out; simpa using this, B5.out, S5.out, P2.out, ED.out⟩
end Go.Proofs.YtjhcbcadagljlaaDoor.Lx
