/-
  Several texts, one behind the other: LxG13, LxG14, LxG15, LxG16, LxG17, LxProg, LxSame, LxSane, LxMod, LxPars, LxPars2, LxPars3, LxPars4, LxPars5, LxPiece, LxRows.
-/
import Derived.Test.YtdncjhffniepbaaGreatDoorM3
import Derived.Test.YtdncjhffniepbaaGreatDoorM2
import Derived.LaidEql
import Derived.Stop.Asserts
import Derived.KernelRfl
import Derived.Lib.AppendStr
/- (LxG13)
  Layer 5, the program: all tokens are read.
-/
namespace Go.Proofs.YtdncjhffniepbaaGreatDoor.Lx
open Go.RowKit

/-- A fault in a token, wrapped. -/
def wrapV (i : Nat) (f : Flt) : Value := .iface 91 (.agg #[.int .i64 i, fltV f])
/-- What read returns. -/
def RdPost (w : World) (l : List Int) (e : Ending) (w' : World) : Prop :=
  Below w.heap.size w w' ∧
  match all l with
  | .ok ts => ∃ v, e = .returned (.tuple #[v, .nilIface]) ∧ TLst w' v ts
  | .error f => ∃ ev, e = .returned (.tuple #[.slice none 0 0, ev]) ∧ (ev = fltV f ∨ ∃ i : Nat, ev = wrapV i f)
section
variable {w w' : World} {B b k : Nat} {s : ByteArray} {l : List Int} {ln st : Int} {e : Ending}
theorem TkPost.isEnd (h : TkPost w B b s l k ln st e w') (hE : l.length = k) : e = .returned (.tuple #[.agg #[.int .i64 6, .string ⟨#[]⟩, .int .i64 ln, .int .i64 (k - st + 1)], .nilIface]) ∧ w'.heap[b]? = some (ScnO s k ln st) ∧ Fr 87 B w w' := by
  obtain ⟨h1, h2⟩ := h
  rw [if_pos hE] at h2
  exact ⟨h2.1, h2.2, h1⟩
theorem TkPost.isBad (h : TkPost w B b s l k ln st e w') (hE : l.length ≠ k) {c : Int} (h1 : one (l.drop k) = .bad c) : e = .returned (.tuple #[.agg #[.int .i64 0, .string ⟨#[]⟩, .int .i64 0, .int .i64 0], .iface 62 (.agg #[.int .i64 c, .int .i64 ln, .int .i64 (k - st + 1)])]) ∧ w'.heap[b]? = some (ScnO s k ln st) ∧ Fr 87 B w w' := by
  obtain ⟨h2, h3⟩ := h
  rw [if_neg hE, h1] at h3
  exact ⟨h3.1, h3.2, h2⟩
theorem TkPost.isTok (h : TkPost w B b s l k ln st e w') (hE : l.length ≠ k) {kk : Int} {t : List Int} {n : Nat} (h1 : one (l.drop k) = .tok kk t n) : e = .returned (.tuple #[.agg #[.int .i64 kk, .string (bytesOf t), .int .i64 ln, .int .i64 (k - st + 1)], .nilIface]) ∧ w'.heap[b]? = some (ScnO s ((k + n : Nat) : Int) ln st) ∧ Fr 87 B w w' := by
  obtain ⟨h2, h3⟩ := h
  rw [if_neg hE, h1] at h3
  exact ⟨h3.1, h3.2, h2⟩
end
theorem one_kind {l : List Int} {k : Int} {t : List Int} {n : Nat} (h : one l = .tok k t n) : 1 ≤ k ∧ k ≤ 5 := by
  match l, h with
  | [], h => simp [one] at h
  | a :: r, h =>
    cases hl : letter a with
    | true => rw [one_letter hl] at h; simp only [One.tok.injEq] at h; omega
    | false =>
      cases hd : digit a with
      | true =>
        rw [one_digit hl hd] at h
        split at h
        · simp at h
        · simp only [One.tok.injEq] at h; omega
      | false =>
        by_cases h34 : a = 34
        · subst h34
          rw [one_str] at h
          cases hq : quo r with
          | none => rw [hq] at h; simp at h
          | some x => rw [hq] at h; simp only [One.tok.injEq] at h; omega
        by_cases h47 : a = 47
        · subst h47
          rw [one_pat] at h
          cases hq : sla r with
          | none => rw [hq] at h; simp at h
          | some x => rw [hq] at h; simp only [One.tok.injEq] at h; omega
        by_cases hs : a = 123 ∨ a = 125 ∨ a = 44 ∨ a = 61
        · rw [one_sign hs] at h; simp only [One.tok.injEq] at h; omega
        · rw [one_char hl hd h34 h47 hs] at h; simp at h
/-- One token more; all other blocks stay. -/
theorem run_app_tok2 {w : World} {B : Nat} {v : Value} {ts : List Tok} (t : Tok) (h : TOwn w B v ts) (g c : Nat) (hg : w.heap[g]? = some (.cells t.cells.toArray 38 (0, 0))) (hl : ts.length ≤ 100000) (hB : B ≤ w.heap.size) (ty : TypeId) :
    ∃ v' w', (Builtin.append_ #[29, 29] ty #[v, .slice (some ⟨g, 0, none⟩) 1 c]).run Tryz.prog w = .ok v' w' ∧ TOwn w' B v' (ts ++ [t]) ∧ Below B w w' ∧ ∀ k o, w.heap[k]? = some o → v.ownBlock ≠ some k → w'.heap[k]? = some o := by
  obtain ⟨i, hi, hz, h1, hb⟩ := info_parts Tryz.info38
  have hnews : ∀ j u, t.cells[j]? = some u → w.cell? ((⟨g, 0, none⟩ : Addr).add j) = some u := by
    intro j u hu
    rw [Addr.add_lit, cell_of_row w g _ _ _ _ hg, Nat.zero_add]
    simpa using hu
  obtain ⟨v', w', hrun, h2, h3, _⟩ := run_append_own (P := Tryz.prog) w B 29 ty 38 i (.agg #[.int .i64 0, .string ⟨#[]⟩, .int .i64 0, .int .i64 0]) 4 40 Tryz.underlying29 hi hz h1 hb rfl (by decide) v ts.length (flatT ts) h ⟨g, 0, none⟩ 1 c t.cells rfl hnews
    (fun u hu => by simp [Tok.cells] at hu; rcases hu with rfl | rfl | rfl | rfl <;> rfl) (by unfold maxLen; omega) (by omega) hB
  refine ⟨v', w', hrun, ?_, (Fr.of_grown (e := 38) h3 hB h.block).bel, fun k o hk hne => (h3.block k (heap_lt hk) (fun e => hne e.symm)).trans hk⟩
  unfold TOwn
  rw [List.length_append, flatT_append]
  simpa [flatT] using h2
theorem wpList_app_tok2 {w : World} {ops : Array Oper} {rest : List Oper} {o : Oper} {a : Act} {Q : Exit → Act → World → Prop} (hgd : o.guard = none) (s y : Operand)
    (ho : o.op = .call { callee := .builtin .append, args := #[s, y], argTypes := #[29, 29] })
    {B : Nat} {v : Value} {ts : List Tok} (t : Tok) (hs : a.eval s = v) (h : TOwn w B v ts) (g c : Nat) (hy : a.eval y = .slice (some ⟨g, 0, none⟩) 1 c) (hg : w.heap[g]? = some (.cells t.cells.toArray 38 (0, 0))) (hl : ts.length ≤ 100000) (hB : B ≤ w.heap.size)
    (hK : ∀ v' w', TOwn w' B v' (ts ++ [t]) → Below B w w' → (∀ k o, w.heap[k]? = some o → v.ownBlock ≠ some k → w'.heap[k]? = some o) → wpList Tryz.prog ops Q rest (a.put o.dst v') w') : wpList Tryz.prog ops Q (o :: rest) a w := by
  refine wpList_plain hgd fun K hK' => ?_
  obtain ⟨v', w', hrun, r1, r2, r3⟩ := run_app_tok2 t h g c hg hl hB o.type
  unfold Oper.wp
  simp [execOp, ho, resolve, invoke, builtin, hs, hy, hrun, Result.andThen]
  exact hK' _ _ (hK v' w' r1 r2 r3)
theorem two_new (w : World) (o q : Obj) : ((w.alloc o).alloc q).heap[w.heap.size + 1]? = some q := by
  have := heap_alloc_new (w.alloc o) q
  simpa using this
theorem own_lt {w : World} {B : Nat} {v : Value} {ts : List Tok} (h : TOwn w B v ts) {k : Nat} (hk : w.heap.size ≤ k) : v.ownBlock ≠ some k := by
  intro e
  rcases h.2 with ⟨h1, _⟩ | ⟨g, cap, cur, h1, h2, h3, _⟩
  · rw [h1] at e; simp [Value.ownBlock] at e
  · rw [h1] at e; simp [Value.ownBlock] at e
    subst e
    have := heap_lt h3
    omega
theorem own_other {w : World} {B : Nat} {v : Value} {ts : List Tok} (h : TOwn w B v ts) {k : Nat} {cs : Array Value} {t : TypeId} {f : Nat × Nat} (hk : w.heap[k]? = some (.cells cs t f)) (ht : t ≠ 38) : v.ownBlock ≠ some k := fun e => ht ((h.block k e).2 _ _ _ hk)

set_option maxRecDepth 100000 in
set_option maxHeartbeats 16000000 in
theorem read_any {s : ByteArray} {l : List Int} (hs : ch s = l) (hn : l.length ≤ 100000) (w : World) (het : ET w) : Calls Tryz.prog 33 #[.string s] w (RdPost w l) := by
  have HSZ : Hid (s.size = l.length) := Lib.hid (by rw [← hs, ch_length])
  have HSK := Lib.hid (fun (b k0 : Nat) (ln0 st0 : Int) (W : World) (hb : W.heap[b]? = some (ScnO s k0 ln0 st0)) (hB : w.heap.size ≤ b) (hk0 : k0 ≤ l.length) (hp : Pos l k0 ln0 st0) => gskip_any hs hn W hb hB hk0 hp)
  have HTK := Lib.hid (fun (b k : Nat) (ln st : Int) (W : World) (het : ET W) (hb : W.heap[b]? = some (ScnO s k ln st)) (hB : w.heap.size ≤ b) (hk : k ≤ l.length) (hp : Pos l k ln st) => token_any hs hn W het hb hB hk hp)
  have HET := Lib.hid het
  by_cases hbig : 8192 < l.length
  · have hbig' : (8192 : Int) < (s.size : Int) := by have := HSZ.out; omega
    have E : Hid (all l = .error (1, 0, 0)) := Lib.hid (by unfold all; rw [if_pos hbig])
    clear hs hbig het HSK HTK
    go_enter Tryz.func33, Tryz.ntmps33
    go_wp2_with fail
    go_ret2
    exact ⟨Below.refl _ _, by rw [E.out]; exact ⟨_, rfl, .inl rfl⟩⟩
  have hbig' : (s.size : Int) ≤ 8192 := by have := HSZ.out; omega
  have EA : Hid (all l = lexC (l.length + 1) 0 l (1, 1)) := Lib.hid (by unfold all; rw [if_neg hbig])
  have I0 := Lib.hid (Inv.start l)
  rw [← EA.out] at I0
  have K0 := Lib.hid (heap_alloc_new w (.cells #[.string s, .int .i64 0, .int .i64 1, .int .i64 0] 87))
  have B0 := Lib.hid (balloc w (.cells #[.string s, .int .i64 0, .int .i64 1, .int .i64 0] 87))
  clear hs het
  go_enter Tryz.func33, Tryz.ntmps33
  go_wp2_with fail
  go_loopg [5, 6, 7] (l.length + 1) (fun g' ov _ _ wr => ∃ (k : Nat) (out : List Tok) (ln st : Int), k ≤ l.length ∧ l.length - k + 1 ≤ g' ∧ out.length ≤ 2000 ∧ TOwn wr w.heap.size ov out ∧ Below w.heap.size w wr ∧ wr.heap[w.heap.size]? = some (ScnO s k ln st) ∧ Pos l k ln st ∧ Inv (all l) l out k)
  case atStart => exact ⟨0, [], 1, 0, Nat.zero_le _, by omega, by simp, TOwn.nil _ _, B0.out, K0.out, Pos.start l, I0.out⟩
  case round =>
    obtain ⟨k, out, ln, st, hk, hg, hol, hown, hbel, hrow, hpos, hinv⟩ := hrel
    obtain ⟨wo, rfl⟩ : ∃ wo : World, wo = wr := ⟨_, rfl⟩
    obtain ⟨A0, c0, rfl⟩ := hown.form
    have O0 := Lib.hid hown
    have I1 := Lib.hid hinv
    have HSKk := Lib.hid (HSK.out _ _ _ _ wo hrow (Nat.le_refl _) hk hpos)
    have B1 := Lib.hid hbel
    have hsl := skipS_le false (l.drop k)
    rw [List.length_drop] at hsl
    have HM : Hid (k + skip (l.drop k) = k + skip (l.drop k)) := Lib.hid rfl
    obtain ⟨m, hm⟩ : ∃ m, m = k + skip (l.drop k) := ⟨_, rfl⟩
    have hml : m ≤ l.length := by rw [hm]; unfold skip; omega
    have hkm : k ≤ m := by omega
    unfold SkPost at HSKk
    rw [← hm] at HSKk
    have HMM := Lib.hid hm
    clear hown hinv hbel hrow hpos hsl hm HM
    go_wp2_with (go_at_call 48; ((refine HSKk.out.mono ?_); rintro e w1 ⟨rfl, ln1, st1, hrow1, hp1, hf1⟩; have S1 := Lib.hid hrow1; have P1 := Lib.hid hp1; have F1 := Lib.hid hf1; clear hrow1 hp1 hf1))
    clear HSKk
    have O1 : Hid (TOwn w1 w.heap.size (.slice A0 out.length c0) out) := Lib.hid (O0.out.fr F1.out (by decide))
    have B2 : Hid (Below w.heap.size w w1) := Lib.hid (B1.out.trans F1.out.bel)
    have HTKm := Lib.hid (HTK.out _ _ _ _ w1 (HET.out.below B2.out) S1.out (Nat.le_refl _) hml P1.out)
    have hadv : adv (1, 1) (l.take m) = (ln1, (m : Int) - st1 + 1) := P1.out.1
    by_cases hE : l.length = m
    · have he0 : (l.drop m).length = 0 := by rw [List.length_drop]; omega
      have ED := Lib.hid (I1.out.done HMM.out he0)
      rw [hadv] at ED
      clear hadv he0
      go_wp2_with (first
        | (go_at_call 49; ((refine HTKm.out.mono ?_); intro e w2 hpost; obtain ⟨rfl, hrow2, hf2⟩ := hpost.isEnd hE; have F2 := Lib.hid hf2; have S2 := Lib.hid hrow2; have O2 : Hid (TOwn w2 w.heap.size (.slice A0 out.length c0) out) := Lib.hid (O1.out.fr hf2 (by decide)); have B3 : Hid (Below w.heap.size w w2) := Lib.hid (B2.out.trans hf2.bel); clear hpost hrow2 hf2))
        | (at_builtin; refine wpList_app_tok2 rfl _ _ rfl ⟨6, [], ln1, (m : Int) - st1 + 1⟩ rfl ((O2.out.below (balloc w2 _)).below (balloc _ _)) (w2.heap.size + 1) 1 rfl (two_new w2 _ _) (by omega) (by have := B3.out.size; simp; omega) ?_; intro v5 w5 hO hb5 hk5; obtain ⟨A5, c5, hv5⟩ := tok_snoc hO; subst hv5; have O5 := Lib.hid hO; have B5 : Hid (Below w.heap.size w w5) := Lib.hid (((B3.out.alloc B3.out.size _).alloc (by have := B3.out.size; simp; omega) _).trans hb5); have S5 := Lib.hid (hk5 _ _ ((Below.heap_alloc _ _ _ (by have := heap_lt S2.out; simp; omega)).trans ((Below.heap_alloc w2 _ _ (heap_lt S2.out)).trans S2.out)) (own_other O2.out S2.out (by decide))); have k6 := hk5 _ _ ((Below.heap_alloc _ _ _ (by simp)).trans (heap_alloc_new w2 _)) (own_lt O2.out (Nat.le_refl _)); have e0 := cell_of_row _ _ 0 _ _ _ k6; clear hO hb5 hk5 k6))
      go_ret2
      exact ⟨B5.out, by rw [ED.out]; exact ⟨_, rfl, O5.out.lst⟩⟩
    · have he0 : (l.drop m).length ≠ 0 := by rw [List.length_drop]; omega
      cases ho : one (l.drop m) with
      | bad c =>
        have ED := Lib.hid (I1.out.bad HMM.out he0 ho)
        rw [hadv] at ED
        clear hadv he0
        go_wp2_with (go_at_call 49; ((refine HTKm.out.mono ?_); intro e w2 hpost; obtain ⟨rfl, hrow2, hf2⟩ := hpost.isBad hE ho; have B3 : Hid (Below w.heap.size w w2) := Lib.hid (B2.out.trans hf2.bel); clear hpost hrow2 hf2))
        go_ret2
        exact ⟨B3.out.alloc B3.out.size _, by rw [ED.out]; exact ⟨_, rfl, .inr ⟨out.length + 1, by go_num⟩⟩⟩
      | tok kk t n =>
        obtain ⟨kk1, kk5⟩ := one_kind ho
        have hk6 : (kk == 6) = false := beq_eq_false_iff_ne.2 (by omega)
        have hk6' : (kk != 6) = true := bne_iff_ne.2 (by omega)
        have hnl := one_len ho
        rw [List.length_drop] at hnl
        have HO := Lib.hid ho
        have P2 := Lib.hid (P1.out.tok ho)
        by_cases hlim : 2000 ≤ out.length
        · have hlim' : ((out.length : Int) == 2000) = true := beq_iff_eq.2 (by omega)
          have ED := Lib.hid (I1.out.lim HMM.out he0 ho hlim)
          rw [hadv] at ED
          clear hadv he0 ho hlim
          go_wp2_with (go_at_call 49; ((refine HTKm.out.mono ?_); intro e w2 hpost; obtain ⟨rfl, hrow2, hf2⟩ := hpost.isTok hE HO.out; have B3 : Hid (Below w.heap.size w w2) := Lib.hid (B2.out.trans hf2.bel); clear hpost hrow2 hf2))
          go_ret2
          exact ⟨B3.out.alloc B3.out.size _, by rw [ED.out]; exact ⟨_, rfl, .inr ⟨out.length + 1, by go_num⟩⟩⟩
        · have hlim' : ((out.length : Int) == 2000) = false := beq_eq_false_iff_ne.2 (by omega)
          have ED := Lib.hid (I1.out.more HMM.out he0 ho hlim)
          rw [hadv] at ED
          have hlim2 : out.length < 2000 := by omega
          clear hadv he0 ho hlim
          go_wp2_with (first
            | (go_at_call 49; ((refine HTKm.out.mono ?_); intro e w2 hpost; obtain ⟨rfl, hrow2, hf2⟩ := hpost.isTok hE HO.out; have F2 := Lib.hid hf2; have S2 := Lib.hid hrow2; have O2 : Hid (TOwn w2 w.heap.size (.slice A0 out.length c0) out) := Lib.hid (O1.out.fr hf2 (by decide)); have B3 : Hid (Below w.heap.size w w2) := Lib.hid (B2.out.trans hf2.bel); clear hpost hrow2 hf2))
            | (at_builtin; refine wpList_app_tok2 rfl _ _ rfl ⟨kk, t, ln1, (m : Int) - st1 + 1⟩ rfl ((O2.out.below (balloc w2 _)).below (balloc _ _)) (w2.heap.size + 1) 1 rfl (two_new w2 _ _) (by omega) (by have := B3.out.size; simp; omega) ?_; intro v5 w5 hO hb5 hk5; obtain ⟨A5, c5, hv5⟩ := tok_snoc hO; subst hv5; have O5 := Lib.hid hO; have B5 : Hid (Below w.heap.size w w5) := Lib.hid (((B3.out.alloc B3.out.size _).alloc (by have := B3.out.size; simp; omega) _).trans hb5); have S5 := Lib.hid (hk5 _ _ ((Below.heap_alloc _ _ _ (by have := heap_lt S2.out; simp; omega)).trans ((Below.heap_alloc w2 _ _ (heap_lt S2.out)).trans S2.out)) (own_other O2.out S2.out (by decide))); have k6 := hk5 _ _ ((Below.heap_alloc _ _ _ (by simp)).trans (heap_alloc_new w2 _)) (own_lt O2.out (Nat.le_refl _)); have e0 := cell_of_row _ _ 0 _ _ _ k6; clear hO hb5 hk5 k6))
          go_roundg (l.length - (m + n) + 1)
          case measure => omega
          case rel => exact ⟨m + n, out ++ [⟨kk, t, ln1, (m : Int) - st1 + 1⟩], ln1, st1, by omega, Nat.le_refl _, by simp; omega, by have := O5.out; simpa using this, B5.out, S5.out, P2.out, ED.out⟩
end Go.Proofs.YtdncjhffniepbaaGreatDoor.Lx
/- (LxG14)
  Layer 5, the program: errors.As at a target of type *fault: the model's entries for internal/reflectlite at this program's types.
-/
namespace Go.Proofs.YtdncjhffniepbaaGreatDoor.Lx
open Go.RowKit Go.Extern.Stop Go.Stop Go.Extern

abbrev hPF : Value := .pointer (some ⟨7, 64, none⟩)
abbrev hF : Value := .pointer (some ⟨7, 62, none⟩)
abbrev hTE : Value := .pointer (some ⟨7, 91, none⟩)
abbrev hE : Value := .pointer (some ⟨7, 58, none⟩)
abbrev tR : TypeId := 133
theorem x_valueOf (t : Addr) (w : World) : (ReflectliteValue.unpack (.iface 64 (.pointer (some t)))).run Tryz.prog w
    = .ok (.agg #[hPF, .pointer (some ⟨w.heap.size, 0, none⟩), .int .u64 150]) (w.alloc (.cells #[.pointer (some t)] 64)) := by kernel_rfl
theorem x_type (a : Addr) (w : World) : (ReflectliteValue.methodAny (ReflectliteValue.valueError "reflectlite.Value.Type" 0) (fun t _ _ _ => ReflectliteType.toType t) #[.agg #[hPF, .pointer (some a), .int .u64 150]]).run Tryz.prog w
    = .ok (.iface tR (.agg #[hPF])) w := by kernel_rfl
theorem x_kindP (w : World) : ((ReflectliteType.abiMethod fun t => (fun a : Nat => Value.int IntKind.u8 (a : Int)) <$> Rtype.kind t) #[hPF]).run Tryz.prog w = .ok (.int .u8 22) w := by kernel_rfl
theorem x_kindF (w : World) : ((ReflectliteType.abiMethod fun t => (fun a : Nat => Value.int IntKind.u8 (a : Int)) <$> Rtype.kind t) #[hF]).run Tryz.prog w = .ok (.int .u8 25) w := by kernel_rfl
theorem x_partsP (a : Addr) (w : World) : (ReflectliteValue.parts (.agg #[hPF, .pointer (some a), .int .u64 150])).run Tryz.prog w = .ok (some (64, a, 150)) w := by kernel_rfl
theorem x_isNil (a p : Addr) (W : World) (ha : W.cell? a = some (.pointer (some p))) :
    (ReflectliteValue.method (ReflectliteValue.valueError "reflectlite.Value.IsNil" 0) ReflectliteValue.isNil #[.agg #[hPF, .pointer (some a), .int .u64 150]]).run Tryz.prog W = .ok (.bool false) W := by
  show Sem.run _ (ReflectliteValue.parts (.agg #[hPF, .pointer (some a), .int .u64 150]) >>= _) W = _
  simp only [Sem.run_bind, x_partsP, Result.andThen]
  simp [ReflectliteValue.isNil, loadVar, isAgg, underlying, Tryz.underlying64, ha, Result.andThen]
theorem x_elem (w : World) : (ReflectliteType.method ReflectliteType.elem #[.agg #[hPF]]).run Tryz.prog w = .ok (.iface tR (.agg #[hF])) w := by kernel_rfl
theorem x_implements (w : World) : (ReflectliteType.relation "Implements" ReflectliteType.implements_ #[.agg #[hF], .iface tR (.agg #[hE])]).run Tryz.prog w = .ok (.bool true) w := by kernel_rfl
theorem x_typeOfF (v : Value) (w : World) : (ReflectliteType.typeOf #[.iface 62 v]).run Tryz.prog w = .ok (.iface tR (.agg #[hF])) w := by kernel_rfl
theorem x_typeOfT (v : Value) (w : World) : (ReflectliteType.typeOf #[.iface 91 v]).run Tryz.prog w = .ok (.iface tR (.agg #[hTE])) w := by kernel_rfl
theorem x_assignF (w : World) : (ReflectliteType.relation "AssignableTo" ReflectliteType.assignableTo #[.agg #[hF], .iface tR (.agg #[hF])]).run Tryz.prog w = .ok (.bool true) w := by kernel_rfl
theorem x_assignT (w : World) : (ReflectliteType.relation "AssignableTo" ReflectliteType.assignableTo #[.agg #[hTE], .iface tR (.agg #[hF])]).run Tryz.prog w = .ok (.bool false) w := by kernel_rfl
theorem x_valueOfF (a b c : Value) (w : World) : (ReflectliteValue.unpack (.iface 62 (.agg #[a, b, c]))).run Tryz.prog w
    = .ok (.agg #[hF, .pointer (some ⟨w.heap.size, 0, none⟩), .int .u64 153]) (w.alloc (.cells #[a, b, c] 62)) := by kernel_rfl
theorem x_elemOf (w : World) : (Rtype.elem? 64).run Tryz.prog w = .ok (some 62) w := by kernel_rfl
theorem x_mk (p : Addr) (w : World) : (ReflectliteValue.mk 62 p ReflectliteValue.flagAddr).run Tryz.prog w = .ok (.agg #[hF, .pointer (some p), .int .u64 409]) w := by kernel_rfl
theorem x_elemV (a p : Addr) (W : World) (ha : W.cell? a = some (.pointer (some p))) :
    (ReflectliteValue.method (ReflectliteValue.valueError "reflectlite.Value.Elem" 0) ReflectliteValue.elem #[.agg #[hPF, .pointer (some a), .int .u64 150]]).run Tryz.prog W
      = .ok (.agg #[hF, .pointer (some p), .int .u64 409]) W := by
  show Sem.run _ (ReflectliteValue.parts (.agg #[hPF, .pointer (some a), .int .u64 150]) >>= _) W = _
  simp only [Sem.run_bind, x_partsP, Result.andThen]
  simp [ReflectliteValue.elem, loadVar, isAgg, underlying, Tryz.underlying64, ha, Result.andThen, x_elemOf, x_mk]
theorem x_partsFa (a : Addr) (w : World) : (ReflectliteValue.parts (.agg #[hF, .pointer (some a), .int .u64 409])).run Tryz.prog w = .ok (some (62, a, 409)) w := by kernel_rfl
theorem x_partsF (a : Addr) (w : World) : (ReflectliteValue.parts (.agg #[hF, .pointer (some a), .int .u64 153])).run Tryz.prog w = .ok (some (62, a, 153)) w := by kernel_rfl
theorem x_direct (w : World) : (Rtype.directlyAssignable 62 62).run Tryz.prog w = .ok true w := by kernel_rfl
theorem x_size (w : World) : (sizeOf 62).run Tryz.prog w = .ok 3 w := by kernel_rfl

/-- (Value).Set at a fault: three cells. -/
theorem x_set (R g : Nat) (c p q o0 o1 o2 : Int) (t u : TypeId) (W : World) (hg : W.heap[g]? = some (.cells #[.int .i64 c, .int .i64 p, .int .i64 q] t (0, 0))) (hR : W.heap[R]? = some (.cells #[.int .i64 o0, .int .i64 o1, .int .i64 o2] u (0, 0))) :
    (ReflectliteValue.set #[.agg #[hF, .pointer (some ⟨R, 0, none⟩), .int .u64 409], .agg #[hF, .pointer (some ⟨g, 0, none⟩), .int .u64 153]]).run Tryz.prog W
      = .ok (.tuple #[]) (((W.setCell ⟨R, 0, none⟩ (.int .i64 c)).setCell ⟨R, 1, none⟩ (.int .i64 p)).setCell ⟨R, 2, none⟩ (.int .i64 q)) := by
  have hl : (loadCells ⟨g, 0, none⟩ 3).run Tryz.prog W = .ok #[.int .i64 c, .int .i64 p, .int .i64 q] W := by
    refine run_loadCells_list W ⟨g, 0, none⟩ [.int .i64 c, .int .i64 p, .int .i64 q] fun j v hj => ?_
    rw [Addr.add_lit, cell_of_row W g _ _ _ _ hg, Nat.zero_add]
    simpa using hj
  have st : ∀ (W : World) (i : Nat) (v : Int) (a b e : Value), i < 3 → W.heap[R]? = some (.cells #[a, b, e] u (0, 0)) → (store ⟨R, i, none⟩ (.int .i64 v)).run Tryz.prog W = .ok () (W.setCell ⟨R, i, none⟩ (.int .i64 v)) := by
    intro W i v a b e hi h
    have h1 := cell_of_row W R i _ _ _ h
    have h2 := frozen_of_row W R i _ _ h
    rw [run_store _ _ _ _ _ (by rfl), h1, h2]
    match i, hi with
    | 0, _ => rfl
    | 1, _ => rfl
    | 2, _ => rfl
  have s0 := st W 0 c _ _ _ (by omega) hR
  have s1 := st (W.setCell ⟨R, 0, none⟩ (.int .i64 c)) 1 p (.int .i64 c) (.int .i64 o1) (.int .i64 o2) (by omega) (by simp [World.setCell, Array.getElem?_modify, hR])
  have s2 := st ((W.setCell ⟨R, 0, none⟩ (.int .i64 c)).setCell ⟨R, 1, none⟩ (.int .i64 p)) 2 q (.int .i64 c) (.int .i64 p) (.int .i64 o2) (by omega) (by simp [World.setCell, Array.getElem?_modify, hR])
  show Sem.run _ (ReflectliteValue.parts (.agg #[hF, .pointer (some ⟨R, 0, none⟩), .int .u64 409]) >>= fun r => ReflectliteValue.parts (.agg #[hF, .pointer (some ⟨g, 0, none⟩), .int .u64 153]) >>= _) W = _
  simp only [Sem.run_bind, x_partsFa, x_partsF, Result.andThen]
  simp [ReflectliteValue.flagAddr, loadVar, isAgg, underlying, Tryz.underlying62, Result.andThen, x_direct, hl, storeVar, storeCells, Value.cells, Addr.add, s0, s1, s2]
end Go.Proofs.YtdncjhffniepbaaGreatDoor.Lx
/- (LxG15)
  Layer 5, the program: errors.As at a target of type *fault.
-/
namespace Go.Proofs.YtdncjhffniepbaaGreatDoor.Lx
open Go.RowKit Go.Extern.Stop Go.Stop Go.Extern

theorem as_nil (t : Value) (w : World) : Calls Tryz.prog 34 #[.nilIface, t] w fun e w' => e = .returned (.bool false) ∧ w' = w := by
  go_enter Tryz.func34, Tryz.ntmps34
  go_wp2
  go_ret
  exact ⟨rfl, rfl⟩
theorem m_kindP (h : Value) (w : World) : (Go.method 335 tR (.agg #[h]) "Kind").run Tryz.prog w = .ok (168, h) w := by kernel_rfl
theorem m_elem (h : Value) (w : World) : (Go.method 335 tR (.agg #[h]) "Elem").run Tryz.prog w = .ok (180, .agg #[h]) w := by kernel_rfl
theorem m_impl (h : Value) (w : World) : (Go.method 335 tR (.agg #[h]) "Implements").run Tryz.prog w = .ok (181, .agg #[h]) w := by kernel_rfl
theorem m_assign (h : Value) (w : World) : (Go.method 335 tR (.agg #[h]) "AssignableTo").run Tryz.prog w = .ok (178, .agg #[h]) w := by kernel_rfl

/-- The fault is at the target. -/
def AsPost (w : World) (R : Nat) (f : Flt) (e : Ending) (w' : World) : Prop :=
  e = .returned (.bool true) ∧ w'.heap[R]? = some (.cells #[.int .i64 f.1, .int .i64 f.2.1, .int .i64 f.2.2] 62 (0, 0)) ∧ Below R w w'
set_option maxRecDepth 100000 in
set_option maxHeartbeats 8000000 in
theorem asi_hit (c p q : Int) (R V : Nat) (w : World) (hV : w.cell? ⟨V, 0, none⟩ = some (.pointer (some ⟨R, 0, none⟩))) (_hRV : R < V) (hR : w.heap[R]? = some (.cells #[.int .i64 0, .int .i64 0, .int .i64 0] 62 (0, 0))) (t : Value) :
    Calls Tryz.prog 53 #[.iface 62 (.agg #[.int .i64 c, .int .i64 p, .int .i64 q]), t, .agg #[hPF, .pointer (some ⟨V, 0, none⟩), .int .u64 150], .iface tR (.agg #[hF])] w (AsPost w R (c, p, q)) := by
  have h44 := @run_callFunc_extern Tryz.prog 83 _ ReflectliteType.typeOf Tryz.func83 (by kernel_rfl) (by kernel_rfl) (by kernel_rfl) (by kernel_rfl)
  have h108 := @run_callFunc_extern Tryz.prog 178 _ (ReflectliteType.relation "AssignableTo" ReflectliteType.assignableTo) Tryz.func178 (by kernel_rfl) (by kernel_rfl) (by kernel_rfl) (by kernel_rfl)
  have h45 := @run_callFunc_extern Tryz.prog 84 _ (ReflectliteValue.method (ReflectliteValue.valueError "reflectlite.Value.Elem" 0) ReflectliteValue.elem) Tryz.func84 (by kernel_rfl) (by kernel_rfl) (by kernel_rfl) (by kernel_rfl)
  have h23 := @run_callFunc_extern Tryz.prog 50 _ (fun args => ReflectliteValue.unpack (args.getD 0 (.tuple #[]))) Tryz.func50 (by kernel_rfl) (by kernel_rfl) (by kernel_rfl) (by kernel_rfl)
  have h46 := @run_callFunc_extern Tryz.prog 85 _ ReflectliteValue.set Tryz.func85 (by kernel_rfl) (by kernel_rfl) (by kernel_rfl) (by kernel_rfl)
  have mA := m_assign
  have tF := x_typeOfF
  have aF := x_assignF
  have vF := x_valueOfF
  have hVl := World.block_lt_of_cell? w _ hV
  have hRl := heap_lt hR
  have el := x_elemV ⟨V, 0, none⟩ ⟨R, 0, none⟩ (w.alloc (.cells #[hPF, .pointer (some ⟨V, 0, none⟩), .int .u64 150] 95)) (by rw [World.cell?_alloc_lt _ _ _ hVl]; exact hV)
  have st := x_set R (w.heap.size + 1) c p q 0 0 0 62 62 ((w.alloc (.cells #[hPF, .pointer (some ⟨V, 0, none⟩), .int .u64 150] 95)).alloc (.cells #[.int .i64 c, .int .i64 p, .int .i64 q] 62)) (two_new w _ _) ((Below.heap_alloc _ _ _ (by simp; omega)).trans ((Below.heap_alloc w _ _ hRl).trans hR))
  go_enter Tryz.func53, Tryz.ntmps53
  go_wp2
  refine wp_loop_rounds 1 ?_
  rw [rounds_succ]
  go_wp2
  go_ret
  exact ⟨rfl, (Below.heap_alloc _ _ _ (by simp; omega)).trans ((Below.heap_alloc _ _ _ (by simpa using hRl)).trans (res3 w R _ _ _ _ _ _ _ hR)), ((below3 (Below.refl R w) (Nat.le_refl _) _ _ _).alloc (by simp; omega) _).alloc (by simp; omega) _⟩
theorem m_unwrap (v : Value) (w : World) : (Go.method 335 91 v "Unwrap").run Tryz.prog w = .ok (173, v) w := by kernel_rfl
theorem x_noAs (v : Value) (w : World) : (Instr.typeAssert (.iface 91 v) 58 138 true).run Tryz.prog w = .ok (.tuple #[.nilIface, .bool false]) w :=
  run_typeAssert_lacksB Tryz.underlying138 (by kernel_rfl) (by kernel_rfl) v _ w
theorem x_yesUn (v : Value) (w : World) : (Instr.typeAssert (.iface 91 v) 58 141 true).run Tryz.prog w = .ok (.tuple #[.iface 91 v, .bool true]) w := by kernel_rfl
set_option maxRecDepth 100000 in
set_option maxHeartbeats 8000000 in
theorem asi_wrap (n c p q : Int) (R V : Nat) (w : World) (hV : w.cell? ⟨V, 0, none⟩ = some (.pointer (some ⟨R, 0, none⟩))) (_hRV : R < V) (hR : w.heap[R]? = some (.cells #[.int .i64 0, .int .i64 0, .int .i64 0] 62 (0, 0))) (t : Value) :
    Calls Tryz.prog 53 #[.iface 91 (.agg #[.int .i64 n, .iface 62 (.agg #[.int .i64 c, .int .i64 p, .int .i64 q])]), t, .agg #[hPF, .pointer (some ⟨V, 0, none⟩), .int .u64 150], .iface tR (.agg #[hF])] w (AsPost w R (c, p, q)) := by
  have h44 := @run_callFunc_extern Tryz.prog 83 _ ReflectliteType.typeOf Tryz.func83 (by kernel_rfl) (by kernel_rfl) (by kernel_rfl) (by kernel_rfl)
  have h108 := @run_callFunc_extern Tryz.prog 178 _ (ReflectliteType.relation "AssignableTo" ReflectliteType.assignableTo) Tryz.func178 (by kernel_rfl) (by kernel_rfl) (by kernel_rfl) (by kernel_rfl)
  have h45 := @run_callFunc_extern Tryz.prog 84 _ (ReflectliteValue.method (ReflectliteValue.valueError "reflectlite.Value.Elem" 0) ReflectliteValue.elem) Tryz.func84 (by kernel_rfl) (by kernel_rfl) (by kernel_rfl) (by kernel_rfl)
  have h23 := @run_callFunc_extern Tryz.prog 50 _ (fun args => ReflectliteValue.unpack (args.getD 0 (.tuple #[]))) Tryz.func50 (by kernel_rfl) (by kernel_rfl) (by kernel_rfl) (by kernel_rfl)
  have h46 := @run_callFunc_extern Tryz.prog 85 _ ReflectliteValue.set Tryz.func85 (by kernel_rfl) (by kernel_rfl) (by kernel_rfl) (by kernel_rfl)
  have mA := m_assign
  have mU := m_unwrap
  have nA := x_noAs
  have yU := x_yesUn
  have tF := x_typeOfF
  have tT := x_typeOfT
  have aF := x_assignF
  have aT := x_assignT
  have vF := x_valueOfF
  have hVl := World.block_lt_of_cell? w _ hV
  have hRl := heap_lt hR
  have hc1 : ((w.alloc (.cells #[hPF, .pointer (some ⟨V, 0, none⟩), .int .u64 150] 95)).alloc (.cells #[.int .i64 n, .iface 62 (.agg #[.int .i64 c, .int .i64 p, .int .i64 q])] 91)).cell? ⟨V, 0, none⟩ = some (.pointer (some ⟨R, 0, none⟩)) := by
    rw [World.cell?_alloc_lt _ _ _ (by simp; exact Nat.lt_succ_of_lt hVl), World.cell?_alloc_lt _ _ _ hVl]; exact hV
  have el := x_elemV ⟨V, 0, none⟩ ⟨R, 0, none⟩ _ hc1
  have st := x_set R (w.heap.size + 1 + 1) c p q 0 0 0 62 62 (((w.alloc (.cells #[hPF, .pointer (some ⟨V, 0, none⟩), .int .u64 150] 95)).alloc (.cells #[.int .i64 n, .iface 62 (.agg #[.int .i64 c, .int .i64 p, .int .i64 q])] 91)).alloc (.cells #[.int .i64 c, .int .i64 p, .int .i64 q] 62)) (by have := two_new (w.alloc (.cells #[hPF, .pointer (some ⟨V, 0, none⟩), .int .u64 150] 95)) (.cells #[.int .i64 n, .iface 62 (.agg #[.int .i64 c, .int .i64 p, .int .i64 q])] 91) (.cells #[.int .i64 c, .int .i64 p, .int .i64 q] 62); simpa using this) ((Below.heap_alloc _ _ _ (by simp; omega)).trans ((Below.heap_alloc _ _ _ (by simp; omega)).trans ((Below.heap_alloc w _ _ hRl).trans hR)))
  go_enter Tryz.func53, Tryz.ntmps53
  go_wp2
  refine wp_loop_rounds 2 ?_
  rw [rounds_succ]
  go_wp2
  rw [rounds_succ]
  go_wp2
  go_ret
  exact ⟨rfl, res3 _ R _ _ _ _ _ _ _ ((Below.heap_alloc _ _ _ (by simp; omega)).trans ((Below.heap_alloc _ _ _ (by simp; omega)).trans ((Below.heap_alloc w _ _ hRl).trans hR))), below3 ((((Below.refl R w).alloc (by omega) _).alloc (by simp; omega) _).alloc (by simp; omega) _) (Nat.le_refl _) _ _ _⟩
end Go.Proofs.YtdncjhffniepbaaGreatDoor.Lx
/- (LxG16)
  Layer 5, the program: errors.As finds the fault; All; Quote.
-/
namespace Go.Proofs.YtdncjhffniepbaaGreatDoor.Lx
open Go.RowKit Go.Extern.Stop Go.Stop Go.Extern

section
variable {w : World} {R : Nat} {c p q : Int} {err : Value}
set_option maxRecDepth 100000 in
set_option maxHeartbeats 8000000 in
theorem as_any (het : ET w) (hR : w.heap[R]? = some (.cells #[.int .i64 0, .int .i64 0, .int .i64 0] 62 (0, 0))) (ht : ∃ t v, err = .iface t v)
    (HA : ∀ (V : Nat) (W : World) (t : Value), W.cell? ⟨V, 0, none⟩ = some (.pointer (some ⟨R, 0, none⟩)) → R < V → W.heap[R]? = some (.cells #[.int .i64 0, .int .i64 0, .int .i64 0] 62 (0, 0)) →
      Calls Tryz.prog 53 #[err, t, .agg #[hPF, .pointer (some ⟨V, 0, none⟩), .int .u64 150], .iface tR (.agg #[hF])] W (AsPost W R (c, p, q))) :
    Calls Tryz.prog 34 #[err, .iface 64 (.pointer (some ⟨R, 0, none⟩))] w (AsPost w R (c, p, q)) := by
  obtain ⟨t0, v0, rfl⟩ := ht
  have h23 := @run_callFunc_extern Tryz.prog 50 _ (fun args => ReflectliteValue.unpack (args.getD 0 (.tuple #[]))) Tryz.func50 (by kernel_rfl) (by kernel_rfl) (by kernel_rfl) (by kernel_rfl)
  have h24 := @run_callFunc_extern Tryz.prog 51 _ (ReflectliteValue.methodAny (ReflectliteValue.valueError "reflectlite.Value.Type" 0) (fun t _ _ _ => ReflectliteType.toType t)) Tryz.func51 (by kernel_rfl) (by kernel_rfl) (by kernel_rfl) (by kernel_rfl)
  have h25 := @run_callFunc_extern Tryz.prog 52 _ (ReflectliteValue.method (ReflectliteValue.valueError "reflectlite.Value.IsNil" 0) ReflectliteValue.isNil) Tryz.func52 (by kernel_rfl) (by kernel_rfl) (by kernel_rfl) (by kernel_rfl)
  have h97 := @run_callFunc_extern Tryz.prog 168 _ (ReflectliteType.abiMethod fun t => do pure (.int .u8 (← Rtype.kind t))) Tryz.func168 (by kernel_rfl) (by kernel_rfl) (by kernel_rfl) (by kernel_rfl)
  have h110 := @run_callFunc_extern Tryz.prog 180 _ (ReflectliteType.method ReflectliteType.elem) Tryz.func180 (by kernel_rfl) (by kernel_rfl) (by kernel_rfl) (by kernel_rfl)
  have h111 := @run_callFunc_extern Tryz.prog 181 _ (ReflectliteType.relation "Implements" ReflectliteType.implements_) Tryz.func181 (by kernel_rfl) (by kernel_rfl) (by kernel_rfl) (by kernel_rfl)
  have mK := m_kindP
  have mE := m_elem
  have mI := m_impl
  have kP := x_kindP
  have kF := x_kindF
  have eP := x_elem
  have iF := x_implements
  have vP := x_valueOf
  have tP := x_type
  have hRl := heap_lt hR
  have hg := het.et
  have hgl := World.block_lt_of_cell? w _ hg
  have nI := x_isNil ⟨w.heap.size, 0, none⟩ ⟨R, 0, none⟩ ((w.alloc (.cells #[.pointer (some ⟨R, 0, none⟩)] 64)).alloc (.cells #[hPF, .pointer (some ⟨w.heap.size, 0, none⟩), .int .u64 150] 95)) (by rw [cell_of_row _ w.heap.size 0 _ _ _ ((Below.heap_alloc (w.alloc _) _ _ (by simp)).trans (heap_alloc_new w _))]; rfl)
  have hg2 : ((w.alloc (.cells #[.pointer (some ⟨R, 0, none⟩)] 64)).alloc (.cells #[hPF, .pointer (some ⟨w.heap.size, 0, none⟩), .int .u64 150] 95)).cell? ⟨0, 0, none⟩ = some (.iface tR (.agg #[hE])) := by
    rw [World.cell?_alloc_lt _ _ _ (by simp <;> exact Nat.lt_succ_of_lt hgl), World.cell?_alloc_lt _ _ _ hgl]; exact hg
  have HC := Lib.hid (HA w.heap.size ((w.alloc (.cells #[.pointer (some ⟨R, 0, none⟩)] 64)).alloc (.cells #[hPF, .pointer (some ⟨w.heap.size, 0, none⟩), .int .u64 150] 95)) (.iface 64 (.pointer (some ⟨R, 0, none⟩)))
    (by rw [cell_of_row _ w.heap.size 0 _ _ _ ((Below.heap_alloc (w.alloc _) _ _ (by simp)).trans (heap_alloc_new w _))]; rfl) hRl ((Below.heap_alloc (w.alloc _) _ _ (by simp; omega)).trans ((Below.heap_alloc w _ _ hRl).trans hR)))
  have B0 := Lib.hid (((Below.refl R w).alloc (by omega) (.cells #[.pointer (some ⟨R, 0, none⟩)] 64)).alloc (by simp <;> omega) (.cells #[hPF, .pointer (some ⟨w.heap.size, 0, none⟩), .int .u64 150] 95))
  clear HA hg hR het
  go_enter Tryz.func34, Tryz.ntmps34
  go_wp2_with (go_at_call 53; ((refine HC.out.mono ?_); rintro e w2 ⟨rfl, hr2, hb2⟩; have R2 := Lib.hid hr2; have B2 := Lib.hid (B0.out.trans hb2); clear hr2 hb2))
  go_ret
  exact ⟨rfl, R2.out, B2.out⟩
end
end Go.Proofs.YtdncjhffniepbaaGreatDoor.Lx
/- (LxG17)
  Layer 5, the program: All.
-/
namespace Go.Proofs.YtdncjhffniepbaaGreatDoor.Lx
open Go.RowKit Go.Extern.Stop Go.Stop Go.Extern

theorem gas_flt {w : World} {R : Nat} (f : Flt) (het : ET w) (hR : w.heap[R]? = some (.cells #[.int .i64 0, .int .i64 0, .int .i64 0] 62 (0, 0))) :
    Calls Tryz.prog 34 #[fltV f, .iface 64 (.pointer (some ⟨R, 0, none⟩))] w (AsPost w R f) :=
  as_any het hR ⟨_, _, rfl⟩ fun V W t hV hRV hRW => asi_hit f.1 f.2.1 f.2.2 R V W hV hRV hRW t
theorem gas_wrap {w : World} {R : Nat} (i : Nat) (f : Flt) (het : ET w) (hR : w.heap[R]? = some (.cells #[.int .i64 0, .int .i64 0, .int .i64 0] 62 (0, 0))) :
    Calls Tryz.prog 34 #[wrapV i f, .iface 64 (.pointer (some ⟨R, 0, none⟩))] w (AsPost w R f) :=
  as_any het hR ⟨_, _, rfl⟩ fun V W t hV hRV hRW => asi_wrap i f.1 f.2.1 f.2.2 R V W hV hRV hRW t

theorem gas_any {w : World} {R : Nat} {f : Flt} {ev : Value} (hev : ev = fltV f ∨ ∃ i : Nat, ev = wrapV i f) (het : ET w) (hR : w.heap[R]? = some (.cells #[.int .i64 0, .int .i64 0, .int .i64 0] 62 (0, 0))) :
    Calls Tryz.prog 34 #[ev, .iface 64 (.pointer (some ⟨R, 0, none⟩))] w (AsPost w R f) := by
  rcases hev with rfl | ⟨i, rfl⟩
  · exact gas_flt f het hR
  · exact gas_wrap i f het hR
set_option maxRecDepth 100000 in
set_option maxHeartbeats 4000000 in
theorem gall_any {s : ByteArray} {l : List Int} (hs : ch s = l) (hn : l.length ≤ 100000) (w : World) (het : ET w) : Calls Tryz.prog 16 #[.string s] w (APost w (allT l) (allF l)) := by
  have HR := Lib.hid (fun W h => read_any hs hn W h)
  have B0 := Lib.hid (balloc w (.cells #[.int .i64 0, .int .i64 0, .int .i64 0] 32))
  have K0 := Lib.hid (heap_alloc_new w (.cells #[.int .i64 0, .int .i64 0, .int .i64 0] 32))
  have ET0 := Lib.hid (het.below B0.out)
  have hET := Lib.hid het
  unfold RdPost at HR
  clear hs hn het
  cases ha : all l with
  | ok ts =>
    have E1 : Hid (allT l = ts) := Lib.hid (by unfold allT; rw [ha])
    have E2 : Hid (allF l = (0, 0, 0)) := Lib.hid (by unfold allF; rw [ha])
    rw [ha] at HR
    have HN := Lib.hid (fun (t : Value) (W : World) => as_nil t W)
    clear ha
    go_enter Tryz.func16, Tryz.ntmps16
    go_wp2_with (first
      | (go_at_call 33; ((refine (HR.out _ ET0.out).mono ?_); rintro e w1 ⟨hb1, v1, rfl, hl1⟩; have V1 := Lib.hid hl1; have B1 : Hid (Below w.heap.size w w1) := Lib.hid (B0.out.trans (hb1.mono B0.out.size)); have k1 := (hb1.block _ (heap_lt K0.out)).trans K0.out; have K1 := Lib.hid k1; have c0 := cell_of_row _ _ 0 _ _ _ k1; have c1 := cell_of_row _ _ 1 _ _ _ k1; have c2 := cell_of_row _ _ 2 _ _ _ k1; have f0 := frozen_of_row _ _ 0 _ _ k1; have f1 := frozen_of_row _ _ 1 _ _ k1; have f2 := frozen_of_row _ _ 2 _ _ k1; have hwl := heap_lt k1; clear hb1 hl1 k1))
      | (go_at_call 34; ((refine (HN.out _ _).mono ?_); rintro e w2 ⟨rfl, rfl⟩)))
    have hwl1 : w.heap.size < (((w1.setCell ⟨w.heap.size, 0, none⟩ (.int .i64 0)).setCell ⟨w.heap.size, 1, none⟩ (.int .i64 0)).setCell ⟨w.heap.size, 2, none⟩ (.int .i64 0)).heap.size := heap_lt (res3 w1 w.heap.size (.int .i64 0) (.int .i64 0) (.int .i64 0) (.int .i64 0) (.int .i64 0) (.int .i64 0) _ K1.out)
    have hb9 := (Below.heap_alloc (((w1.setCell ⟨w.heap.size, 0, none⟩ (.int .i64 0)).setCell ⟨w.heap.size, 1, none⟩ (.int .i64 0)).setCell ⟨w.heap.size, 2, none⟩ (.int .i64 0)) (.cells #[.int .i64 0, .int .i64 0, .int .i64 0] 62) w.heap.size hwl1).trans (res3 w1 w.heap.size (.int .i64 0) (.int .i64 0) (.int .i64 0) (.int .i64 0) (.int .i64 0) (.int .i64 0) _ K1.out)
    refine bodyPost_ret (v := .tuple #[v1, .agg #[.int .i64 0, .int .i64 0, .int .i64 0]]) (by simp [results, Tryz.results16, go_sem, cell_of_row _ w.heap.size 0 _ _ _ hb9, cell_of_row _ w.heap.size 1 _ _ _ hb9, cell_of_row _ w.heap.size 2 _ _ _ hb9]) rfl ?_
    exact ⟨v1, by rw [E2.out], by rw [E1.out]; exact (tlst_res K1.out V1.out).below (balloc _ _), (below3 B1.out (Nat.le_refl _) _ _ _).alloc (Nat.le_of_lt hwl1) _⟩
  | error f =>
    obtain ⟨c, p, q⟩ := f
    have E1 : Hid (allT l = []) := Lib.hid (by unfold allT; rw [ha])
    have E2 : Hid (allF l = (c, p, q)) := Lib.hid (by unfold allF; rw [ha])
    rw [ha] at HR
    clear ha
    go_enter Tryz.func16, Tryz.ntmps16
    go_wp2_with (first
      | (go_at_call 33; ((refine (HR.out _ ET0.out).mono ?_); rintro e w1 ⟨hb1, ev, rfl, hev⟩; have HEV := Lib.hid hev; have B1 : Hid (Below w.heap.size w w1) := Lib.hid (B0.out.trans (hb1.mono B0.out.size)); have k1 := (hb1.block _ (heap_lt K0.out)).trans K0.out; have K1 := Lib.hid k1; have hwl := heap_lt k1; clear hb1 hev k1))
      | (go_at_call 34; ((refine (gas_any HEV.out (hET.out.below (B1.out.alloc B1.out.size _)) (heap_alloc_new w1 _)).mono ?_); rintro e w2 ⟨rfl, hr2, hb2⟩; have R2 := Lib.hid hr2; have B2 : Hid (Below w.heap.size w w2) := Lib.hid ((B1.out.alloc B1.out.size _).trans (hb2.mono (by omega))); have k2 := (hb2.block _ hwl).trans ((Below.heap_alloc w1 _ _ hwl).trans K1.out); have K2 := Lib.hid k2; have c0 := cell_of_row _ _ 0 _ _ _ k2; have c1 := cell_of_row _ _ 1 _ _ _ k2; have c2 := cell_of_row _ _ 2 _ _ _ k2; have f0 := frozen_of_row _ _ 0 _ _ k2; have f1 := frozen_of_row _ _ 1 _ _ k2; have f2 := frozen_of_row _ _ 2 _ _ k2; have e0 := cell_of_row _ _ 0 _ _ _ hr2; have e1 := cell_of_row _ _ 1 _ _ _ hr2; have e2 := cell_of_row _ _ 2 _ _ _ hr2; clear hr2 hb2 k2)))
    go_region
    go_wp2_with fail
    have hb9 : (((w2.setCell ⟨w.heap.size, 0, none⟩ (.int .i64 c)).setCell ⟨w.heap.size, 1, none⟩ (.int .i64 p)).setCell ⟨w.heap.size, 2, none⟩ (.int .i64 q)).drew.heap[w.heap.size]? = _ := res3 w2 w.heap.size (.int .i64 0) (.int .i64 0) (.int .i64 0) (.int .i64 c) (.int .i64 p) (.int .i64 q) _ K2.out
    refine bodyPost_ret (v := .tuple #[.slice none 0 0, .agg #[.int .i64 c, .int .i64 p, .int .i64 q]]) (by simp [results, Tryz.results16, go_sem, cell_of_row _ w.heap.size 0 _ _ _ hb9, cell_of_row _ w.heap.size 1 _ _ _ hb9, cell_of_row _ w.heap.size 2 _ _ _ hb9]) rfl ?_
    exact ⟨_, by rw [E2.out], by rw [E1.out]; exact TLst.nil _, (below3 B2.out (Nat.le_refl _) _ _ _).drew⟩
end Go.Proofs.YtdncjhffniepbaaGreatDoor.Lx
/- (LxProg)
  Layer 5: the contract of the program's All.
-/
namespace Go.Proofs.YtdncjhffniepbaaGreatDoor.Lx
open Go.RowKit

theorem prog_all {s : ByteArray} {l : List Int} (hs : ch s = l) (hn : l.length ≤ 100000) (w : World) (het : ET w) : Calls Tryz.prog 16 #[.string s] w (APost w (allT l) (allF l)) := gall_any hs hn w het
end Go.Proofs.YtdncjhffniepbaaGreatDoor.Lx
/- (LxSame)
  Layer 5: tokens compared; the statements' example.
-/
namespace Go.Proofs.YtdncjhffniepbaaGreatDoor.Lx
open Go.RowKit

set_option maxRecDepth 100000 in
set_option maxHeartbeats 1000000 in
theorem tsame_any {w : World} {v1 v2 : Value} {ts : List Tok} (h1 : TLst w v1 ts) (h2 : TLst w v2 ts) : Calls Tryz.prog 18 #[v1, v2] w (QPost w (.bool true)) := by
  obtain ⟨A1, k1, rfl, r1, _, m1, m2⟩ := h1
  obtain ⟨A2, k2, rfl, r2, _⟩ := h2
  have hm : ts.length ≤ 9223372036854775807 := by unfold maxLen at m2; omega
  clear m1 m2
  have R1 := Lib.hid r1
  have R2 := Lib.hid r2
  clear r1 r2
  go_enter Tryz.func18, Tryz.ntmps18
  go_wp2_with fail
  go_loopg [5] (ts.length + 1) (fun g' i wr => ∃ (k m : Nat), i = .int .i64 k ∧ k ≤ ts.length ∧ ts.length - k + 1 ≤ g' ∧ wr = w.drewN m)
  case atStart => exact ⟨0, 0, rfl, Nat.zero_le _, by omega, rfl⟩
  case round =>
    obtain ⟨k, m, rfl, hk, hg, rfl⟩ := hrel
    by_cases hkn : k < ts.length
    · obtain ⟨t, ht⟩ : ∃ t, ts[k]? = some t := ⟨ts[k], List.getElem?_eq_getElem hkn⟩
      have hki : (k : Int) < (ts.length : Int) := by omega
      obtain ⟨g1, o1, rfl, e1⟩ := R1.out (by omega)
      obtain ⟨g2, o2, rfl, e2⟩ := R2.out (by omega)
      obtain ⟨a1, a2, a3, a4⟩ := e1 k t ht
      obtain ⟨b1, b2, b3, b4⟩ := e2 k t ht
      obtain ⟨tk, tt, tl, tc⟩ := t
      simp only at a1 a2 a3 a4 b1 b2 b3 b4
      generalize bytesOf tt = s at *
      clear ht e1 e2
      go_wp2_with fail
      go_quiet (fail)
      go_wp2_with fail
      go_roundg (ts.length - (k + 1) + 1)
      case measure => omega
      case rel => exact ⟨k + 1, _, by go_num, by omega, Nat.le_refl _, rfl⟩
    · obtain rfl : k = ts.length := by omega
      go_wp2_with fail
      go_ret
      exact ⟨rfl, m, rfl⟩
end Go.Proofs.YtdncjhffniepbaaGreatDoor.Lx
/- (LxSane)
  Layer 5: the statements' example.
-/
namespace Go.Proofs.YtdncjhffniepbaaGreatDoor.Lx
open Go.RowKit

theorem sane_1 : allT [106, 111, 98, 32, 97, 32, 123, 125] = [⟨1, [106, 111, 98], 1, 1⟩, ⟨1, [97], 1, 5⟩, ⟨5, [123], 1, 7⟩, ⟨5, [125], 1, 8⟩, ⟨6, [], 1, 9⟩] := by kernel_rfl
theorem sane_2 : allF [106, 111, 98, 32, 97, 32, 123, 125] = (0, 0, 0) := by kernel_rfl
theorem sane_3 : allT [34, 120] = [] := by kernel_rfl
theorem sane_4 : allF [34, 120] = (51, 1, 1) := by kernel_rfl

set_option maxRecDepth 100000 in
set_option maxHeartbeats 2000000 in
theorem sane_any (w : World) (het : ET w) : Calls Tryz.prog 12 #[] w (BPost w true) := by
  have h1 := fun W (h : ET W) => prog_all (s := ⟨#[106, 111, 98, 32, 97, 32, 123, 125]⟩) (l := [106, 111, 98, 32, 97, 32, 123, 125]) (by decide) (by simp) W h
  have h2 := fun W (h : ET W) => prog_all (s := ⟨#[34, 120]⟩) (l := [34, 120]) (by decide) (by simp) W h
  rw [sane_1, sane_2] at h1
  rw [sane_3, sane_4] at h2
  have H1 := Lib.hid h1
  have H2 := Lib.hid h2
  have HET := Lib.hid het
  clear h1 h2 het
  go_enter Tryz.func12, Tryz.ntmps12
  go_wp2_with (first
    | (go_at_call 16; ((with_reducible refine (H1.out _ HET.out).mono ?_); rintro e w1 ⟨v1, rfl, hv1, hb1⟩; have V1 := Lib.hid (hv1.below (balloc w1 (.cells #[.int .i64 0, .int .i64 0, .int .i64 0] 32))); have B1 := Lib.hid (hb1.alloc hb1.size (.cells #[.int .i64 0, .int .i64 0, .int .i64 0] 32)); have k1 := heap_alloc_new w1 (.cells #[.int .i64 0, .int .i64 0, .int .i64 0] 32); have K1 := Lib.hid k1; obtain ⟨A1, c1, hv, _⟩ := hv1; simp only [List.length_cons, List.length_nil, Nat.zero_add, Nat.reduceAdd] at hv; subst hv; clear hb1 k1))
    | (go_at_call 16; ((with_reducible refine (H2.out _ (HET.out.below B1.out)).mono ?_); rintro e w2 ⟨v2, rfl, hv2, hb2⟩; have B2 := Lib.hid ((B1.out.trans (hb2.mono B1.out.size)).alloc (by have := B1.out.size; have := hb2.size; omega) (.cells #[.int .i64 51, .int .i64 1, .int .i64 1] 32)); have b3 := hb2.trans ((balloc w2 (.cells #[.int .i64 51, .int .i64 1, .int .i64 1] 32)).mono hb2.size); have k3 := (b3.block _ (heap_lt K1.out)).trans K1.out; have d0 := cell_of_row _ _ 0 _ _ _ k3; have d1 := cell_of_row _ _ 1 _ _ _ k3; have d2 := cell_of_row _ _ 2 _ _ _ k3; obtain ⟨A3, c3, hv3, ht3, _⟩ := V1.out.below b3; simp only [List.length_cons, List.length_nil, Nat.zero_add, Nat.reduceAdd, Value.slice.injEq, true_and] at hv3; obtain ⟨rfl, rfl⟩ := hv3; obtain ⟨g, off, rfl, ht⟩ := ht3 (by simp); have t1 := (ht 1 _ rfl).2.2.2; have t4 := (ht 4 _ rfl); have u4 := t4.1; have v4 := t4.2.2.2; obtain ⟨A2, c2, rfl, _⟩ := hv2; clear hb2 b3 k3 ht t4)))
  go_ret
  exact ⟨rfl, B2.out⟩
end Go.Proofs.YtdncjhffniepbaaGreatDoor.Lx
/- (LxMod)
  Strings next to each other; the remainder; a string appended to bytes.
-/
namespace Go.Proofs.YtdncjhffniepbaaGreatDoor.Lx
open Go.RowKit

/-- Strings next to each other at block b. -/
def Strs (w : World) (b n : Nat) : Prop := ∀ k, k < n → ∃ s : ByteArray, w.cell? ⟨b, k, none⟩ = some (.string s) ∧ s.size ≤ 10000
theorem Strs.below {w w' : World} {b n : Nat} (h : Strs w b n) (hb : Below w.heap.size w w') : Strs w' b n := fun k hk => by
  obtain ⟨s, h1, h2⟩ := h k hk
  exact ⟨s, (hb.cell (World.block_lt_of_cell? w _ h1)).trans h1, h2⟩

theorem bytesOf_size (l : List Int) : (bytesOf l).size = l.length := by unfold bytesOf; simp [ByteArray.size]
theorem strs_lit (w : World) (l : List ByteArray) (t : TypeId) (h : ∀ s ∈ l, s.size ≤ 10000) : Strs (w.alloc (.cells (l.map Value.string).toArray t)) w.heap.size l.length := fun k hk => by
  refine ⟨l[k], ?_, h _ (List.getElem_mem _)⟩
  rw [cell_of_row _ _ _ _ _ _ (heap_alloc_new w _)]
  simp [hk]
theorem tmod_cases (v n : Int) (h0 : 1 ≤ n) : (v.tmod n = v % n ∧ 0 ≤ v.tmod n) ∨ (v.tmod n + n = v % n ∧ v.tmod n < 0 ∧ -n < v.tmod n) := by
  have e0 := Int.emod_nonneg v (show n ≠ 0 by omega)
  have e1 := Int.emod_lt_of_pos v (show 0 < n by omega)
  have e2 := Int.tmod_eq_emod (a := v) (b := n)
  have e3 : (n.natAbs : Int) = n := Int.natAbs_of_nonneg (by omega)
  split at e2
  · left; constructor
    · omega
    · omega
  · rename_i h
    right
    have hne : v % n ≠ 0 := fun e => h (.inr (Int.dvd_of_emod_eq_zero e))
    rw [e3] at e2
    exact ⟨by omega, by omega, by omega⟩
theorem mod_any (v n : Int) (h0 : 1 ≤ n) (h1 : n ≤ 2000000) (hv0 : -9223372036854775808 ≤ v) (hv1 : v ≤ 9223372036854775807) (w : World) :
    Calls Tryz.prog 26 #[.int .i64 v, .int .i64 n] w fun e w' => e = .returned (.int .i64 (v % n)) ∧ w = w' := by
  have hn0 : (n == 0) = false := beq_eq_false_iff_ne.2 (by omega)
  by_cases hv : 0 ≤ v
  · have e0 := Int.emod_nonneg v (show n ≠ 0 by omega)
    have hd : decide (v % n < 0) = false := decide_eq_false (by omega)
    go_enter Tryz.func26, Tryz.ntmps26
    go_wp2
    go_ret
    exact ⟨rfl, rfl⟩
  · rcases tmod_cases v n h0 with ⟨e1, e2⟩ | ⟨e1, e2, e3⟩
    · have hd : decide (v.tmod n < 0) = false := decide_eq_false (by omega)
      have E1 := Lib.hid e1
      clear e1
      go_enter Tryz.func26, Tryz.ntmps26
      go_wp2
      go_ret
      exact ⟨ret_i E1.out, rfl⟩
    · have hd : decide (v.tmod n < 0) = true := decide_eq_true e2
      have E1 := Lib.hid e1
      clear e1
      go_enter Tryz.func26, Tryz.ntmps26
      go_wp2
      go_ret
      exact ⟨ret_i E1.out, rfl⟩


theorem strCells_ch (s : ByteArray) : Lib.strCells s = (ch s).map (Value.int .u8) := by
  unfold Lib.strCells ch
  rw [List.map_map]
  rfl
/-- A string appended to bytes of the call's own. -/
theorem wpList_app_str {w : World} {ops : Array Oper} {rest : List Oper} {o : Oper} {a : Act} {Q : Exit → Act → World → Prop} (hgd : o.guard = none) (s y : Operand)
    (ho : o.op = .call { callee := .builtin .append, args := #[s, y], argTypes := #[53, 9] })
    {B : Nat} {v : Value} {l : List Int} (hs : a.eval s = v) (h : Own 5 .u8 w B v l) (t : ByteArray) (hy : a.eval y = .string t) (hl : l.length + t.size ≤ 1000000) (hB : B ≤ w.heap.size)
    (hK : ∀ v' w', Own 5 .u8 w' B v' (l ++ ch t) → Fr 5 B w w' → wpList Tryz.prog ops Q rest (a.put o.dst v') w') : wpList Tryz.prog ops Q (o :: rest) a w := by
  obtain ⟨i, hi, hz, h1, h2⟩ := info_parts Tryz.info5
  refine Lib.wpList_append_own_string w hgd s y 53 9 ho B 5 i Tryz.underlying53 Tryz.underlying9 hi hz h1 h2 v l.length (l.map (Value.int .u8)) hs h t hy (by unfold maxLen; omega) (by omega) hB fun v' w' r1 r2 _ => hK v' w' ?_ (Fr.of_grown r2 hB h.block)
  unfold Own
  rw [List.length_append, ch_length, List.map_append, ← strCells_ch]
  exact r1

theorem ch_two : ch ⟨#[123, 32]⟩ = [123, 32] := by decide
theorem own_two {e : TypeId} {k : IntKind} {w : World} {B : Nat} {v : Value} {l : List Int} (h : Own e k w B v (l ++ ch ⟨#[123, 32]⟩)) : ∃ A c, v = .slice A (l.length + 2) c := by
  obtain ⟨A, c, hv⟩ := h.form
  exact ⟨A, c, by rw [hv, List.length_append, ch_two]; rfl⟩
theorem own_two_own {e : TypeId} {k : IntKind} {w : World} {B : Nat} {v : Value} {l : List Int} (h : Own e k w B v (l ++ ch ⟨#[123, 32]⟩)) : Own e k w B v (l ++ [123, 32]) := by rw [ch_two] at h; exact h
end Go.Proofs.YtdncjhffniepbaaGreatDoor.Lx
/- (LxPars)
  Layer 6's reference, as far as layer 5's statements need it: the parser's state, its small methods.
-/
namespace Go.Proofs.YtdncjhffniepbaaGreatDoor.Lx
open Go.RowKit

theorem grown_set (w : World) (p : Addr) (u : Value) : w.grownBy (w.setCell p u) (some p.block) := ⟨rfl, rfl, rfl, by simp, fun k _ hk => Below.heap_setCell _ _ _ _ (by simpa using hk)⟩
theorem grown_trans {w0 w w' : World} {row : Option Nat} (h : w0.grownBy w row) (k : w.grownBy w' row) : w0.grownBy w' row :=
  ⟨k.os.trans h.os, k.tape.trans h.tape, k.output.trans h.output, Nat.le_trans h.size k.size, fun i hi hne => (k.block i (Nat.lt_of_lt_of_le hi h.size) hne).trans (h.block i hi hne)⟩
theorem grown_drewN (w : World) (n : Nat) (row : Option Nat) : w.grownBy (w.drewN n) row := ⟨rfl, rfl, rfl, Nat.le_refl _, fun _ _ _ => rfl⟩
theorem grown_refl (w : World) (row : Option Nat) : w.grownBy w row := ⟨rfl, rfl, rfl, Nat.le_refl _, fun _ _ _ => rfl⟩

/-- What a token is as a value. -/
abbrev Tok.val (t : Tok) : Value := .agg #[.int .i64 t.kind, .string (bytesOf t.text), .int .i64 t.line, .int .i64 t.col]
/-- A parser at block p: its tokens, the present one a, the fault, the items seen. -/
structure Par (w : World) (p : Nat) (A : Option Addr) (c : Nat) (ts : List Tok) (a : Nat) (b x y : Int) (S : Value) : Prop where
  blk : w.heap[p]? = some (.cells #[.slice A ts.length c, .int .i64 a, .int .i64 b, .int .i64 x, .int .i64 y, S] 80 (0, 0))
  lt : a < ts.length
  fin : ∀ t, ts[ts.length - 1]? = some t → t.kind = 6
  len : ts.length ≤ 3000
  txt : ∀ t ∈ ts, t.text.length ≤ 10000
  tok : ∃ g off, A = some ⟨g, off, none⟩ ∧ g ≠ p ∧ ∀ k t, ts[k]? = some t →
    w.cell? ⟨g, off + k * 4, none⟩ = some (.int .i64 t.kind) ∧ w.cell? ⟨g, off + k * 4 + 1, none⟩ = some (.string (bytesOf t.text)) ∧ w.cell? ⟨g, off + k * 4 + 2, none⟩ = some (.int .i64 t.line) ∧ w.cell? ⟨g, off + k * 4 + 3, none⟩ = some (.int .i64 t.col)
theorem Par.drew {w : World} {p : Nat} {A : Option Addr} {c : Nat} {ts : List Tok} {a : Nat} {b x y : Int} {S : Value} (h : Par w p A c ts a b x y S) (m : Nat) : Par (w.drewN m) p A c ts a b x y S := ⟨h.blk, h.lt, h.fin, h.len, h.txt, h.tok⟩
/-- Behind a step that leaves all but the parser's block, whose row is known. -/
theorem Par.grown {w w' : World} {p : Nat} {A : Option Addr} {c : Nat} {ts : List Tok} {a a' : Nat} {b x y b' x' y' : Int} {S S' : Value} (h : Par w p A c ts a b x y S) (hg : w.grownBy w' (some p)) (hl : a' < ts.length)
    (hb : w'.heap[p]? = some (.cells #[.slice A ts.length c, .int .i64 a', .int .i64 b', .int .i64 x', .int .i64 y', S'] 80 (0, 0))) : Par w' p A c ts a' b' x' y' S' := by
  refine ⟨hb, hl, h.fin, h.len, h.txt, ?_⟩
  obtain ⟨g, off, hA, hne, hc⟩ := h.tok
  refine ⟨g, off, hA, hne, fun k t ht => ?_⟩
  obtain ⟨c1, c2, c3, c4⟩ := hc k t ht
  have hg1 : w'.heap[g]? = w.heap[g]? := hg.block g (World.block_lt_of_cell? w _ c1) (by simpa using hne)
  exact ⟨(World.cell?_of_block (a := ⟨g, _, none⟩) hg1).trans c1, (World.cell?_of_block (a := ⟨g, _, none⟩) hg1).trans c2, (World.cell?_of_block (a := ⟨g, _, none⟩) hg1).trans c3, (World.cell?_of_block (a := ⟨g, _, none⟩) hg1).trans c4⟩
theorem Par.below {w w' : World} {p : Nat} {A : Option Addr} {c : Nat} {ts : List Tok} {a : Nat} {b x y : Int} {S : Value} (h : Par w p A c ts a b x y S) (hb : Below w.heap.size w w') : Par w' p A c ts a b x y S := by
  refine ⟨(hb.block p (heap_lt h.blk)).trans h.blk, h.lt, h.fin, h.len, h.txt, ?_⟩
  obtain ⟨g, off, hA, hne, hc⟩ := h.tok
  refine ⟨g, off, hA, hne, fun k t ht => ?_⟩
  obtain ⟨c1, c2, c3, c4⟩ := hc k t ht
  exact ⟨(hb.cell (World.block_lt_of_cell? w _ c1)).trans c1, (hb.cell (World.block_lt_of_cell? w _ c2)).trans c2, (hb.cell (World.block_lt_of_cell? w _ c3)).trans c3, (hb.cell (World.block_lt_of_cell? w _ c4)).trans c4⟩

theorem grown_below {w w' : World} (h : Below w.heap.size w w') (row : Option Nat) : w.grownBy w' row := ⟨h.os, h.tape, h.output, h.size, fun k hk _ => h.block k hk⟩
abbrev ZTok : Obj := .cells #[.int .i64 0, .string ⟨#[]⟩, .int .i64 0, .int .i64 0] 38
theorem now_any {w : World} {p : Nat} {A : Option Addr} {c : Nat} {ts : List Tok} {a : Nat} {b x y : Int} {S : Value} (h : Par w p A c ts a b x y S) {t : Tok} (ht : ts[a]? = some t) :
    Calls Tryz.prog 40 #[.pointer (some ⟨p, 0, none⟩)] w (VPost w t.val) := by
  have h1 := h.below (balloc w ZTok)
  obtain ⟨g, off, rfl, _, hc⟩ := h1.tok
  obtain ⟨d0, d1, d2, d3⟩ := hc a t ht
  have c0 := cell_of_row _ p 0 _ _ _ h1.blk
  have c1 := cell_of_row _ p 1 _ _ _ h1.blk
  have k1 := heap_alloc_new w ZTok
  have f0 := frozen_of_row _ _ 0 _ _ k1
  have f1 := frozen_of_row _ _ 1 _ _ k1
  have f2 := frozen_of_row _ _ 2 _ _ k1
  have f3 := frozen_of_row _ _ 3 _ _ k1
  have hlt : (a : Int) < (ts.length : Int) := by have := h.lt; omega
  have hle : (a : Int) ≤ 9223372036854775807 := by have := h.len; have := h.lt; omega
  obtain ⟨tk, tt, tl, tc⟩ := t
  simp only at d0 d1 d2 d3
  change Calls _ _ _ _ (VPost w (.agg #[.int .i64 tk, .string (bytesOf tt), .int .i64 tl, .int .i64 tc]))
  generalize bytesOf tt = s at *
  clear hc ht h h1 k1
  go_enter Tryz.func40, Tryz.ntmps40
  go_wp2_with fail
  go_region
  go_wp2_with fail
  have hb9 : (w.alloc (.cells #[.int .i64 tk, .string s, .int .i64 tl, .int .i64 tc] 38)).drew.heap[w.heap.size]? = some (.cells #[.int .i64 tk, .string s, .int .i64 tl, .int .i64 tc] 38 (0, 0)) := heap_alloc_new w _
  refine bodyPost_ret (v := .agg #[.int .i64 tk, .string s, .int .i64 tl, .int .i64 tc]) (by simp [results, Tryz.results40, go_sem, cell_of_row _ w.heap.size 0 _ _ _ hb9, cell_of_row _ w.heap.size 1 _ _ _ hb9, cell_of_row _ w.heap.size 2 _ _ _ hb9, cell_of_row _ w.heap.size 3 _ _ _ hb9]) rfl ?_
  exact ⟨rfl, (balloc w _).trans ((below_drewN _ 1).mono (by simp))⟩
theorem failed_any {w : World} {p : Nat} {A : Option Addr} {c : Nat} {ts : List Tok} {a : Nat} {b x y : Int} {S : Value} (h : Par w p A c ts a b x y S) :
    Calls Tryz.prog 42 #[.pointer (some ⟨p, 0, none⟩)] w (VPost w (.bool (decide (b ≠ 0)))) := by
  have c2 := cell_of_row w p 2 _ _ _ h.blk
  have c3 := cell_of_row w p 3 _ _ _ h.blk
  have c4 := cell_of_row w p 4 _ _ _ h.blk
  clear h
  go_enter Tryz.func42, Tryz.ntmps42
  go_wp2_with fail
  go_ret
  exact ⟨ret_b (by by_cases hb : b = 0 <;> simp [hb]), Below.refl _ _⟩
/-- Three stores into the fault. -/
theorem Par.set3 {w0 w : World} {p : Nat} {A : Option Addr} {c : Nat} {ts : List Tok} {a : Nat} {b x y : Int} {S : Value} (h : Par w p A c ts a b x y S) (hg : w0.grownBy w (some p)) (b' x' y' : Int) :
    Par (((w.setCell ⟨p, 2, none⟩ (.int .i64 b')).setCell ⟨p, 3, none⟩ (.int .i64 x')).setCell ⟨p, 4, none⟩ (.int .i64 y')) p A c ts a b' x' y' S ∧ w0.grownBy (((w.setCell ⟨p, 2, none⟩ (.int .i64 b')).setCell ⟨p, 3, none⟩ (.int .i64 x')).setCell ⟨p, 4, none⟩ (.int .i64 y')) (some p) := by
  have g1 := grown_trans (grown_trans (grown_set w ⟨p, 2, none⟩ (.int .i64 b')) (grown_set _ ⟨p, 3, none⟩ (.int .i64 x'))) (grown_set _ ⟨p, 4, none⟩ (.int .i64 y'))
  refine ⟨h.grown g1 h.lt ?_, grown_trans hg g1⟩
  have := h.blk
  simp [World.setCell, Array.getElem?_modify, this]
/-- The count. -/
theorem Par.step {w0 w : World} {p : Nat} {A : Option Addr} {c : Nat} {ts : List Tok} {a : Nat} {b x y : Int} {S : Value} (h : Par w p A c ts a b x y S) (hg : w0.grownBy w (some p)) (hl : a + 1 < ts.length) :
    Par (w.setCell ⟨p, 1, none⟩ (.int .i64 ((a : Int) + 1))) p A c ts (a + 1) b x y S ∧ w0.grownBy (w.setCell ⟨p, 1, none⟩ (.int .i64 ((a : Int) + 1))) (some p) := by
  have g1 := grown_set w ⟨p, 1, none⟩ (.int .i64 ((a : Int) + 1))
  refine ⟨h.grown g1 hl ?_, grown_trans hg g1⟩
  have := h.blk
  simp [World.setCell, Array.getElem?_modify, this]
theorem fail_ex {w : World} {p : Nat} {A : Option Addr} {c : Nat} {ts : List Tok} {a : Nat} {b x y : Int} {S : Value} (h : Par w p A c ts a b x y S) (e tk tl tc : Int) (s : ByteArray) :
    Calls Tryz.prog 64 #[.pointer (some ⟨p, 0, none⟩), .int .i64 e, .agg #[.int .i64 tk, .string s, .int .i64 tl, .int .i64 tc]] w fun en w' => en = .returned (.tuple #[]) ∧ Par w' p A c ts a (if b = 0 then e else b) (if b = 0 then tl else x) (if b = 0 then tc else y) S ∧ w.grownBy w' (some p) := by
  have h1 := h.below (balloc w (.cells #[.int .i64 tk, .string s, .int .i64 tl, .int .i64 tc] 38))
  have k1 := heap_alloc_new w (.cells #[.int .i64 tk, .string s, .int .i64 tl, .int .i64 tc] 38)
  have t2 := cell_of_row _ _ 2 _ _ _ k1
  have t3 := cell_of_row _ _ 3 _ _ _ k1
  have c2 := cell_of_row _ p 2 _ _ _ h1.blk
  have c3 := cell_of_row _ p 3 _ _ _ h1.blk
  have c4 := cell_of_row _ p 4 _ _ _ h1.blk
  have f2 := frozen_of_row _ p 2 _ _ h1.blk
  have f3 := frozen_of_row _ p 3 _ _ h1.blk
  have f4 := frozen_of_row _ p 4 _ _ h1.blk
  have H := Lib.hid h1
  have G1 := Lib.hid (grown_below (balloc w (.cells #[.int .i64 tk, .string s, .int .i64 tl, .int .i64 tc] 38)) (some p))
  clear h h1 k1
  by_cases hb : b = 0
  · simp only [if_pos hb]
    have hbb : (b == 0) = true := by simp [hb]
    go_enter Tryz.func64, Tryz.ntmps64
    go_wp2_with fail
    go_end0
    exact ⟨rfl, H.out.set3 G1.out e tl tc⟩
  · simp only [if_neg hb]
    have hbb : (b == 0) = false := by simp [hb]
    go_enter Tryz.func64, Tryz.ntmps64
    go_wp2_with fail
    go_end0
    exact ⟨rfl, H.out, G1.out⟩
theorem fail_any {w : World} {p : Nat} {A : Option Addr} {c : Nat} {ts : List Tok} {a : Nat} {b x y : Int} {S : Value} (h : Par w p A c ts a b x y S) (e tk tl tc : Int) (s : ByteArray) :
    Calls Tryz.prog 64 #[.pointer (some ⟨p, 0, none⟩), .int .i64 e, .agg #[.int .i64 tk, .string s, .int .i64 tl, .int .i64 tc]] w fun en w' => en = .returned (.tuple #[]) ∧ ∃ x' y', Par w' p A c ts a (if b = 0 then e else b) x' y' S ∧ w.grownBy w' (some p) :=
  (fail_ex h e tk tl tc s).mono fun _ _ q => ⟨q.1, _, _, q.2⟩
/-- Behind a step of the parser: where there is still no fault, at least k tokens have been read. -/
def Adv (w : World) (p : Nat) (A : Option Addr) (c : Nat) (ts : List Tok) (a : Nat) (b : Int) (S : Value) (k : Nat) (w' : World) : Prop :=
  ∃ a' b' x' y', Par w' p A c ts a' b' x' y' S ∧ w.grownBy w' (some p) ∧ a ≤ a' ∧ (b' = 0 → b = 0 ∧ a + k ≤ a')
abbrev TokB (tk : Int) (s : ByteArray) (tl tc : Int) : Obj := .cells #[.int .i64 tk, .string s, .int .i64 tl, .int .i64 tc] 38
theorem Par.more {w : World} {p : Nat} {A : Option Addr} {c : Nat} {ts : List Tok} {a : Nat} {b x y : Int} {S : Value} (h : Par w p A c ts a b x y S) {t : Tok} (ht : ts[a]? = some t) (hk : t.kind ≠ 6) : a + 1 < ts.length := by
  have h1 := h.lt
  rcases Nat.lt_or_ge (a + 1) ts.length with h2 | h2
  · exact h2
  · have h3 : a = ts.length - 1 := by omega
    rw [h3] at ht
    exact absurd (h.fin t ht) hk

theorem grown_new {w0 w : World} {row : Option Nat} (h : w0.grownBy w row) {R : Nat} (hR : w0.heap.size ≤ R) (i : Nat) (u : Value) : w0.grownBy (w.setCell ⟨R, i, none⟩ u) row :=
  ⟨h.os, h.tape, h.output, by simp; exact h.size, fun k hk hne => (Below.heap_setCell _ _ _ _ (by simp; omega)).trans (h.block k hk hne)⟩
abbrev set4 (w : World) (R : Nat) (u0 u1 u2 u3 : Value) : World := (((w.setCell ⟨R, 0, none⟩ u0).setCell ⟨R, 1, none⟩ u1).setCell ⟨R, 2, none⟩ u2).setCell ⟨R, 3, none⟩ u3
theorem res4 (w : World) (R : Nat) (a b c d u0 u1 u2 u3 : Value) (t : TypeId) (h : w.heap[R]? = some (.cells #[a, b, c, d] t (0, 0))) : (set4 w R u0 u1 u2 u3).heap[R]? = some (.cells #[u0, u1, u2, u3] t (0, 0)) := by
  simp [World.setCell, Array.getElem?_modify, h]
/-- The parser behind the store of a result. -/
theorem Par.ret4 {w0 w : World} {p : Nat} {A : Option Addr} {c : Nat} {ts : List Tok} {a a0 : Nat} {b x y b0 x0 y0 : Int} {S S0 : Value} (h0 : Par w0 p A c ts a0 b0 x0 y0 S0) (h : Par w p A c ts a b x y S) (hg : w0.grownBy w (some p)) {R : Nat} (hR : w0.heap.size ≤ R) (u0 u1 u2 u3 : Value) :
    Par (set4 w R u0 u1 u2 u3) p A c ts a b x y S ∧ w0.grownBy (set4 w R u0 u1 u2 u3) (some p) := by
  have hp := heap_lt h0.blk
  have g1 := grown_new (grown_new (grown_new (grown_new hg hR 0 u0) hR 1 u1) hR 2 u2) hR 3 u3
  refine ⟨h0.grown g1 h.lt ?_, g1⟩
  rw [← h.blk]
  have hne : ∀ (W : World) (i : Nat) (u : Value), (W.setCell ⟨R, i, none⟩ u).heap[p]? = W.heap[p]? := fun W i u => Below.heap_setCell _ _ _ _ (by simp; omega)
  rw [hne, hne, hne, hne]

/-- The parser behind take. -/
def takeN (a : Nat) (b x y kd most tk sz tl tc : Int) : Nat × Int × Int × Int :=
  if b ≠ 0 then (a, b, x, y) else if tk ≠ kd then (a, 60, tl, tc) else if most < sz then (a, 1, tl, tc) else (a + 1, b, x, y)
set_option maxHeartbeats 1000000 in
set_option maxRecDepth 100000 in
theorem take_ex {w : World} {p : Nat} {A : Option Addr} {c : Nat} {ts : List Tok} {a : Nat} {b x y : Int} {S : Value} (h : Par w p A c ts a b x y S) {tk tl tc : Int} {tt : List Int} (ht : ts[a]? = some ⟨tk, tt, tl, tc⟩) (kd most : Int) (hk : kd ≠ 6) :
    Calls Tryz.prog 65 #[.pointer (some ⟨p, 0, none⟩), .int .i64 kd, .int .i64 most] w fun en w' => en = .returned (.agg #[.int .i64 tk, .string (bytesOf tt), .int .i64 tl, .int .i64 tc]) ∧ ∃ a' b' x' y', (a', b', x', y') = takeN a b x y kd most tk (bytesOf tt).size tl tc ∧ Par w' p A c ts a' b' x' y' S ∧ w.grownBy w' (some p) := by
  have hmore := h.more ht
  simp only at hmore
  have h0 := h.below (balloc w ZTok)
  have HN := Lib.hid (now_any h0 ht)
  have K0 := Lib.hid (heap_alloc_new w ZTok)
  have B0 := Lib.hid (balloc w ZTok)
  have hlen := h.len
  have HH := Lib.hid h
  have H := Lib.hid h0
  clear h h0 ht
  change Hid (Calls _ _ _ _ (VPost _ (.agg #[.int .i64 tk, .string (bytesOf tt), .int .i64 tl, .int .i64 tc]))) at HN
  generalize bytesOf tt = s at *
  have hpw : p < w.heap.size := heap_lt HH.out.blk
  by_cases hb : b = 0
  · subst hb
    have hbd : decide ((0 : Int) ≠ 0) = false := by simp
    by_cases hkd : tk = kd
    · subst hkd
      have hm := hmore hk
      by_cases hsz : most < (s.size : Int)
      · go_enter Tryz.func65, Tryz.ntmps65
        go_wp2_with (first
              | (go_at_call 40; ((with_reducible refine (HN.out).mono ?_); rintro e w1 ⟨rfl, hb1⟩; have B1 := Lib.hid (hb1.alloc hb1.size (TokB tk s tl tc)); have H1 := Lib.hid (H.out.below B1.out); have K1 := Lib.hid (heap_alloc_new w1 (TokB tk s tl tc)); have HF := Lib.hid (failed_any H1.out); rw [hbd] at HF; clear hb1))
              | (go_at_call 42; ((with_reducible refine (HF.out).mono ?_); rintro e w2 ⟨rfl, hb2⟩; have B2 := Lib.hid (B1.out.trans (hb2.mono B1.out.size)); have H2 := Lib.hid (H1.out.below hb2); have k2 := (hb2.block _ (heap_lt K1.out)).trans K1.out; have r2 := (B2.out.block _ (heap_lt K0.out)).trans K0.out; have d0 := cell_of_row _ _ 0 _ _ _ k2; have d1 := cell_of_row _ _ 1 _ _ _ k2; have d2 := cell_of_row _ _ 2 _ _ _ k2; have d3 := cell_of_row _ _ 3 _ _ _ k2; have R2 := Lib.hid r2; have K2 := Lib.hid k2; have Hp2 := Lib.hid (show ¬ w1.heap.size = p by have q1 := heap_lt H.out.blk; have q2 := B1.out.size; have q3 : w1.heap.size + 1 = (w1.alloc (TokB tk s tl tc)).heap.size := (by simp); have q4 : (w.alloc ZTok).heap.size = w.heap.size + 1 := (by simp); omega); clear hb2 k2 r2))
              | (go_at_call 64; ((with_reducible refine (fail_ex H2.out 1 tk tl tc s).mono ?_); rintro e w3 ⟨rfl, h3, hg3⟩; have H3 := Lib.hid h3; have G3 := Lib.hid hg3; have k3 := (hg3.block _ (heap_lt K2.out) (by simpa using Hp2.out)).trans K2.out; have r3 := (hg3.block _ (heap_lt R2.out) (by simp only [ne_eq, Option.some.injEq]; omega)).trans R2.out; have dd0 := cell_of_row _ _ 0 _ _ _ k3; have dd1 := cell_of_row _ _ 1 _ _ _ k3; have dd2 := cell_of_row _ _ 2 _ _ _ k3; have dd3 := cell_of_row _ _ 3 _ _ _ k3; have e0 := cell_of_row _ _ 0 _ _ _ r3; have e1 := cell_of_row _ _ 1 _ _ _ r3; have e2 := cell_of_row _ _ 2 _ _ _ r3; have e3 := cell_of_row _ _ 3 _ _ _ r3; have f0 := frozen_of_row _ _ 0 _ _ r3; have f1 := frozen_of_row _ _ 1 _ _ r3; have f2 := frozen_of_row _ _ 2 _ _ r3; have f3 := frozen_of_row _ _ 3 _ _ r3; have R3 := Lib.hid r3; clear h3 hg3 k3 r3)))
        have hb9 := res4 w3 w.heap.size _ _ _ _ (.int .i64 tk) (.string s) (.int .i64 tl) (.int .i64 tc) _ R3.out
        refine bodyPost_ret (v := .agg #[.int .i64 tk, .string s, .int .i64 tl, .int .i64 tc]) (by simp [results, Tryz.results65, go_sem, cell_of_row _ w.heap.size 0 _ _ _ hb9, cell_of_row _ w.heap.size 1 _ _ _ hb9, cell_of_row _ w.heap.size 2 _ _ _ hb9, cell_of_row _ w.heap.size 3 _ _ _ hb9]) rfl ?_
        obtain ⟨q1, q2⟩ := HH.out.ret4 H3.out (grown_trans (grown_below (B0.out.trans (B2.out.mono B0.out.size)) _) G3.out) (Nat.le_refl _) (.int .i64 tk) (.string s) (.int .i64 tl) (.int .i64 tc)
        exact ⟨rfl, a, 1, tl, tc, by simp [takeN, hsz], q1, q2⟩
      · go_enter Tryz.func65, Tryz.ntmps65
        go_wp2_with (first
              | (go_at_call 40; ((with_reducible refine (HN.out).mono ?_); rintro e w1 ⟨rfl, hb1⟩; have B1 := Lib.hid (hb1.alloc hb1.size (TokB tk s tl tc)); have H1 := Lib.hid (H.out.below B1.out); have K1 := Lib.hid (heap_alloc_new w1 (TokB tk s tl tc)); have HF := Lib.hid (failed_any H1.out); rw [hbd] at HF; clear hb1))
              | (go_at_call 42; ((with_reducible refine (HF.out).mono ?_); rintro e w2 ⟨rfl, hb2⟩; have B2 := Lib.hid (B1.out.trans (hb2.mono B1.out.size)); have H2 := Lib.hid (H1.out.below hb2); have k2 := (hb2.block _ (heap_lt K1.out)).trans K1.out; have r2 := (B2.out.block _ (heap_lt K0.out)).trans K0.out; have d0 := cell_of_row _ _ 0 _ _ _ k2; have d1 := cell_of_row _ _ 1 _ _ _ k2; have d2 := cell_of_row _ _ 2 _ _ _ k2; have d3 := cell_of_row _ _ 3 _ _ _ k2; have e0 := cell_of_row _ _ 0 _ _ _ r2; have e1 := cell_of_row _ _ 1 _ _ _ r2; have e2 := cell_of_row _ _ 2 _ _ _ r2; have e3 := cell_of_row _ _ 3 _ _ _ r2; have f0 := frozen_of_row _ _ 0 _ _ r2; have f1 := frozen_of_row _ _ 1 _ _ r2; have f2 := frozen_of_row _ _ 2 _ _ r2; have f3 := frozen_of_row _ _ 3 _ _ r2; have R2 := Lib.hid r2; have K2 := Lib.hid k2; have Hp2 := Lib.hid (show ¬ w1.heap.size = p by have q1 := heap_lt H.out.blk; have q2 := B1.out.size; have q3 : w1.heap.size + 1 = (w1.alloc (TokB tk s tl tc)).heap.size := (by simp); have q4 : (w.alloc ZTok).heap.size = w.heap.size + 1 := (by simp); omega); have c1 := cell_of_row _ _ 1 _ _ _ H2.out.blk; have g1 := frozen_of_row _ _ 1 _ _ H2.out.blk; have n1 := Hp2.out; have n2 : ¬ p = w1.heap.size := fun e => n1 e.symm; have n3 : ¬ w.heap.size = p := (by omega); have n4 : ¬ p = w.heap.size := (by omega); have n5 : IntKind.i64.wrap ((a : Int) + 1) = (a : Int) + 1 := (by rw [IntKind.wrap_i64]; omega); clear hb2 k2 r2)))
        obtain ⟨h3, g3⟩ := H2.out.step (grown_below (B0.out.trans (B2.out.mono B0.out.size)) _) hm
        have r3 : (w2.setCell ⟨p, 1, none⟩ (.int .i64 ((a : Int) + 1))).heap[w.heap.size]? = some ZTok := (Below.heap_setCell _ _ _ _ (by simp only [ne_eq]; omega)).trans R2.out
        have hb9 := res4 _ w.heap.size _ _ _ _ (.int .i64 tk) (.string s) (.int .i64 tl) (.int .i64 tc) _ r3
        refine bodyPost_ret (v := .agg #[.int .i64 tk, .string s, .int .i64 tl, .int .i64 tc]) (by simp [results, Tryz.results65, go_sem, cell_of_row _ w.heap.size 0 _ _ _ hb9, cell_of_row _ w.heap.size 1 _ _ _ hb9, cell_of_row _ w.heap.size 2 _ _ _ hb9, cell_of_row _ w.heap.size 3 _ _ _ hb9]) rfl ?_
        obtain ⟨q1, q2⟩ := HH.out.ret4 h3 g3 (Nat.le_refl _) (.int .i64 tk) (.string s) (.int .i64 tl) (.int .i64 tc)
        exact ⟨rfl, a + 1, 0, x, y, by simp [takeN, hsz], q1, q2⟩
    · have hkb : (tk != kd) = true := by simp [hkd]
      go_enter Tryz.func65, Tryz.ntmps65
      go_wp2_with (first
            | (go_at_call 40; ((with_reducible refine (HN.out).mono ?_); rintro e w1 ⟨rfl, hb1⟩; have B1 := Lib.hid (hb1.alloc hb1.size (TokB tk s tl tc)); have H1 := Lib.hid (H.out.below B1.out); have K1 := Lib.hid (heap_alloc_new w1 (TokB tk s tl tc)); have HF := Lib.hid (failed_any H1.out); rw [hbd] at HF; clear hb1))
            | (go_at_call 42; ((with_reducible refine (HF.out).mono ?_); rintro e w2 ⟨rfl, hb2⟩; have B2 := Lib.hid (B1.out.trans (hb2.mono B1.out.size)); have H2 := Lib.hid (H1.out.below hb2); have k2 := (hb2.block _ (heap_lt K1.out)).trans K1.out; have r2 := (B2.out.block _ (heap_lt K0.out)).trans K0.out; have d0 := cell_of_row _ _ 0 _ _ _ k2; have d1 := cell_of_row _ _ 1 _ _ _ k2; have d2 := cell_of_row _ _ 2 _ _ _ k2; have d3 := cell_of_row _ _ 3 _ _ _ k2; have R2 := Lib.hid r2; have K2 := Lib.hid k2; have Hp2 := Lib.hid (show ¬ w1.heap.size = p by have q1 := heap_lt H.out.blk; have q2 := B1.out.size; have q3 : w1.heap.size + 1 = (w1.alloc (TokB tk s tl tc)).heap.size := (by simp); have q4 : (w.alloc ZTok).heap.size = w.heap.size + 1 := (by simp); omega); clear hb2 k2 r2))
            | (go_at_call 64; ((with_reducible refine (fail_ex H2.out 60 tk tl tc s).mono ?_); rintro e w3 ⟨rfl, h3, hg3⟩; have H3 := Lib.hid h3; have G3 := Lib.hid hg3; have k3 := (hg3.block _ (heap_lt K2.out) (by simpa using Hp2.out)).trans K2.out; have r3 := (hg3.block _ (heap_lt R2.out) (by simp only [ne_eq, Option.some.injEq]; omega)).trans R2.out; have dd0 := cell_of_row _ _ 0 _ _ _ k3; have dd1 := cell_of_row _ _ 1 _ _ _ k3; have dd2 := cell_of_row _ _ 2 _ _ _ k3; have dd3 := cell_of_row _ _ 3 _ _ _ k3; have e0 := cell_of_row _ _ 0 _ _ _ r3; have e1 := cell_of_row _ _ 1 _ _ _ r3; have e2 := cell_of_row _ _ 2 _ _ _ r3; have e3 := cell_of_row _ _ 3 _ _ _ r3; have f0 := frozen_of_row _ _ 0 _ _ r3; have f1 := frozen_of_row _ _ 1 _ _ r3; have f2 := frozen_of_row _ _ 2 _ _ r3; have f3 := frozen_of_row _ _ 3 _ _ r3; have R3 := Lib.hid r3; clear h3 hg3 k3 r3)))
      have hb9 := res4 w3 w.heap.size _ _ _ _ (.int .i64 tk) (.string s) (.int .i64 tl) (.int .i64 tc) _ R3.out
      refine bodyPost_ret (v := .agg #[.int .i64 tk, .string s, .int .i64 tl, .int .i64 tc]) (by simp [results, Tryz.results65, go_sem, cell_of_row _ w.heap.size 0 _ _ _ hb9, cell_of_row _ w.heap.size 1 _ _ _ hb9, cell_of_row _ w.heap.size 2 _ _ _ hb9, cell_of_row _ w.heap.size 3 _ _ _ hb9]) rfl ?_
      obtain ⟨q1, q2⟩ := HH.out.ret4 H3.out (grown_trans (grown_below (B0.out.trans (B2.out.mono B0.out.size)) _) G3.out) (Nat.le_refl _) (.int .i64 tk) (.string s) (.int .i64 tl) (.int .i64 tc)
      exact ⟨rfl, a, 60, tl, tc, by simp [takeN, hkd], q1, q2⟩
  · have hbd : decide (b ≠ 0) = true := by simp [hb]
    go_enter Tryz.func65, Tryz.ntmps65
    go_wp2_with (first
      | (go_at_call 40; ((with_reducible refine (HN.out).mono ?_); rintro e w1 ⟨rfl, hb1⟩; have B1 := Lib.hid (hb1.alloc hb1.size (TokB tk s tl tc)); have H1 := Lib.hid (H.out.below B1.out); have K1 := Lib.hid (heap_alloc_new w1 (TokB tk s tl tc)); have HF := Lib.hid (failed_any H1.out); rw [hbd] at HF; clear hb1))
      | (go_at_call 42; ((with_reducible refine (HF.out).mono ?_); rintro e w2 ⟨rfl, hb2⟩; have B2 := Lib.hid (B1.out.trans (hb2.mono B1.out.size)); have H2 := Lib.hid (H1.out.below hb2); have k2 := (hb2.block _ (heap_lt K1.out)).trans K1.out; have r2 := (B2.out.block _ (heap_lt K0.out)).trans K0.out; have d0 := cell_of_row _ _ 0 _ _ _ k2; have d1 := cell_of_row _ _ 1 _ _ _ k2; have d2 := cell_of_row _ _ 2 _ _ _ k2; have d3 := cell_of_row _ _ 3 _ _ _ k2; have e0 := cell_of_row _ _ 0 _ _ _ r2; have e1 := cell_of_row _ _ 1 _ _ _ r2; have e2 := cell_of_row _ _ 2 _ _ _ r2; have e3 := cell_of_row _ _ 3 _ _ _ r2; have f0 := frozen_of_row _ _ 0 _ _ r2; have f1 := frozen_of_row _ _ 1 _ _ r2; have f2 := frozen_of_row _ _ 2 _ _ r2; have f3 := frozen_of_row _ _ 3 _ _ r2; have R2 := Lib.hid r2; clear hb2 k2 r2)))
    have hb9 := res4 w2 w.heap.size _ _ _ _ (.int .i64 tk) (.string s) (.int .i64 tl) (.int .i64 tc) _ R2.out
    refine bodyPost_ret (v := .agg #[.int .i64 tk, .string s, .int .i64 tl, .int .i64 tc]) (by simp [results, Tryz.results65, go_sem, cell_of_row _ w.heap.size 0 _ _ _ hb9, cell_of_row _ w.heap.size 1 _ _ _ hb9, cell_of_row _ w.heap.size 2 _ _ _ hb9, cell_of_row _ w.heap.size 3 _ _ _ hb9]) rfl ?_
    obtain ⟨q1, q2⟩ := HH.out.ret4 H2.out (grown_below (B0.out.trans (B2.out.mono B0.out.size)) _) (Nat.le_refl _) (.int .i64 tk) (.string s) (.int .i64 tl) (.int .i64 tc)
    exact ⟨rfl, a, b, x, y, by simp [takeN, hb], q1, q2⟩
theorem take_any {w : World} {p : Nat} {A : Option Addr} {c : Nat} {ts : List Tok} {a : Nat} {b x y : Int} {S : Value} (h : Par w p A c ts a b x y S) {tk tl tc : Int} {tt : List Int} (ht : ts[a]? = some ⟨tk, tt, tl, tc⟩) (kd most : Int) (hk : kd ≠ 6) :
    Calls Tryz.prog 65 #[.pointer (some ⟨p, 0, none⟩), .int .i64 kd, .int .i64 most] w fun en w' => en = .returned (.agg #[.int .i64 tk, .string (bytesOf tt), .int .i64 tl, .int .i64 tc]) ∧ Adv w p A c ts a b S 1 w' := by
  refine (take_ex h ht kd most hk).mono ?_
  rintro e w' ⟨he, a', b', x', y', hn, h1, h2⟩
  refine ⟨he, a', b', x', y', h1, h2, ?_, ?_⟩
  · unfold takeN at hn; (repeat' split at hn) <;> (simp only [Prod.mk.injEq] at hn; omega)
  · unfold takeN at hn; (repeat' split at hn) <;> (simp only [Prod.mk.injEq] at hn; omega)
end Go.Proofs.YtdncjhffniepbaaGreatDoor.Lx
/- (LxPars2)
  The parser's methods: is.
-/
namespace Go.Proofs.YtdncjhffniepbaaGreatDoor.Lx
open Go.RowKit

theorem field_kind (tk tl tc : Int) (s : ByteArray) (w : World) : (Instr.field 38 (.agg #[.int .i64 tk, .string s, .int .i64 tl, .int .i64 tc]) 0).run Tryz.prog w = .ok (.int .i64 tk) w := by kernel_rfl
theorem field_text (tk tl tc : Int) (s : ByteArray) (w : World) : (Instr.field 38 (.agg #[.int .i64 tk, .string s, .int .i64 tl, .int .i64 tc]) 1).run Tryz.prog w = .ok (.string s) w := by kernel_rfl

theorem str_eq (s z : ByteArray) : (s.toList == z.toList) = decide (s = z) := by
  rw [ByteArray.toList_eq, ByteArray.toList_eq]
  by_cases h : s = z
  · subst h; simp
  · have h2 : ¬ s.data.toList = z.data.toList := fun e => h (by
      obtain ⟨s⟩ := s; obtain ⟨z⟩ := z
      have := Array.toList_inj.1 e
      simpa using this)
    rw [decide_eq_false h]; exact beq_eq_false_iff_ne.2 h2
set_option maxRecDepth 100000 in
theorem is_ex {w : World} {p : Nat} {A : Option Addr} {c : Nat} {ts : List Tok} {a : Nat} {b x y : Int} {S : Value} (h : Par w p A c ts a b x y S) {tk tl tc : Int} {tt : List Int} (ht : ts[a]? = some ⟨tk, tt, tl, tc⟩) (kd : Int) (z : ByteArray) :
    Calls Tryz.prog 63 #[.pointer (some ⟨p, 0, none⟩), .int .i64 kd, .string z] w fun e w' => ∃ r : Bool, e = .returned (.bool r) ∧ r = decide (b = 0 ∧ tk = kd ∧ bytesOf tt = z) ∧ Below w.heap.size w w' := by
  have HN := Lib.hid (fun (W : World) (hW : Par W p A c ts a b x y S) => (now_any hW ht : Calls _ _ _ _ (VPost _ (.agg #[.int .i64 tk, .string (bytesOf tt), .int .i64 tl, .int .i64 tc]))))
  have HF := Lib.hid (failed_any h)
  have H := Lib.hid h
  clear h ht
  change Hid (∀ (W : World) (_ : Par W p A c ts a b x y S), Calls _ _ _ _ (VPost _ (.agg #[.int .i64 tk, .string (bytesOf tt), .int .i64 tl, .int .i64 tc]))) at HN
  generalize bytesOf tt = s at *
  have fk := field_kind tk tl tc s
  have ft := field_text tk tl tc s
  by_cases hb : b = 0
  · subst hb
    have hbd : decide ((0 : Int) ≠ 0) = false := by simp
    rw [hbd] at HF
    by_cases hk : tk = kd
    · subst hk
      go_enter Tryz.func63, Tryz.ntmps63
      go_wp2_with (first
        | (go_at_call 42; ((with_reducible refine (HF.out).mono ?_); rintro e w1 ⟨rfl, hb1⟩; have B1 := Lib.hid hb1; have H1 := Lib.hid (H.out.below hb1); clear hb1))
        | (go_at_call 40; ((with_reducible refine (HN.out _ H1.out).mono ?_); rintro e w2 ⟨rfl, hb2⟩; have B2 := Lib.hid (B1.out.trans (hb2.mono B1.out.size)); have H2 := Lib.hid (H1.out.below hb2); clear hb2))
        | (go_at_call 40; ((with_reducible refine (HN.out _ H2.out).mono ?_); rintro e w3 ⟨rfl, hb3⟩; have B3 := Lib.hid (B2.out.trans (hb3.mono B2.out.size)); clear hb3)))
      go_ret
      exact ⟨_, rfl, by simp [str_eq], B3.out⟩
    · have hkb : (tk == kd) = false := by simp [hk]
      go_enter Tryz.func63, Tryz.ntmps63
      go_wp2_with (first
        | (go_at_call 42; ((with_reducible refine (HF.out).mono ?_); rintro e w1 ⟨rfl, hb1⟩; have B1 := Lib.hid hb1; have H1 := Lib.hid (H.out.below hb1); clear hb1))
        | (go_at_call 40; ((with_reducible refine (HN.out _ H1.out).mono ?_); rintro e w2 ⟨rfl, hb2⟩; have B2 := Lib.hid (B1.out.trans (hb2.mono B1.out.size)); have H2 := Lib.hid (H1.out.below hb2); clear hb2)))
      go_ret
      exact ⟨false, rfl, by simp [hk], B2.out⟩
  · have hbd : decide (b ≠ 0) = true := by simp [hb]
    rw [hbd] at HF
    go_enter Tryz.func63, Tryz.ntmps63
    go_wp2_with (first
      | (go_at_call 42; ((with_reducible refine (HF.out).mono ?_); rintro e w1 ⟨rfl, hb1⟩; have B1 := Lib.hid hb1; have H1 := Lib.hid (H.out.below hb1); clear hb1)))
    go_ret
    exact ⟨false, rfl, by simp [hb], B1.out⟩
theorem is_any {w : World} {p : Nat} {A : Option Addr} {c : Nat} {ts : List Tok} {a : Nat} {b x y : Int} {S : Value} (h : Par w p A c ts a b x y S) {tk tl tc : Int} {tt : List Int} (ht : ts[a]? = some ⟨tk, tt, tl, tc⟩) (kd : Int) (z : ByteArray) :
    Calls Tryz.prog 63 #[.pointer (some ⟨p, 0, none⟩), .int .i64 kd, .string z] w fun e w' => ∃ r : Bool, e = .returned (.bool r) ∧ (r = true → b = 0 ∧ tk = kd) ∧ Below w.heap.size w w' := by
  refine (is_ex h ht kd z).mono ?_
  rintro e w' ⟨r, he, hr, hb⟩
  exact ⟨r, he, fun e => by rw [e] at hr; have q := of_decide_eq_true hr.symm; exact ⟨q.1, q.2.1⟩, hb⟩
end Go.Proofs.YtdncjhffniepbaaGreatDoor.Lx
/- (LxPars3)
  The parser's methods: sign.
-/
namespace Go.Proofs.YtdncjhffniepbaaGreatDoor.Lx
open Go.RowKit

/-- The parser behind sign. -/
def signN (a : Nat) (b x y tk : Int) (s z : ByteArray) (tl tc : Int) : Nat × Int × Int × Int :=
  if b ≠ 0 then (a, b, x, y) else if tk = 5 ∧ s = z then (a + 1, b, x, y) else (a, 60, tl, tc)
set_option maxRecDepth 100000 in
theorem sign_ex {w : World} {p : Nat} {A : Option Addr} {c : Nat} {ts : List Tok} {a : Nat} {b x y : Int} {S : Value} (h : Par w p A c ts a b x y S) {tk tl tc : Int} {tt : List Int} (ht : ts[a]? = some ⟨tk, tt, tl, tc⟩) (z : ByteArray) :
    Calls Tryz.prog 66 #[.pointer (some ⟨p, 0, none⟩), .string z] w fun e w' => e = .returned (.tuple #[]) ∧ ∃ a' b' x' y', (a', b', x', y') = signN a b x y tk (bytesOf tt) z tl tc ∧ Par w' p A c ts a' b' x' y' S ∧ w.grownBy w' (some p) := by
  have hmore := h.more ht
  simp only at hmore
  have hlen := h.len
  have HI := Lib.hid (fun (W : World) (hW : Par W p A c ts a b x y S) => is_ex hW ht 5 z)
  have HN := Lib.hid (fun (W : World) (hW : Par W p A c ts a b x y S) => (now_any hW ht : Calls _ _ _ _ (VPost _ (.agg #[.int .i64 tk, .string (bytesOf tt), .int .i64 tl, .int .i64 tc]))))
  have HF := Lib.hid (fun (W : World) (b x y : Int) (hW : Par W p A c ts a b x y S) => failed_any hW)
  have H := Lib.hid h
  clear h ht
  change Hid (∀ (W : World) (_ : Par W p A c ts a b x y S), Calls _ _ _ _ (VPost _ (.agg #[.int .i64 tk, .string (bytesOf tt), .int .i64 tl, .int .i64 tc]))) at HN
  generalize bytesOf tt = s at *
  by_cases hb : b = 0
  · subst hb
    have HF0 := Lib.hid (HF.out _ _ _ _ H.out)
    rw [show decide ((0 : Int) ≠ 0) = false by simp] at HF0
    go_enter Tryz.func66, Tryz.ntmps66
    go_wp2_with (first
      | (go_at_call 42; ((with_reducible refine (HF0.out).mono ?_); rintro e w1 ⟨rfl, hb1⟩; have B1 := Lib.hid hb1; have H1 := Lib.hid (H.out.below hb1); clear hb1))
      | (go_at_call 63; ((with_reducible refine (HI.out _ H1.out).mono ?_); rintro e w2 ⟨r, rfl, hr, hb2⟩; have B2 := Lib.hid (B1.out.trans (hb2.mono B1.out.size)); have H2 := Lib.hid (H1.out.below hb2); have HR := Lib.hid hr; have HF2 := Lib.hid (HF.out _ _ _ _ H2.out); rw [show decide ((0 : Int) ≠ 0) = false by simp] at HF2; clear hb2 hr; cases r)))
    · go_wp2_with (first
        | (go_at_call 40; ((with_reducible refine (HN.out _ H2.out).mono ?_); rintro e w3 ⟨rfl, hb3⟩; have B3 := Lib.hid (B2.out.trans (hb3.mono B2.out.size)); have H3 := Lib.hid (H2.out.below hb3); clear hb3))
        | (go_at_call 64; ((with_reducible refine (fail_ex H3.out 60 tk tl tc s).mono ?_); rintro e w4 ⟨rfl, h4, hg4⟩; have H4 := Lib.hid h4; have G4 := Lib.hid hg4; have HF4 := Lib.hid (HF.out _ _ _ _ h4); rw [show decide ((if (0 : Int) = 0 then 60 else 0) ≠ (0 : Int)) = true by simp] at HF4; clear h4 hg4))
        | (go_at_call 42; ((with_reducible refine (HF4.out).mono ?_); rintro e w5 ⟨rfl, hb5⟩; have B5 := Lib.hid hb5; have H5 := Lib.hid (H4.out.below hb5); clear hb5)))
      go_end0
      exact ⟨rfl, a, 60, tl, tc, by have q := HR.out; simp only [true_and, eq_comm (a := false), decide_eq_false_iff_not] at q; simp [signN, q], H5.out, grown_trans (grown_trans (grown_below B3.out _) G4.out) (grown_below B5.out _)⟩
    · obtain ⟨rfl, rfl⟩ : tk = 5 ∧ s = z := by have := HR.out; simpa using this
      have hm := hmore (by omega)
      go_wp2_with (first
        | (go_at_call 42; ((with_reducible refine (HF2.out).mono ?_); rintro e w3 ⟨rfl, hb3⟩; have B3 := Lib.hid (B2.out.trans (hb3.mono B2.out.size)); have H3 := Lib.hid (H2.out.below hb3); have c1 := cell_of_row _ _ 1 _ _ _ H3.out.blk; have g1 := frozen_of_row _ _ 1 _ _ H3.out.blk; have n5 : IntKind.i64.wrap ((a : Int) + 1) = (a : Int) + 1 := (by rw [IntKind.wrap_i64]; omega); clear hb3)))
      go_end0
      obtain ⟨q1, q2⟩ := H3.out.step (grown_below B3.out _) hm
      exact ⟨rfl, a + 1, 0, x, y, by simp [signN], q1, q2⟩
  · have hbd : decide (b ≠ 0) = true := by simp [hb]
    have HF0 := Lib.hid (HF.out _ _ _ _ H.out)
    rw [hbd] at HF0
    go_enter Tryz.func66, Tryz.ntmps66
    go_wp2_with (first
      | (go_at_call 42; ((with_reducible refine (HF0.out).mono ?_); rintro e w1 ⟨rfl, hb1⟩; have B1 := Lib.hid hb1; have H1 := Lib.hid (H.out.below hb1); have HF1 := Lib.hid (HF.out _ _ _ _ H1.out); rw [hbd] at HF1; clear hb1))
      | (go_at_call 42; ((with_reducible refine (HF1.out).mono ?_); rintro e w2 ⟨rfl, hb2⟩; have B2 := Lib.hid (B1.out.trans (hb2.mono B1.out.size)); have H2 := Lib.hid (H1.out.below hb2); clear hb2)))
    go_end0
    exact ⟨rfl, a, b, x, y, by simp [signN, hb], H2.out, grown_below B2.out _⟩
theorem sign_any {w : World} {p : Nat} {A : Option Addr} {c : Nat} {ts : List Tok} {a : Nat} {b x y : Int} {S : Value} (h : Par w p A c ts a b x y S) (z : ByteArray) :
    Calls Tryz.prog 66 #[.pointer (some ⟨p, 0, none⟩), .string z] w fun e w' => e = .returned (.tuple #[]) ∧ Adv w p A c ts a b S 1 w' := by
  obtain ⟨t, ht⟩ : ∃ t, ts[a]? = some t := ⟨ts[a]'h.lt, List.getElem?_eq_getElem _⟩
  refine (sign_ex h (tk := t.kind) (tt := t.text) (tl := t.line) (tc := t.col) ht z).mono ?_
  rintro e w' ⟨he, a', b', x', y', hn, h1, h2⟩
  refine ⟨he, a', b', x', y', h1, h2, ?_, ?_⟩
  · unfold signN at hn; (repeat' split at hn) <;> (simp only [Prod.mk.injEq] at hn; omega)
  · unfold signN at hn; (repeat' split at hn) <;> (simp only [Prod.mk.injEq] at hn; omega)
end Go.Proofs.YtdncjhffniepbaaGreatDoor.Lx
/- (LxPars4)
  The parser's methods: number.
-/
namespace Go.Proofs.YtdncjhffniepbaaGreatDoor.Lx
open Go.RowKit

theorem Adv.mk0 {w w' : World} {p : Nat} {A : Option Addr} {c : Nat} {ts : List Tok} {a a' : Nat} {b b' x' y' : Int} {S : Value} {k : Nat} (h : Par w' p A c ts a' b' x' y' S) (hg : w.grownBy w' (some p)) (hl : a ≤ a') (hb : b' = 0 → b = 0 ∧ a + k ≤ a') : Adv w p A c ts a b S k w' := ⟨a', b', x', y', h, hg, hl, hb⟩

/-- The number that digits make, as a machine word. -/
def numF (l : List Int) : Int := l.foldl (fun n z => IntKind.u64.wrap (IntKind.u64.wrap (10 * n) + (z - 48) % 256)) 0
theorem numF_snoc (l : List Int) (z : Int) : numF (l ++ [z]) = IntKind.u64.wrap (IntKind.u64.wrap (10 * numF l) + (z - 48) % 256) := by unfold numF; rw [List.foldl_append]; rfl
theorem numF_take {s : ByteArray} {k : Nat} (hk : k < s.size) : numF ((ch s).take (k + 1)) = IntKind.u64.wrap (IntKind.u64.wrap (10 * numF ((ch s).take k)) + ((s[k]'hk).toNat - 48 : Int) % 256) := by
  rw [List.take_succ_eq_append_getElem (by rw [ch_length]; exact hk), numF_snoc]
  have e : (ch s)[k]'(by rw [ch_length]; exact hk) = ((s[k]'hk).toNat : Int) := by
    simp only [ch, List.getElem_map, Array.getElem_toList]
    rfl
  rw [e]
theorem numF_u64 (l : List Int) : 0 ≤ numF l ∧ numF l ≤ 18446744073709551615 := by
  rcases List.eq_nil_or_concat l with rfl | ⟨l', z, rfl⟩
  · exact ⟨by decide, by decide⟩
  · rw [List.concat_eq_append, numF_snoc, IntKind.wrap_u64 (IntKind.u64.wrap (10 * numF l') + _)]; omega
set_option maxRecDepth 100000 in
theorem number_ex {w : World} {p : Nat} {A : Option Addr} {c : Nat} {ts : List Tok} {a : Nat} {b x y : Int} {S : Value} (h : Par w p A c ts a b x y S) {tk tl tc : Int} {tt : List Int} (ht : ts[a]? = some ⟨tk, tt, tl, tc⟩) :
    Calls Tryz.prog 93 #[.pointer (some ⟨p, 0, none⟩)] w fun e w' => ∃ a' b' x' y', e = .returned (.int .u64 (if b' = 0 then numF (ch (bytesOf tt)) else 0)) ∧ (a', b', x', y') = takeN a b x y 2 18 tk (bytesOf tt).size tl tc ∧ Par w' p A c ts a' b' x' y' S ∧ w.grownBy w' (some p) := by
  have htl := h.txt _ (List.mem_of_getElem? ht)
  simp only at htl
  have hsz := bytesOf_size tt
  have HT := Lib.hid (take_ex h ht 2 18 (by omega))
  have HF := Lib.hid (fun (W : World) (a : Nat) (b x y : Int) (hW : Par W p A c ts a b x y S) => failed_any hW)
  clear h ht
  generalize bytesOf tt = s at *
  have hs9 : s.size ≤ 10000 := by omega
  clear hsz htl
  go_enter Tryz.func93, Tryz.ntmps93
  go_wp2_with (first
    | (go_at_call 65; ((with_reducible refine (HT.out).mono ?_); rintro e w1 ⟨rfl, a', b', x', y', hn1, h1, g1⟩; have H1 := Lib.hid (h1.below (balloc w1 (TokB tk s tl tc))); have G1 := Lib.hid (grown_trans g1 (grown_below (balloc w1 (TokB tk s tl tc)) (some p))); have K1 := Lib.hid (heap_alloc_new w1 (TokB tk s tl tc)); have HN1 := Lib.hid hn1; have HF1 := Lib.hid (HF.out _ _ _ _ _ H1.out); clear h1 g1 hn1; by_cases hb : b' = 0)))
  · have hbd : decide (b' ≠ 0) = false := by simp [hb]
    rw [hbd] at HF1
    go_wp2_with (go_at_call 42; ((with_reducible refine (HF1.out).mono ?_); rintro e w2 ⟨rfl, hb2⟩; have G2 := Lib.hid (grown_trans G1.out (grown_below hb2 (some p))); have H2 := Lib.hid (H1.out.below hb2); have k2 := (hb2.block _ (heap_lt K1.out)).trans K1.out; have K2 := Lib.hid k2; have d0 := cell_of_row _ _ 0 _ _ _ k2; have d1 := cell_of_row _ _ 1 _ _ _ k2; have d2 := cell_of_row _ _ 2 _ _ _ k2; have d3 := cell_of_row _ _ 3 _ _ _ k2; clear hb2 k2))
    go_loopg [4, 5] (s.size + 1) (fun g' n i wr => ∃ (k : Nat) (r : Int), i = .int .i64 k ∧ n = .int .u64 r ∧ r = numF ((ch s).take k) ∧ k ≤ s.size ∧ s.size - k + 1 ≤ g' ∧ ∃ m, wr = w2.drewN m)
    case atStart => exact ⟨0, 0, rfl, rfl, rfl, by omega, by omega, 0, rfl⟩
    case round =>
      obtain ⟨k, r, rfl, rfl, hr, hk, hg, m, rfl⟩ := hrel
      by_cases hkn : k < s.size
      · have hki : (k : Int) < (s.size : Int) := by omega
        go_wp2_with fail
        go_roundg (s.size - (k + 1) + 1)
        case measure => omega
        case rel => exact ⟨k + 1, _, by go_num, rfl, by subst hr; rw [numF_take hkn], by omega, Nat.le_refl _, m, rfl⟩
      · obtain rfl : k = s.size := by omega
        go_wp2_with fail
        go_ret
        subst hr; rw [List.take_of_length_le (by rw [ch_length]; omega)]; exact ⟨a', b', x', y', by rw [if_pos hb]; rfl, HN1.out, H2.out.below (below_drewN _ m), grown_trans G2.out (grown_drewN _ m _)⟩
  · have hbd : decide (b' ≠ 0) = true := by simp [hb]
    rw [hbd] at HF1
    go_wp2_with (go_at_call 42; ((with_reducible refine (HF1.out).mono ?_); rintro e w2 ⟨rfl, hb2⟩; have G2 := Lib.hid (grown_trans G1.out (grown_below hb2 (some p))); have H2 := Lib.hid (H1.out.below hb2); have k2 := (hb2.block _ (heap_lt K1.out)).trans K1.out; have K2 := Lib.hid k2; have d0 := cell_of_row _ _ 0 _ _ _ k2; have d1 := cell_of_row _ _ 1 _ _ _ k2; have d2 := cell_of_row _ _ 2 _ _ _ k2; have d3 := cell_of_row _ _ 3 _ _ _ k2; clear hb2 k2))
    go_ret
    exact ⟨a', b', x', y', by rw [if_neg hb]; rfl, HN1.out, H2.out, G2.out⟩
theorem number_any {w : World} {p : Nat} {A : Option Addr} {c : Nat} {ts : List Tok} {a : Nat} {b x y : Int} {S : Value} (h : Par w p A c ts a b x y S) :
    Calls Tryz.prog 93 #[.pointer (some ⟨p, 0, none⟩)] w fun e w' => ∃ r : Int, e = .returned (.int .u64 r) ∧ 0 ≤ r ∧ r ≤ 18446744073709551615 ∧ Adv w p A c ts a b S 1 w' := by
  obtain ⟨t, ht⟩ : ∃ t, ts[a]? = some t := ⟨ts[a]'h.lt, List.getElem?_eq_getElem _⟩
  refine (number_ex h (tk := t.kind) (tt := t.text) (tl := t.line) (tc := t.col) ht).mono ?_
  rintro e w' ⟨a', b', x', y', he, hn, h1, h2⟩
  have q := numF_u64 (ch (bytesOf t.text))
  refine ⟨_, he, by split <;> omega, by split <;> omega, a', b', x', y', h1, h2, ?_, ?_⟩
  · unfold takeN at hn; (repeat' split at hn) <;> (simp only [Prod.mk.injEq] at hn; omega)
  · unfold takeN at hn; (repeat' split at hn) <;> (simp only [Prod.mk.injEq] at hn; omega)
end Go.Proofs.YtdncjhffniepbaaGreatDoor.Lx
/- (LxPars5)
  The parser's methods: restart; the signals' names.
-/
namespace Go.Proofs.YtdncjhffniepbaaGreatDoor.Lx
open Go.RowKit

/-- The signal of a name; the policy of a word. -/
def sigF (s : ByteArray) : Int := if s.toList == [72, 85, 80] then 1 else if s.toList == [73, 78, 84] then 2 else if s.toList == [81, 85, 73, 84] then 3 else if s.toList == [85, 83, 82, 49] then 10 else if s.toList == [85, 83, 82, 50] then 12 else if s.toList == [84, 69, 82, 77] then 15 else 0
def polF (s : ByteArray) : Int := if s.toList == [97, 108, 119, 97, 121, 115] then 3 else if s.toList == [111, 110, 45, 102, 97, 105, 108, 117, 114, 101] then 2 else if s.toList == [110, 101, 118, 101, 114] then 1 else 0
theorem sigF_range (s : ByteArray) : 0 ≤ sigF s ∧ sigF s ≤ 15 := by unfold sigF; (repeat' split) <;> decide
theorem polF_range (s : ByteArray) : 0 ≤ polF s ∧ polF s ≤ 3 := by unfold polF; (repeat' split) <;> decide
theorem ret_i0 {u v : Value} (h : u = v) : Ending.returned u = Ending.returned v := by rw [h]
set_option maxRecDepth 100000 in
theorem signal_ex (s : ByteArray) (w : World) : Calls Tryz.prog 29 #[.string s] w fun e w' => e = .returned (.int .i64 (sigF s)) ∧ Below w.heap.size w w' := by
  go_enter Tryz.func29, Tryz.ntmps29
  go_wp2_with fail
  all_goals go_ret
  all_goals refine ⟨ret_i0 ?_, Below.refl _ _⟩
  all_goals (unfold sigF; simp only [*, Bool.false_eq_true, if_true, if_false]; rfl)
theorem signal_any (s : ByteArray) (w : World) : Calls Tryz.prog 29 #[.string s] w fun e w' => ∃ r : Int, e = .returned (.int .i64 r) ∧ 0 ≤ r ∧ r ≤ 100 ∧ Below w.heap.size w w' := by
  refine (signal_ex s w).mono ?_
  rintro e w' ⟨h1, h2⟩
  have q := sigF_range s
  exact ⟨_, h1, by omega, by omega, h2⟩

/-- What restart returns; the parser behind it. -/
def polV (n : Nat × Int × Int × Int) (s : ByteArray) : Int := if n.2.1 = 0 then polF s else 0
theorem polV_range (n : Nat × Int × Int × Int) (s : ByteArray) : 0 ≤ polV n s ∧ polV n s ≤ 3 := by
  have q := polF_range s
  unfold polV; split <;> omega

def polN (a : Nat) (b x y tk : Int) (s : ByteArray) (tl tc : Int) : Nat × Int × Int × Int :=
  if (takeN a b x y 1 8192 tk s.size tl tc).2.1 = 0 ∧ polF s = 0 then ((takeN a b x y 1 8192 tk s.size tl tc).1, 60, tl, tc) else takeN a b x y 1 8192 tk s.size tl tc
set_option maxRecDepth 100000 in
theorem restart_ex {w : World} {p : Nat} {A : Option Addr} {c : Nat} {ts : List Tok} {a : Nat} {b x y : Int} {S : Value} (h : Par w p A c ts a b x y S) {tk tl tc : Int} {tt : List Int} (ht : ts[a]? = some ⟨tk, tt, tl, tc⟩) :
    Calls Tryz.prog 92 #[.pointer (some ⟨p, 0, none⟩)] w fun e w' => e = .returned (.int .i64 (polV (takeN a b x y 1 8192 tk (bytesOf tt).size tl tc) (bytesOf tt))) ∧ ∃ a' b' x' y', (a', b', x', y') = polN a b x y tk (bytesOf tt) tl tc ∧ Par w' p A c ts a' b' x' y' S ∧ w.grownBy w' (some p) := by
  have HT := Lib.hid (take_ex h ht 1 8192 (by omega))
  have HF := Lib.hid (fun (W : World) (a : Nat) (b x y : Int) (hW : Par W p A c ts a b x y S) => failed_any hW)
  clear h ht
  generalize bytesOf tt = s at *
  go_enter Tryz.func92, Tryz.ntmps92
  go_wp2_with (first
    | (go_at_call 65; ((with_reducible refine (HT.out).mono ?_); rintro e w1 ⟨rfl, a', b', x', y', hn1, h1, g1⟩; have H1 := Lib.hid (h1.below (balloc w1 (TokB tk s tl tc))); have G1 := Lib.hid (grown_trans g1 (grown_below (balloc w1 (TokB tk s tl tc)) (some p))); have K1 := Lib.hid (heap_alloc_new w1 (TokB tk s tl tc)); have HN1 := Lib.hid hn1; have HF1 := Lib.hid (HF.out _ _ _ _ _ H1.out); clear h1 g1 hn1; by_cases hb : b' = 0)))
  · have hbd : decide (b' ≠ 0) = false := by simp [hb]
    rw [hbd] at HF1
    go_wp2_with (first
      | (go_at_call 42; ((with_reducible refine (HF1.out).mono ?_); rintro e w2 ⟨rfl, hb2⟩; have G2 := Lib.hid (grown_trans G1.out (grown_below hb2 (some p))); have H2 := Lib.hid (H1.out.below hb2); have k2 := (hb2.block _ (heap_lt K1.out)).trans K1.out; have K2 := Lib.hid k2; have d0 := cell_of_row _ _ 0 _ _ _ k2; have d1 := cell_of_row _ _ 1 _ _ _ k2; have d2 := cell_of_row _ _ 2 _ _ _ k2; have d3 := cell_of_row _ _ 3 _ _ _ k2; clear hb2 k2))
      | (go_at_call 64; ((with_reducible refine (fail_ex H2.out 60 tk tl tc s).mono ?_); rintro e w4 ⟨rfl, h4, hg4⟩; simp only [if_pos hb] at h4; have H4 := Lib.hid h4; have G4 := Lib.hid (grown_trans G2.out hg4); clear h4 hg4)))
    all_goals go_ret
    all_goals (have hn := HN1.out; first
      | exact ⟨ret_i0 (by rw [← hn]; unfold polV; simp only [if_pos hb]; unfold polF; simp only [*, Bool.false_eq_true, if_true, if_false]; rfl), a', b', x', y', by unfold polN; rw [← hn, if_neg (by unfold polF; simp [*])], H2.out, G2.out⟩
      | exact ⟨ret_i0 (by rw [← hn]; unfold polV; simp only [if_pos hb]; unfold polF; simp only [*, Bool.false_eq_true, if_false]; rfl), a', 60, tl, tc, by unfold polN; rw [← hn, if_pos (by unfold polF; simp [*])], H4.out, G4.out⟩)
  · have hbd : decide (b' ≠ 0) = true := by simp [hb]
    rw [hbd] at HF1
    go_wp2_with (go_at_call 42; ((with_reducible refine (HF1.out).mono ?_); rintro e w2 ⟨rfl, hb2⟩; have G2 := Lib.hid (grown_trans G1.out (grown_below hb2 (some p))); have H2 := Lib.hid (H1.out.below hb2); have k2 := (hb2.block _ (heap_lt K1.out)).trans K1.out; have K2 := Lib.hid k2; have d0 := cell_of_row _ _ 0 _ _ _ k2; have d1 := cell_of_row _ _ 1 _ _ _ k2; have d2 := cell_of_row _ _ 2 _ _ _ k2; have d3 := cell_of_row _ _ 3 _ _ _ k2; clear hb2 k2))
    go_ret
    have hn := HN1.out
    exact ⟨ret_i0 (by rw [← hn]; unfold polV; simp only [if_neg hb]; rfl), a', b', x', y', by unfold polN; rw [← hn, if_neg (fun q => hb q.1)], H2.out, G2.out⟩
theorem restart_any {w : World} {p : Nat} {A : Option Addr} {c : Nat} {ts : List Tok} {a : Nat} {b x y : Int} {S : Value} (h : Par w p A c ts a b x y S) :
    Calls Tryz.prog 92 #[.pointer (some ⟨p, 0, none⟩)] w fun e w' => ∃ r : Int, e = .returned (.int .i64 r) ∧ 0 ≤ r ∧ r ≤ 100 ∧ Adv w p A c ts a b S 1 w' := by
  obtain ⟨t, ht⟩ : ∃ t, ts[a]? = some t := ⟨ts[a]'h.lt, List.getElem?_eq_getElem _⟩
  refine (restart_ex h (tk := t.kind) (tt := t.text) (tl := t.line) (tc := t.col) ht).mono ?_
  rintro e w' ⟨he, a', b', x', y', hn, h1, h2⟩
  have q := polV_range (takeN a b x y 1 8192 t.kind (bytesOf t.text).size t.line t.col) (bytesOf t.text)
  refine ⟨_, he, by omega, by omega, a', b', x', y', h1, h2, ?_, ?_⟩
  · unfold polN takeN at hn; (repeat' split at hn) <;> (simp only [Prod.mk.injEq] at hn; omega)
  · unfold polN takeN at hn; (repeat' split at hn) <;> (simp only [Prod.mk.injEq] at hn; omega)
end Go.Proofs.YtdncjhffniepbaaGreatDoor.Lx
/- (LxPiece)
  Rows of strings, variables and rungs in memory, as far as their shape goes.
-/
namespace Go.Proofs.YtdncjhffniepbaaGreatDoor.Lx
open Go.RowKit

abbrev Shape := List (Value → Prop)
def isStr (M : Nat) (u : Value) : Prop := ∃ s : ByteArray, u = .string s ∧ s.size ≤ M
def isI64 (u : Value) : Prop := ∃ x : Int, u = .int .i64 x
def isU64 (u : Value) : Prop := ∃ x : Int, u = .int .u64 x ∧ 0 ≤ x ∧ x ≤ 18446744073709551615
/-- n elements of a shape at an address. -/
def PAt (w : World) (pat : Shape) (A : Option Addr) (n : Nat) : Prop :=
  0 < n → ∃ g off, A = some ⟨g, off, none⟩ ∧ ∀ k j q, k < n → pat[j]? = some q → ∃ u, w.cell? ⟨g, off + k * pat.length + j, none⟩ = some u ∧ q u
/-- A slice of n elements of a shape. -/
def PLst (w : World) (pat : Shape) (v : Value) (n : Nat) : Prop := ∃ A c, v = .slice A n c ∧ PAt w pat A n ∧ (A = none → c = 0) ∧ n ≤ c ∧ c ≤ maxLen
theorem PLst.nil (w : World) (pat : Shape) : PLst w pat (.slice none 0 0) 0 := ⟨none, 0, rfl, fun h => by simp at h, fun _ => rfl, Nat.le_refl _, Nat.zero_le _⟩
theorem PAt.grown {w w' : World} {pat : Shape} {A : Option Addr} {n : Nat} {row : Option Nat} (h : PAt w pat A n) (hg : w.grownBy w' row) (hne : ∀ a, A = some a → row ≠ some a.block) : PAt w' pat A n := fun hn => by
  obtain ⟨g, off, hA, hc⟩ := h hn
  refine ⟨g, off, hA, fun k j q hk hq => ?_⟩
  obtain ⟨u, h1, h2⟩ := hc k j q hk hq
  have hl := World.block_lt_of_cell? w _ h1
  exact ⟨u, (World.cell?_of_block (a := ⟨g, _, none⟩) (hg.block g hl (fun e => hne _ hA e.symm))).trans h1, h2⟩
theorem PAt.below {w w' : World} {pat : Shape} {A : Option Addr} {n : Nat} (h : PAt w pat A n) (hb : Below w.heap.size w w') : PAt w' pat A n := h.grown (grown_below hb none) (fun _ _ => by simp)
theorem PLst.grown {w w' : World} {pat : Shape} {v : Value} {n : Nat} {row : Option Nat} (h : PLst w pat v n) (hg : w.grownBy w' row) (hne : ∀ g, v.ownBlock = some g → row ≠ some g) : PLst w' pat v n := by
  obtain ⟨A, c, rfl, h2, h3⟩ := h
  exact ⟨A, c, rfl, h2.grown hg (fun a e => hne _ (by rw [e]; rfl)), h3⟩
theorem PLst.below {w w' : World} {pat : Shape} {v : Value} {n : Nat} (h : PLst w pat v n) (hb : Below w.heap.size w w') : PLst w' pat v n := h.grown (grown_below hb none) (fun _ _ => by simp)
/-- A row of the call's own. -/
def POwn (w : World) (e : TypeId) (pat : Shape) (B : Nat) (v : Value) (n : Nat) : Prop :=
  ∃ xs, w.ownsRow B e pat.length v n xs ∧ ∀ (k j : Nat) (q : Value → Prop), k < n → pat[j]? = some q → ∃ u, xs[k * pat.length + j]? = some u ∧ q u
theorem POwn.nil (w : World) (e : TypeId) (pat : Shape) (B : Nat) : POwn w e pat B (.slice none 0 0) 0 := ⟨[], World.ownsRow_nil w B e pat.length, fun k j q hk => by omega⟩
theorem POwn.form {w : World} {e : TypeId} {pat : Shape} {B : Nat} {v : Value} {n : Nat} (h : POwn w e pat B v n) : ∃ A c, v = .slice A n c := by
  obtain ⟨xs, h, _⟩ := h
  rcases h.2 with ⟨h1, h0⟩ | ⟨g, cap, cur, h1, _⟩
  · subst h0; exact ⟨none, 0, h1⟩
  · exact ⟨_, cap, h1⟩
theorem POwn.grown {w w' : World} {e : TypeId} {pat : Shape} {B : Nat} {v : Value} {n : Nat} {row : Option Nat} (h : POwn w e pat B v n) (hg : w.grownBy w' row) (hne : ∀ g, v.ownBlock = some g → row ≠ some g) : POwn w' e pat B v n := by
  obtain ⟨xs, h, hx⟩ := h
  refine ⟨xs, ⟨h.1, ?_⟩, hx⟩
  rcases h.2 with h | ⟨g, cap, cur, h1, h2, h3, h4⟩
  · exact .inl h
  · exact .inr ⟨g, cap, cur, h1, h2, (hg.block g (heap_lt h3) (fun e => hne g (by rw [h1]; rfl) e.symm)).trans h3, h4⟩
theorem POwn.below {w w' : World} {e : TypeId} {pat : Shape} {B : Nat} {v : Value} {n : Nat} (h : POwn w e pat B v n) (hb : Below w.heap.size w w') : POwn w' e pat B v n := h.grown (grown_below hb none) (fun _ _ => by simp)
theorem POwn.block {w : World} {e : TypeId} {pat : Shape} {B : Nat} {v : Value} {n : Nat} (h : POwn w e pat B v n) : ∀ g, v.ownBlock = some g → B ≤ g ∧ g < w.heap.size ∧ ∀ cs t f, w.heap[g]? = some (.cells cs t f) → t = e := by
  intro g hg
  obtain ⟨xs, h, _⟩ := h
  rcases h.2 with ⟨h1, _⟩ | ⟨g', cap, cur, h1, h2, h3, h4⟩
  · rw [h1] at hg; simp [Value.ownBlock] at hg
  · rw [h1] at hg; simp [Value.ownBlock] at hg; subst hg
    exact ⟨h2, heap_lt h3, fun cs t f hc => by rw [h3] at hc; injection hc with hc; injection hc with _ e2; exact e2.symm⟩
theorem POwn.lst {w : World} {e : TypeId} {pat : Shape} {B : Nat} {v : Value} {n : Nat} (h : POwn w e pat B v n) : PLst w pat v n := by
  obtain ⟨xs, h, hx⟩ := h
  rcases h.2 with ⟨h1, h0⟩ | ⟨g, cap, cur, h1, h2, h3, hle, hm, _, ht⟩
  · subst h0
    rw [h1]; exact PLst.nil w pat
  · refine ⟨_, cap, h1, fun hn => ⟨g, 0, rfl, fun k j q hk hq => ?_⟩, fun e => by simp at e, hle, hm⟩
    obtain ⟨u, hu, hqu⟩ := hx k j q hk hq
    refine ⟨u, ?_, hqu⟩
    rw [cell_of_row w g _ cur _ _ h3, Nat.zero_add]
    rw [← ht, List.getElem?_take] at hu
    split at hu
    · simpa using hu
    · simp at hu
/-- The elements of a slice's type. -/
structure PElt (ts e : TypeId) (z : Value) (pat : Shape) (bytes : Nat) : Prop where
  under : Tryz.prog.underlying ts = some (.slice e)
  info : ∃ i, Tryz.prog.info? e = some i ∧ i.zero = some z ∧ i.size = pat.length ∧ i.bytes = bytes
  zlen : z.cells.size = pat.length
  pos : 0 < pat.length
/-- One element more. -/
theorem run_app_p {ts e : TypeId} {z : Value} {pat : Shape} {bytes : Nat} (E : PElt ts e z pat bytes) {w : World} {B : Nat} {v : Value} {n : Nat} (h : POwn w e pat B v n) (us : List Value) (hul : us.length = pat.length) (hu : ∀ (j : Nat) (q : Value → Prop), pat[j]? = some q → ∃ u, us[j]? = some u ∧ q u) (h1 : ∀ u ∈ us, u.oneCell' = true)
    (g c off : Nat) (hg : ∀ j u, us[j]? = some u → w.cell? ⟨g, off + j, none⟩ = some u) (hl : n ≤ 100000) (hb : bytes ≤ 1000) (hB : B ≤ w.heap.size) (ty : TypeId) :
    ∃ v' w', (Builtin.append_ #[ts, ts] ty #[v, .slice (some ⟨g, off, none⟩) 1 c]).run Tryz.prog w = .ok v' w' ∧ POwn w' e pat B v' (n + 1) ∧ w.grownBy w' v.ownBlock := by
  obtain ⟨i, hi, hz, hs, hby⟩ := E.info
  obtain ⟨xs, h, hx⟩ := h
  obtain ⟨v', w', hrun, h2, h3, _⟩ := run_append_own (P := Tryz.prog) w B ts ty e i z pat.length bytes E.under hi hz hs hby E.zlen E.pos v n xs h ⟨g, off, none⟩ 1 c us (by omega) (fun j u hj => by rw [Addr.add_lit]; exact hg j u hj)
    h1 (by unfold maxLen; omega) (Nat.le_trans (Nat.mul_le_mul_left _ hb) (by omega)) hB
  refine ⟨v', w', hrun, ⟨xs ++ us, h2, fun k j q hk hq => ?_⟩, h3⟩
  have hj : j < pat.length := (List.getElem?_eq_some_iff.1 hq).1
  by_cases hkn : k < n
  · obtain ⟨u, e1, e2⟩ := hx k j q hkn hq
    exact ⟨u, by rw [List.getElem?_append_left (List.getElem?_eq_some_iff.1 e1).1]; exact e1, e2⟩
  · obtain rfl : k = n := by omega
    obtain ⟨u, e1, e2⟩ := hu j q hq
    exact ⟨u, by rw [List.getElem?_append_right (by rw [h.1]; omega), h.1, Nat.add_sub_cancel_left]; exact e1, e2⟩
theorem wpList_app_p {w : World} {ops : Array Oper} {rest : List Oper} {o : Oper} {a : Act} {Q : Exit → Act → World → Prop} (hgd : o.guard = none) (s y : Operand) {ts e : TypeId} {z : Value} {pat : Shape} {bytes : Nat} (E : PElt ts e z pat bytes)
    (ho : o.op = .call { callee := .builtin .append, args := #[s, y], argTypes := #[ts, ts] })
    {B : Nat} {v : Value} {n : Nat} (hs : a.eval s = v) (h : POwn w e pat B v n) (us : List Value) (hul : us.length = pat.length) (hu : ∀ (j : Nat) (q : Value → Prop), pat[j]? = some q → ∃ u, us[j]? = some u ∧ q u) (h1 : ∀ u ∈ us, u.oneCell' = true)
    (g c off : Nat) (hy : a.eval y = .slice (some ⟨g, off, none⟩) 1 c) (hg : ∀ j u, us[j]? = some u → w.cell? ⟨g, off + j, none⟩ = some u) (hl : n ≤ 100000) (hb : bytes ≤ 1000) (hB : B ≤ w.heap.size)
    (hK : ∀ v' w', POwn w' e pat B v' (n + 1) → w.grownBy w' v.ownBlock → wpList Tryz.prog ops Q rest (a.put o.dst v') w') : wpList Tryz.prog ops Q (o :: rest) a w := by
  refine wpList_plain hgd fun K hK' => ?_
  obtain ⟨v', w', hrun, r1, r2⟩ := run_app_p E h us hul hu h1 g c off hg hl hb hB o.type
  unfold Oper.wp
  simp [execOp, ho, resolve, invoke, builtin, hs, hy, hrun, Result.andThen]
  exact hK' _ _ (hK v' w' r1 r2)
end Go.Proofs.YtdncjhffniepbaaGreatDoor.Lx
/- (LxRows)
  Rows of strings, variables and rungs in memory, exactly.
-/
namespace Go.Proofs.YtdncjhffniepbaaGreatDoor.Lx
open Go.RowKit

/-- These cells at an address. -/
def XAt (w : World) (A : Option Addr) (xs : List Value) : Prop :=
  0 < xs.length → ∃ g off, A = some ⟨g, off, none⟩ ∧ ∀ j u, xs[j]? = some u → w.cell? ⟨g, off + j, none⟩ = some u
/-- A slice of n elements of k cells each, all known. -/
def XLst (w : World) (k : Nat) (v : Value) (n : Nat) (xs : List Value) : Prop := ∃ A c, v = .slice A n c ∧ xs.length = n * k ∧ XAt w A xs ∧ (A = none → c = 0) ∧ n ≤ c ∧ c ≤ maxLen
theorem XLst.nil (w : World) (k : Nat) : XLst w k (.slice none 0 0) 0 [] := ⟨none, 0, rfl, by simp, fun h => by simp at h, fun _ => rfl, Nat.le_refl _, Nat.zero_le _⟩
theorem XAt.grown {w w' : World} {A : Option Addr} {xs : List Value} {row : Option Nat} (h : XAt w A xs) (hg : w.grownBy w' row) (hne : ∀ a, A = some a → row ≠ some a.block) : XAt w' A xs := fun hn => by
  obtain ⟨g, off, hA, hc⟩ := h hn
  refine ⟨g, off, hA, fun j u hj => ?_⟩
  have h1 := hc j u hj
  have hl := World.block_lt_of_cell? w _ h1
  exact (World.cell?_of_block (a := ⟨g, _, none⟩) (hg.block g hl (fun e => hne _ hA e.symm))).trans h1
theorem XLst.grown {w w' : World} {k : Nat} {v : Value} {n : Nat} {xs : List Value} {row : Option Nat} (h : XLst w k v n xs) (hg : w.grownBy w' row) (hne : ∀ g, v.ownBlock = some g → row ≠ some g) : XLst w' k v n xs := by
  obtain ⟨A, c, rfl, h2, h3, h4⟩ := h
  exact ⟨A, c, rfl, h2, h3.grown hg (fun a e => hne _ (by rw [e]; rfl)), h4⟩
theorem XLst.below {w w' : World} {k : Nat} {v : Value} {n : Nat} {xs : List Value} (h : XLst w k v n xs) (hb : Below w.heap.size w w') : XLst w' k v n xs := h.grown (grown_below hb none) (fun _ _ => by simp)
/-- A row of the call's own, all known. -/
abbrev XOwn (w : World) (e : TypeId) (k : Nat) (B : Nat) (v : Value) (n : Nat) (xs : List Value) : Prop := w.ownsRow B e k v n xs
theorem xown_form {w : World} {e : TypeId} {k B : Nat} {v : Value} {n : Nat} {xs : List Value} (h : XOwn w e k B v n xs) : ∃ A c, v = .slice A n c := by
  rcases h.2 with ⟨h1, h0⟩ | ⟨g, cap, cur, h1, _⟩
  · subst h0; exact ⟨none, 0, h1⟩
  · exact ⟨_, cap, h1⟩
theorem xown_grown {w w' : World} {e : TypeId} {k B : Nat} {v : Value} {n : Nat} {xs : List Value} {row : Option Nat} (h : XOwn w e k B v n xs) (hg : w.grownBy w' row) (hne : ∀ g, v.ownBlock = some g → row ≠ some g) : XOwn w' e k B v n xs := by
  refine ⟨h.1, ?_⟩
  rcases h.2 with h | ⟨g, cap, cur, h1, h2, h3, h4⟩
  · exact .inl h
  · exact .inr ⟨g, cap, cur, h1, h2, (hg.block g (heap_lt h3) (fun e => hne g (by rw [h1]; rfl) e.symm)).trans h3, h4⟩
theorem xown_below {w w' : World} {e : TypeId} {k B : Nat} {v : Value} {n : Nat} {xs : List Value} (h : XOwn w e k B v n xs) (hb : Below w.heap.size w w') : XOwn w' e k B v n xs := xown_grown h (grown_below hb none) (fun _ _ => by simp)
theorem xown_block {w : World} {e : TypeId} {k B : Nat} {v : Value} {n : Nat} {xs : List Value} (h : XOwn w e k B v n xs) : ∀ g, v.ownBlock = some g → B ≤ g ∧ g < w.heap.size := by
  intro g hg
  rcases h.2 with ⟨h1, _⟩ | ⟨g', cap, cur, h1, h2, h3, h4⟩
  · rw [h1] at hg; simp [Value.ownBlock] at hg
  · rw [h1] at hg; simp [Value.ownBlock] at hg; subst hg
    exact ⟨h2, heap_lt h3⟩
theorem xown_lst {w : World} {e : TypeId} {k B : Nat} {v : Value} {n : Nat} {xs : List Value} (h : XOwn w e k B v n xs) : XLst w k v n xs := by
  have hl := h.1
  rcases h.2 with ⟨h1, h0⟩ | ⟨g, cap, cur, h1, h2, h3, hle, hm, _, ht⟩
  · subst h0
    have : xs = [] := List.eq_nil_of_length_eq_zero (by rw [hl, Nat.zero_mul])
    rw [h1, this]; exact XLst.nil w k
  · refine ⟨_, cap, h1, hl, fun hn => ⟨g, 0, rfl, fun j u hu => ?_⟩, fun e => by simp at e, hle, hm⟩
    rw [cell_of_row w g _ cur _ _ h3, Nat.zero_add]
    rw [← ht, List.getElem?_take] at hu
    split at hu
    · simpa using hu
    · simp at hu
theorem wpList_app_x {w : World} {ops : Array Oper} {rest : List Oper} {o : Oper} {a : Act} {Q : Exit → Act → World → Prop} (hgd : o.guard = none) (s y : Operand) {ts e : TypeId} {z : Value} {pat : Shape} {bytes : Nat} (E : PElt ts e z pat bytes)
    (ho : o.op = .call { callee := .builtin .append, args := #[s, y], argTypes := #[ts, ts] })
    {B : Nat} {v : Value} {n : Nat} {xs : List Value} (hs : a.eval s = v) (h : XOwn w e pat.length B v n xs) (us : List Value) (hul : us.length = pat.length) (h1 : ∀ u ∈ us, u.oneCell' = true)
    (g c off : Nat) (hy : a.eval y = .slice (some ⟨g, off, none⟩) 1 c) (hg : ∀ j u, us[j]? = some u → w.cell? ⟨g, off + j, none⟩ = some u) (hl : n ≤ 100000) (hb : bytes ≤ 1000) (hB : B ≤ w.heap.size)
    (hK : ∀ v' w', XOwn w' e pat.length B v' (n + 1) (xs ++ us) → w.grownBy w' v.ownBlock → wpList Tryz.prog ops Q rest (a.put o.dst v') w') : wpList Tryz.prog ops Q (o :: rest) a w := by
  obtain ⟨i, hi, hz, hsz, hby⟩ := E.info
  obtain ⟨v', w', hrun, h2, h3, _⟩ := run_append_own (P := Tryz.prog) w B ts o.type e i z pat.length bytes E.under hi hz hsz hby E.zlen E.pos v n xs h ⟨g, off, none⟩ 1 c us (by omega) (fun j u hj => by rw [Addr.add_lit]; exact hg j u hj)
    h1 (by unfold maxLen; omega) (Nat.le_trans (Nat.mul_le_mul_left _ hb) (by omega)) hB
  refine wpList_plain hgd fun K hK' => ?_
  unfold Oper.wp
  simp [execOp, ho, resolve, invoke, builtin, hs, hy, hrun, Result.andThen]
  exact hK' _ _ (hK v' w' h2 h3)
/-- A row written out. -/
theorem xlst_lit (w : World) (l : List Value) (t : TypeId) (hl : l.length ≤ 100000) : XLst (w.alloc (.cells l.toArray t)) 1 (.slice (some ⟨w.heap.size, 0, none⟩) l.length l.length) l.length l := by
  refine ⟨_, _, rfl, by omega, fun _ => ⟨w.heap.size, 0, rfl, fun j u hj => ?_⟩, fun e => by simp at e, Nat.le_refl _, by unfold maxLen; omega⟩
  rw [cell_of_row _ _ _ _ _ _ (heap_alloc_new w _), Nat.zero_add]
  simpa using hj

theorem notin_snoc {α : Type} {s t : α} {l : List α} (h : ¬ s ∈ l) (h2 : ¬ t = s) : ¬ s ∈ l ++ [t] := by
  rw [List.mem_append]
  rintro (q | q)
  · exact h q
  · exact h2 (by simp at q; exact q.symm)
set_option maxRecDepth 100000 in
theorem has_ex {w : World} {v : Value} {n : Nat} {l : List ByteArray} (h : XLst w 1 v n (l.map Value.string)) (s : ByteArray) : Calls Tryz.prog 68 #[v, .string s] w fun e w' => ∃ r : Bool, e = .returned (.bool r) ∧ (r = true ↔ s ∈ l) ∧ Below w.heap.size w w' := by
  obtain ⟨A, c, rfl, hlen, h2, h4, h5, h6⟩ := h
  have hn : n ≤ 9223372036854775807 := by unfold maxLen at h6; omega
  have hln : l.length = n := by rw [List.length_map] at hlen; omega
  have H := Lib.hid h2
  clear h2 h4 h5 h6 hlen
  go_enter Tryz.func68, Tryz.ntmps68
  go_wp2_with fail
  go_loopg [5] (n + 1) (fun g' i wr => ∃ (k : Nat), i = .int .i64 k ∧ k ≤ n ∧ s ∉ l.take k ∧ n - k + 1 ≤ g' ∧ ∃ m, wr = w.drewN m)
  case atStart => exact ⟨0, rfl, by omega, by simp, by omega, 0, rfl⟩
  case round =>
    obtain ⟨k, rfl, hk, hno, hg, m, rfl⟩ := hrel
    by_cases hkn : k < n
    · have hki : (k : Int) < (n : Int) := by omega
      have hkl : k < l.length := by omega
      obtain ⟨g, off, rfl, hc⟩ := H.out (by rw [List.length_map]; omega)
      have hu := hc k (.string (l[k]'hkl)) (by rw [List.getElem?_map, List.getElem?_eq_getElem hkl]; rfl)
      have hmem : l[k]'hkl ∈ l := List.getElem_mem hkl
      have htk : l.take (k + 1) = l.take k ++ [l[k]'hkl] := List.take_succ_eq_append_getElem hkl
      generalize l[k]'hkl = t at *
      clear hc
      by_cases hst : t = s
      · have hsb : (t.toList == s.toList) = true := by rw [str_eq]; exact decide_eq_true hst
        go_wp2_with fail
        go_ret
        exact ⟨true, rfl, by rw [← hst]; simp [hmem], below_drewN w m⟩
      · have hsb : (t.toList == s.toList) = false := by rw [str_eq]; exact decide_eq_false hst
        go_wp2_with fail
        go_roundg (n - (k + 1) + 1)
        case measure => omega
        case rel => exact ⟨k + 1, by go_num, by omega, by rw [htk]; exact notin_snoc hno hst, Nat.le_refl _, m, rfl⟩
    · obtain rfl : k = n := by omega
      rw [List.take_of_length_le (by omega)] at hno
      go_wp2_with fail
      go_ret
      exact ⟨false, rfl, by simp [hno], below_drewN w m⟩
end Go.Proofs.YtdncjhffniepbaaGreatDoor.Lx
