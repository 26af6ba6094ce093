/-
  Layer 5: tokens, as mathematics and in memory.
-/
import Derived.Test.YtjhcbcadagljlaaDoorLxOne
namespace Go.Proofs.YtjhcbcadagljlaaDoor.Lx
open Go.RowKit

structure Tok where
  kind : Int
  text : List Int
  line : Int
  col : Int
/-- A fault: its code, its place. -/
abbrev Flt := Int × Int × Int
/-- The tokens from here on, where c have been read. -/
def lexC : Nat → Nat → List Int → Int × Int → Except Flt (List Tok)
  | 0, _, _, _ => .error (0, 0, 0)
  | f + 1, c, l, p =>
    if (l.drop (skip l)).length = 0 then .ok [⟨6, [], (adv p (l.take (skip l))).1, (adv p (l.take (skip l))).2⟩] else
    match one (l.drop (skip l)) with
    | .bad e => .error (e, adv p (l.take (skip l)))
    | .tok k t n => if 2000 ≤ c then .error (1, adv p (l.take (skip l))) else
      (lexC f (c + 1) (l.drop (skip l + n)) (adv p (l.take (skip l + n)))).map fun r => ⟨k, t, (adv p (l.take (skip l))).1, (adv p (l.take (skip l))).2⟩ :: r
def all (l : List Int) : Except Flt (List Tok) := if 8192 < l.length then .error (1, 0, 0) else lexC (l.length + 1) 0 l (1, 1)
def allT (l : List Int) : List Tok := match all l with | .ok ts => ts | .error _ => []
def allF (l : List Int) : Flt := match all l with | .ok _ => (0, 0, 0) | .error f => f

theorem spanL_pos {w : Bool} {a : Int} {r : List Int} (h : pw w a = true) : 1 ≤ spanL w (a :: r) := by rw [spanL_cons, if_pos h]; omega
theorem one_len {l : List Int} {k : Int} {t : List Int} {n : Nat} (h : one l = .tok k t n) : 1 ≤ n ∧ n ≤ l.length := by
  match l, h with
  | [], h => simp [one] at h
  | a :: r, h =>
    cases hl : letter a with
    | true =>
      rw [one_letter hl] at h
      simp only [One.tok.injEq] at h
      rw [← h.2.2]
      exact ⟨spanL_pos (by simp [pw, inWord, hl]), spanL_le _ _⟩
    | false =>
      cases hd : digit a with
      | true =>
        rw [one_digit hl hd] at h
        split at h
        · simp at h
        · simp only [One.tok.injEq] at h
          rw [← h.2.2]
          exact ⟨spanL_pos (by simp [pw, hd]), spanL_le _ _⟩
      | false =>
        by_cases h34 : a = 34
        · subst h34
          rw [one_str] at h
          cases hq : quo r with
          | none => rw [hq] at h; simp at h
          | some x =>
            obtain ⟨t2, n2⟩ := x
            rw [hq] at h
            have := quo_len hq
            simp at h ⊢; omega
        by_cases h47 : a = 47
        · subst h47
          rw [one_pat] at h
          cases hq : sla r with
          | none => rw [hq] at h; simp at h
          | some x =>
            obtain ⟨t2, n2⟩ := x
            rw [hq] at h
            have := sla_len _ hq
            simp at h ⊢; omega
        by_cases hs : a = 123 ∨ a = 125 ∨ a = 44 ∨ a = 61
        · rw [one_sign hs] at h
          simp at h ⊢; omega
        · rw [one_char hl hd h34 h47 hs] at h; simp at h

/-! ### in memory -/
def Tok.cells (t : Tok) : List Value := [.int .i64 t.kind, .string (bytesOf t.text), .int .i64 t.line, .int .i64 t.col]
def flatT : List Tok → List Value
  | [] => []
  | t :: r => t.cells ++ flatT r
theorem flatT_append (a b : List Tok) : flatT (a ++ b) = flatT a ++ flatT b := by
  induction a with
  | nil => rfl
  | cons t r ih => simp [flatT, ih]
theorem flatT_length (a : List Tok) : (flatT a).length = a.length * 4 := by
  induction a with
  | nil => rfl
  | cons t r ih => simp [flatT, ih, Tok.cells]; omega
theorem flatT_at : ∀ (a : List Tok) (k : Nat) (t : Tok) (j : Nat) (u : Value), a[k]? = some t → t.cells[j]? = some u → (flatT a)[k * 4 + j]? = some u
  | [], k, t, j, u, h, _ => by simp at h
  | x :: r, 0, t, j, u, h, hu => by
    simp at h; subst h
    have hj : j < x.cells.length := (List.getElem?_eq_some_iff.1 hu).1
    simp only [flatT, Nat.zero_mul, Nat.zero_add]
    rw [List.getElem?_append_left hj]; exact hu
  | x :: r, k + 1, t, j, u, h, hu => by
    simp at h
    have := flatT_at r k t j u h hu
    simp only [flatT]
    rw [List.getElem?_append_right (by simp [Tok.cells]; omega)]
    rw [← this]; congr 1; simp [Tok.cells]; omega
theorem Tryd.info38 : (Tryd.prog.info? 38).map (fun i => (i.zero, i.size, i.bytes)) = some (some (.agg #[.int .i64 0, .string ⟨#[]⟩, .int .i64 0, .int .i64 0]), 4, 40) := by kernel_rfl

/-- Tokens that are read. -/
def TokAt (w : World) (A : Option Addr) (ts : List Tok) : Prop :=
  0 < ts.length → ∃ g off, A = some ⟨g, off, none⟩ ∧ ∀ k t, ts[k]? = some t →
    w.cell? ⟨g, off + k * 4, none⟩ = some (.int .i64 t.kind) ∧ w.cell? ⟨g, off + k * 4 + 1, none⟩ = some (.string (bytesOf t.text)) ∧ w.cell? ⟨g, off + k * 4 + 2, none⟩ = some (.int .i64 t.line) ∧ w.cell? ⟨g, off + k * 4 + 3, none⟩ = some (.int .i64 t.col)
theorem TokAt.below {w w' : World} {A : Option Addr} {ts : List Tok} (h : TokAt w A ts) (hb : Below w.heap.size w w') : TokAt w' A ts := fun hn => by
  obtain ⟨g, off, hA, hc⟩ := h hn
  refine ⟨g, off, hA, fun k t ht => ?_⟩
  obtain ⟨a, b, c, d⟩ := hc k t ht
  exact ⟨(hb.cell (World.block_lt_of_cell? w _ a)).trans a, (hb.cell (World.block_lt_of_cell? w _ b)).trans b, (hb.cell (World.block_lt_of_cell? w _ c)).trans c, (hb.cell (World.block_lt_of_cell? w _ d)).trans d⟩
def TLst (w : World) (v : Value) (ts : List Tok) : Prop := ∃ A c, v = .slice A ts.length c ∧ TokAt w A ts ∧ (A = none → c = 0) ∧ ts.length ≤ c ∧ c ≤ maxLen
theorem TLst.below {w w' : World} {v : Value} {ts : List Tok} (h : TLst w v ts) (hb : Below w.heap.size w w') : TLst w' v ts := by
  obtain ⟨A, c, h1, h2, h3⟩ := h; exact ⟨A, c, h1, h2.below hb, h3⟩
theorem TLst.nil (w : World) : TLst w (.slice none 0 0) [] := ⟨none, 0, rfl, fun h => by simp at h, fun _ => rfl, Nat.le_refl _, Nat.zero_le _⟩
/-- Tokens of the call's own. -/
def TOwn (w : World) (B : Nat) (v : Value) (ts : List Tok) : Prop := w.ownsRow B 38 4 v ts.length (flatT ts)
theorem TOwn.nil (w : World) (B : Nat) : TOwn w B (.slice none 0 0) [] := World.ownsRow_nil w B _ 4
theorem TOwn.below {w w' : World} {B : Nat} {v : Value} {ts : List Tok} (h : TOwn w B v ts) (hb : Below w.heap.size w w') : TOwn w' B v ts := by
  refine ⟨h.1, ?_⟩
  rcases h.2 with h | ⟨g, cap, cur, h1, h2, h3, h4⟩
  · exact .inl h
  · exact .inr ⟨g, cap, cur, h1, h2, (hb.block g (heap_lt h3)).trans h3, h4⟩
theorem TOwn.block {w : World} {B : Nat} {v : Value} {ts : List Tok} (h : TOwn w B v ts) : ∀ g, v.ownBlock = some g → B ≤ g ∧ ∀ cs t f, w.heap[g]? = some (.cells cs t f) → t = 38 := by
  intro g hg
  rcases h.2 with ⟨h1, _⟩ | ⟨g', cap, cur, h1, h2, h3, h4⟩
  · rw [h1] at hg; simp [Value.ownBlock] at hg
  · rw [h1] at hg; simp [Value.ownBlock] at hg; subst hg
    exact ⟨h2, fun cs t f hc => by rw [h3] at hc; injection hc with hc; injection hc with _ e2; exact e2.symm⟩
theorem TOwn.lst {w : World} {B : Nat} {v : Value} {ts : List Tok} (h : TOwn w B v ts) : TLst w v ts := by
  rcases h.2 with ⟨h1, h0⟩ | ⟨g, cap, cur, h1, h2, h3, hle, hm, _, ht⟩
  · have : ts = [] := List.eq_nil_of_length_eq_zero h0
    subst this
    rw [h1]; exact TLst.nil w
  · refine ⟨_, cap, h1, fun hn => ⟨g, 0, rfl, fun k t hk => ?_⟩, fun e => by simp at e, hle, hm⟩
    have hkl : k < ts.length := (List.getElem?_eq_some_iff.1 hk).1
    have key : ∀ j u, t.cells[j]? = some u → w.cell? ⟨g, 0 + k * 4 + j, none⟩ = some u := by
      intro j u hu
      have e := flatT_at ts k t j u hk hu
      have hj : j < 4 := by have := (List.getElem?_eq_some_iff.1 hu).1; simpa [Tok.cells] using this
      rw [cell_of_row w g _ cur _ _ h3, Nat.zero_add]
      rw [← ht, List.getElem?_take, if_pos (by omega)] at e
      simpa using e
    exact ⟨by have := key 0 _ rfl; simpa using this, key 1 _ rfl, key 2 _ rfl, key 3 _ rfl⟩
theorem TOwn.form {w : World} {B : Nat} {v : Value} {ts : List Tok} (h : TOwn w B v ts) : ∃ A c, v = .slice A ts.length c := by
  obtain ⟨A, c, hv, _⟩ := h.lst; exact ⟨A, c, hv⟩
theorem TOwn.fr {e : TypeId} {w w' : World} {B B' : Nat} {v : Value} {ts : List Tok} (h : TOwn w B v ts) (hf : Fr e B' w w') (hne : 38 ≠ e) : TOwn w' B v ts := by
  refine ⟨h.1, ?_⟩
  rcases h.2 with h | ⟨g, cap, cur, h1, h2, h3, h4⟩
  · exact .inl h
  · exact .inr ⟨g, cap, cur, h1, h2, hf.keep g _ _ _ h3 hne, h4⟩
/-- One token more. -/
theorem run_app_tok {w : World} {B : Nat} {v : Value} {ts : List Tok} (t : Tok) (h : TOwn w B v ts) (g c : Nat) (hg : w.heap[g]? = some (.cells t.cells.toArray 38 (0, 0))) (hl : ts.length ≤ 100000) (hB : B ≤ w.heap.size) (ty : TypeId) :
    ∃ v' w', (Builtin.append_ #[26, 26] ty #[v, .slice (some ⟨g, 0, none⟩) 1 c]).run Tryd.prog w = .ok v' w' ∧ TOwn w' B v' (ts ++ [t]) ∧ Fr 38 B w w' := by
  obtain ⟨i, hi, hz, h1, hb⟩ := info_parts Tryd.info38
  have hnews : ∀ j u, t.cells[j]? = some u → w.cell? ((⟨g, 0, none⟩ : Addr).add j) = some u := by
    intro j u hu
    rw [Addr.add_lit, cell_of_row w g _ _ _ _ hg, Nat.zero_add]
    simpa using hu
  obtain ⟨v', w', hrun, h2, h3, _⟩ := run_append_own (P := Tryd.prog) w B 26 ty 38 i (.agg #[.int .i64 0, .string ⟨#[]⟩, .int .i64 0, .int .i64 0]) 4 40 Tryd.underlying26 hi hz h1 hb rfl (by decide) v ts.length (flatT ts) h ⟨g, 0, none⟩ 1 c t.cells rfl hnews
    (fun u hu => by simp [Tok.cells] at hu; rcases hu with rfl | rfl | rfl | rfl <;> rfl) (by unfold maxLen; omega) (by omega) hB
  refine ⟨v', w', hrun, ?_, Fr.of_grown h3 hB h.block⟩
  unfold TOwn
  rw [List.length_append, flatT_append]
  simpa [flatT] using h2
theorem wpList_app_tok {w : World} {ops : Array Oper} {rest : List Oper} {o : Oper} {a : Act} {Q : Exit → Act → World → Prop} (hgd : o.guard = none) (s y : Operand)
    (ho : o.op = .call { callee := .builtin .append, args := #[s, y], argTypes := #[26, 26] })
    {B : Nat} {v : Value} {ts : List Tok} (t : Tok) (hs : a.eval s = v) (h : TOwn w B v ts) (g c : Nat) (hy : a.eval y = .slice (some ⟨g, 0, none⟩) 1 c) (hg : w.heap[g]? = some (.cells t.cells.toArray 38 (0, 0))) (hl : ts.length ≤ 100000) (hB : B ≤ w.heap.size)
    (hK : ∀ v' w', TOwn w' B v' (ts ++ [t]) → Fr 38 B w w' → wpList Tryd.prog ops Q rest (a.put o.dst v') w') : wpList Tryd.prog ops Q (o :: rest) a w := by
  refine wpList_plain hgd fun K hK' => ?_
  obtain ⟨v', w', hrun, r1, r2⟩ := run_app_tok t h g c hg hl hB o.type
  unfold Oper.wp
  simp [execOp, ho, resolve, invoke, builtin, hs, hy, hrun, Result.andThen]
  exact hK' _ _ (hK v' w' r1 r2)
theorem tok_snoc {w : World} {B : Nat} {v : Value} {ts : List Tok} {t : Tok} (h : TOwn w B v (ts ++ [t])) : ∃ A c, v = .slice A (ts.length + 1) c := by
  obtain ⟨A, c, hv⟩ := h.form
  exact ⟨A, c, by rw [hv, List.length_append]; rfl⟩
end Go.Proofs.YtjhcbcadagljlaaDoor.Lx
