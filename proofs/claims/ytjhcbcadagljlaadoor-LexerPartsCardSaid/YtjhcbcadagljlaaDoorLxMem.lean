/-
  Layer 5: bytes in memory: as they are read, and as the call's own.
-/
import Derived.Test.YtjhcbcadagljlaaDoorLxCalls
namespace Go.Proofs.YtjhcbcadagljlaaDoor.Lx
open Go.RowKit

theorem Tryd.info3 : (Tryd.prog.info? 3).map (fun i => (i.zero, i.size, i.bytes)) = some (some (.int .i64 0), 1, 8) := by kernel_rfl
theorem Tryd.info5 : (Tryd.prog.info? 5).map (fun i => (i.zero, i.size, i.bytes)) = some (some (.int .u8 0), 1, 1) := by kernel_rfl

/-- A slice's type and its element's: ints or bytes. -/
structure Elt (ts e : TypeId) (k : IntKind) : Prop where
  under : Tryd.prog.underlying ts = some (.slice e)
  info : ∃ i, Tryd.prog.info? e = some i ∧ i.zero = some (.int k 0) ∧ i.size = 1 ∧ i.bytes ≤ 8
theorem elByte : Elt 24 5 .u8 := ⟨Tryd.underlying24, by obtain ⟨i, h1, h2, h3, h4⟩ := info_parts Tryd.info5; exact ⟨i, h1, h2, h3, by omega⟩⟩

theorem heap_lt {w : World} {k : Nat} {o : Obj} (h : w.heap[k]? = some o) : k < w.heap.size := (Array.getElem?_eq_some_iff.1 h).1
theorem below_drewN (w : World) (m : Nat) : Below w.heap.size w (w.drewN m) := ⟨rfl, rfl, rfl, Nat.le_refl _, fun _ _ => rfl⟩

/-- Numbers as they are read. -/
def Rd (k : IntKind) (w : World) (A : Option Addr) (l : List Int) : Prop :=
  0 < l.length → ∃ g off, A = some ⟨g, off, none⟩ ∧ ∀ j x, l[j]? = some x → w.cell? ⟨g, off + j, none⟩ = some (.int k x)
theorem Rd.below {k : IntKind} {w w' : World} {A : Option Addr} {l : List Int} (h : Rd k w A l) (hb : Below w.heap.size w w') : Rd k w' A l :=
  fun hn => by obtain ⟨g, off, hA, hk⟩ := h hn; exact ⟨g, off, hA, fun j x hx => (hb.cell (World.block_lt_of_cell? w _ (hk j x hx))).trans (hk j x hx)⟩
/-- A slice value that reads as a list. -/
def Lst (k : IntKind) (w : World) (v : Value) (l : List Int) : Prop := ∃ A c, v = .slice A l.length c ∧ Rd k w A l ∧ (A = none → c = 0) ∧ l.length ≤ c ∧ c ≤ maxLen
theorem Lst.below {k : IntKind} {w w' : World} {v : Value} {l : List Int} (h : Lst k w v l) (hb : Below w.heap.size w w') : Lst k w' v l := by
  obtain ⟨A, c, h1, h2, h3⟩ := h; exact ⟨A, c, h1, h2.below hb, h3⟩
theorem Lst.drewN {k : IntKind} {w : World} {v : Value} {l : List Int} (h : Lst k w v l) (m : Nat) : Lst k (w.drewN m) v l := h
theorem Lst.nil (k : IntKind) (w : World) : Lst k w (.slice none 0 0) [] := ⟨none, 0, rfl, fun h => by simp at h, fun _ => rfl, Nat.le_refl _, Nat.zero_le _⟩

/-- What an operation may turn: nothing below block B; of the blocks that were there rows of other types than e stay. -/
structure Fr (e : TypeId) (B : Nat) (w w' : World) : Prop where
  bel : Below B w w'
  keep : ∀ (k : Nat) (cs : Array Value) (t : TypeId) (f : Nat × Nat), w.heap[k]? = some (.cells cs t f) → t ≠ e → w'.heap[k]? = some (.cells cs t f)
theorem Fr.refl (e : TypeId) (B : Nat) (w : World) : Fr e B w w := ⟨Below.refl _ _, fun _ _ _ _ h _ => h⟩
theorem Fr.trans {e : TypeId} {B : Nat} {a b c : World} (h : Fr e B a b) (k : Fr e B b c) : Fr e B a c :=
  ⟨h.bel.trans k.bel, fun i cs t f hi h1 => k.keep i cs t f (h.keep i cs t f hi h1) h1⟩
theorem Fr.of_below {e : TypeId} {B : Nat} {w w' : World} (h : Below w.heap.size w w') (hB : B ≤ w.heap.size) : Fr e B w w' :=
  ⟨h.mono hB, fun k _ _ _ hk _ => (h.block k (heap_lt hk)).trans hk⟩
theorem Fr.of_grown {e : TypeId} {B : Nat} {w w' : World} {row : Option Nat} (h : w.grownBy w' row) (hB : B ≤ w.heap.size) (hr : ∀ g, row = some g → B ≤ g ∧ ∀ cs t f, w.heap[g]? = some (.cells cs t f) → t = e) : Fr e B w w' :=
  ⟨(Below.refl _ _).grown h hB fun g e => (hr g e).1, fun k cs t f hk h1 => (h.block k (heap_lt hk) (fun e => h1 ((hr k e.symm).2 cs t f hk))).trans hk⟩

/-- A slice of the call's own. -/
def Own (e : TypeId) (k : IntKind) (w : World) (B : Nat) (v : Value) (l : List Int) : Prop := w.ownsRow B e 1 v l.length (l.map (Value.int k))
theorem Own.nil (e : TypeId) (k : IntKind) (w : World) (B : Nat) : Own e k w B (.slice none 0 0) [] := World.ownsRow_nil w B e 1
theorem Own.below {e : TypeId} {k : IntKind} {w w' : World} {B : Nat} {v : Value} {l : List Int} (h : Own e k w B v l) (hb : Below w.heap.size w w') : Own e k w' B v l := by
  refine ⟨h.1, ?_⟩
  rcases h.2 with h | ⟨g, cap, cur, h1, h2, h3, h4⟩
  · exact .inl h
  · exact .inr ⟨g, cap, cur, h1, h2, (hb.block g (heap_lt h3)).trans h3, h4⟩
theorem Own.mono {e : TypeId} {k : IntKind} {w : World} {B B' : Nat} {v : Value} {l : List Int} (h : Own e k w B v l) (hB : B' ≤ B) : Own e k w B' v l := by
  refine ⟨h.1, ?_⟩
  rcases h.2 with h | ⟨g, cap, cur, h1, h2, h3⟩
  · exact .inl h
  · exact .inr ⟨g, cap, cur, h1, Nat.le_trans hB h2, h3⟩
theorem Own.fr {e e' : TypeId} {k : IntKind} {w w' : World} {B B' : Nat} {v : Value} {l : List Int} (h : Own e k w B v l) (hf : Fr e' B' w w') (hne : e ≠ e') : Own e k w' B v l := by
  refine ⟨h.1, ?_⟩
  rcases h.2 with h | ⟨g, cap, cur, h1, h2, h3, h4⟩
  · exact .inl h
  · exact .inr ⟨g, cap, cur, h1, h2, hf.keep g _ _ _ h3 hne, h4⟩
theorem Own.block {e : TypeId} {k : IntKind} {w : World} {B : Nat} {v : Value} {l : List Int} (h : Own e k w B v l) : ∀ g, v.ownBlock = some g → B ≤ g ∧ ∀ cs t f, w.heap[g]? = some (.cells cs t f) → t = e := by
  intro g hg
  rcases h.2 with ⟨h1, _⟩ | ⟨g', cap, cur, h1, h2, h3, h4⟩
  · rw [h1] at hg; simp [Value.ownBlock] at hg
  · rw [h1] at hg; simp [Value.ownBlock] at hg; subst hg
    exact ⟨h2, fun cs t f hc => by rw [h3] at hc; injection hc with hc; injection hc with _ e2; exact e2.symm⟩
theorem Own.lst {e : TypeId} {k : IntKind} {w : World} {B : Nat} {v : Value} {l : List Int} (h : Own e k w B v l) : Lst k w v l := by
  rcases h.2 with ⟨h1, h0⟩ | ⟨g, cap, cur, h1, h2, h3, hle, hm, _, ht⟩
  · have : l = [] := List.eq_nil_of_length_eq_zero h0
    subst this
    rw [h1]; exact Lst.nil k w
  · refine ⟨_, cap, h1, fun hn => ⟨g, 0, rfl, fun j x hx => ?_⟩, fun e => by simp at e, hle, hm⟩
    have hj : j < l.length := (List.getElem?_eq_some_iff.1 hx).1
    rw [cell_of_row w g _ cur _ _ h3, Nat.zero_add]
    have e : (l.map (Value.int k))[j]? = some (.int k x) := by rw [List.getElem?_map, hx]; rfl
    rw [← ht, List.getElem?_take, if_pos (by simpa using hj)] at e
    simpa using e
theorem Own.form {e : TypeId} {k : IntKind} {w : World} {B : Nat} {v : Value} {l : List Int} (h : Own e k w B v l) : ∃ A c, v = .slice A l.length c := by
  obtain ⟨A, c, hv, _⟩ := h.lst; exact ⟨A, c, hv⟩

/-- An append of a list that reads. -/
theorem run_app {ts e : TypeId} {k : IntKind} (E : Elt ts e k) {w : World} {B : Nat} {v x : Value} {l m : List Int} (h : Own e k w B v l) (hx : Lst k w x m) (hl : l.length + m.length ≤ 1000000) (hB : B ≤ w.heap.size) (ty : TypeId) :
    ∃ v' w', (Builtin.append_ #[ts, ts] ty #[v, x]).run Tryd.prog w = .ok v' w' ∧ Own e k w' B v' (l ++ m) ∧ Fr e B w w' := by
  obtain ⟨i, hi, hz, h1, hb⟩ := E.info
  obtain ⟨A, c, rfl, hr, hA, _⟩ := hx
  cases A with
  | none =>
    have : m = [] := by
      rcases Nat.eq_zero_or_pos m.length with e | e
      · exact List.eq_nil_of_length_eq_zero e
      · obtain ⟨_, _, e', _⟩ := hr e; simp at e'
    subst this
    obtain rfl := hA rfl
    exact ⟨v, w, run_append_owned_none w B ts ty e i 1 E.under hi v _ _ h, by simpa using h, Fr.refl _ _ _⟩
  | some ad =>
    have hnews : ∀ j u, (m.map (Value.int k))[j]? = some u → w.cell? (ad.add j) = some u := by
      intro j u hu
      rw [List.getElem?_map] at hu
      cases hj : m[j]? with
      | none => rw [hj] at hu; simp at hu
      | some y =>
        rw [hj] at hu
        obtain ⟨g, off, e1, e2⟩ := hr (by have := (List.getElem?_eq_some_iff.1 hj).1; omega)
        simp at e1; subst e1
        rw [Addr.add_lit, e2 j y hj]; exact hu
    obtain ⟨v', w', hrun, h2, h3, _⟩ := run_append_own (P := Tryd.prog) w B ts ty e i (.int k 0) 1 i.bytes E.under hi hz h1 rfl rfl (by decide) v l.length (l.map (Value.int k)) h ad m.length c (m.map (Value.int k)) (by simp) hnews
      (fun u hu => by obtain ⟨y, _, rfl⟩ := List.mem_map.1 hu; rfl) (by unfold maxLen; omega) (Nat.le_trans (Nat.mul_le_mul_left _ hb) (by omega)) hB
    exact ⟨v', w', hrun, by unfold Own; rw [List.length_append, List.map_append]; exact h2, Fr.of_grown h3 hB h.block⟩
theorem wpList_app {w : World} {ops : Array Oper} {rest : List Oper} {o : Oper} {a : Act} {Q : Exit → Act → World → Prop} (hgd : o.guard = none) (s y : Operand) {ts e : TypeId} {k : IntKind}
    (ho : o.op = .call { callee := .builtin .append, args := #[s, y], argTypes := #[ts, ts] }) (E : Elt ts e k)
    {B : Nat} {v x : Value} {l m : List Int} (hs : a.eval s = v) (h : Own e k w B v l) (hy : a.eval y = x) (hx : Lst k w x m) (hl : l.length + m.length ≤ 1000000) (hB : B ≤ w.heap.size)
    (hK : ∀ v' w', Own e k w' B v' (l ++ m) → Fr e B w w' → wpList Tryd.prog ops Q rest (a.put o.dst v') w') : wpList Tryd.prog ops Q (o :: rest) a w := by
  refine wpList_plain hgd fun K hK' => ?_
  obtain ⟨v', w', hrun, r1, r2⟩ := run_app E h hx hl hB o.type
  unfold Oper.wp
  simp [execOp, ho, resolve, invoke, builtin, hs, hy, hrun, Result.andThen]
  exact hK' _ _ (hK v' w' r1 r2)
theorem step_app {w : World} {ops : Array Oper} {o : Oper} {a : Act} {K : Act → World → Prop} {Q : Exit → Act → World → Prop} {F : Prop} (hgd : o.guard = none) (s y : Operand) {ts e : TypeId} {k : IntKind}
    (ho : o.op = .call { callee := .builtin .append, args := #[s, y], argTypes := #[ts, ts] }) (E : Elt ts e k)
    {B : Nat} {v x : Value} {l m : List Int} (hs : a.eval s = v) (h : Own e k w B v l) (hy : a.eval y = x) (hx : Lst k w x m) (hl : l.length + m.length ≤ 1000000) (hB : B ≤ w.heap.size)
    (hK : ∀ v' w', Own e k w' B v' (l ++ m) → Fr e B w w' → K (a.put o.dst v') w') : if Region.wanted o (yielded ops a.tmps) = true then Oper.wp Tryd.prog o a w K Q else F := by
  have hw : Region.wanted o (yielded ops a.tmps) = true := by unfold Region.wanted; rw [hgd]
  rw [if_pos hw]
  obtain ⟨v', w', hrun, r1, r2⟩ := run_app E h hx hl hB o.type
  unfold Oper.wp
  simp [execOp, ho, resolve, invoke, builtin, hs, hy, hrun, Result.andThen]
  exact hK v' w' r1 r2

theorem wpList_want {P : Program} {w : World} {ops : Array Oper} {rest : List Oper} {o : Oper} {a : Act} {Q : Exit → Act → World → Prop} (hw : Region.wanted o (yielded ops a.tmps) = true)
    (h : ∀ K : Act → World → Prop, (∀ a w, wpList P ops Q rest a w → K a w) → Oper.wp P o a w K Q) : wpList P ops Q (o :: rest) a w :=
  wpList_step fun K hK => by rw [if_pos hw]; exact h K hK
theorem wpList_app_w {w : World} {ops : Array Oper} {rest : List Oper} {o : Oper} {a : Act} {Q : Exit → Act → World → Prop} (hw : Region.wanted o (yielded ops a.tmps) = true) (s y : Operand) {ts e : TypeId} {k : IntKind}
    (ho : o.op = .call { callee := .builtin .append, args := #[s, y], argTypes := #[ts, ts] }) (E : Elt ts e k)
    {B : Nat} {v x : Value} {l m : List Int} (hs : a.eval s = v) (h : Own e k w B v l) (hy : a.eval y = x) (hx : Lst k w x m) (hl : l.length + m.length ≤ 1000000) (hB : B ≤ w.heap.size)
    (hK : ∀ v' w', Own e k w' B v' (l ++ m) → Fr e B w w' → wpList Tryd.prog ops Q rest (a.put o.dst v') w') : wpList Tryd.prog ops Q (o :: rest) a w := by
  refine wpList_want hw fun K hK' => ?_
  obtain ⟨v', w', hrun, r1, r2⟩ := run_app E h hx hl hB o.type
  unfold Oper.wp
  simp [execOp, ho, resolve, invoke, builtin, hs, hy, hrun, Result.andThen]
  exact hK' _ _ (hK v' w' r1 r2)

/-- A slice of which no more than its elements may be appended to (x[:n:n]) and a list: a row of the call's own. -/
theorem run_app_tight {ts e : TypeId} {k : IntKind} (E : Elt ts e k) {w : World} {A : Option Addr} {x : Value} {l m : List Int} (h : Rd k w A l) (hA : A = none → l = []) (hx : Lst k w x m) (hm : 0 < m.length) (hl : l.length + m.length ≤ 1000000) (ty : TypeId) :
    ∃ v' w', (Builtin.append_ #[ts, ts] ty #[.slice A l.length l.length, x]).run Tryd.prog w = .ok v' w' ∧ Own e k w' w.heap.size v' (l ++ m) ∧ Below w.heap.size w w' := by
  cases A with
  | none =>
    obtain rfl := hA rfl
    obtain ⟨v', w', h1, h2, h3⟩ := run_app E (Own.nil e k w w.heap.size) hx (by simpa using hl) (Nat.le_refl _) ty
    exact ⟨v', w', h1, h2, h3.bel⟩
  | some b =>
    obtain ⟨i, hi, hz, h1, hb⟩ := E.info
    obtain ⟨A2, c, rfl, hr, hA2, _⟩ := hx
    obtain ⟨g, off, rfl, hcells⟩ := hr hm
    have holds : ∀ j u, (l.map (Value.int k))[j]? = some u → w.cell? (b.add j) = some u := by
      intro j u hu
      rw [List.getElem?_map] at hu
      cases hj : l[j]? with
      | none => rw [hj] at hu; simp at hu
      | some y =>
        rw [hj] at hu
        obtain ⟨g, off, e1, e2⟩ := h (by have := (List.getElem?_eq_some_iff.1 hj).1; omega)
        simp at e1; subst e1
        rw [Addr.add_lit, e2 j y hj]; exact hu
    have hnews : ∀ j u, (m.map (Value.int k))[j]? = some u → w.cell? ((⟨g, off, none⟩ : Addr).add j) = some u := by
      intro j u hu
      rw [List.getElem?_map] at hu
      cases hj : m[j]? with
      | none => rw [hj] at hu; simp at hu
      | some y => rw [hj] at hu; rw [Addr.add_lit, hcells j y hj]; exact hu
    obtain ⟨v', w', hrun, h2, h3⟩ := run_append_arg_grows (P := Tryd.prog) w ts ty e i (.int k 0) 1 i.bytes E.under hi hz h1 rfl rfl (by decide) b l.length l.length (l.map (Value.int k)) (by simp) holds ⟨g, off, none⟩ m.length c (m.map (Value.int k)) (by simp) hnews
      (by omega) (by unfold maxLen; omega) (Nat.le_trans (Nat.mul_le_mul_left _ hb) (by omega))
    exact ⟨v', w', hrun, by unfold Own; rw [List.length_append, List.map_append]; exact h2, (Below.refl _ _).grown h3 (Nat.le_refl _) fun g e => by simp at e⟩
theorem wpList_app_tight {w : World} {ops : Array Oper} {rest : List Oper} {o : Oper} {a : Act} {Q : Exit → Act → World → Prop} (hgd : o.guard = none) (s y : Operand) {ts e : TypeId} {k : IntKind}
    (ho : o.op = .call { callee := .builtin .append, args := #[s, y], argTypes := #[ts, ts] }) (E : Elt ts e k)
    {A : Option Addr} {x : Value} {l m : List Int} (hs : a.eval s = .slice A l.length l.length) (h : Rd k w A l) (hA : A = none → l = []) (hy : a.eval y = x) (hx : Lst k w x m) (hm : 0 < m.length) (hl : l.length + m.length ≤ 1000000)
    (hK : ∀ v' w', Own e k w' w.heap.size v' (l ++ m) → Below w.heap.size w w' → wpList Tryd.prog ops Q rest (a.put o.dst v') w') : wpList Tryd.prog ops Q (o :: rest) a w := by
  refine wpList_plain hgd fun K hK' => ?_
  obtain ⟨v', w', hrun, r1, r2⟩ := run_app_tight E h hA hx hm hl o.type
  unfold Oper.wp
  simp [execOp, ho, resolve, invoke, builtin, hs, hy, hrun, Result.andThen]
  exact hK' _ _ (hK v' w' r1 r2)

/-- Literals. -/
theorem lst_row {k : IntKind} {w : World} {g : Nat} {t : TypeId} {fr : Nat × Nat} (l : List Int) (h : w.heap[g]? = some (.cells (l.map (Value.int k)).toArray t fr)) (hl : l.length ≤ 1000000) : Lst k w (.slice (some ⟨g, 0, none⟩) l.length l.length) l :=
  ⟨_, _, rfl, fun _ => ⟨g, 0, rfl, fun j x hx => by rw [cell_of_row w g _ _ _ _ h, Nat.zero_add]; simp [List.getElem?_map, hx]⟩, fun e => by simp at e, Nat.le_refl _, by unfold maxLen; omega⟩
theorem lst_one {k : IntKind} (w : World) (x : Int) (t : TypeId) : Lst k (w.alloc (.cells #[.int k x] t)) (.slice (some ⟨w.heap.size, 0, none⟩) 1 1) [x] :=
  lst_row [x] (heap_alloc_new w _) (by simp)
theorem own_lit (e : TypeId) (k : IntKind) (w : World) {B : Nat} (hB : B ≤ w.heap.size) : Own e k (w.alloc (.cells #[] e)) B (.slice (some ⟨w.heap.size, 0, none⟩) 0 0) [] :=
  ⟨rfl, .inr ⟨w.heap.size, 0, #[], rfl, hB, heap_alloc_new w _, Nat.le_refl _, Nat.zero_le _, rfl, rfl⟩⟩

/-- string(b). -/
theorem conv_lst {w : World} {v : Value} {l : List Int} (h : Lst .u8 w v l) (hb : By l) : (convert 24 9 v).run Tryd.prog w = .ok (.string (bytesOf l)) w := by
  obtain ⟨A, c, rfl, hr, hA, _⟩ := h
  cases A with
  | none =>
    have : l = [] := by
      rcases Nat.eq_zero_or_pos l.length with e | e
      · exact List.eq_nil_of_length_eq_zero e
      · obtain ⟨_, _, e', _⟩ := hr e; simp at e'
    subst this
    obtain rfl := hA rfl
    rw [run_convert_bytes_string w _ _ _ _ _ _ Tryd.underlying24 Tryd.underlying5 Tryd.underlying9]; rfl
  | some ad =>
    have := run_convert_bytes_back (P := Tryd.prog) w 24 9 5 ad c (l.map fun x => UInt8.ofNat x.toNat) Tryd.underlying24 Tryd.underlying5 Tryd.underlying9 (fun j hj => by
      simp at hj
      obtain ⟨g, off, e1, e2⟩ := hr (by omega)
      simp at e1; subst e1
      rw [Addr.add_lit, e2 j l[j] (List.getElem?_eq_getElem hj)]
      obtain ⟨x0, x1⟩ := hb l[j] (List.getElem_mem _)
      simp
      omega)
    unfold bytesOf; simpa using this

/-- Bools and draws. -/
def BPost (w : World) (b : Bool) (e : Ending) (w' : World) : Prop := e = .returned (.bool b) ∧ Below w.heap.size w w'
def QPost (w : World) (v : Value) (e : Ending) (w' : World) : Prop := e = .returned v ∧ ∃ m, w' = w.drewN m
def LPost (k : IntKind) (w : World) (l : List Int) (e : Ending) (w' : World) : Prop := ∃ v', e = .returned v' ∧ Lst k w' v' l ∧ Below w.heap.size w w'
theorem i64_bd {x : Int} (h : (Lit.int .i64 x).wf = true) : -9223372036854775808 ≤ x ∧ x ≤ 9223372036854775807 := by
  simp [Lit.wf, IntKind.min, IntKind.max, IntKind.signed, IntKind.bits] at h
  omega
theorem u8_bd {x : Int} (h : (Lit.int .u8 x).wf = true) : 0 ≤ x ∧ x ≤ 255 := by
  simp [Lit.wf, IntKind.min, IntKind.max, IntKind.signed, IntKind.bits] at h
  omega
end Go.Proofs.YtjhcbcadagljlaaDoor.Lx
