/-
  Layer 7: numbers, strings, bools and jobs in memory.
-/
import Derived.Test.YtohiioafdajhmaaProg
import Derived.Test.YtohiioafdajhmaaGpMath
import Derived.WalkKit
import Derived.WalkLawsBesides
import Derived.WalkSpells
import Derived.Below
import Derived.Lib.Hide
import Derived.Outline
import Derived.ArgAppend
import Derived.OwnWalk
import Derived.Deep.AppendLies
import Derived.Deep.Draws
import Derived.Deep.LoopGhost
import Derived.Deep.QuietTactic
import Derived.Deep.RegionHeld3
import Derived.BigQuiet
import Derived.Laws.IdiomStrings
import Derived.Laws.BytesString
namespace Go.Proofs.Ytohiioafdajhmaa.Gp
open Go.RowKit

theorem Try.info3 : (Try.prog.info? 3).map (fun i => (i.zero, i.size, i.bytes)) = some (some (.int .i64 0), 1, 8) := by kernel_rfl
theorem Try.info5 : (Try.prog.info? 5).map (fun i => (i.zero, i.size, i.bytes)) = some (some (.int .u8 0), 1, 1) := by kernel_rfl

/-- A slice's type and its element's: ints or bytes. -/
structure Elt (ts e : TypeId) (k : IntKind) : Prop where
  under : Try.prog.underlying ts = some (.slice e)
  info : ∃ i, Try.prog.info? e = some i ∧ i.zero = some (.int k 0) ∧ i.size = 1 ∧ i.bytes ≤ 8
theorem elInt : Elt 22 3 .i64 := ⟨Try.underlying22, by obtain ⟨i, h1, h2, h3, h4⟩ := info_parts Try.info3; exact ⟨i, h1, h2, h3, by omega⟩⟩
theorem elByte : Elt 35 5 .u8 := ⟨Try.underlying35, by obtain ⟨i, h1, h2, h3, h4⟩ := info_parts Try.info5; exact ⟨i, h1, h2, h3, by omega⟩⟩

theorem heap_lt {w : World} {k : Nat} {o : Obj} (h : w.heap[k]? = some o) : k < w.heap.size := (Array.getElem?_eq_some_iff.1 h).1
theorem below_drewN (w : World) (m : Nat) : Below w.heap.size w (w.drewN m) := ⟨rfl, rfl, rfl, Nat.le_refl _, fun _ _ => rfl⟩

/-- Numbers as they are read. -/
def Rd (k : IntKind) (w : World) (A : Option Addr) (l : List Int) : Prop :=
  0 < l.length → ∃ g off, A = some ⟨g, off, none⟩ ∧ ∀ j x, l[j]? = some x → w.cell? ⟨g, off + j, none⟩ = some (.int k x)
theorem Rd.below {k : IntKind} {w w' : World} {A : Option Addr} {l : List Int} (h : Rd k w A l) (hb : Below w.heap.size w w') : Rd k w' A l :=
  fun hn => by obtain ⟨g, off, hA, hk⟩ := h hn; exact ⟨g, off, hA, fun j x hx => (hb.cell (World.block_lt_of_cell? w _ (hk j x hx))).trans (hk j x hx)⟩
/-- A slice value that reads as a list. -/
def Lst (k : IntKind) (w : World) (v : Value) (l : List Int) : Prop := ∃ A c, v = .slice A l.length c ∧ Rd k w A l ∧ (A = none → c = 0) ∧ l.length ≤ c ∧ c ≤ maxLen
theorem Lst.below {k : IntKind} {w w' : World} {v : Value} {l : List Int} (h : Lst k w v l) (hb : Below w.heap.size w w') : Lst k w' v l := by
  obtain ⟨A, c, h1, h2, h3⟩ := h; exact ⟨A, c, h1, h2.below hb, h3⟩
theorem Lst.drewN {k : IntKind} {w : World} {v : Value} {l : List Int} (h : Lst k w v l) (m : Nat) : Lst k (w.drewN m) v l := h
theorem Lst.nil (k : IntKind) (w : World) : Lst k w (.slice none 0 0) [] := ⟨none, 0, rfl, fun h => by simp at h, fun _ => rfl, Nat.le_refl _, Nat.zero_le _⟩

/-- What an operation may turn: nothing below block B; of the blocks that were there rows of other types than e stay. -/
structure Fr (e : TypeId) (B : Nat) (w w' : World) : Prop where
  bel : Below B w w'
  keep : ∀ (k : Nat) (cs : Array Value) (t : TypeId) (f : Nat × Nat), w.heap[k]? = some (.cells cs t f) → t ≠ e → w'.heap[k]? = some (.cells cs t f)
theorem Fr.refl (e : TypeId) (B : Nat) (w : World) : Fr e B w w := ⟨Below.refl _ _, fun _ _ _ _ h _ => h⟩
theorem Fr.trans {e : TypeId} {B : Nat} {a b c : World} (h : Fr e B a b) (k : Fr e B b c) : Fr e B a c :=
  ⟨h.bel.trans k.bel, fun i cs t f hi h1 => k.keep i cs t f (h.keep i cs t f hi h1) h1⟩
theorem Fr.of_below {e : TypeId} {B : Nat} {w w' : World} (h : Below w.heap.size w w') (hB : B ≤ w.heap.size) : Fr e B w w' :=
  ⟨h.mono hB, fun k _ _ _ hk _ => (h.block k (heap_lt hk)).trans hk⟩
theorem Fr.of_grown {e : TypeId} {B : Nat} {w w' : World} {row : Option Nat} (h : w.grownBy w' row) (hB : B ≤ w.heap.size) (hr : ∀ g, row = some g → B ≤ g ∧ ∀ cs t f, w.heap[g]? = some (.cells cs t f) → t = e) : Fr e B w w' :=
  ⟨(Below.refl _ _).grown h hB fun g e => (hr g e).1, fun k cs t f hk h1 => (h.block k (heap_lt hk) (fun e => h1 ((hr k e.symm).2 cs t f hk))).trans hk⟩

/-- A slice of the call's own. -/
def Own (e : TypeId) (k : IntKind) (w : World) (B : Nat) (v : Value) (l : List Int) : Prop := w.ownsRow B e 1 v l.length (l.map (Value.int k))
theorem Own.nil (e : TypeId) (k : IntKind) (w : World) (B : Nat) : Own e k w B (.slice none 0 0) [] := World.ownsRow_nil w B e 1
theorem Own.below {e : TypeId} {k : IntKind} {w w' : World} {B : Nat} {v : Value} {l : List Int} (h : Own e k w B v l) (hb : Below w.heap.size w w') : Own e k w' B v l := by
  refine ⟨h.1, ?_⟩
  rcases h.2 with h | ⟨g, cap, cur, h1, h2, h3, h4⟩
  · exact .inl h
  · exact .inr ⟨g, cap, cur, h1, h2, (hb.block g (heap_lt h3)).trans h3, h4⟩
theorem Own.mono {e : TypeId} {k : IntKind} {w : World} {B B' : Nat} {v : Value} {l : List Int} (h : Own e k w B v l) (hB : B' ≤ B) : Own e k w B' v l := by
  refine ⟨h.1, ?_⟩
  rcases h.2 with h | ⟨g, cap, cur, h1, h2, h3⟩
  · exact .inl h
  · exact .inr ⟨g, cap, cur, h1, Nat.le_trans hB h2, h3⟩
theorem Own.fr {e e' : TypeId} {k : IntKind} {w w' : World} {B B' : Nat} {v : Value} {l : List Int} (h : Own e k w B v l) (hf : Fr e' B' w w') (hne : e ≠ e') : Own e k w' B v l := by
  refine ⟨h.1, ?_⟩
  rcases h.2 with h | ⟨g, cap, cur, h1, h2, h3, h4⟩
  · exact .inl h
  · exact .inr ⟨g, cap, cur, h1, h2, hf.keep g _ _ _ h3 hne, h4⟩
theorem Own.block {e : TypeId} {k : IntKind} {w : World} {B : Nat} {v : Value} {l : List Int} (h : Own e k w B v l) : ∀ g, v.ownBlock = some g → B ≤ g ∧ ∀ cs t f, w.heap[g]? = some (.cells cs t f) → t = e := by
  intro g hg
  rcases h.2 with ⟨h1, _⟩ | ⟨g', cap, cur, h1, h2, h3, h4⟩
  · rw [h1] at hg; simp [Value.ownBlock] at hg
  · rw [h1] at hg; simp [Value.ownBlock] at hg; subst hg
    exact ⟨h2, fun cs t f hc => by rw [h3] at hc; injection hc with hc; injection hc with _ e2; exact e2.symm⟩
theorem Own.lst {e : TypeId} {k : IntKind} {w : World} {B : Nat} {v : Value} {l : List Int} (h : Own e k w B v l) : Lst k w v l := by
  rcases h.2 with ⟨h1, h0⟩ | ⟨g, cap, cur, h1, h2, h3, hle, hm, _, ht⟩
  · have : l = [] := List.eq_nil_of_length_eq_zero h0
    subst this
    rw [h1]; exact Lst.nil k w
  · refine ⟨_, cap, h1, fun hn => ⟨g, 0, rfl, fun j x hx => ?_⟩, fun e => by simp at e, hle, hm⟩
    have hj : j < l.length := (List.getElem?_eq_some_iff.1 hx).1
    rw [cell_of_row w g _ cur _ _ h3, Nat.zero_add]
    have e : (l.map (Value.int k))[j]? = some (.int k x) := by rw [List.getElem?_map, hx]; rfl
    rw [← ht, List.getElem?_take, if_pos (by simpa using hj)] at e
    simpa using e
theorem Own.form {e : TypeId} {k : IntKind} {w : World} {B : Nat} {v : Value} {l : List Int} (h : Own e k w B v l) : ∃ A c, v = .slice A l.length c := by
  obtain ⟨A, c, hv, _⟩ := h.lst; exact ⟨A, c, hv⟩

/-- An append of a list that reads. -/
theorem run_app {ts e : TypeId} {k : IntKind} (E : Elt ts e k) {w : World} {B : Nat} {v x : Value} {l m : List Int} (h : Own e k w B v l) (hx : Lst k w x m) (hl : l.length + m.length ≤ 4000000) (hB : B ≤ w.heap.size) (ty : TypeId) :
    ∃ v' w', (Builtin.append_ #[ts, ts] ty #[v, x]).run Try.prog w = .ok v' w' ∧ Own e k w' B v' (l ++ m) ∧ Fr e B w w' := by
  obtain ⟨i, hi, hz, h1, hb⟩ := E.info
  obtain ⟨A, c, rfl, hr, hA, _⟩ := hx
  cases A with
  | none =>
    have : m = [] := by
      rcases Nat.eq_zero_or_pos m.length with e | e
      · exact List.eq_nil_of_length_eq_zero e
      · obtain ⟨_, _, e', _⟩ := hr e; simp at e'
    subst this
    obtain rfl := hA rfl
    exact ⟨v, w, run_append_owned_none w B ts ty e i 1 E.under hi v _ _ h, by simpa using h, Fr.refl _ _ _⟩
  | some ad =>
    have hnews : ∀ j u, (m.map (Value.int k))[j]? = some u → w.cell? (ad.add j) = some u := by
      intro j u hu
      rw [List.getElem?_map] at hu
      cases hj : m[j]? with
      | none => rw [hj] at hu; simp at hu
      | some y =>
        rw [hj] at hu
        obtain ⟨g, off, e1, e2⟩ := hr (by have := (List.getElem?_eq_some_iff.1 hj).1; omega)
        simp at e1; subst e1
        rw [Addr.add_lit, e2 j y hj]; exact hu
    obtain ⟨v', w', hrun, h2, h3, _⟩ := run_append_own (P := Try.prog) w B ts ty e i (.int k 0) 1 i.bytes E.under hi hz h1 rfl rfl (by decide) v l.length (l.map (Value.int k)) h ad m.length c (m.map (Value.int k)) (by simp) hnews
      (fun u hu => by obtain ⟨y, _, rfl⟩ := List.mem_map.1 hu; rfl) (by unfold maxLen; omega) (Nat.le_trans (Nat.mul_le_mul_left _ hb) (by omega)) hB
    exact ⟨v', w', hrun, by unfold Own; rw [List.length_append, List.map_append]; exact h2, Fr.of_grown h3 hB h.block⟩
theorem wpList_app {w : World} {ops : Array Oper} {rest : List Oper} {o : Oper} {a : Act} {Q : Exit → Act → World → Prop} (hgd : o.guard = none) (s y : Operand) {ts e : TypeId} {k : IntKind}
    (ho : o.op = .call { callee := .builtin .append, args := #[s, y], argTypes := #[ts, ts] }) (E : Elt ts e k)
    {B : Nat} {v x : Value} {l m : List Int} (hs : a.eval s = v) (h : Own e k w B v l) (hy : a.eval y = x) (hx : Lst k w x m) (hl : l.length + m.length ≤ 4000000) (hB : B ≤ w.heap.size)
    (hK : ∀ v' w', Own e k w' B v' (l ++ m) → Fr e B w w' → wpList Try.prog ops Q rest (a.put o.dst v') w') : wpList Try.prog ops Q (o :: rest) a w := by
  refine wpList_plain hgd fun K hK' => ?_
  obtain ⟨v', w', hrun, r1, r2⟩ := run_app E h hx hl hB o.type
  unfold Oper.wp
  simp [execOp, ho, resolve, invoke, builtin, hs, hy, hrun, Result.andThen]
  exact hK' _ _ (hK v' w' r1 r2)
theorem step_app {w : World} {ops : Array Oper} {o : Oper} {a : Act} {K : Act → World → Prop} {Q : Exit → Act → World → Prop} {F : Prop} (hgd : o.guard = none) (s y : Operand) {ts e : TypeId} {k : IntKind}
    (ho : o.op = .call { callee := .builtin .append, args := #[s, y], argTypes := #[ts, ts] }) (E : Elt ts e k)
    {B : Nat} {v x : Value} {l m : List Int} (hs : a.eval s = v) (h : Own e k w B v l) (hy : a.eval y = x) (hx : Lst k w x m) (hl : l.length + m.length ≤ 4000000) (hB : B ≤ w.heap.size)
    (hK : ∀ v' w', Own e k w' B v' (l ++ m) → Fr e B w w' → K (a.put o.dst v') w') : if Region.wanted o (yielded ops a.tmps) = true then Oper.wp Try.prog o a w K Q else F := by
  have hw : Region.wanted o (yielded ops a.tmps) = true := by unfold Region.wanted; rw [hgd]
  rw [if_pos hw]
  obtain ⟨v', w', hrun, r1, r2⟩ := run_app E h hx hl hB o.type
  unfold Oper.wp
  simp [execOp, ho, resolve, invoke, builtin, hs, hy, hrun, Result.andThen]
  exact hK v' w' r1 r2

theorem wpList_want {P : Program} {w : World} {ops : Array Oper} {rest : List Oper} {o : Oper} {a : Act} {Q : Exit → Act → World → Prop} (hw : Region.wanted o (yielded ops a.tmps) = true)
    (h : ∀ K : Act → World → Prop, (∀ a w, wpList P ops Q rest a w → K a w) → Oper.wp P o a w K Q) : wpList P ops Q (o :: rest) a w :=
  wpList_step fun K hK => by rw [if_pos hw]; exact h K hK
theorem wpList_app_w {w : World} {ops : Array Oper} {rest : List Oper} {o : Oper} {a : Act} {Q : Exit → Act → World → Prop} (hw : Region.wanted o (yielded ops a.tmps) = true) (s y : Operand) {ts e : TypeId} {k : IntKind}
    (ho : o.op = .call { callee := .builtin .append, args := #[s, y], argTypes := #[ts, ts] }) (E : Elt ts e k)
    {B : Nat} {v x : Value} {l m : List Int} (hs : a.eval s = v) (h : Own e k w B v l) (hy : a.eval y = x) (hx : Lst k w x m) (hl : l.length + m.length ≤ 4000000) (hB : B ≤ w.heap.size)
    (hK : ∀ v' w', Own e k w' B v' (l ++ m) → Fr e B w w' → wpList Try.prog ops Q rest (a.put o.dst v') w') : wpList Try.prog ops Q (o :: rest) a w := by
  refine wpList_want hw fun K hK' => ?_
  obtain ⟨v', w', hrun, r1, r2⟩ := run_app E h hx hl hB o.type
  unfold Oper.wp
  simp [execOp, ho, resolve, invoke, builtin, hs, hy, hrun, Result.andThen]
  exact hK' _ _ (hK v' w' r1 r2)

/-- Literals. -/
theorem lst_row {k : IntKind} {w : World} {g : Nat} {t : TypeId} {fr : Nat × Nat} (l : List Int) (h : w.heap[g]? = some (.cells (l.map (Value.int k)).toArray t fr)) (hl : l.length ≤ 4000000) : Lst k w (.slice (some ⟨g, 0, none⟩) l.length l.length) l :=
  ⟨_, _, rfl, fun _ => ⟨g, 0, rfl, fun j x hx => by rw [cell_of_row w g _ _ _ _ h, Nat.zero_add]; simp [List.getElem?_map, hx]⟩, fun e => by simp at e, Nat.le_refl _, by unfold maxLen; omega⟩
theorem lst_one {k : IntKind} (w : World) (x : Int) (t : TypeId) : Lst k (w.alloc (.cells #[.int k x] t)) (.slice (some ⟨w.heap.size, 0, none⟩) 1 1) [x] :=
  lst_row [x] (heap_alloc_new w _) (by simp)
theorem own_lit (e : TypeId) (k : IntKind) (w : World) {B : Nat} (hB : B ≤ w.heap.size) : Own e k (w.alloc (.cells #[] e)) B (.slice (some ⟨w.heap.size, 0, none⟩) 0 0) [] :=
  ⟨rfl, .inr ⟨w.heap.size, 0, #[], rfl, hB, heap_alloc_new w _, Nat.le_refl _, Nat.zero_le _, rfl, rfl⟩⟩

/-- string(b). -/
def bytesOf (l : List Int) : ByteArray := ⟨(l.map fun x => UInt8.ofNat x.toNat).toArray⟩
theorem conv_lst {w : World} {v : Value} {l : List Int} (h : Lst .u8 w v l) (hb : ∀ x ∈ l, 0 ≤ x ∧ x ≤ 255) : (convert 35 9 v).run Try.prog w = .ok (.string (bytesOf l)) w := by
  obtain ⟨A, c, rfl, hr, hA, _⟩ := h
  cases A with
  | none =>
    have : l = [] := by
      rcases Nat.eq_zero_or_pos l.length with e | e
      · exact List.eq_nil_of_length_eq_zero e
      · obtain ⟨_, _, e', _⟩ := hr e; simp at e'
    subst this
    obtain rfl := hA rfl
    rw [run_convert_bytes_string w _ _ _ _ _ _ Try.underlying35 Try.underlying5 Try.underlying9]; rfl
  | some ad =>
    have := run_convert_bytes_back (P := Try.prog) w 35 9 5 ad c (l.map fun x => UInt8.ofNat x.toNat) Try.underlying35 Try.underlying5 Try.underlying9 (fun j hj => by
      simp at hj
      obtain ⟨g, off, e1, e2⟩ := hr (by omega)
      simp at e1; subst e1
      rw [Addr.add_lit, e2 j l[j] (List.getElem?_eq_getElem hj)]
      obtain ⟨x0, x1⟩ := hb l[j] (List.getElem_mem _)
      simp
      omega)
    unfold bytesOf; simpa using this

/-- Bools and draws. -/
def BPost (w : World) (b : Bool) (e : Ending) (w' : World) : Prop := e = .returned (.bool b) ∧ Below w.heap.size w w'
def QPost (w : World) (v : Value) (e : Ending) (w' : World) : Prop := e = .returned v ∧ ∃ m, w' = w.drewN m
def LPost (k : IntKind) (w : World) (l : List Int) (e : Ending) (w' : World) : Prop := ∃ v', e = .returned v' ∧ Lst k w' v' l ∧ Below w.heap.size w w'
theorem i64_bd {x : Int} (h : (Lit.int .i64 x).wf = true) : -9223372036854775808 ≤ x ∧ x ≤ 9223372036854775807 := by
  simp [Lit.wf, IntKind.min, IntKind.max, IntKind.signed, IntKind.bits] at h
  omega
theorem u8_bd {x : Int} (h : (Lit.int .u8 x).wf = true) : 0 ≤ x ∧ x ≤ 255 := by
  simp [Lit.wf, IntKind.min, IntKind.max, IntKind.signed, IntKind.bits] at h
  omega

theorem balloc (w : World) (o : Obj) : Below w.heap.size w (w.alloc o) := (Below.refl _ _).alloc (Nat.le_refl _) _
theorem grown_set (w : World) (p : Addr) (u : Value) : w.grownBy (w.setCell p u) (some p.block) := ⟨rfl, rfl, rfl, by simp, fun k _ hk => Below.heap_setCell _ _ _ _ (by simpa using hk)⟩
theorem grown_trans {w0 w w' : World} {row : Option Nat} (h : w0.grownBy w row) (k : w.grownBy w' row) : w0.grownBy w' row :=
  ⟨k.os.trans h.os, k.tape.trans h.tape, k.output.trans h.output, Nat.le_trans h.size k.size, fun i hi hne => (k.block i (Nat.lt_of_lt_of_le hi h.size) hne).trans (h.block i hi hne)⟩
theorem grown_drewN (w : World) (n : Nat) (row : Option Nat) : w.grownBy (w.drewN n) row := ⟨rfl, rfl, rfl, Nat.le_refl _, fun _ _ _ => rfl⟩
theorem grown_below {w w' : World} (h : Below w.heap.size w w') (row : Option Nat) : w.grownBy w' row := ⟨h.os, h.tape, h.output, h.size, fun k hk _ => h.block k hk⟩
theorem grown_new {w0 w : World} {row : Option Nat} (h : w0.grownBy w row) {R : Nat} (hR : w0.heap.size ≤ R) (i : Nat) (u : Value) : w0.grownBy (w.setCell ⟨R, i, none⟩ u) row :=
  ⟨h.os, h.tape, h.output, by simp; exact h.size, fun k hk hne => (Below.heap_setCell _ _ _ _ (by simp; omega)).trans (h.block k hk hne)⟩
theorem ret_i {a b : Int} (h : a = b) : Ending.returned (.int .i64 a) = .returned (.int .i64 b) := by rw [h]
theorem ret_b {a b : Bool} (h : a = b) : Ending.returned (.bool a) = .returned (.bool b) := by rw [h]
theorem ret_i0 {u v : Value} (h : u = v) : Ending.returned u = Ending.returned v := by rw [h]
theorem str_eq (s z : ByteArray) : (s.toList == z.toList) = decide (s = z) := by
  rw [ByteArray.toList_eq, ByteArray.toList_eq]
  by_cases h : s = z
  · subst h; simp
  · have h2 : ¬ s.data.toList = z.data.toList := fun e => h (by
      obtain ⟨s⟩ := s; obtain ⟨z⟩ := z
      have := Array.toList_inj.1 e
      simpa using this)
    rw [decide_eq_false h]; exact beq_eq_false_iff_ne.2 h2
theorem cell_up {w w' : World} {k i : Nat} {u : Value} (hb : Below w.heap.size w w') (h : w.cell? ⟨k, i, none⟩ = some u) : w'.cell? ⟨k, i, none⟩ = some u := (hb.cell (World.block_lt_of_cell? w _ h)).trans h
abbrev Shape := List (Value → Prop)
def isStr (M : Nat) (u : Value) : Prop := ∃ s : ByteArray, u = .string s ∧ s.size ≤ M
def isI64 (u : Value) : Prop := ∃ x : Int, u = .int .i64 x
def isU64 (u : Value) : Prop := ∃ x : Int, u = .int .u64 x ∧ 0 ≤ x ∧ x ≤ 18446744073709551615
/-- The elements of a slice's type. -/
structure PElt (ts e : TypeId) (z : Value) (pat : Shape) (bytes : Nat) : Prop where
  under : Try.prog.underlying ts = some (.slice e)
  info : ∃ i, Try.prog.info? e = some i ∧ i.zero = some z ∧ i.size = pat.length ∧ i.bytes = bytes
  zlen : z.cells.size = pat.length
  pos : 0 < pat.length
/-- These cells at an address. -/
def XAt (w : World) (A : Option Addr) (xs : List Value) : Prop :=
  0 < xs.length → ∃ g off, A = some ⟨g, off, none⟩ ∧ ∀ j u, xs[j]? = some u → w.cell? ⟨g, off + j, none⟩ = some u
/-- A slice of n elements of k cells each, all known. -/
def XLst (w : World) (k : Nat) (v : Value) (n : Nat) (xs : List Value) : Prop := ∃ A c, v = .slice A n c ∧ xs.length = n * k ∧ XAt w A xs ∧ (A = none → c = 0) ∧ n ≤ c ∧ c ≤ maxLen
theorem XLst.nil (w : World) (k : Nat) : XLst w k (.slice none 0 0) 0 [] := ⟨none, 0, rfl, by simp, fun h => by simp at h, fun _ => rfl, Nat.le_refl _, Nat.zero_le _⟩
theorem XAt.grown {w w' : World} {A : Option Addr} {xs : List Value} {row : Option Nat} (h : XAt w A xs) (hg : w.grownBy w' row) (hne : ∀ a, A = some a → row ≠ some a.block) : XAt w' A xs := fun hn => by
  obtain ⟨g, off, hA, hc⟩ := h hn
  refine ⟨g, off, hA, fun j u hj => ?_⟩
  have h1 := hc j u hj
  have hl := World.block_lt_of_cell? w _ h1
  exact (World.cell?_of_block (a := ⟨g, _, none⟩) (hg.block g hl (fun e => hne _ hA e.symm))).trans h1
theorem XLst.grown {w w' : World} {k : Nat} {v : Value} {n : Nat} {xs : List Value} {row : Option Nat} (h : XLst w k v n xs) (hg : w.grownBy w' row) (hne : ∀ g, v.ownBlock = some g → row ≠ some g) : XLst w' k v n xs := by
  obtain ⟨A, c, rfl, h2, h3, h4⟩ := h
  exact ⟨A, c, rfl, h2, h3.grown hg (fun a e => hne _ (by rw [e]; rfl)), h4⟩
theorem XLst.below {w w' : World} {k : Nat} {v : Value} {n : Nat} {xs : List Value} (h : XLst w k v n xs) (hb : Below w.heap.size w w') : XLst w' k v n xs := h.grown (grown_below hb none) (fun _ _ => by simp)
/-- A row of the call's own, all known. -/
abbrev XOwn (w : World) (e : TypeId) (k : Nat) (B : Nat) (v : Value) (n : Nat) (xs : List Value) : Prop := w.ownsRow B e k v n xs
theorem xown_form {w : World} {e : TypeId} {k B : Nat} {v : Value} {n : Nat} {xs : List Value} (h : XOwn w e k B v n xs) : ∃ A c, v = .slice A n c := by
  rcases h.2 with ⟨h1, h0⟩ | ⟨g, cap, cur, h1, _⟩
  · subst h0; exact ⟨none, 0, h1⟩
  · exact ⟨_, cap, h1⟩
theorem xown_grown {w w' : World} {e : TypeId} {k B : Nat} {v : Value} {n : Nat} {xs : List Value} {row : Option Nat} (h : XOwn w e k B v n xs) (hg : w.grownBy w' row) (hne : ∀ g, v.ownBlock = some g → row ≠ some g) : XOwn w' e k B v n xs := by
  refine ⟨h.1, ?_⟩
  rcases h.2 with h | ⟨g, cap, cur, h1, h2, h3, h4⟩
  · exact .inl h
  · exact .inr ⟨g, cap, cur, h1, h2, (hg.block g (heap_lt h3) (fun e => hne g (by rw [h1]; rfl) e.symm)).trans h3, h4⟩
theorem xown_below {w w' : World} {e : TypeId} {k B : Nat} {v : Value} {n : Nat} {xs : List Value} (h : XOwn w e k B v n xs) (hb : Below w.heap.size w w') : XOwn w' e k B v n xs := xown_grown h (grown_below hb none) (fun _ _ => by simp)
theorem xown_block {w : World} {e : TypeId} {k B : Nat} {v : Value} {n : Nat} {xs : List Value} (h : XOwn w e k B v n xs) : ∀ g, v.ownBlock = some g → B ≤ g ∧ g < w.heap.size := by
  intro g hg
  rcases h.2 with ⟨h1, _⟩ | ⟨g', cap, cur, h1, h2, h3, h4⟩
  · rw [h1] at hg; simp [Value.ownBlock] at hg
  · rw [h1] at hg; simp [Value.ownBlock] at hg; subst hg
    exact ⟨h2, heap_lt h3⟩
theorem xown_lst {w : World} {e : TypeId} {k B : Nat} {v : Value} {n : Nat} {xs : List Value} (h : XOwn w e k B v n xs) : XLst w k v n xs := by
  have hl := h.1
  rcases h.2 with ⟨h1, h0⟩ | ⟨g, cap, cur, h1, h2, h3, hle, hm, _, ht⟩
  · subst h0
    have : xs = [] := List.eq_nil_of_length_eq_zero (by rw [hl, Nat.zero_mul])
    rw [h1, this]; exact XLst.nil w k
  · refine ⟨_, cap, h1, hl, fun hn => ⟨g, 0, rfl, fun j u hu => ?_⟩, fun e => by simp at e, hle, hm⟩
    rw [cell_of_row w g _ cur _ _ h3, Nat.zero_add]
    rw [← ht, List.getElem?_take] at hu
    split at hu
    · simpa using hu
    · simp at hu
theorem wpList_app_x {w : World} {ops : Array Oper} {rest : List Oper} {o : Oper} {a : Act} {Q : Exit → Act → World → Prop} (hgd : o.guard = none) (s y : Operand) {ts e : TypeId} {z : Value} {pat : Shape} {bytes : Nat} (E : PElt ts e z pat bytes)
    (ho : o.op = .call { callee := .builtin .append, args := #[s, y], argTypes := #[ts, ts] })
    {B : Nat} {v : Value} {n : Nat} {xs : List Value} (hs : a.eval s = v) (h : XOwn w e pat.length B v n xs) (us : List Value) (hul : us.length = pat.length) (h1 : ∀ u ∈ us, u.oneCell' = true)
    (g c off : Nat) (hy : a.eval y = .slice (some ⟨g, off, none⟩) 1 c) (hg : ∀ j u, us[j]? = some u → w.cell? ⟨g, off + j, none⟩ = some u) (hl : n ≤ 100000) (hb : bytes ≤ 1000) (hB : B ≤ w.heap.size)
    (hK : ∀ v' w', XOwn w' e pat.length B v' (n + 1) (xs ++ us) → w.grownBy w' v.ownBlock → wpList Try.prog ops Q rest (a.put o.dst v') w') : wpList Try.prog ops Q (o :: rest) a w := by
  obtain ⟨i, hi, hz, hsz, hby⟩ := E.info
  obtain ⟨v', w', hrun, h2, h3, _⟩ := run_append_own (P := Try.prog) w B ts o.type e i z pat.length bytes E.under hi hz hsz hby E.zlen E.pos v n xs h ⟨g, off, none⟩ 1 c us (by omega) (fun j u hj => by rw [Addr.add_lit]; exact hg j u hj)
    h1 (by unfold maxLen; omega) (Nat.le_trans (Nat.mul_le_mul_left _ hb) (by omega)) hB
  refine wpList_plain hgd fun K hK' => ?_
  unfold Oper.wp
  simp [execOp, ho, resolve, invoke, builtin, hs, hy, hrun, Result.andThen]
  exact hK' _ _ (hK v' w' h2 h3)
/-- A row written out. -/
theorem xlst_lit (w : World) (l : List Value) (t : TypeId) (hl : l.length ≤ 100000) : XLst (w.alloc (.cells l.toArray t)) 1 (.slice (some ⟨w.heap.size, 0, none⟩) l.length l.length) l.length l := by
  refine ⟨_, _, rfl, by omega, fun _ => ⟨w.heap.size, 0, rfl, fun j u hj => ?_⟩, fun e => by simp at e, Nat.le_refl _, by unfold maxLen; omega⟩
  rw [cell_of_row _ _ _ _ _ _ (heap_alloc_new w _), Nat.zero_add]
  simpa using hj

theorem step_app_x {w : World} {ops : Array Oper} {o : Oper} {a : Act} {K : Act → World → Prop} {Q : Exit → Act → World → Prop} {E0 : Prop} (hgd : o.guard = none) (s y : Operand) {ts e : TypeId} {z : Value} {pat : Shape} {bytes : Nat} (E : PElt ts e z pat bytes)
    (ho : o.op = .call { callee := .builtin .append, args := #[s, y], argTypes := #[ts, ts] })
    {B : Nat} {v : Value} {n : Nat} {xs : List Value} (hs : a.eval s = v) (h : XOwn w e pat.length B v n xs) (us : List Value) (hul : us.length = pat.length) (h1 : ∀ u ∈ us, u.oneCell' = true)
    (g c off : Nat) (hy : a.eval y = .slice (some ⟨g, off, none⟩) 1 c) (hg : ∀ j u, us[j]? = some u → w.cell? ⟨g, off + j, none⟩ = some u) (hl : n ≤ 100000) (hb : bytes ≤ 1000) (hB : B ≤ w.heap.size)
    (hK : ∀ v' w', XOwn w' e pat.length B v' (n + 1) (xs ++ us) → w.grownBy w' v.ownBlock → K (a.put o.dst v') w') : if Region.wanted o (yielded ops a.tmps) = true then Oper.wp Try.prog o a w K Q else E0 := by
  obtain ⟨i, hi, hz, hsz, hby⟩ := E.info
  exact step_append_lies w hgd s y ts ho B e i z pat.length bytes E.under hi hz hsz hby E.zlen E.pos v n xs hs h ⟨g, off, none⟩ 1 c us hy (by omega) (fun j u hj => by rw [Addr.add_lit]; exact hg j u hj) h1 (by omega) (by unfold maxLen; omega)
    (Nat.le_trans (Nat.mul_le_mul_left _ hb) (by omega)) hB _ rfl (fun g' cap w' r1 r2 _ _ => hK _ _ r1 r2)
end Go.Proofs.Ytohiioafdajhmaa.Gp
