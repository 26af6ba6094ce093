/-
  The memory of layer 2's queue: the words in which the contracts speak of the struct behind the receiver, its row of timers and its map of places.
-/
import Derived.Test.YtbhakpkdkeacmaaProg
import Derived.Test.YtbhakpkdkeacmaaTqMath
import Derived.WalkKit
import Derived.Below
import Derived.Lib.Hide
import Derived.Maps.OwnSet
import Derived.Maps.OwnOps
import Derived.Deep.AppendLies
import Derived.Deep.Draws
namespace Go.Proofs.Ytbhakpkdkeacmaa.Tq
open Go.RowKit Go.Maps

/-- The cells of a row of timers: the ID, then the time. -/
def flat : List Tm → List Value
  | [] => []
  | t :: r => .int .i64 t.1 :: .int .u64 t.2 :: flat r
theorem flat_length : ∀ ts : List Tm, (flat ts).length = ts.length * 2
  | [] => rfl
  | _ :: r => by simp [flat, flat_length r]; omega
theorem flat_at : ∀ (ts : List Tm) (i : Nat) (t : Tm), ts[i]? = some t → (flat ts)[i * 2]? = some (.int .i64 t.1) ∧ (flat ts)[i * 2 + 1]? = some (.int .u64 t.2)
  | [], i, t, h => by simp at h
  | x :: r, 0, t, h => by simp at h; subst h; simp [flat]
  | x :: r, i + 1, t, h => by
    have h' : r[i]? = some t := by simpa using h
    have := flat_at r i t h'
    rw [show (i + 1) * 2 = i * 2 + 2 by omega, show i * 2 + 2 + 1 = (i * 2 + 1) + 2 by omega]
    simpa [flat] using this
theorem flat_append : ∀ (a b : List Tm), flat (a ++ b) = flat a ++ flat b
  | [], _ => rfl
  | x :: r, b => by simp [flat, flat_append r b]
theorem flat_set : ∀ (ts : List Tm) (i : Nat) (t : Tm), flat (ts.set i t) = ((flat ts).set (i * 2) (.int .i64 t.1)).set (i * 2 + 1) (.int .u64 t.2)
  | [], i, t => by simp [flat]
  | x :: r, 0, t => by simp [flat]
  | x :: r, i + 1, t => by
    rw [show (i + 1) * 2 = i * 2 + 2 by omega, show i * 2 + 2 + 1 = (i * 2 + 1) + 2 by omega]
    simp [flat, flat_set r i t]
theorem flat_take (ts : List Tm) (k : Nat) : flat (ts.take k) = (flat ts).take (k * 2) := by
  induction ts generalizing k with
  | nil => simp [flat]
  | cons x r ih =>
    cases k with
    | zero => simp [flat]
    | succ k => rw [show (k + 1) * 2 = k * 2 + 2 by omega]; simp [flat, ih]
theorem flat_one (ts : List Tm) : ∀ u ∈ flat ts, u.oneCell' = true := by
  induction ts with
  | nil => intro u h; simp [flat] at h
  | cons x r ih =>
    intro u h
    simp [flat] at h
    rcases h with rfl | rfl | h
    · rfl
    · rfl
    · exact ih u h

/-- What an operation may turn: nothing below block B; of the blocks that were there rows and structs of other types than the queue's and its timers' stay. -/
structure Fr (B : Nat) (w w' : World) : Prop where
  bel : Below B w w'
  keep : ∀ (k : Nat) (cs : Array Value) (t : TypeId) (f : Nat × Nat), w.heap[k]? = some (.cells cs t f) → t ≠ 49 → t ≠ 68 → w'.heap[k]? = some (.cells cs t f)

theorem Fr.refl (B : Nat) (w : World) : Fr B w w := ⟨Below.refl _ _, fun _ _ _ _ h _ _ => h⟩
theorem Fr.trans {B : Nat} {a b c : World} (h : Fr B a b) (k : Fr B b c) : Fr B a c :=
  ⟨h.bel.trans k.bel, fun i cs t f hi h1 h2 => k.keep i cs t f (h.keep i cs t f hi h1 h2) h1 h2⟩
theorem heap_lt {w : World} {k : Nat} {o : Obj} (h : w.heap[k]? = some o) : k < w.heap.size := (Array.getElem?_eq_some_iff.1 h).1
theorem Fr.of_below {B : Nat} {w w' : World} (h : Below w.heap.size w w') (hB : B ≤ w.heap.size) : Fr B w w' :=
  ⟨h.mono hB, fun k _ _ _ hk _ _ => (h.block k (heap_lt hk)).trans hk⟩
theorem Fr.of_grown {B : Nat} {w w' : World} {row : Option Nat} (h : w.grownBy w' row) (hB : B ≤ w.heap.size) (hr : ∀ g, row = some g → B ≤ g ∧ ∀ cs t f, w.heap[g]? = some (.cells cs t f) → t = 49 ∨ t = 68) : Fr B w w' :=
  ⟨(Below.refl _ _).grown h hB fun g e => (hr g e).1, fun k cs t f hk h1 h2 => (h.block k (heap_lt hk) (fun e => by
    rcases (hr k e.symm).2 cs t f hk with rfl | rfl
    · exact h1 rfl
    · exact h2 rfl)).trans hk⟩
theorem Fr.of_setCell {B : Nat} {w : World} {p : Addr} {u : Value} {cs : Array Value} {t : TypeId} {f : Nat × Nat} (hp : w.heap[p.block]? = some (.cells cs t f)) (hB : B ≤ p.block) (ht : t = 49 ∨ t = 68) : Fr B w (w.setCell p u) :=
  ⟨(Below.refl _ _).setCell hB u, fun k cs' t' f' hk h1 h2 => (Below.heap_setCell w p u k (fun e => by
    subst e
    rw [hp] at hk
    injection hk with hk
    injection hk with _ e2
    subst e2
    rcases ht with rfl | rfl
    · exact h1 rfl
    · exact h2 rfl)).trans hk⟩

/-- The queue: the struct at block q, its row of timers, its map of places at block mb. -/
structure QM (w : World) (B q mb : Nat) (now : Int) (V : Value) (ts : List Tm) (D : DataW Unit) : Prop where
  st : w.heap[q]? = some (.cells #[.int .u64 now, V, .map (some mb)] 49 (0, 0))
  row : w.ownsRow B 68 2 V ts.length (flat ts)
  mp : w.ownsMap Try.prog 3 (plainElem Try.prog 3) mb (Maps.size D) D
  bq : B ≤ q
  bm : B ≤ mb
  wf : ∀ t ∈ ts, (Lit.int .i64 t.1).wf = true

section
variable {w w' : World} {B q mb : Nat} {now : Int} {V : Value} {ts : List Tm} {D : DataW Unit}

theorem map_exact {b n : Nat} {R : Value → Option (DataW Unit × List MemPlace)} (h : w.ownsMap Try.prog 3 R b n D) : w.ownsMap Try.prog 3 R b (Maps.size D) D := by
  obtain ⟨es, clock, h1, h2, h3, rfl⟩ := h
  refine ⟨es, clock, h1, h2, ?_, rfl⟩
  rw [size_eq, length_sorted]
  simp

theorem QM.lt (h : QM w B q mb now V ts D) : q < w.heap.size := heap_lt h.st
theorem QM.le (h : QM w B q mb now V ts D) : B ≤ w.heap.size := by have := h.lt; have := h.bq; omega
theorem QM.cell (h : QM w B q mb now V ts D) (i : Nat) : w.cell? ⟨q, i, none⟩ = (#[.int .u64 now, V, .map (some mb)] : Array Value)[i]? := cell_of_row w q i _ _ _ h.st
theorem QM.c0 (h : QM w B q mb now V ts D) : w.cell? ⟨q, 0, none⟩ = some (.int .u64 now) := h.cell 0
theorem QM.c1 (h : QM w B q mb now V ts D) : w.cell? ⟨q, 1, none⟩ = some V := h.cell 1
theorem QM.c2 (h : QM w B q mb now V ts D) : w.cell? ⟨q, 2, none⟩ = some (.map (some mb)) := h.cell 2
theorem QM.fz (h : QM w B q mb now V ts D) (i : Nat) : w.frozen? ⟨q, i, none⟩ = false := by
  have := h.st
  simp [World.frozen?, this]

/-- Of the row: nil, or a block of its own. -/
theorem QM.form (h : QM w B q mb now V ts D) (hn : 0 < ts.length) : ∃ g cap, V = .slice (some ⟨g, 0, none⟩) ts.length cap ∧ B ≤ g ∧ g < w.heap.size ∧ ts.length ≤ cap ∧ cap ≤ maxLen ∧ ∃ cur, w.heap[g]? = some (.cells cur 68 (0, 0)) := by
  rcases h.row.2 with ⟨_, h0⟩ | ⟨g, cap, cur, hv, hb, hg, hc, hm, _⟩
  · omega
  · exact ⟨g, cap, hv, hb, heap_lt hg, hc, hm, cur, hg⟩
theorem QM.shape (h : QM w B q mb now V ts D) : ∃ A cap, V = .slice A ts.length cap ∧ ts.length ≤ maxLen := by
  rcases h.row.2 with ⟨hv, h0⟩ | ⟨g, cap, cur, hv, hb, hg, hc, hm, _⟩
  · exact ⟨none, 0, by rw [hv, h0], by rw [h0]; exact Nat.zero_le _⟩
  · exact ⟨_, cap, hv, by omega⟩
theorem QM.at_ {g cap : Nat} (h : QM w B q mb now (.slice (some ⟨g, 0, none⟩) ts.length cap) ts D) {i : Nat} {t : Tm} (hi : ts[i]? = some t) :
    w.cell? ⟨g, i * 2, none⟩ = some (.int .i64 t.1) ∧ w.cell? ⟨g, i * 2 + 1, none⟩ = some (.int .u64 t.2) := by
  have hl : i < ts.length := (List.getElem?_eq_some_iff.1 hi).1
  have := flat_at ts i t hi
  rw [h.row.cellAt (i * 2) (by omega), h.row.cellAt (i * 2 + 1) (by omega)]
  exact this
theorem QM.fzr {g cap : Nat} (h : QM w B q mb now (.slice (some ⟨g, 0, none⟩) ts.length cap) ts D) (j : Nat) : w.frozen? ⟨g, j, none⟩ = false := h.row.frozenAt j
theorem QM.gne {g cap : Nat} (h : QM w B q mb now (.slice (some ⟨g, 0, none⟩) ts.length cap) ts D) (hn : 0 < ts.length) : g ≠ q ∧ g ≠ mb ∧ q ≠ mb := by
  obtain ⟨g', cap', hv, _, _, _, _, cur, hg⟩ := h.form hn
  simp only [Value.slice.injEq, Option.some.injEq, Addr.mk.injEq, and_true, true_and] at hv
  obtain ⟨rfl, rfl⟩ := hv
  obtain ⟨es, clock, hm, _⟩ := h.mp
  refine ⟨?_, ?_, ?_⟩
  · rintro rfl; rw [h.st] at hg; injection hg with hg; injection hg with _ e; simp at e
  · rintro rfl; rw [hm] at hg; simp at hg
  · rintro rfl; rw [h.st] at hm; simp at hm
theorem QM.qm (h : QM w B q mb now V ts D) : q ≠ mb := by
  obtain ⟨es, clock, hm, _⟩ := h.mp
  rintro rfl; rw [h.st] at hm; simp at hm

/-- New blocks and draws turn nothing of the queue. -/
theorem QM.below (h : QM w B q mb now V ts D) (hb : Below w.heap.size w w') : QM w' B q mb now V ts D := by
  have hg : w.grownBy w' none := ⟨hb.os, hb.tape, hb.output, hb.size, fun k hk _ => hb.block k hk⟩
  exact ⟨(hb.block q h.lt).trans h.st, h.row.kept hg (by cases V.ownBlock <;> simp), h.mp.kept hg (by simp), h.bq, h.bm, h.wf⟩

/-- A store of a timer into place i of the row. -/
theorem QM.put {g cap : Nat} (h : QM w B q mb now (.slice (some ⟨g, 0, none⟩) ts.length cap) ts D) {i : Nat} (hi : i < ts.length) (t : Tm) (ht : (Lit.int .i64 t.1).wf = true) :
    QM ((w.setCell ⟨g, i * 2, none⟩ (.int .i64 t.1)).setCell ⟨g, i * 2 + 1, none⟩ (.int .u64 t.2)) B q mb now (.slice (some ⟨g, 0, none⟩) ts.length cap) (ts.set i t) D := by
  obtain ⟨n1, n2, n3⟩ := h.gne (by omega)
  have r1 := h.row.stored (i * 2) (.int .i64 t.1)
  have r2 := r1.1.stored (i * 2 + 1) (.int .u64 t.2)
  refine ⟨?_, ?_, ?_, h.bq, h.bm, ?_⟩
  · rw [Below.heap_setCell _ _ _ _ (by simpa using Ne.symm n1), Below.heap_setCell _ _ _ _ (by simpa using Ne.symm n1)]; exact h.st
  · rw [List.length_set, flat_set]; exact r2.1
  · exact (h.mp.setCell (by simpa using Ne.symm n2) _).setCell (by simpa using Ne.symm n2) _
  · intro x hx
    rcases List.mem_or_eq_of_mem_set hx with hx | rfl
    · exact h.wf x hx
    · exact ht
theorem QM.put_fr {g cap : Nat} (h : QM w B q mb now (.slice (some ⟨g, 0, none⟩) ts.length cap) ts D) (hn : 0 < ts.length) (i j : Nat) (u v : Value) :
    Fr B w ((w.setCell ⟨g, i, none⟩ u).setCell ⟨g, j, none⟩ v) := by
  obtain ⟨g', cap', hv, hb, _, _, _, cur, hg⟩ := h.form hn
  simp only [Value.slice.injEq, Option.some.injEq, Addr.mk.injEq, and_true, true_and] at hv
  obtain ⟨rfl, rfl⟩ := hv
  have h1 : ∃ cs, (w.setCell ⟨g, i, none⟩ u).heap[g]? = some (.cells cs 68 (0, 0)) := by
    simp [World.setCell, Array.getElem?_modify, hg]
  obtain ⟨cs, h1⟩ := h1
  exact (Fr.of_setCell (p := ⟨g, i, none⟩) hg hb (.inr rfl)).trans (Fr.of_setCell (p := ⟨g, j, none⟩) h1 hb (.inr rfl))

/-- The map has turned. -/
theorem QM.turned {D' : DataW Unit} {n : Nat} (h : QM w B q mb now V ts D) (hm : w'.ownsMap Try.prog 3 (plainElem Try.prog 3) mb n D') (ht : w.mapTurned w' mb) : QM w' B q mb now V ts D' ∧ Fr B w w' := by
  have hg := ht.grown
  have hrow : V.ownBlock ≠ some mb := by
    intro e
    rcases h.row.2 with ⟨hv, _⟩ | ⟨g, cap, cur, hv, hb, hg', _⟩
    · rw [hv] at e; simp [Value.ownBlock] at e
    · rw [hv] at e
      have e : g = mb := by simpa [Value.ownBlock] using e
      subst e
      obtain ⟨es, clock, hm', _⟩ := h.mp
      rw [hm'] at hg'; simp at hg'
  obtain ⟨es, clock, hm', _⟩ := h.mp
  refine ⟨⟨(hg.block q h.lt (by simpa using h.qm)).trans h.st, h.row.kept hg (.inr hrow), map_exact hm, h.bq, h.bm, h.wf⟩, Fr.of_grown hg h.le fun g e => ?_⟩
  have e : mb = g := by simpa using e
  subst e
  exact ⟨h.bm, fun cs t f hk => by rw [hm'] at hk; simp at hk⟩

/-- The clock is set. -/
theorem QM.clock (h : QM w B q mb now V ts D) (t : Int) : QM (w.setCell ⟨q, 0, none⟩ (.int .u64 t)) B q mb t V ts D ∧ Fr B w (w.setCell ⟨q, 0, none⟩ (.int .u64 t)) := by
  have hq := h.st
  have hrow : V.ownBlock = none ∨ V.ownBlock ≠ some q := by
    right
    intro e
    rcases h.row.2 with ⟨hv, _⟩ | ⟨g, cap, cur, hv, hb, hg', _⟩
    · rw [hv] at e; simp [Value.ownBlock] at e
    · rw [hv] at e
      have e : g = q := by simpa [Value.ownBlock] using e
      subst e
      rw [hq] at hg'; injection hg' with hg'; injection hg' with _ e; simp at e
  have hg : w.grownBy (w.setCell ⟨q, 0, none⟩ (.int .u64 t)) (some q) := ⟨rfl, rfl, rfl, by simp, fun k _ hk => Below.heap_setCell _ _ _ _ (by simpa using hk)⟩
  refine ⟨⟨by simp [World.setCell, Array.getElem?_modify, hq], h.row.kept hg hrow, h.mp.setCell (by simpa using Ne.symm h.qm) _, h.bq, h.bm, h.wf⟩, Fr.of_setCell (p := ⟨q, 0, none⟩) hq h.bq (.inl rfl)⟩

/-- The field of the timers is set to another row. -/
theorem field_set {V' : Value} {ts' : List Tm} (hq : w.heap[q]? = some (.cells #[.int .u64 now, V, .map (some mb)] 49 (0, 0))) (hm : w.ownsMap Try.prog 3 (plainElem Try.prog 3) mb (Maps.size D) D) (bq : B ≤ q) (bm : B ≤ mb)
    (hr : w.ownsRow B 68 2 V' ts'.length (flat ts')) (hw : ∀ t ∈ ts', (Lit.int .i64 t.1).wf = true) :
    QM (w.setCell ⟨q, 1, none⟩ V') B q mb now V' ts' D ∧ Fr B w (w.setCell ⟨q, 1, none⟩ V') := by
  have hrow : V'.ownBlock = none ∨ V'.ownBlock ≠ some q := by
    right
    intro e
    rcases hr.2 with ⟨hv, _⟩ | ⟨g, cap, cur, hv, hb, hg', _⟩
    · rw [hv] at e; simp [Value.ownBlock] at e
    · rw [hv] at e
      have e : g = q := by simpa [Value.ownBlock] using e
      subst e
      rw [hq] at hg'; injection hg' with hg'; injection hg' with _ e; simp at e
  have hqm : mb ≠ q := by
    obtain ⟨es, clock, hm', _⟩ := hm
    rintro rfl; rw [hq] at hm'; simp at hm'
  have hg : w.grownBy (w.setCell ⟨q, 1, none⟩ V') (some q) := ⟨rfl, rfl, rfl, by simp, fun k _ hk => Below.heap_setCell _ _ _ _ (by simpa using hk)⟩
  refine ⟨⟨by simp [World.setCell, Array.getElem?_modify, hq], hr.kept hg hrow, hm.setCell (by simpa using hqm) _, bq, bm, hw⟩, Fr.of_setCell (p := ⟨q, 1, none⟩) hq bq (.inl rfl)⟩
theorem QM.field {V' : Value} {ts' : List Tm} (h : QM w B q mb now V ts D) (hr : w.ownsRow B 68 2 V' ts'.length (flat ts')) (hw : ∀ t ∈ ts', (Lit.int .i64 t.1).wf = true) :
    QM (w.setCell ⟨q, 1, none⟩ V') B q mb now V' ts' D ∧ Fr B w (w.setCell ⟨q, 1, none⟩ V') := field_set h.st h.mp h.bq h.bm hr hw

/-- Behind an append onto the row. -/
theorem QM.appended {V' : Value} {ts' : List Tm} (h : QM w B q mb now V ts D) (hg : w.grownBy w' V.ownBlock) (hr : w'.ownsRow B 68 2 V' ts'.length (flat ts')) (hw : ∀ t ∈ ts', (Lit.int .i64 t.1).wf = true) :
    (w'.cell? ⟨q, 1, none⟩ = some V ∧ w'.frozen? ⟨q, 1, none⟩ = false) ∧ QM (w'.setCell ⟨q, 1, none⟩ V') B q mb now V' ts' D ∧ Fr B w (w'.setCell ⟨q, 1, none⟩ V') := by
  have hty : ∀ k, V.ownBlock = some k → B ≤ k ∧ ∃ cur, w.heap[k]? = some (.cells cur 68 (0, 0)) := by
    intro k hk
    rcases h.row.2 with ⟨hv, _⟩ | ⟨g, cap, cur, hv, hb, hg', _⟩
    · rw [hv] at hk; simp [Value.ownBlock] at hk
    · rw [hv] at hk
      have e : g = k := by simpa [Value.ownBlock] using hk
      subst e
      exact ⟨hb, cur, hg'⟩
  have nq : some q ≠ V.ownBlock := fun e => by
    obtain ⟨_, cur, hc⟩ := hty q e.symm
    rw [h.st] at hc; injection hc with hc; injection hc with _ e; simp at e
  have nm : some mb ≠ V.ownBlock := fun e => by
    obtain ⟨_, cur, hc⟩ := hty mb e.symm
    obtain ⟨es, clock, hm, _⟩ := h.mp
    rw [hm] at hc; simp at hc
  have hq := (hg.block q h.lt nq).trans h.st
  obtain ⟨hQ, hF⟩ := field_set hq (h.mp.kept hg nm) h.bq h.bm hr hw
  refine ⟨⟨cell_of_row w' q 1 _ _ _ hq, by simp [World.frozen?, hq]⟩, hQ, (Fr.of_grown hg h.le fun g e => ?_).trans hF⟩
  obtain ⟨hB, cur, hc⟩ := hty g e
  exact ⟨hB, fun cs t f hk => by rw [hc] at hk; injection hk with hk; injection hk with _ e; exact .inr e.symm⟩
theorem news_two (w : World) (x y : Value) (t : TypeId) : ∀ j u, [x, y][j]? = some u → (w.alloc (.cells #[x, y] t)).cell? ((⟨w.heap.size, 0, none⟩ : Addr).add j) = some u := by
  intro j u hu
  have h := heap_alloc_new w (.cells #[x, y] t)
  match j, hu with
  | 0, hu => exact (cell_of_row _ _ 0 _ _ _ h).trans (by simpa using hu)
  | 1, hu => exact (cell_of_row _ _ 1 _ _ _ h).trans (by simpa using hu)
end

end Go.Proofs.Ytbhakpkdkeacmaa.Tq
