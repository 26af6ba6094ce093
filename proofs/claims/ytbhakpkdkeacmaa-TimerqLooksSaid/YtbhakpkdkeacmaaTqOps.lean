/-
  The contracts of the queue's operations.
-/
import Derived.Test.YtbhakpkdkeacmaaTqTake
import Derived.Test.YtbhakpkdkeacmaaTqSpec
namespace Go.Proofs.Ytbhakpkdkeacmaa.Tq
open Go.RowKit Go.Maps

/-- A reply as a value: its Fired is nil or a row of its own. -/
def RepAt (w : World) (B : Nat) (v : Value) (r : Rep) : Prop :=
  ∃ f, v = .agg #[.int .i64 r.code, f, .int .u64 r.time] ∧ w.ownsRow B 3 1 f r.fired.length (r.fired.map (Value.int .i64))
theorem RepAt.none_ (w : World) (B : Nat) (c t : Int) : RepAt w B (.agg #[.int .i64 c, .slice none 0 0, .int .u64 t]) ⟨c, [], t⟩ := ⟨_, rfl, World.ownsRow_nil w B 3 1⟩

/-- Between two operations: the queue is a heap of the timers l. -/
def QH (w : World) (B q mb : Nat) (now : Int) (l : List Tm) : Prop := ∃ ts, QS w B q mb now ts ∧ Heap ts ∧ ts.Perm l ∧ ts.length ≤ 256
theorem QS.nd {w : World} {B q mb : Nat} {now : Int} {ts : List Tm} (h : QS w B q mb now ts) : Nd ts := by obtain ⟨V, D, h1, h2⟩ := h; exact h2.nd
theorem QH.nd {w : World} {B q mb : Nat} {now : Int} {l : List Tm} (h : QH w B q mb now l) : Nd l := by obtain ⟨ts, h1, h2, h3, _⟩ := h; exact h1.nd.perm h3

/-- What an operation leaves. -/
def OpPost (w : World) (B q mb : Nat) (now : Int) (l : List Tm) (r : Rep) (e : Ending) (w' : World) : Prop :=
  ∃ v, e = .returned v ∧ RepAt w' B v r ∧ QH w' B q mb now l ∧ Fr B w w'

theorem QS.c0 {w : World} {B q mb : Nat} {now : Int} {ts : List Tm} (h : QS w B q mb now ts) : w.cell? ⟨q, 0, none⟩ = some (.int .u64 now) := by obtain ⟨V, D, h1, h2⟩ := h; exact h1.c0


section
variable {w w' : World} {B q mb : Nat} {now : Int} {V : Value} {ts : List Tm} {D : DataW Unit}
theorem own_type {e : TypeId} {size n : Nat} {v : Value} {xs : List Value} (h : w.ownsRow B e size v n xs) : ∀ k, v.ownBlock = some k → B ≤ k ∧ ∃ cur, w.heap[k]? = some (.cells cur e (0, 0)) := by
  intro k hk
  rcases h.2 with ⟨hv, _⟩ | ⟨g, cap, cur, hv, hb, hg', _⟩
  · rw [hv] at hk; simp [Value.ownBlock] at hk
  · rw [hv] at hk
    have e : g = k := by simpa [Value.ownBlock] using hk
    subst e
    exact ⟨hb, cur, hg'⟩
theorem own_ne {e t : TypeId} {size n : Nat} {v : Value} {xs : List Value} (h : w.ownsRow B e size v n xs) {R : Nat} {cs : Array Value} {f : Nat × Nat} (hR : w.heap[R]? = some (.cells cs t f)) (hne : e ≠ t) : v.ownBlock ≠ some R := by
  intro hk
  obtain ⟨_, cur, hc⟩ := own_type h R hk
  rw [hR] at hc; injection hc with hc; injection hc with _ e'
  exact hne e'.symm
/-- A row of another type stays. -/
theorem own_fr {B' : Nat} {e : TypeId} {size n : Nat} {v : Value} {xs : List Value} (h : w.ownsRow B' e size v n xs) (hf : Fr B w w') (h1 : e ≠ 49) (h2 : e ≠ 68) : w'.ownsRow B' e size v n xs := by
  refine ⟨h.1, ?_⟩
  rcases h.2 with hn | ⟨g, cap, cur, hv, hb, hg, rest⟩
  · exact .inl hn
  · exact .inr ⟨g, cap, cur, hv, hb, hf.keep g cur e _ hg h1 h2, rest⟩
/-- A block of another type is written. -/
theorem QM.far (h : QM w B q mb now V ts D) {row : Option Nat} (hg : w.grownBy w' row) (hR : ∀ R, row = some R → ∃ cs t f, w.heap[R]? = some (.cells cs t f) ∧ t ≠ 49 ∧ t ≠ 68) : QM w' B q mb now V ts D := by
  have hq : some q ≠ row := fun e => by
    obtain ⟨cs, t, f, hc, h1, _⟩ := hR q e.symm
    rw [h.st] at hc; injection hc with hc; injection hc with _ e'; exact h1 e'.symm
  have hm : some mb ≠ row := fun e => by
    obtain ⟨cs, t, f, hc, _⟩ := hR mb e.symm
    obtain ⟨es, clock, hm, _⟩ := h.mp
    rw [hm] at hc; simp at hc
  have hv : V.ownBlock = none ∨ V.ownBlock ≠ row := by
    cases hvb : V.ownBlock with
    | none => exact .inl rfl
    | some k =>
      right
      intro e
      obtain ⟨cs, t, f, hc, _, h2⟩ := hR k e.symm
      obtain ⟨_, cur, hk⟩ := own_type h.row k hvb
      rw [hk] at hc; injection hc with hc; injection hc with _ e'; exact h2 e'.symm
  exact ⟨(hg.block q h.lt hq).trans h.st, h.row.kept hg hv, h.mp.kept hg hm, h.bq, h.bm, h.wf⟩
theorem QS.far (h : QS w B q mb now ts) {row : Option Nat} (hg : w.grownBy w' row) (hR : ∀ R, row = some R → ∃ cs t f, w.heap[R]? = some (.cells cs t f) ∧ t ≠ 49 ∧ t ≠ 68) : QS w' B q mb now ts := by
  obtain ⟨V, D, h1, h3⟩ := h; exact ⟨V, D, h1.far hg hR, h3⟩
/-- Blocks that were not there are written. -/
theorem Fr.late {w0 : World} (h : Fr B w0 w) {row : Option Nat} (hg : w.grownBy w' row) (hr : ∀ k, row = some k → w0.heap.size ≤ k) (hB : B ≤ w0.heap.size) : Fr B w0 w' :=
  ⟨h.bel.grown hg (Nat.le_trans hB h.bel.size) (fun k e => Nat.le_trans hB (hr k e)), fun k cs t f hk h1 h2 => (hg.block k (by have := heap_lt hk; have := h.bel.size; omega) (fun e => by have := hr k e.symm; have := heap_lt hk; omega)).trans (h.keep k cs t f hk h1 h2)⟩
theorem grown_set (w : World) (p : Addr) (u : Value) : w.grownBy (w.setCell p u) (some p.block) := ⟨rfl, rfl, rfl, by simp, fun k _ hk => Below.heap_setCell _ _ _ _ (by simpa using hk)⟩
theorem grown_trans {w0 : World} {row : Option Nat} (h : w0.grownBy w row) (k : w.grownBy w' row) : w0.grownBy w' row :=
  ⟨k.os.trans h.os, k.tape.trans h.tape, k.output.trans h.output, Nat.le_trans h.size k.size, fun i hi hne => (k.block i (Nat.lt_of_lt_of_le hi h.size) hne).trans (h.block i hi hne)⟩
theorem own_shape {e : TypeId} {size n : Nat} {v : Value} {xs : List Value} (h : w.ownsRow B e size v n xs) : ∃ A c, v = .slice A n c := by
  rcases h.2 with ⟨hv, h0⟩ | ⟨g, cap, cur, hv, _⟩
  · exact ⟨none, 0, by rw [hv, h0]⟩
  · exact ⟨_, cap, hv⟩
theorem news_one (w : World) (x : Value) (t : TypeId) : ∀ j u, [x][j]? = some u → (w.alloc (.cells #[x] t)).cell? ((⟨w.heap.size, 0, none⟩ : Addr).add j) = some u := by
  intro j u hu
  have h := heap_alloc_new w (.cells #[x] t)
  match j, hu with
  | 0, hu => exact (cell_of_row _ _ 0 _ _ _ h).trans (by simpa using hu)
/-- A reply's cell is written. -/
theorem res_cells (w : World) (R : Nat) (a b c : Value) {x y z : Value} {t : TypeId} (h : w.heap[R]? = some (.cells #[x, y, z] t (0, 0))) :
    (((w.setCell ⟨R, 0, none⟩ a).setCell ⟨R, 1, none⟩ b).setCell ⟨R, 2, none⟩ c).heap[R]? = some (.cells #[a, b, c] t (0, 0)) := by
  simp [World.setCell, Array.getElem?_modify, h]
theorem res_grown (w : World) (R : Nat) (a b c : Value) : w.grownBy (((w.setCell ⟨R, 0, none⟩ a).setCell ⟨R, 1, none⟩ b).setCell ⟨R, 2, none⟩ c) (some R) :=
  grown_trans (grown_trans (grown_set w ⟨R, 0, none⟩ a) (grown_set _ ⟨R, 1, none⟩ b)) (grown_set _ ⟨R, 2, none⟩ c)
theorem grown_drewN (w : World) (n : Nat) (row : Option Nat) : w.grownBy (w.drewN n) row := ⟨rfl, rfl, rfl, Nat.le_refl _, fun _ _ _ => rfl⟩
theorem below_drewN (w : World) (n : Nat) : Below w.heap.size w (w.drewN n) := ⟨rfl, rfl, rfl, Nat.le_refl _, fun _ _ => rfl⟩
theorem QH.below {l : List Tm} (h : QH w B q mb now l) (hb : Below w.heap.size w w') : QH w' B q mb now l := by
  obtain ⟨ts, h1, h2⟩ := h; exact ⟨ts, h1.below hb, h2⟩
theorem QH.le {l : List Tm} (h : QH w B q mb now l) : B ≤ w.heap.size := by obtain ⟨ts, h1, h2⟩ := h; exact h1.le
theorem QH.far {l : List Tm} (h : QH w B q mb now l) {row : Option Nat} (hg : w.grownBy w' row) (hR : ∀ R, row = some R → ∃ cs t f, w.heap[R]? = some (.cells cs t f) ∧ t ≠ 49 ∧ t ≠ 68) : QH w' B q mb now l := by
  obtain ⟨ts, ⟨V, D, h1, h3⟩, h2⟩ := h; exact ⟨ts, ⟨V, D, h1.far hg hR, h3⟩, h2⟩
theorem RepAt.fr {v : Value} {r : Rep} (h : RepAt w B v r) (hf : Fr B w w') : RepAt w' B v r := by
  obtain ⟨f, h1, h2⟩ := h
  exact ⟨f, h1, own_fr h2 hf (by decide) (by decide)⟩
theorem RepAt.far {v : Value} {r : Rep} (h : RepAt w B v r) {row : Option Nat} (hg : w.grownBy w' row) (hR : ∀ R, row = some R → ∃ cs t f, w.heap[R]? = some (.cells cs t f) ∧ t ≠ 3) : RepAt w' B v r := by
  obtain ⟨f, h1, h2⟩ := h
  refine ⟨f, h1, h2.kept hg ?_⟩
  cases hvb : f.ownBlock with
  | none => exact .inl rfl
  | some k =>
    right
    intro e
    obtain ⟨cs, t, fz, hc, h3⟩ := hR k e.symm
    obtain ⟨_, cur, hk⟩ := own_type h2 k hvb
    rw [hk] at hc; injection hc with hc; injection hc with _ e'; exact h3 e'.symm
theorem one_row (g : Nat) (x : Int) (hB : B ≤ g) (h : w.heap[g]? = some (.cells #[.int .i64 x] 3 (0, 0))) : w.ownsRow B 3 1 (.slice (some ⟨g, 0, none⟩) 1 1) 1 [.int .i64 x] :=
  ⟨rfl, .inr ⟨g, 1, _, rfl, hB, h, Nat.le_refl _, by unfold maxLen; omega, rfl, rfl⟩⟩
theorem QS.down {ts : List Tm} (h : QS w B q mb now ts) (hn : 0 < ts.length) : ∃ g cap, w.cell? ⟨q, 1, none⟩ = some (.slice (some ⟨g, 0, none⟩) ts.length cap) ∧ B ≤ g ∧ g < w.heap.size ∧ ts.length ≤ cap ∧ cap ≤ 9223372036854775807 ∧ q < w.heap.size ∧
    w.cell? ⟨g, 0, none⟩ = some (.int .i64 (at_ ts 0).1) ∧ w.cell? ⟨g, 1, none⟩ = some (.int .u64 (at_ ts 0).2) := by
  obtain ⟨V, D, h1, h2⟩ := h
  obtain ⟨g, cap, rfl, hb, hg, hc, hm, _⟩ := h1.form hn
  obtain ⟨a0, a1⟩ := h1.at_ (at_some hn)
  exact ⟨g, cap, h1.c1, hb, hg, hc, by unfold maxLen at hm; omega, h1.lt, by simpa using a0, by simpa using a1⟩
end

theorem next_none {w : World} {B q mb : Nat} {now : Int} (h : QH w B q mb now []) :
    Calls Try.prog 23 #[.pointer (some ⟨q, 0, none⟩)] w (OpPost w B q mb now [] ⟨4, [], 0⟩) := by
  obtain ⟨ts, h1, h2, h3, h4⟩ := h
  obtain rfl : ts = [] := List.perm_nil.1 h3
  have H1 := Lib.hid h1
  clear h1
  go_enter Try.func23, Try.ntmps23
  go_wp2_with (go_at_call 28; ((with_reducible refine (len_q (H1.out.below ((Below.refl _ _).alloc (Nat.le_refl _) _))).mono ?_); rintro e w' ⟨rfl, rfl⟩))
  go_returns
  have hB : ∀ o, Below w.heap.size w (w.alloc o) := fun o => (Below.refl _ _).alloc (Nat.le_refl _) _
  exact ⟨_, rfl, RepAt.none_ _ _ _ _, ⟨[], H1.out.below (hB _), Heap.nil, List.Perm.refl _, by simp⟩, Fr.of_below (hB _) H1.out.le⟩

theorem next_some {w : World} {B q mb : Nat} {now : Int} {l : List Tm} (h : QH w B q mb now l) {m : Tm} {r : List Tm} (ho : ord l = m :: r) :
    Calls Try.prog 23 #[.pointer (some ⟨q, 0, none⟩)] w (OpPost w B q mb now l ⟨0, [m.1], m.2⟩) := by
  have HQ := Lib.hid h
  obtain ⟨ts, h1, h2, h3, h4⟩ := h
  have hn : 0 < ts.length := by
    rw [h3.length_eq, ← (ord_perm l).length_eq, ho]; simp
  have em : at_ ts 0 = m := by
    obtain ⟨r', e⟩ := ord_first (h3.mem_iff.1 (at_mem hn)) (fun t ht => by
      obtain ⟨k, hk⟩ := List.getElem?_of_mem (h3.mem_iff.2 ht)
      have := h2.top k (List.getElem?_eq_some_iff.1 hk).1
      rwa [at_of hk] at this)
    rw [ho] at e
    injection e with e _
    exact e.symm
  obtain ⟨g, cap, c1, hBg, hg, hc, hm, hq, a0, a1⟩ := h1.down hn
  rw [em] at a0 a1
  have hlen : ((ts.length : Int) == 0) = false := by rw [beq_eq_false_iff_ne]; omega
  have H1 := Lib.hid h1
  have hle := h1.le
  clear h1 h2 h3 em ho
  go_enter Try.func23, Try.ntmps23
  go_wp2_with (go_at_call 28; ((with_reducible refine (len_q (H1.out.below ((Below.refl _ _).alloc (Nat.le_refl _) _))).mono ?_); rintro e w' ⟨rfl, rfl⟩))
  go_returns
  have hb : ∀ o1 o2 o3, Below w.heap.size w (((w.alloc o1).alloc o2).alloc o3) := fun o1 o2 o3 => by go_grown
  refine ⟨_, rfl, ⟨_, rfl, one_row _ _ (by omega) ?_⟩, HQ.out.below (hb _ _ _), Fr.of_below (hb _ _ _) hle⟩
  have := heap_alloc_new ((w.alloc (Obj.cells #[Value.int IntKind.i64 0, Value.slice (some { block := w.heap.size + 1 + 1, off := 0 }) 1 1, Value.int IntKind.u64 m.2] 39)).alloc (Obj.cells #[Value.int IntKind.i64 m.1, Value.int IntKind.u64 m.2] 68)) (Obj.cells #[Value.int IntKind.i64 m.1] 3)
  simpa using this

end Go.Proofs.Ytbhakpkdkeacmaa.Tq
