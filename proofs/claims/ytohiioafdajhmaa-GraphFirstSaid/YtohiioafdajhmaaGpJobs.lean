/-
  Layer 7: lists of jobs in memory, as they are read.
-/
import Derived.Test.YtohiioafdajhmaaGpMem
namespace Go.Proofs.Ytohiioafdajhmaa.Gp
open Go.RowKit

/-- A job, cell for cell. -/
structure J15 where
  nm : ByteArray
  run : ByteArray
  env : Value
  needs : Value
  hr : Bool
  rd : ByteArray
  rs : Int
  base : Int
  cap : Int
  stb : Int
  bur : Int
  win : Int
  lad : Value
  line : Int
  col : Int
abbrev J15.arr (j : J15) : Array Value := #[.string j.nm, .string j.run, j.env, j.needs, .bool j.hr, .string j.rd, .int .i64 j.rs, .int .u64 j.base, .int .u64 j.cap, .int .u64 j.stb, .int .i64 j.bur, .int .u64 j.win, j.lad, .int .i64 j.line, .int .i64 j.col]

def jobCells (xs : List J15) : List Value := xs.flatMap fun x => x.arr.toList
theorem jobCells_length (xs : List J15) : (jobCells xs).length = xs.length * 15 := by
  induction xs with
  | nil => rfl
  | cons x xs ih => simp only [jobCells, List.flatMap_cons, List.length_append, List.length_cons] at *; rw [ih]; simp; omega
theorem jobCells_snoc (xs : List J15) (x : J15) : jobCells (xs ++ [x]) = jobCells xs ++ x.arr.toList := by simp [jobCells]
theorem jobCells_at : ∀ (xs : List J15) (k i : Nat) (x : J15), xs[k]? = some x → i < 15 → (jobCells xs)[k * 15 + i]? = x.arr.toList[i]?
  | [], k, i, x, h, _ => by simp at h
  | y :: xs, 0, i, x, h, hi => by
    simp at h; subst h
    rw [Nat.zero_mul, Nat.zero_add, jobCells, List.flatMap_cons, List.getElem?_append_left (by simpa using hi)]
  | y :: xs, k + 1, i, x, h, hi => by
    have h' : xs[k]? = some x := by simpa using h
    have e : jobCells (y :: xs) = y.arr.toList ++ jobCells xs := by simp [jobCells]
    rw [e, List.getElem?_append_right (by simp; omega), ← jobCells_at xs k i x h' hi]
    congr 1
    simp; omega

/-- A job and the names of what it needs. -/
structure GJ where
  j : J15
  ns : List ByteArray
/-- A slice that reads as these jobs. -/
structure JL (w : World) (v : Value) (js : List GJ) : Prop where
  row : XLst w 15 v js.length (jobCells (js.map GJ.j))
  few : js.length ≤ 12
  needs : ∀ x ∈ js, XLst w 1 x.j.needs x.ns.length (x.ns.map Value.string) ∧ x.ns.length ≤ 2000000
theorem JL.below {w w' : World} {v : Value} {js : List GJ} (h : JL w v js) (hb : Below w.heap.size w w') : JL w' v js := ⟨h.row.below hb, h.few, fun x hx => ⟨(h.needs x hx).1.below hb, (h.needs x hx).2⟩⟩
theorem JL.form {w : World} {v : Value} {js : List GJ} (h : JL w v js) : ∃ A c, v = .slice A js.length c := by obtain ⟨A, c, h1, _⟩ := h.row; exact ⟨A, c, h1⟩
/-- Where its jobs lie. -/
def Lies (w : World) (A : Option Addr) (js : List GJ) : Prop := ∀ (k : Nat) (x : GJ), js[k]? = some x → ∃ g off, A = some ⟨g, off, none⟩ ∧ w.cell? ⟨g, off + k * 15, none⟩ = some (.string x.j.nm) ∧ w.cell? ⟨g, off + k * 15 + 1, none⟩ = some (.string x.j.run) ∧ w.cell? ⟨g, off + k * 15 + 2, none⟩ = some (x.j.env) ∧ w.cell? ⟨g, off + k * 15 + 3, none⟩ = some (x.j.needs) ∧ w.cell? ⟨g, off + k * 15 + 4, none⟩ = some (.bool x.j.hr) ∧ w.cell? ⟨g, off + k * 15 + 5, none⟩ = some (.string x.j.rd) ∧ w.cell? ⟨g, off + k * 15 + 6, none⟩ = some (.int .i64 x.j.rs) ∧ w.cell? ⟨g, off + k * 15 + 7, none⟩ = some (.int .u64 x.j.base) ∧ w.cell? ⟨g, off + k * 15 + 8, none⟩ = some (.int .u64 x.j.cap) ∧ w.cell? ⟨g, off + k * 15 + 9, none⟩ = some (.int .u64 x.j.stb) ∧ w.cell? ⟨g, off + k * 15 + 10, none⟩ = some (.int .i64 x.j.bur) ∧ w.cell? ⟨g, off + k * 15 + 11, none⟩ = some (.int .u64 x.j.win) ∧ w.cell? ⟨g, off + k * 15 + 12, none⟩ = some (x.j.lad) ∧ w.cell? ⟨g, off + k * 15 + 13, none⟩ = some (.int .i64 x.j.line) ∧ w.cell? ⟨g, off + k * 15 + 14, none⟩ = some (.int .i64 x.j.col)
theorem JL.lies {w : World} {A : Option Addr} {n c : Nat} {js : List GJ} (h : JL w (.slice A n c) js) : n = js.length ∧ Lies w A js := by
  obtain ⟨A', c', e, _, h2, _⟩ := h.row
  injection e with e1 e2 e3
  subst e1
  refine ⟨e2, fun k x hx => ?_⟩
  have hk := (List.getElem?_eq_some_iff.1 hx).1
  obtain ⟨g, off, hA, hc⟩ := h2 (by rw [jobCells_length, List.length_map]; omega)
  have e : ∀ i u, i < 15 → x.j.arr.toList[i]? = some u → w.cell? ⟨g, off + k * 15 + i, none⟩ = some u := by
    intro i u hi hu
    rw [Nat.add_assoc]
    exact hc _ u (by rw [jobCells_at _ k i x.j (by rw [List.getElem?_map, hx]; rfl) hi]; exact hu)
  exact ⟨g, off, hA, e 0 _ (by omega) rfl, e 1 _ (by omega) rfl, e 2 _ (by omega) rfl, e 3 _ (by omega) rfl, e 4 _ (by omega) rfl, e 5 _ (by omega) rfl, e 6 _ (by omega) rfl, e 7 _ (by omega) rfl, e 8 _ (by omega) rfl, e 9 _ (by omega) rfl, e 10 _ (by omega) rfl, e 11 _ (by omega) rfl, e 12 _ (by omega) rfl, e 13 _ (by omega) rfl, e 14 _ (by omega) rfl⟩
theorem Lies.below {w w' : World} {A : Option Addr} {js : List GJ} (h : Lies w A js) (hb : Below w.heap.size w w') : Lies w' A js := by
  intro k x hx
  obtain ⟨g, off, hA, h0, h1, h2, h3, h4, h5, h6, h7, h8, h9, h10, h11, h12, h13, h14⟩ := h k x hx
  exact ⟨g, off, hA, cell_up hb h0, cell_up hb h1, cell_up hb h2, cell_up hb h3, cell_up hb h4, cell_up hb h5, cell_up hb h6, cell_up hb h7, cell_up hb h8, cell_up hb h9, cell_up hb h10, cell_up hb h11, cell_up hb h12, cell_up hb h13, cell_up hb h14⟩

/-- Is the job at a place of this name? -/
def nmB (js : List GJ) (s : ByteArray) (k : Nat) : Bool := match js[k]? with
  | some x => decide (x.j.nm = s)
  | none => false
/-- The place of the first job of a name. -/
def idxN (js : List GJ) (s : ByteArray) : Option Nat := firstF (nmB js s) js.length 0
def optI : Option Nat → Int
  | some k => k
  | none => -1
def idxI (js : List GJ) (s : ByteArray) : Int := optI (idxN js s)
theorem firstF_yes {p : Nat → Bool} {f a : Nat} (h : p a = true) : firstF p (f + 1) a = some a := by unfold firstF; rw [if_pos h]
theorem firstF_no {p : Nat → Bool} {f a : Nat} (h : p a = false) : firstF p (f + 1) a = firstF p f (a + 1) := by rw [firstF, if_neg (by simp [h])]
theorem nmB_at {js : List GJ} {s : ByteArray} {k : Nat} {x : GJ} (h : js[k]? = some x) : nmB js s k = decide (x.j.nm = s) := by unfold nmB; rw [h]
theorem idxN_lt {js : List GJ} {s : ByteArray} {k : Nat} (h : idxN js s = some k) : k < js.length := by have := firstF_some h; omega
theorem ext_i64 {w w' : World} {A : Option Addr} {l : List Int} (h : Rd .i64 w A l) (hb : Below w.heap.size w w') : Rd .i64 w' A l := h.below hb
end Go.Proofs.Ytohiioafdajhmaa.Gp
