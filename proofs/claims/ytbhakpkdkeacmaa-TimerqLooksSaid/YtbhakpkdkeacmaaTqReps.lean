/-
  Operations and replies in memory.
-/
import Derived.Test.YtbhakpkdkeacmaaTqCarry
namespace Go.Proofs.Ytbhakpkdkeacmaa.Tq
open Go.RowKit Go.Maps

/-- A slice of operations as it is read: nil, or n times three cells from some place on, below block B. -/
structure OpsAt (w : World) (B : Nat) (A : Option Addr) (n : Nat) (os : List TOp) : Prop where
  len : os.length = n
  wf : ∀ o ∈ os, OpWf o
  at_ : 0 < n → ∃ b off, A = some ⟨b, off, none⟩ ∧ b < B ∧ ∀ k o, os[k]? = some o →
    w.cell? ⟨b, off + k * 3, none⟩ = some (.int .i64 o.kind) ∧ w.cell? ⟨b, off + k * 3 + 1, none⟩ = some (.int .i64 o.id) ∧ w.cell? ⟨b, off + k * 3 + 2, none⟩ = some (.int .u64 o.time)
theorem OpsAt.below {w w' : World} {B : Nat} {A : Option Addr} {n : Nat} {os : List TOp} (h : OpsAt w B A n os) (hb : Below B w w') : OpsAt w' B A n os :=
  ⟨h.len, h.wf, fun hn => by
    obtain ⟨b, off, h1, h2, h3⟩ := h.at_ hn
    refine ⟨b, off, h1, h2, fun k o hk => ?_⟩
    obtain ⟨a, b', c⟩ := h3 k o hk
    exact ⟨(hb.cell (p := ⟨b, _, none⟩) h2).trans a, (hb.cell (p := ⟨b, _, none⟩) h2).trans b', (hb.cell (p := ⟨b, _, none⟩) h2).trans c⟩⟩
theorem OpsAt.mono {w : World} {B B' : Nat} {A : Option Addr} {n : Nat} {os : List TOp} (h : OpsAt w B A n os) (hB : B ≤ B') : OpsAt w B' A n os :=
  ⟨h.len, h.wf, fun hn => by obtain ⟨b, off, h1, h2, h3⟩ := h.at_ hn; exact ⟨b, off, h1, by omega, h3⟩⟩

/-- The cells of operations. -/
def flatO : List TOp → List Value
  | [] => []
  | o :: r => .int .i64 o.kind :: .int .i64 o.id :: .int .u64 o.time :: flatO r
theorem flatO_length : ∀ os : List TOp, (flatO os).length = os.length * 3
  | [] => rfl
  | _ :: r => by simp [flatO, flatO_length r]; omega
theorem flatO_append : ∀ (a b : List TOp), flatO (a ++ b) = flatO a ++ flatO b
  | [], _ => rfl
  | x :: r, b => by simp [flatO, flatO_append r b]
theorem flatO_at : ∀ (os : List TOp) (k : Nat) (o : TOp), os[k]? = some o → (flatO os)[k * 3]? = some (.int .i64 o.kind) ∧ (flatO os)[k * 3 + 1]? = some (.int .i64 o.id) ∧ (flatO os)[k * 3 + 2]? = some (.int .u64 o.time)
  | [], k, o, h => by simp at h
  | x :: r, 0, o, h => by simp at h; subst h; simp [flatO]
  | x :: r, k + 1, o, h => by
    have h' : r[k]? = some o := by simpa using h
    have := flatO_at r k o h'
    rw [show (k + 1) * 3 = k * 3 + 3 by omega, show k * 3 + 3 + 1 = (k * 3 + 1) + 3 by omega, show k * 3 + 3 + 2 = (k * 3 + 2) + 3 by omega]
    simpa [flatO] using this
theorem flatO_one (os : List TOp) : ∀ u ∈ flatO os, u.oneCell' = true := by
  induction os with
  | nil => intro u h; simp [flatO] at h
  | cons x r ih =>
    intro u h
    simp [flatO] at h
    rcases h with rfl | rfl | rfl | h
    · rfl
    · rfl
    · rfl
    · exact ih u h
/-- Operations in a row of the call's own. -/
def OpsOwn (w : World) (B : Nat) (v : Value) (os : List TOp) : Prop := w.ownsRow B 33 3 v os.length (flatO os) ∧ ∀ o ∈ os, OpWf o
theorem OpsOwn.read {w : World} {B : Nat} {v : Value} {os : List TOp} (h : OpsOwn w B v os) : ∃ A c, v = .slice A os.length c ∧ OpsAt w w.heap.size A os.length os := by
  rcases h.1.2 with ⟨hv, h0⟩ | ⟨g, cap, cur, hv, hb, hg, _⟩
  · exact ⟨none, 0, by rw [hv, h0], rfl, h.2, fun hn => by omega⟩
  · refine ⟨_, cap, hv, rfl, h.2, fun _ => ⟨g, 0, rfl, heap_lt hg, fun k o hk => ?_⟩⟩
    have hkl : k < os.length := (List.getElem?_eq_some_iff.1 hk).1
    obtain ⟨a, b, c⟩ := flatO_at os k o hk
    have hw := h.1
    rw [hv] at hw
    simp only [Nat.zero_add]
    rw [hw.cellAt _ (by omega), hw.cellAt _ (by omega), hw.cellAt _ (by omega)]
    exact ⟨a, b, c⟩

/-! ### replies -/
def flatR : List Rep → List Value → List Value
  | r :: rs, f :: fs => .int .i64 r.code :: f :: .int .u64 r.time :: flatR rs fs
  | _, _ => []
theorem flatR_snoc : ∀ (rs : List Rep) (fs : List Value) (r : Rep) (f : Value), fs.length = rs.length → flatR (rs ++ [r]) (fs ++ [f]) = flatR rs fs ++ [.int .i64 r.code, f, .int .u64 r.time]
  | [], [], _, _, _ => rfl
  | [], _ :: _, _, _, h => by simp at h
  | _ :: _, [], _, _, h => by simp at h
  | x :: rs, y :: fs, r, f, h => by
    simp at h
    simp [flatR, flatR_snoc rs fs r f h]
theorem flatR_at : ∀ (rs : List Rep) (fs : List Value) (k : Nat) (r : Rep) (f : Value), rs[k]? = some r → fs[k]? = some f → (flatR rs fs)[k * 3]? = some (.int .i64 r.code) ∧ (flatR rs fs)[k * 3 + 1]? = some f ∧ (flatR rs fs)[k * 3 + 2]? = some (.int .u64 r.time)
  | [], _, k, r, f, h, _ => by simp at h
  | _ :: _, [], k, r, f, _, h => by simp at h
  | x :: rs, y :: fs, 0, r, f, h, g => by simp at h g; subst h; subst g; simp [flatR]
  | x :: rs, y :: fs, k + 1, r, f, h, g => by
    have h' : rs[k]? = some r := by simpa using h
    have g' : fs[k]? = some f := by simpa using g
    have := flatR_at rs fs k r f h' g'
    rw [show (k + 1) * 3 = k * 3 + 3 by omega, show k * 3 + 3 + 1 = (k * 3 + 1) + 3 by omega, show k * 3 + 3 + 2 = (k * 3 + 2) + 3 by omega]
    simpa [flatR] using this
/-- The row of a reply's Fired. -/
abbrev FiredAt (w : World) (B : Nat) (f : Value) (l : List Int) : Prop := w.ownsRow B 3 1 f l.length (l.map (Value.int .i64))
/-- Replies in a row of the call's own; fs: what lies in their field Fired. -/
structure RepsF (w : World) (B : Nat) (v : Value) (rs : List Rep) (fs : List Value) : Prop where
  len : fs.length = rs.length
  row : w.ownsRow B 39 3 v rs.length (flatR rs fs)
  fired : ∀ (k : Nat) (r : Rep) (f : Value), rs[k]? = some r → fs[k]? = some f → FiredAt w B f r.fired
def RepsAt (w : World) (B : Nat) (v : Value) (rs : List Rep) : Prop := ∃ fs, RepsF w B v rs fs
theorem own_below {w w' : World} {B : Nat} {e : TypeId} {size n : Nat} {v : Value} {xs : List Value} (h : w.ownsRow B e size v n xs) (hb : Below w.heap.size w w') : w'.ownsRow B e size v n xs :=
  h.kept (row := none) ⟨hb.os, hb.tape, hb.output, hb.size, fun k hk _ => hb.block k hk⟩ (by cases v.ownBlock <;> simp)
theorem RepsF.fr {w w' : World} {B B' : Nat} {v : Value} {rs : List Rep} {fs : List Value} (h : RepsF w B v rs fs) (hf : Fr B' w w') : RepsF w' B v rs fs :=
  ⟨h.len, own_fr h.row hf (by decide) (by decide), fun k r f hk hf' => own_fr (h.fired k r f hk hf') hf (by decide) (by decide)⟩
theorem RepsF.below {w w' : World} {B : Nat} {v : Value} {rs : List Rep} {fs : List Value} (h : RepsF w B v rs fs) (hb : Below w.heap.size w w') : RepsF w' B v rs fs :=
  ⟨h.len, own_below h.row hb, fun k r f hk hf' => own_below (h.fired k r f hk hf') hb⟩
theorem RepsAt.below {w w' : World} {B : Nat} {v : Value} {rs : List Rep} (h : RepsAt w B v rs) (hb : Below w.heap.size w w') : RepsAt w' B v rs := by
  obtain ⟨fs, h1⟩ := h; exact ⟨fs, h1.below hb⟩
theorem RepsAt.shape {w : World} {B : Nat} {v : Value} {rs : List Rep} (h : RepsAt w B v rs) : ∃ A c, v = .slice A rs.length c := by
  obtain ⟨fs, h1⟩ := h
  exact own_shape h1.row
/-- One reply of a row. -/
theorem RepsAt.get {w : World} {B : Nat} {A : Option Addr} {n c : Nat} {rs : List Rep} (h : RepsAt w B (.slice A n c) rs) {k : Nat} {r : Rep} (hk : rs[k]? = some r) :
    ∃ g f, A = some ⟨g, 0, none⟩ ∧ B ≤ g ∧ g < w.heap.size ∧ w.cell? ⟨g, k * 3, none⟩ = some (.int .i64 r.code) ∧ w.cell? ⟨g, k * 3 + 1, none⟩ = some f ∧ w.cell? ⟨g, k * 3 + 2, none⟩ = some (.int .u64 r.time) ∧ FiredAt w B f r.fired := by
  obtain ⟨fs, h1, h2, h3⟩ := h
  have hkl : k < rs.length := (List.getElem?_eq_some_iff.1 hk).1
  have hf : fs[k]? = some (fs[k]'(by omega)) := List.getElem?_eq_getElem (by omega)
  obtain ⟨g, cap, hv, hb, hg⟩ := h2.form (by omega)
  obtain ⟨a, b, d⟩ := flatR_at rs fs k r _ hk hf
  simp only [Value.slice.injEq] at hv
  obtain ⟨rfl, rfl, rfl⟩ := hv
  exact ⟨g, _, rfl, hb, hg, (h2.cellAt _ (by omega)).trans a, (h2.cellAt _ (by omega)).trans b, (h2.cellAt _ (by omega)).trans d, h3 k r _ hk hf⟩
/-- Behind the append of a reply. -/
theorem RepsF.snoc {w w' : World} {B : Nat} {v v' : Value} {rs : List Rep} {fs : List Value} {r : Rep} {f : Value} (h : RepsF w B v rs fs) (hf : FiredAt w B f r.fired) (hg : w.grownBy w' v.ownBlock)
    (hown : w'.ownsRow B 39 3 v' (rs.length + 1) (flatR rs fs ++ [.int .i64 r.code, f, .int .u64 r.time])) : RepsF w' B v' (rs ++ [r]) (fs ++ [f]) := by
  have h1 := h.len
  have keep : ∀ f' l, FiredAt w B f' l → FiredAt w' B f' l := by
    intro f' l hf'
    refine hf'.kept hg ?_
    cases hvb : f'.ownBlock with
    | none => exact .inl rfl
    | some k =>
      right
      intro e
      obtain ⟨_, cur, hk⟩ := own_type hf' k hvb
      obtain ⟨_, cur', hk'⟩ := own_type h.row k e.symm
      rw [hk] at hk'; injection hk' with hk'; injection hk' with _ e'; simp at e'
  refine ⟨by simp [h1], by rw [List.length_append, flatR_snoc rs fs r f h1]; exact hown, fun k r' f' hk hf' => ?_⟩
  by_cases e : k < rs.length
  · rw [List.getElem?_append_left e] at hk
    rw [List.getElem?_append_left (by omega)] at hf'
    exact keep _ _ (h.fired k r' f' hk hf')
  · have hkl : k < (rs ++ [r]).length := (List.getElem?_eq_some_iff.1 hk).1
    have e2 : k = rs.length := by simp at hkl; omega
    subst e2
    simp at hk
    rw [← h1] at hf'
    simp at hf'
    subst hk; subst hf'
    exact keep _ _ hf
theorem news_three (w : World) (x y z : Value) (t : TypeId) : ∀ j u, [x, y, z][j]? = some u → (w.alloc (.cells #[x, y, z] t)).cell? ((⟨w.heap.size, 0, none⟩ : Addr).add j) = some u := by
  intro j u hu
  have h := heap_alloc_new w (.cells #[x, y, z] t)
  match j, hu with
  | 0, hu => exact (cell_of_row _ _ 0 _ _ _ h).trans (by simpa using hu)
  | 1, hu => exact (cell_of_row _ _ 1 _ _ _ h).trans (by simpa using hu)
  | 2, hu => exact (cell_of_row _ _ 2 _ _ _ h).trans (by simpa using hu)
theorem Try.info39 : (Try.prog.info? 39).map (fun i => (i.zero, i.size, i.bytes)) = some (some (.agg #[.int .i64 0, .slice none 0 0, .int .u64 0]), 3, 40) := by kernel_rfl

/-- The state of the timers behind operations. -/
def runL : List Tm → Int → List TOp → List Tm
  | l, _, [] => l
  | l, now, o :: r => runL (stepL l now o) (stepN now o) r
def runN : Int → List TOp → Int
  | now, [] => now
  | now, o :: r => runN (stepN now o) r
theorem play_snoc (l : List Tm) (now : Int) (os : List TOp) (o : TOp) : play l now (os ++ [o]) = play l now os ++ [stepR (runL l now os) (runN now os) o] := by
  induction os generalizing l now with
  | nil => rfl
  | cons x r ih => simp [play, runL, runN, ih]
theorem runL_snoc (l : List Tm) (now : Int) (os : List TOp) (o : TOp) : runL l now (os ++ [o]) = stepL (runL l now os) (runN now os) o := by
  induction os generalizing l now with
  | nil => rfl
  | cons x r ih => simp [runL, runN, ih]
theorem runN_snoc (now : Int) (os : List TOp) (o : TOp) : runN now (os ++ [o]) = stepN (runN now os) o := by
  induction os generalizing now with
  | nil => rfl
  | cons x r ih => simp [runN, ih]
theorem take_snoc' {α : Type} {l : List α} {k : Nat} {x : α} (h : l[k]? = some x) : l.take (k + 1) = l.take k ++ [x] := by
  rw [List.take_add_one, h]; rfl
end Go.Proofs.Ytbhakpkdkeacmaa.Tq
