/-
  What operations on timers return, in plain words: the timers are a list in any order.
-/
import Derived.Test.YtbhakpkdkeacmaaTqMath
namespace Go.Proofs.Ytbhakpkdkeacmaa.Tq
open Go.Maps

structure TOp where
  kind : Int
  id : Int
  time : Int
structure Rep where
  code : Int
  fired : List Int
  time : Int

/-- No two timers have one ID. -/
def Nd (l : List Tm) : Prop := (l.map (·.1)).Nodup
def rem (l : List Tm) (x : Int) : List Tm := l.filter (fun t => t.1 != x)
def mem (l : List Tm) (x : Int) : Bool := l.any (fun t => t.1 == x)
def ins (t : Tm) : List Tm → List Tm
  | [] => [t]
  | u :: r => if tlt t u then t :: u :: r else u :: ins t r
/-- In order. -/
def ord (l : List Tm) : List Tm := l.foldr ins []
def due (l : List Tm) (now : Int) : List Tm := l.filter (fun t => decide (t.2 ≤ now))
def notDue (l : List Tm) (now : Int) : List Tm := l.filter (fun t => !decide (t.2 ≤ now))

def stepL (l : List Tm) (now : Int) (o : TOp) : List Tm :=
  if o.kind = 1 then (if o.id < 0 then l else if mem l o.id then rem l o.id ++ [(o.id, o.time)] else if 256 ≤ l.length then l else l ++ [(o.id, o.time)])
  else if o.kind = 2 then rem l o.id
  else if o.kind = 3 then notDue l (max now o.time)
  else l
def stepN (now : Int) (o : TOp) : Int := if o.kind = 3 then max now o.time else now
def stepR (l : List Tm) (now : Int) (o : TOp) : Rep :=
  if o.kind = 1 then (if o.id < 0 then ⟨2, [], 0⟩ else if mem l o.id then ⟨0, [], 0⟩ else if 256 ≤ l.length then ⟨1, [], 0⟩ else ⟨0, [], 0⟩)
  else if o.kind = 2 then (if mem l o.id then ⟨0, [], 0⟩ else ⟨4, [], 0⟩)
  else if o.kind = 3 then ⟨0, (ord (due l (max now o.time))).map (·.1), max now o.time⟩
  else if o.kind = 4 then (match ord l with | [] => ⟨4, [], 0⟩ | m :: _ => ⟨0, [m.1], m.2⟩)
  else ⟨3, [], 0⟩
/-- The replies. -/
def play : List Tm → Int → List TOp → List Rep
  | _, _, [] => []
  | l, now, o :: r => stepR l now o :: play (stepL l now o) (stepN now o) r

/-! ### lists in order -/
def Sorted (l : List Tm) : Prop := l.Pairwise tle
theorem ins_perm (t : Tm) : ∀ l, (ins t l).Perm (t :: l)
  | [] => List.Perm.refl _
  | u :: r => by
    unfold ins; split
    · exact List.Perm.refl _
    · exact ((ins_perm t r).cons u).trans (List.Perm.swap _ _ _)
theorem ord_perm (l : List Tm) : (ord l).Perm l := by
  induction l with
  | nil => exact List.Perm.refl _
  | cons t r ih => exact (ins_perm t _).trans (ih.cons t)
theorem ins_sorted (t : Tm) : ∀ l, Sorted l → Sorted (ins t l)
  | [], _ => List.pairwise_singleton _ _
  | u :: r, h => by
    unfold ins
    have hu := List.pairwise_cons.1 h
    by_cases e : tlt t u = true
    · rw [if_pos e]
      refine List.pairwise_cons.2 ⟨fun x hx => ?_, h⟩
      rcases List.mem_cons.1 hx with rfl | hx
      · exact tle_of_tlt e
      · exact tle_trans (tle_of_tlt e) (hu.1 x hx)
    · rw [if_neg e]
      refine List.pairwise_cons.2 ⟨fun x hx => ?_, ins_sorted t r hu.2⟩
      rcases List.mem_cons.1 ((ins_perm t r).mem_iff.1 hx) with rfl | hx
      · exact tle_of_not (by simpa using e)
      · exact hu.1 x hx
theorem ord_sorted (l : List Tm) : Sorted (ord l) := by
  induction l with
  | nil => exact List.Pairwise.nil
  | cons t r ih => exact ins_sorted t _ ih
theorem sorted_unique : ∀ {a b : List Tm}, Sorted a → Sorted b → a.Perm b → a = b
  | [], b, _, _, hp => (List.Perm.nil_eq hp)
  | x :: r, [], _, _, hp => by have := hp.length_eq; simp at this
  | x :: r, y :: s, ha, hb, hp => by
    have h1 := List.pairwise_cons.1 ha
    have h2 := List.pairwise_cons.1 hb
    have exy : x = y := by
      have hx : x ∈ y :: s := hp.mem_iff.1 (List.mem_cons_self)
      have hy : y ∈ x :: r := hp.mem_iff.2 (List.mem_cons_self)
      rcases List.mem_cons.1 hx with e | hx
      · exact e
      · rcases List.mem_cons.1 hy with e | hy
        · exact e.symm
        · exact tle_antisymm (h1.1 y hy) (h2.1 x hx)
    subst exy
    rw [sorted_unique h1.2 h2.2 (List.perm_cons x |>.1 hp)]
theorem ord_eq {a l : List Tm} (h : Sorted a) (hp : a.Perm l) : ord l = a := sorted_unique (ord_sorted l) h ((ord_perm l).trans hp.symm)
theorem ord_congr {a b : List Tm} (hp : a.Perm b) : ord a = ord b := ord_eq (ord_sorted b) ((ord_perm b).trans hp.symm)

theorem Nd.perm {a b : List Tm} (h : Nd a) (hp : a.Perm b) : Nd b := (hp.map _).nodup_iff.1 h
theorem mem_perm {a b : List Tm} (hp : a.Perm b) (x : Int) : mem a x = mem b x := by
  rw [Bool.eq_iff_iff]
  unfold mem
  simp only [List.any_eq_true]
  exact ⟨fun ⟨t, ht, e⟩ => ⟨t, hp.mem_iff.1 ht, e⟩, fun ⟨t, ht, e⟩ => ⟨t, hp.mem_iff.2 ht, e⟩⟩
theorem mem_iff {l : List Tm} {x : Int} : mem l x = true ↔ ∃ t ∈ l, t.1 = x := by unfold mem; simp
theorem mem_false {l : List Tm} {x : Int} : mem l x = false ↔ ∀ t ∈ l, t.1 ≠ x := by unfold mem; simp
theorem rem_away {l : List Tm} {x : Int} (h : mem l x = false) : rem l x = l := by
  unfold rem
  rw [List.filter_eq_self]
  intro t ht
  simpa using mem_false.1 h t ht
/-- One timer taken out. -/
theorem rem_perm {l r : List Tm} {a : Tm} (hn : Nd l) (hp : l.Perm (a :: r)) : (rem l a.1).Perm r := by
  have h1 : (rem l a.1).Perm (rem (a :: r) a.1) := hp.filter _
  have h2 : Nd (a :: r) := hn.perm hp
  have h3 : mem r a.1 = false := by
    rw [mem_false]
    intro t ht e
    have : a.1 ∉ r.map (·.1) := (List.nodup_cons.1 h2).1
    exact this (by rw [← e]; exact List.mem_map_of_mem ht)
  have h4 : rem (a :: r) a.1 = r := by
    unfold rem
    rw [List.filter_cons]
    simp
    intro t u ht
    exact fun e => mem_false.1 h3 (t, u) ht e
  rw [h4] at h1
  exact h1
/-- What is fired: taken out one after the other, each time the first one. -/
theorem fire_all {l out rest : List Tm} {now : Int} (hp : (out ++ rest).Perm l) (hs : Sorted out) (hd : ∀ t ∈ out, t.2 ≤ now) (hr : ∀ t ∈ rest, ¬ t.2 ≤ now) :
    ord (due l now) = out ∧ rest.Perm (notDue l now) := by
  constructor
  · refine ord_eq hs ?_
    have h1 : (due (out ++ rest) now).Perm (due l now) := hp.filter _
    have h2 : due (out ++ rest) now = out := by
      unfold due
      rw [List.filter_append, List.filter_eq_self.2 (fun t ht => by simpa using hd t ht), List.filter_eq_nil_iff.2 (fun t ht => by simpa using hr t ht), List.append_nil]
    rw [h2] at h1
    exact h1
  · have h1 : (notDue (out ++ rest) now).Perm (notDue l now) := hp.filter _
    have h2 : notDue (out ++ rest) now = rest := by
      unfold notDue
      rw [List.filter_append, List.filter_eq_nil_iff.2 (fun t ht => by simpa using hd t ht), List.filter_eq_self.2 (fun t ht => by simpa using hr t ht), List.nil_append]
    rw [h2] at h1
    exact h1
/-- The first one of a list. -/
theorem ord_first {l : List Tm} {m : Tm} (hm : m ∈ l) (h : ∀ t ∈ l, tle m t) : ∃ r, ord l = m :: r := by
  have hp := ord_perm l
  have hs := ord_sorted l
  cases e : ord l with
  | nil => rw [e] at hp; rw [List.nil_perm.1 hp] at hm; simp at hm
  | cons x r =>
    rw [e] at hp hs
    have hx : x ∈ l := hp.mem_iff.1 List.mem_cons_self
    have hmx : tle x m := by
      rcases List.mem_cons.1 (hp.mem_iff.2 hm) with rfl | hm'
      · exact tle_refl _
      · exact (List.pairwise_cons.1 hs).1 m hm'
    exact ⟨r, by rw [tle_antisymm (h x hx) hmx]⟩
theorem Placed.nd {ts : List Tm} {D : DataW Unit} (h : Placed ts D) : Nd ts := by
  unfold Nd List.Nodup
  rw [List.pairwise_iff_getElem]
  intro i j hi hj hij e
  rw [List.length_map] at hi hj
  rw [List.getElem_map, List.getElem_map] at e
  have := h.inj (List.getElem?_eq_getElem hi) (List.getElem?_eq_getElem hj) e
  omega
theorem play_length (l : List Tm) (now : Int) (os : List TOp) : (play l now os).length = os.length := by
  induction os generalizing l now with
  | nil => rfl
  | cons o r ih => simp [play, ih]
end Go.Proofs.Ytbhakpkdkeacmaa.Tq
