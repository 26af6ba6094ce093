/-
  The plain mathematics of TimerqLooks: a look before each operation changes nothing, and names what fires first.
-/
import Derived.Test.YtbhakpkdkeacmaaTqOnceMem
namespace Go.Proofs.Ytbhakpkdkeacmaa.Tq
open Go.Maps Go.RowKit

def nx : TOp := ⟨4, 0, 0⟩
def inter : List TOp → List TOp
  | [] => []
  | o :: r => nx :: o :: inter r
theorem inter_length : ∀ ps : List TOp, (inter ps).length = 2 * ps.length
  | [] => rfl
  | _ :: r => by simp [inter, inter_length r]; omega
theorem inter_snoc : ∀ (ps : List TOp) (o : TOp), inter (ps ++ [o]) = inter ps ++ [nx, o]
  | [], _ => rfl
  | x :: r, o => by simp [inter, inter_snoc r o]
theorem nx_L (l : List Tm) (now : Int) : stepL l now nx = l := by simp [stepL, nx]
theorem nx_N (now : Int) : stepN now nx = now := by simp [stepN, nx]
theorem inter_at (l : List Tm) (now : Int) : ∀ (ps : List TOp) (k : Nat) (o : TOp), ps[k]? = some o →
    (play l now (inter ps))[2 * k]? = some (stepR (runL l now (ps.take k)) (runN now (ps.take k)) nx) ∧ (play l now (inter ps))[2 * k + 1]? = some (stepR (runL l now (ps.take k)) (runN now (ps.take k)) o) := by
  intro ps
  induction ps generalizing l now with
  | nil => intro k o h; simp at h
  | cons x ps ih =>
    intro k o h
    cases k with
    | zero => simp at h; subst h; exact ⟨rfl, by simp [inter, play, nx_L, nx_N, runL, runN]⟩
    | succ k =>
      have h' : ps[k]? = some o := by simpa using h
      have := ih (stepL l now x) (stepN now x) k o h'
      rw [show 2 * (k + 1) = 2 * k + 2 by omega, show 2 * k + 2 + 1 = (2 * k + 1) + 2 by omega]
      simpa [inter, play, nx_L, nx_N, runL, runN] using this
theorem ord_parts (l : List Tm) (M : Int) : ord l = ord (due l M) ++ ord (notDue l M) := by
  refine ord_eq ?_ ?_
  · unfold Sorted
    rw [List.pairwise_append]
    refine ⟨ord_sorted _, ord_sorted _, fun x hx y hy => ?_⟩
    have hx' := (ord_perm _).mem_iff.1 hx
    have hy' := (ord_perm _).mem_iff.1 hy
    unfold due at hx'
    unfold notDue at hy'
    simp at hx' hy'
    rw [tle_iff]
    omega
  · refine ((ord_perm _).append (ord_perm _)).trans ?_
    exact List.filter_append_perm _ _
/-- What fires first was named by the look. -/
theorem look_first {l : List Tm} {now : Int} {o : TOp} (h4 : o.kind ≠ 4) {m : Int} {r : List Int} (hf : (stepR l now o).fired = m :: r) :
    ∃ t, stepR l now nx = ⟨0, [m], t⟩ ∧ t ≤ (stepR l now o).time := by
  by_cases h3 : o.kind = 3
  · have e : stepR l now o = ⟨0, (ord (due l (max now o.time))).map (·.1), max now o.time⟩ := by simp [stepR, h3]
    rw [e] at hf ⊢
    have hp := ord_parts l (max now o.time)
    cases hd : ord (due l (max now o.time)) with
    | nil => rw [hd] at hf; simp at hf
    | cons a s =>
      rw [hd] at hf hp
      simp at hf
      have ha : a ∈ due l (max now o.time) := (ord_perm _).mem_iff.1 (by rw [hd]; simp)
      refine ⟨a.2, ?_, ?_⟩
      · simp [stepR, nx, hp, hf.1]
      · unfold due at ha
        have := (List.mem_filter.1 ha).2
        simpa using this
  · exfalso
    have : (stepR l now o).fired = [] := by
      unfold stepR
      split
      · split
        · rfl
        · split
          · rfl
          · split <;> rfl
      · split
        · split <;> rfl
        · first
          | rfl
          | (rw [if_neg h3, if_neg h4])
          | (split <;> first | rfl | contradiction)
    rw [this] at hf; cases hf

/-- Two scripts that grow side by side, in rows of their own. -/
structure Two (w2 w : World) (B : Nat) (vp : Value) (ps : List TOp) (vq : Value) (qs : List TOp) : Prop where
  p : OpsOwn w B vp ps
  q : OpsOwn w B vq qs
  sep : Sep vq vp
  bel : Below B w2 w
section
variable {w2 w w' : World} {B : Nat} {vp vq v' : Value} {ps qs : List TOp}
theorem Two.step (h : Two w2 w B vp ps vq qs) (hb : Below w.heap.size w w') (hB : B ≤ w.heap.size) : Two w2 w' B vp ps vq qs :=
  ⟨h.p.below hb, h.q.below hb, h.sep, h.bel.trans (hb.mono hB)⟩
theorem Two.appP {o : TOp} (h : Two w2 w B vp ps vq qs) (hB : B ≤ w.heap.size) (ho : OpWf o) (hr : w'.ownsRow B 33 3 v' (ps.length + 1) (flatO ps ++ [.int .i64 o.kind, .int .i64 o.id, .int .u64 o.time]))
    (hg : w.grownBy w' vp.ownBlock) (ha : v'.ownBlock = vp.ownBlock ∨ ∃ k, v'.ownBlock = some k ∧ w.heap.size ≤ k) : Two w2 w' B v' (ps ++ [o]) vq qs :=
  ⟨OpsOwn.snoc h.p.2 ho hr, h.q.kept hg h.sep, h.sep.step h.q.1 ha, h.bel.grown hg hB (fun j e => (own_type h.p.1 j e).1)⟩
theorem Two.appQ {o o2 : TOp} (h : Two w2 w B vp ps vq qs) (hB : B ≤ w.heap.size) (ho : OpWf o) (ho2 : OpWf o2) (hr : w'.ownsRow B 33 3 v' (qs.length + 2) (flatO qs ++ [.int .i64 o.kind, .int .i64 o.id, .int .u64 o.time, .int .i64 o2.kind, .int .i64 o2.id, .int .u64 o2.time]))
    (hg : w.grownBy w' vq.ownBlock) (ha : v'.ownBlock = vq.ownBlock ∨ ∃ k, v'.ownBlock = some k ∧ w.heap.size ≤ k) : Two w2 w' B vp ps v' (qs ++ [o, o2]) := by
  refine ⟨h.p.kept hg h.sep.symm, ⟨?_, fun x hx => ?_⟩, (h.sep.symm.step h.p.1 ha).symm, h.bel.grown hg hB (fun j e => (own_type h.q.1 j e).1)⟩
  · rw [List.length_append, flatO_append]; exact hr
  · rcases List.mem_append.1 hx with hx | hx
    · exact h.q.2 x hx
    · simp at hx
      rcases hx with rfl | rfl
      · exact ho
      · exact ho2
end
theorem news_six (w : World) (a b c d e f : Value) (t : TypeId) : ∀ j u, [a, b, c, d, e, f][j]? = some u → (w.alloc (.cells #[a, b, c, d, e, f] t)).cell? ((⟨w.heap.size, 0, none⟩ : Addr).add j) = some u := by
  intro j u hu
  have h := heap_alloc_new w (.cells #[a, b, c, d, e, f] t)
  match j, hu with
  | 0, hu => exact (cell_of_row _ _ 0 _ _ _ h).trans (by simpa using hu)
  | 1, hu => exact (cell_of_row _ _ 1 _ _ _ h).trans (by simpa using hu)
  | 2, hu => exact (cell_of_row _ _ 2 _ _ _ h).trans (by simpa using hu)
  | 3, hu => exact (cell_of_row _ _ 3 _ _ _ h).trans (by simpa using hu)
  | 4, hu => exact (cell_of_row _ _ 4 _ _ _ h).trans (by simpa using hu)
  | 5, hu => exact (cell_of_row _ _ 5 _ _ _ h).trans (by simpa using hu)
theorem news_at6 {W : World} {s : Nat} (hs : W.heap.size = s) (a b c d e f : Value) (t : TypeId) : ∀ j u, [a, b, c, d, e, f][j]? = some u → (W.alloc (.cells #[a, b, c, d, e, f] t)).cell? ((⟨s, 0, none⟩ : Addr).add j) = some u := by
  subst hs; exact news_six W a b c d e f t
theorem app_at {v : Value} {g H n c : Nat} {sz : Nat} (h : v.ownBlock = some g ∨ g = H) (_ : n = n) (hs : sz ≤ H) : (Value.slice (some ⟨g, 0, none⟩) n c).ownBlock = v.ownBlock ∨ ∃ k, (Value.slice (some ⟨g, 0, none⟩) n c).ownBlock = some k ∧ sz ≤ k := by
  rcases h with h | h
  · exact .inl (by rw [h]; rfl)
  · exact .inr ⟨g, rfl, by omega⟩
theorem news_step {w w' : World} {ad : Addr} {xs : List Value} (h : ∀ j u, xs[j]? = some u → w.cell? (ad.add j) = some u) (hk : ∀ p u, w.cell? p = some u → w'.cell? p = some u) : ∀ j u, xs[j]? = some u → w'.cell? (ad.add j) = some u :=
  fun j u hu => hk _ _ (h j u hu)
theorem alloc_keeps {w : World} {o : Obj} {p : Addr} {u : Value} (h : w.cell? p = some u) : (w.alloc o).cell? p = some u :=
  (((Below.refl w.heap.size w).alloc (Nat.le_refl _) o).cell (World.block_lt_of_cell? w _ h)).trans h
theorem grown_keeps {w w' : World} {ad : Addr} {row : Option Nat} {xs : List Value} (hg : w.grownBy w' row) (hne : some ad.block ≠ row) (h : ∀ j u, xs[j]? = some u → w.cell? (ad.add j) = some u) : ∀ j u, xs[j]? = some u → w'.cell? (ad.add j) = some u := by
  intro j u hu
  have h1 := h j u hu
  have hl := World.block_lt_of_cell? w _ h1
  have hb : (ad.add j).block = ad.block := by unfold Addr.add; split <;> rfl
  exact (World.cell?_of_block (hg.block _ hl (by rw [hb]; exact hne))).trans h1
theorem RepsAt.cap {w : World} {B : Nat} {A : Option Addr} {n c : Nat} {rs : List Rep} (h : RepsAt w B (.slice A n c) rs) (hn : 0 < rs.length) : rs.length ≤ c ∧ c ≤ maxLen := by
  obtain ⟨fs, h1, h2, _⟩ := h
  rcases h2.2 with ⟨hv, h0⟩ | ⟨g, cap, cur, hv, hb, hg, hle, hm, _⟩
  · omega
  · simp only [Value.slice.injEq] at hv
    obtain ⟨_, _, rfl⟩ := hv
    exact ⟨hle, hm⟩
theorem RepsAt.one {w : World} {B g n c : Nat} {rs : List Rep} (h : RepsAt w B (.slice (some ⟨g, 0, none⟩) n c) rs) {k : Nat} {r : Rep} (hk : rs[k]? = some r) (hl : r.fired.length ≤ 1000) : RepsRd w (some ⟨g, k * 3, none⟩) 1 [r] := by
  refine ⟨rfl, fun x hx => by simp at hx; subst hx; exact hl, fun _ => ⟨g, k * 3, rfl, fun j x hx => ?_⟩⟩
  have hj : j = 0 := by have := (List.getElem?_eq_some_iff.1 hx).1; simp at this; omega
  subst hj
  simp at hx
  subst hx
  obtain ⟨g', f', hA', _, _, c0, c1, c2, hf⟩ := h.get hk
  obtain rfl : g = g' := by simpa using hA'
  obtain ⟨Af, cf, rfl, hr⟩ := FiredAt.rd hf
  exact ⟨Af, cf, by simpa using c0, by simpa using c1, by simpa using c2, hr⟩
end Go.Proofs.Ytbhakpkdkeacmaa.Tq
