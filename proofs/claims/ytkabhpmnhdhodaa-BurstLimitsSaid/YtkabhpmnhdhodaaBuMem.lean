/-
  Times in memory: as they are read, and as the call's own, from some place of a block on.
-/
import Derived.Test.YtkabhpmnhdhodaaProg
import Derived.Test.YtkabhpmnhdhodaaBuMath
import Derived.WalkKit
import Derived.WalkLawsBesides
import Derived.WalkSpells
import Derived.Below
import Derived.Lib.Hide
import Derived.Outline
import Derived.ArgAppend
import Derived.Deep.AppendLies
import Derived.Deep.Draws
import Derived.Deep.LoopGhost
import Derived.Deep.QuietTactic
import Derived.BigQuiet
namespace Go.Proofs.Ytkabhpmnhdhodaa.Bu
open Go.RowKit

theorem Try.info23 : (Try.prog.info? 23).map (fun i => (i.zero, i.size, i.bytes)) = some (some (.int .u64 0), 1, 8) := by kernel_rfl
theorem Try.info4 : (Try.prog.info? 4).map (fun i => (i.zero, i.size, i.bytes)) = some (some (.bool false), 1, 1) := by kernel_rfl

theorem heap_lt {w : World} {k : Nat} {o : Obj} (h : w.heap[k]? = some o) : k < w.heap.size := (Array.getElem?_eq_some_iff.1 h).1

/-- Numbers as they are read. -/
def Rd (w : World) (A : Option Addr) (n : Nat) (l : List Int) : Prop :=
  l.length = n ∧ (0 < n → ∃ g off, A = some ⟨g, off, none⟩ ∧ ∀ k x, l[k]? = some x → w.cell? ⟨g, off + k, none⟩ = some (.int .u64 x))
theorem Rd.below {w w' : World} {A : Option Addr} {n : Nat} {l : List Int} (h : Rd w A n l) (hb : Below w.heap.size w w') : Rd w' A n l :=
  ⟨h.1, fun hn => by obtain ⟨g, off, hA, hk⟩ := h.2 hn; exact ⟨g, off, hA, fun k x hx => (hb.cell (World.block_lt_of_cell? w _ (hk k x hx))).trans (hk k x hx)⟩⟩
theorem Rd.drewN {w : World} {A : Option Addr} {n : Nat} {l : List Int} (h : Rd w A n l) (m : Nat) : Rd (w.drewN m) A n l := h
theorem below_drewN (w : World) (m : Nat) : Below w.heap.size w (w.drewN m) := ⟨rfl, rfl, rfl, Nat.le_refl _, fun _ _ => rfl⟩

/-- What an operation may turn: nothing below block B; of the blocks that were there rows of other types than numbers of 64 bits stay. -/
structure Fr (B : Nat) (w w' : World) : Prop where
  bel : Below B w w'
  keep : ∀ (k : Nat) (cs : Array Value) (t : TypeId) (f : Nat × Nat), w.heap[k]? = some (.cells cs t f) → t ≠ 23 → w'.heap[k]? = some (.cells cs t f)
theorem Fr.refl (B : Nat) (w : World) : Fr B w w := ⟨Below.refl _ _, fun _ _ _ _ h _ => h⟩
theorem Fr.trans {B : Nat} {a b c : World} (h : Fr B a b) (k : Fr B b c) : Fr B a c :=
  ⟨h.bel.trans k.bel, fun i cs t f hi h1 => k.keep i cs t f (h.keep i cs t f hi h1) h1⟩
theorem Fr.of_below {B : Nat} {w w' : World} (h : Below w.heap.size w w') (hB : B ≤ w.heap.size) : Fr B w w' :=
  ⟨h.mono hB, fun k _ _ _ hk _ => (h.block k (heap_lt hk)).trans hk⟩
theorem Fr.of_grown {B : Nat} {w w' : World} {row : Option Nat} (h : w.grownBy w' row) (hB : B ≤ w.heap.size) (hr : ∀ g, row = some g → B ≤ g ∧ ∀ cs t f, w.heap[g]? = some (.cells cs t f) → t = 23) : Fr B w w' :=
  ⟨(Below.refl _ _).grown h hB fun g e => (hr g e).1, fun k cs t f hk h1 => (h.block k (heap_lt hk) (fun e => h1 ((hr k e.symm).2 cs t f hk))).trans hk⟩
theorem Fr.of_setCell {B : Nat} {w : World} {p : Addr} {u : Value} {cs : Array Value} {t : TypeId} {f : Nat × Nat} (hp : w.heap[p.block]? = some (.cells cs t f)) (hB : B ≤ p.block) (ht : t = 23) : Fr B w (w.setCell p u) :=
  ⟨(Below.refl _ _).setCell hB u, fun k cs' t' f' hk h1 => (Below.heap_setCell w p u k (fun e => by
    subst e
    rw [hp] at hk
    injection hk with hk
    injection hk with _ e2
    exact h1 (by rw [← e2, ht]))).trans hk⟩

/-- Numbers of the call's own, from some place of a block on. -/
def Seg (w : World) (B : Nat) (v : Value) (l : List Int) : Prop :=
  (v = .slice none 0 0 ∧ l = []) ∨
  ∃ (g off cap : Nat) (cur : Array Value), v = .slice (some ⟨g, off, none⟩) l.length cap ∧ B ≤ g ∧ w.heap[g]? = some (.cells cur 23 (0, 0)) ∧ l.length ≤ cap ∧ cap ≤ maxLen ∧ off + cap ≤ cur.size ∧
    ∀ k x, l[k]? = some x → cur[off + k]? = some (.int .u64 x)
theorem Seg.nil (w : World) (B : Nat) : Seg w B (.slice none 0 0) [] := .inl ⟨rfl, rfl⟩
theorem Seg.of_own {w : World} {B n : Nat} {v : Value} {l : List Int} (h : w.ownsRow B 23 1 v n (l.map (Value.int .u64))) : Seg w B v l := by
  have hl : l.length = n := by have := h.1; simpa using this
  rcases h.2 with ⟨hv, h0⟩ | ⟨g, cap, cur, hv, hb, hg, hc, hm, hs, ht⟩
  · left; exact ⟨hv, List.eq_nil_of_length_eq_zero (by omega)⟩
  · right
    refine ⟨g, 0, cap, cur, by rw [hl]; exact hv, hb, hg, by omega, hm, by omega, fun k x hk => ?_⟩
    have hkl : k < l.length := (List.getElem?_eq_some_iff.1 hk).1
    have e : (l.map (Value.int .u64))[k]? = some (.int .u64 x) := by rw [List.getElem?_map, hk]; rfl
    rw [← ht, List.getElem?_take, if_pos (by omega)] at e
    simpa using e
theorem Seg.mono {w : World} {B B' : Nat} {v : Value} {l : List Int} (h : Seg w B v l) (hB : B' ≤ B) : Seg w B' v l := by
  rcases h with h | ⟨g, off, cap, cur, h1, h2, h3⟩
  · exact .inl h
  · exact .inr ⟨g, off, cap, cur, h1, Nat.le_trans hB h2, h3⟩
theorem Seg.below {w w' : World} {B : Nat} {v : Value} {l : List Int} (h : Seg w B v l) (hb : Below w.heap.size w w') : Seg w' B v l := by
  rcases h with h | ⟨g, off, cap, cur, h1, h2, h3, h4⟩
  · exact .inl h
  · exact .inr ⟨g, off, cap, cur, h1, h2, (hb.block g (heap_lt h3)).trans h3, h4⟩
theorem Seg.drewN {w : World} {B : Nat} {v : Value} {l : List Int} (h : Seg w B v l) (m : Nat) : Seg (w.drewN m) B v l := h
theorem Seg.shape {w : World} {B : Nat} {v : Value} {l : List Int} (h : Seg w B v l) : ∃ A c, v = .slice A l.length c ∧ Rd w A l.length l := by
  rcases h with ⟨hv, h0⟩ | ⟨g, off, cap, cur, hv, _, hg, _, _, _, hc⟩
  · subst h0; exact ⟨none, 0, hv, rfl, fun hn => by simp at hn⟩
  · exact ⟨_, cap, hv, rfl, fun _ => ⟨g, off, rfl, fun k x hk => (cell_of_row w g (off + k) _ _ _ hg).trans (hc k x hk)⟩⟩
theorem Seg.form {w : World} {B : Nat} {v : Value} {l : List Int} (h : Seg w B v l) : ∃ A n c, v = .slice A n c := by
  obtain ⟨A, c, hv, _⟩ := h.shape; exact ⟨A, _, c, hv⟩
theorem Seg.le {w : World} {B : Nat} {v : Value} {l : List Int} (h : Seg w B v l) : l.length ≤ 9223372036854775807 := by
  rcases h with ⟨_, h0⟩ | ⟨g, off, cap, cur, hv, _, hg, h1, h2, _⟩
  · subst h0; simp
  · unfold maxLen at h2; omega
/-- Without the first one. -/
theorem Seg.tail {w : World} {B n c : Nat} {A : Option Addr} {x : Int} {r : List Int} (h : Seg w B (.slice A n c) (x :: r)) :
    ∃ g off, A = some ⟨g, off, none⟩ ∧ n = r.length + 1 ∧ n ≤ c ∧ w.cell? ⟨g, off, none⟩ = some (.int .u64 x) ∧ Seg w B (.slice (some (if c = 1 then ⟨g, off, none⟩ else ⟨g, off + 1, none⟩)) (n - 1) (c - 1)) r := by
  rcases h with ⟨_, h0⟩ | ⟨g, off, cap, cur, hv, hb, hg, h1, h2, h3, h4⟩
  · simp at h0
  · simp only [Value.slice.injEq, List.length_cons] at hv h1
    obtain ⟨rfl, rfl, rfl⟩ := hv
    refine ⟨g, off, rfl, rfl, h1, (cell_of_row w g off _ _ _ hg).trans (by have := h4 0 x rfl; simpa using this), ?_⟩
    right
    by_cases e : c = 1
    · rw [if_pos e]
      refine ⟨g, off, c - 1, cur, by simp, hb, hg, by omega, by omega, by omega, fun k y hk => ?_⟩
      have : k < r.length := (List.getElem?_eq_some_iff.1 hk).1
      omega
    · rw [if_neg e]
      refine ⟨g, off + 1, c - 1, cur, by simp, hb, hg, by omega, by omega, by omega, fun k y hk => ?_⟩
      have := h4 (k + 1) y (by simpa using hk)
      rw [← this]; congr 1; omega

theorem setCell_block {w : World} {g o : Nat} {u : Value} {cur : Array Value} {t : TypeId} {f : Nat × Nat} (h : w.heap[g]? = some (.cells cur t f)) : (w.setCell ⟨g, o, none⟩ u).heap[g]? = some (.cells (cur.setIfInBounds o u) t f) := by
  simp [World.setCell, Array.getElem?_modify, h]

/-- One more. -/
theorem run_append_seg {w : World} {B : Nat} {v : Value} {l : List Int} (x : Int) (h : Seg w B v l) (hl : l.length ≤ 1000000) (hB : B ≤ w.heap.size) (ty : TypeId) (ad : Addr) (c : Nat) (hx : w.cell? ad = some (.int .u64 x)) :
    ∃ v' w', (Builtin.append_ #[22, 22] ty #[v, .slice (some ad) 1 c]).run Try.prog w = .ok v' w' ∧ Seg w' B v' (l ++ [x]) ∧ Fr B w w' := by
  obtain ⟨i0, hi0, hz0, hz1, hz2⟩ := info_parts Try.info23
  have hnews : ∀ j u, [Value.int .u64 x][j]? = some u → w.cell? (ad.add j) = some u := by
    intro j u hu
    match j, hu with
    | 0, hu => rw [show ad.add 0 = ad by unfold Addr.add; split <;> simp_all]; simpa [← hu] using hx
  have hone : ∀ u ∈ [Value.int .u64 x], u.oneCell' = true := fun u hu => by simp at hu; subst hu; rfl
  rcases h with ⟨rfl, rfl⟩ | ⟨g, off, cap, cur, rfl, hb, hg, hc, hm, hs, hcells⟩
  · obtain ⟨v', w', hr, h2, h3, _⟩ := run_append_own (P := Try.prog) w B 22 ty 23 i0 (.int .u64 0) 1 8 Try.underlying22 hi0 hz0 hz1 hz2 rfl (by decide) (.slice none 0 0) 0 [] (World.ownsRow_nil w B _ 1) ad 1 c [.int .u64 x] rfl hnews hone (by unfold maxLen; omega) (by omega) hB
    exact ⟨v', w', hr, Seg.of_own (l := [x]) (by simpa using h2), Fr.of_grown h3 hB fun g e => by simp [Value.ownBlock] at e⟩
  · by_cases hroom : l.length + 1 ≤ cap
    · have hcellAt : ∀ j, j < [Value.int .u64 x].length → (w.cell? ⟨g, off + l.length * i0.size + j, none⟩).isSome = true := by
        intro j hj
        have hj0 : j = 0 := by simpa using hj
        subst hj0
        rw [hz1, cell_of_row w g _ cur _ _ hg, Array.getElem?_eq_getElem (by omega)]; rfl
      have hfz : ∀ j, j < [Value.int .u64 x].length → w.frozen? ⟨g, off + l.length * i0.size + j, none⟩ = false := fun j _ => by simp [World.frozen?, hg]
      have hr := run_append_room_cells (P := Try.prog) w 22 ty 23 i0 Try.underlying22 hi0 g off l.length cap ad 1 c [.int .u64 x] (by rw [hz1]; rfl) hnews hone hroom hcellAt hfz
      rw [hz1, Nat.mul_one] at hr
      refine ⟨_, _, hr, .inr ⟨g, off, cap, cur.setIfInBounds (off + l.length) (.int .u64 x), by simp, hb, setCell_block hg, by simpa using hroom, hm, by simpa using hs, fun k y hk => ?_⟩, Fr.of_setCell (p := ⟨g, off + l.length, none⟩) hg hb rfl⟩
      rw [Array.getElem?_setIfInBounds]
      by_cases e : k < l.length
      · rw [if_neg (by omega)]
        rw [List.getElem?_append_left e] at hk
        exact hcells k y hk
      · have hkl : k < (l ++ [x]).length := (List.getElem?_eq_some_iff.1 hk).1
        have e2 : k = l.length := by simp at hkl; omega
        subst e2
        rw [if_pos rfl, if_pos (by omega)]
        simp at hk
        rw [hk]
    · have holds : ∀ j u, (l.map (Value.int .u64))[j]? = some u → w.cell? ((⟨g, off, none⟩ : Addr).add j) = some u := by
        intro j u hu
        rw [Addr.add_lit, cell_of_row w g _ cur _ _ hg]
        rw [List.getElem?_map] at hu
        cases hj : l[j]? with
        | none => rw [hj] at hu; simp at hu
        | some y => rw [hj] at hu; rw [hcells j y hj]; exact hu
      obtain ⟨v', w', hr, h2, h3⟩ := run_append_arg_grows (P := Try.prog) w 22 ty 23 i0 (.int .u64 0) 1 8 Try.underlying22 hi0 hz0 hz1 hz2 rfl (by decide) ⟨g, off, none⟩ l.length cap (l.map (Value.int .u64)) (by simp) holds ad 1 c [.int .u64 x] rfl hnews (by omega) (by unfold maxLen; omega) (by omega)
      exact ⟨v', w', hr, (Seg.of_own (l := l ++ [x]) (by simpa using h2)).mono hB, Fr.of_grown h3 hB fun g e => by simp at e⟩
theorem wpList_append_seg {w : World} {ops : Array Oper} {rest : List Oper} {o : Oper} {a : Act} {Q : Exit → Act → World → Prop} (hgd : o.guard = none) (s y : Operand)
    (ho : o.op = .call { callee := .builtin .append, args := #[s, y], argTypes := #[22, 22] })
    {B : Nat} {v : Value} {l : List Int} (x : Int) (hs : a.eval s = v) (h : Seg w B v l) (hl : l.length ≤ 1000000) (hB : B ≤ w.heap.size) (ad : Addr) (c : Nat) (hy : a.eval y = .slice (some ad) 1 c) (hx : w.cell? ad = some (.int .u64 x))
    (hK : ∀ v' w', Seg w' B v' (l ++ [x]) → Fr B w w' → wpList Try.prog ops Q rest (a.put o.dst v') w') : wpList Try.prog ops Q (o :: rest) a w := by
  refine wpList_plain hgd fun K hK' => ?_
  obtain ⟨v', w', hrun, r1, r2⟩ := run_append_seg x h hl hB o.type ad c hx
  unfold Oper.wp
  simp [execOp, ho, resolve, invoke, builtin, hs, hy, hrun, Result.andThen]
  exact hK' _ _ (hK v' w' r1 r2)
theorem Seg.fr {w w' : World} {B B' : Nat} {v : Value} {l : List Int} (h : Seg w B v l) (hf : Below B' w w') (hB : v = .slice none 0 0 ∨ ∃ g, v.ownBlock = some g ∧ g < B') : Seg w' B v l := by
  rcases h with h | ⟨g, off, cap, cur, h1, h2, h3, h4⟩
  · exact .inl h
  · refine .inr ⟨g, off, cap, cur, h1, h2, (hf.block g ?_).trans h3, h4⟩
    rcases hB with hB | ⟨g', e, hg⟩
    · rw [h1] at hB; simp at hB
    · rw [h1] at e; simp [Value.ownBlock] at e; omega

/-- True, and nothing that was there has turned. -/
def BTrue (w : World) (e : Ending) (w' : World) : Prop := e = .returned (.bool true) ∧ Below w.heap.size w w'
/-- True, and nothing but draws. -/
def QTrue (w : World) (e : Ending) (w' : World) : Prop := e = .returned (.bool true) ∧ ∃ m, w' = w.drewN m
theorem ret_u {a b : Int} (h : a = b) : Ending.returned (.int .u64 a) = .returned (.int .u64 b) := by rw [h]
theorem ret_b {a b : Bool} (h : a = b) : Ending.returned (.bool a) = .returned (.bool b) := by rw [h]
theorem i64_bd {x : Int} (h : (Lit.int .i64 x).wf = true) : -9223372036854775808 ≤ x ∧ x ≤ 9223372036854775807 := by
  simp [Lit.wf, IntKind.min, IntKind.max, IntKind.signed, IntKind.bits] at h
  omega
theorem u64_bd {x : Int} (h : (Lit.int .u64 x).wf = true) : 0 ≤ x ∧ x ≤ 18446744073709551615 := by
  simp [Lit.wf, IntKind.min, IntKind.max, IntKind.signed, IntKind.bits] at h
  omega
end Go.Proofs.Ytkabhpmnhdhodaa.Bu
