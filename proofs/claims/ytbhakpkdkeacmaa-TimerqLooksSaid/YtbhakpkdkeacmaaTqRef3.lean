/-
  The contract of the reference's step: a timer is set.
-/
import Derived.Test.YtbhakpkdkeacmaaTqRef2
namespace Go.Proofs.Ytbhakpkdkeacmaa.Tq
open Go.RowKit Go.Maps

/-- An append of one row of the call's own onto another one. -/
theorem run_append_row {P : Program} (w : World) (base base2 : Nat) (t ty e : TypeId) (i : TypeInfo) (z : Value) (size bytes : Nat) (ht : P.underlying t = some (.slice e)) (hi : P.info? e = some i) (hz : i.zero = some z)
    (hsize : i.size = size) (hby : i.bytes = bytes) (hzs : z.cells.size = size) (hsz : 0 < size)
    (v : Value) (n : Nat) (xs : List Value) (hown : w.ownsRow base e size v n xs) (x : Value) (m : Nat) (news : List Value) (hsrc : w.ownsRow base2 e size x m news) (h1 : ∀ u ∈ news, u.oneCell' = true)
    (h63 : n + m ≤ maxLen) (hbytes : (n + m) * bytes ≤ 140737488355328) (hbase : base ≤ w.heap.size) :
    ∃ v' w', (Builtin.append_ #[t, t] ty #[v, x]).run P w = .ok v' w' ∧ w'.ownsRow base e size v' (n + m) (xs ++ news) ∧ w.grownBy w' v.ownBlock ∧ (v'.ownBlock = v.ownBlock ∨ v'.ownBlock = some w.heap.size) := by
  rcases hsrc.2 with ⟨rfl, rfl⟩ | ⟨g, cap, cur, rfl, _⟩
  · have hn : news = [] := List.eq_nil_of_length_eq_zero (by simpa using hsrc.1)
    subst hn
    exact ⟨v, w, run_append_owned_none w base t ty e i size ht hi v n xs hown, by simpa using hown, ⟨rfl, rfl, rfl, Nat.le_refl _, fun _ _ _ => rfl⟩, .inl rfl⟩
  · obtain ⟨v', w', hr, h2, h3, _, h5⟩ := run_append_own_at (P := P) w base t ty e i z size bytes ht hi hz hsize hby hzs hsz v n xs hown ⟨g, 0, none⟩ m cap news hsrc.1 (hsrc.cells (g := g) rfl) h1 h63 hbytes hbase
    exact ⟨v', w', hr, h2, h3, h5⟩
theorem step_append_row {P : Program} (w : World) {ops : Array Oper} {o : Oper} {a : Act} {K : Act → World → Prop} {Q : Exit → Act → World → Prop} {E : Prop} (hgd : o.guard = none) (s x : Operand) (t : TypeId)
    (ho : o.op = .call { callee := .builtin .append, args := #[s, x], argTypes := #[t, t] })
    (base base2 : Nat) (e : TypeId) (i : TypeInfo) (z : Value) (size bytes : Nat) (ht : P.underlying t = some (.slice e)) (hi : P.info? e = some i) (hz : i.zero = some z)
    (hsize : i.size = size) (hby : i.bytes = bytes) (hzs : z.cells.size = size) (hsz : 0 < size)
    (v : Value) (n : Nat) (xs : List Value) (hs : a.eval s = v) (hown : w.ownsRow base e size v n xs)
    (xv : Value) (m : Nat) (news : List Value) (hx : a.eval x = xv) (hsrc : w.ownsRow base2 e size xv m news) (h1 : ∀ u ∈ news, u.oneCell' = true)
    (h63 : n + m ≤ maxLen) (hbytes : (n + m) * bytes ≤ 140737488355328) (hbase : base ≤ w.heap.size)
    (h : ∀ v' w', w'.ownsRow base e size v' (n + m) (xs ++ news) → w.grownBy w' v.ownBlock → (v'.ownBlock = v.ownBlock ∨ v'.ownBlock = some w.heap.size) → K (a.put o.dst v') w') :
    if Region.wanted o (yielded ops a.tmps) = true then Oper.wp P o a w K Q else E := by
  have hw : Region.wanted o (yielded ops a.tmps) = true := by simp [Region.wanted, hgd]
  rw [if_pos hw]
  obtain ⟨v', w', hr, h2, h3, h5⟩ := run_append_row (P := P) w base base2 t o.type e i z size bytes ht hi hz hsize hby hzs hsz v n xs hown xv m news hsrc h1 h63 hbytes hbase
  unfold Oper.wp execOp
  simp only [ho, resolve, invoke, builtin, Sem.run_bind, Sem.run_pure, Result.andThen_ok, List.map_toArray, List.map_cons, List.map_nil, hs, hx, hr]
  exact h v' w' h2 h3 h5
theorem wpList_append_row {P : Program} (w : World) {ops : Array Oper} {rest : List Oper} {o : Oper} {a : Act} {Q : Exit → Act → World → Prop} (hgd : o.guard = none) (s x : Operand) (t : TypeId)
    (ho : o.op = .call { callee := .builtin .append, args := #[s, x], argTypes := #[t, t] })
    (base base2 : Nat) (e : TypeId) (i : TypeInfo) (z : Value) (size bytes : Nat) (ht : P.underlying t = some (.slice e)) (hi : P.info? e = some i) (hz : i.zero = some z)
    (hsize : i.size = size) (hby : i.bytes = bytes) (hzs : z.cells.size = size) (hsz : 0 < size)
    (v : Value) (n : Nat) (xs : List Value) (hs : a.eval s = v) (hown : w.ownsRow base e size v n xs)
    (xv : Value) (m : Nat) (news : List Value) (hx : a.eval x = xv) (hsrc : w.ownsRow base2 e size xv m news) (h1 : ∀ u ∈ news, u.oneCell' = true)
    (h63 : n + m ≤ maxLen) (hbytes : (n + m) * bytes ≤ 140737488355328) (hbase : base ≤ w.heap.size)
    (h : ∀ v' w', w'.ownsRow base e size v' (n + m) (xs ++ news) → w.grownBy w' v.ownBlock → (v'.ownBlock = v.ownBlock ∨ v'.ownBlock = some w.heap.size) → wpList P ops Q rest (a.put o.dst v') w') :
    wpList P ops Q (o :: rest) a w := by
  refine wpList_plain hgd fun K hK => ?_
  obtain ⟨v', w', hr, h2, h3, h5⟩ := run_append_row (P := P) w base base2 t o.type e i z size bytes ht hi hz hsize hby hzs hsz v n xs hown xv m news hsrc h1 h63 hbytes hbase
  unfold Oper.wp execOp
  simp only [ho, resolve, invoke, builtin, Sem.run_bind, Sem.run_pure, Result.andThen_ok, List.map_toArray, List.map_cons, List.map_nil, hs, hx, hr]
  exact hK _ _ (h v' w' h2 h3 h5)

/-- The reference's timers between two operations. -/
def RH (w : World) (B : Nat) (v : Value) (l : List Tm) : Prop := ∃ ts, RL w B v ts ∧ ts.Perm l ∧ Nd ts ∧ ts.length ≤ 256
/-- What a step gives. -/
def StepPost (w : World) (B : Nat) (now : Int) (l : List Tm) (r : Rep) (e : Ending) (w' : World) : Prop :=
  ∃ v f, e = .returned (.tuple #[v, .int .u64 now, f]) ∧ RepAt w' B f r ∧ RH w' B v l ∧ Below w.heap.size w w'

theorem place_val {ts : List Tm} (hl : ts.length ≤ 1000) (hnd : Nd ts) (x : Int) : ∃ z : Int, ((mem ts x = false ∧ z = -1) ∨ ∃ i : Nat, i < ts.length ∧ (at_ ts i).1 = x ∧ mem ts x = true ∧ z = i) ∧
    ∀ (w : World) (B : Nat) (v : Value), RL w B v ts → Calls Try.prog 24 #[v, .int .i64 x] w fun e w' => e = .returned (.int .i64 z) ∧ w = w' := by
  cases hm : mem ts x with
  | false => exact ⟨-1, .inl ⟨rfl, rfl⟩, fun w B v h => place_none h hl x hm⟩
  | true =>
    obtain ⟨t, ht, hx⟩ := mem_iff.1 hm
    obtain ⟨k, hk⟩ := List.getElem?_of_mem ht
    have hkl := (List.getElem?_eq_some_iff.1 hk).1
    have hx' : (at_ ts k).1 = x := by rw [at_of hk]; exact hx
    exact ⟨k, .inr ⟨k, hkl, hx', rfl, rfl⟩, fun w B v h => place_some h hl x hkl hx' hnd⟩

theorem sneg_any {w : World} {B : Nat} {v : Value} {now : Int} {l : List Tm} (h : RH w B v l) (x t : Int) (hx : x < 0) :
    Calls Try.prog 19 #[v, .int .u64 now, .agg #[.int .i64 1, .int .i64 x, .int .u64 t]] w (StepPost w B now l ⟨2, [], 0⟩) := by
  obtain ⟨ts, h1, h2, h3, h4⟩ := h
  obtain ⟨z, hz, hP⟩ := place_val (by omega) h3 x
  obtain ⟨A, cp, rfl⟩ := own_shape h1
  have HP := Lib.hid hP
  have H1 := Lib.hid h1
  have HZ := Lib.hid hz
  clear hP h1 hz
  go_enter Try.func19, Try.ntmps19
  go_wp2_with (go_at_call 24; ((with_reducible refine (HP.out _ B _ ((H1.out.alloc _).alloc _)).mono ?_); rintro e w1 ⟨rfl, rfl⟩))
  go_returns
  have hb : ∀ o1 o2, Below w.heap.size w ((w.alloc o1).alloc o2) := fun o1 o2 => by go_grown
  exact ⟨_, _, rfl, RepAt.none_ _ _ _ _, ⟨ts, own_below H1.out (hb _ _), h2, h3, h4⟩, hb _ _⟩

theorem two_row {w : World} {B : Nat} {x y : Value} (g : Nat) (hB : B ≤ g) (h : w.heap[g]? = some (.cells #[x, y] 64 (0, 0))) : w.ownsRow B 64 2 (.slice (some ⟨g, 0, none⟩) 1 1) 1 [x, y] :=
  ⟨rfl, .inr ⟨g, 1, _, rfl, hB, h, Nat.le_refl _, by unfold maxLen; omega, rfl, rfl⟩⟩
theorem grown_new {W W0 w1 : World} {g n c : Nat} (h0 : Below W.heap.size W W0) (hg : W0.grownBy w1 (Value.slice (some ⟨g, 0, none⟩) n c).ownBlock) (hg' : W.heap.size ≤ g) : Below W.heap.size W w1 := h0.grown hg h0.size (fun k e => by simp [Value.ownBlock] at e; omega)
theorem row_below {W w1 w1' w2 : World} {g0 n c S : Nat} {v1 : Value} (h1 : Below W.heap.size W w1) (hv : v1.ownBlock = (Value.slice (some ⟨g0, 0, none⟩) n c).ownBlock ∨ v1.ownBlock = some S) (h : Below w1.heap.size w1 w1') (hg : w1'.grownBy w2 v1.ownBlock) (hg0 : W.heap.size ≤ g0 := by omega) (hS : W.heap.size ≤ S := by first | omega | (simp; done) | (simp; omega)) : Below W.heap.size W w2 :=
  (h1.trans (h.mono h1.size)).grown hg (by have := h1.size; have := h.size; omega) (fun k e => by rcases hv with hv | hv <;> (rw [hv] at e; simp [Value.ownBlock] at e; omega))
theorem lit_second (W : World) (o1 : Obj) (e : TypeId) : ((W.alloc o1).alloc (.cells #[] e)).drew.ownsRow W.heap.size e 2 (.slice (some ⟨W.heap.size + 1, 0, none⟩) 0 0) 0 [] := by
  have := World.ownsRow_lit (base := W.heap.size) (e := e) (size := 2) (W.alloc o1) #[] 0 (by rw [World.size_alloc]; omega) (by unfold maxLen; omega) (by simp)
  rw [World.size_alloc] at this
  exact this
theorem blk_second (W : World) (o1 o2 : Obj) : ((W.alloc o1).alloc o2).drew.heap[W.heap.size + 1]? = some o2 := by
  have := heap_alloc_new (W.alloc o1) o2
  rw [World.size_alloc] at this
  exact this
theorem blk_first (W : World) (o1 o2 : Obj) : ((W.alloc o1).alloc o2).drew.heap[W.heap.size]? = some o1 :=
  (Below.heap_alloc (W.alloc o1) o2 W.heap.size (by simp)).trans (heap_alloc_new W o1)
theorem Nd.snoc {ts : List Tm} {a : Tm} (h : Nd ts) (hm : mem ts a.1 = false) : Nd (ts ++ [a]) := by
  unfold Nd
  rw [List.map_append]
  refine List.nodup_append.2 ⟨h, by simp, fun x hx y hy e => ?_⟩
  simp at hy
  subst hy; subst e
  obtain ⟨t, ht, e⟩ := List.mem_map.1 hx
  exact mem_false.1 hm t ht e
theorem Nd.erase {ts : List Tm} (h : Nd ts) {i : Nat} (hi : i < ts.length) : (ts.eraseIdx i).Perm (rem ts (at_ ts i).1) ∧ Nd (ts.eraseIdx i) ∧ mem (ts.eraseIdx i) (at_ ts i).1 = false := by
  have e2 : ts.Perm (at_ ts i :: ts.eraseIdx i) := by
    have := Go.ChangeMaps.set_perm ts i hi (at_ ts i)
    rwa [show ts.set i (at_ ts i) = ts from ?_] at this
    apply List.ext_getElem?
    intro k
    rw [List.getElem?_set]
    split
    · rename_i h; subst h; exact (at_some hi).symm
    · rfl
  have h2 : Nd (at_ ts i :: ts.eraseIdx i) := h.perm e2
  refine ⟨(rem_perm h e2).symm, (List.nodup_cons.1 h2).2, ?_⟩
  rw [mem_false]
  intro t ht e
  exact (List.nodup_cons.1 h2).1 (by show (at_ ts i).1 ∈ _; rw [← e]; exact List.mem_map_of_mem ht)
/-- What is laid before a step: the operation's box and the cell of the reply. -/
structure Laid (w W : World) (bx R : Nat) (k x t : Int) : Prop where
  bel : Below w.heap.size w W
  box : W.heap[bx]? = some (.cells #[.int .i64 k, .int .i64 x, .int .u64 t] 33 (0, 0))
  res : W.heap[R]? = some (.cells #[.int .i64 0, .slice none 0 0, .int .u64 0] 39 (0, 0))
  new : w.heap.size ≤ R
theorem Laid.mk_ (w : World) (k x t : Int) : Laid w ((w.alloc (.cells #[.int .i64 k, .int .i64 x, .int .u64 t] 33)).alloc zrep) w.heap.size (w.heap.size + 1) k x t := by
  refine ⟨by go_grown, ?_, ?_, by omega⟩
  · rw [Below.heap_alloc _ _ _ (by simp)]; exact heap_alloc_new w _
  · have := heap_alloc_new (w.alloc (.cells #[.int .i64 k, .int .i64 x, .int .u64 t] 33)) zrep
    simpa using this
theorem Laid.step {w W W' : World} {bx R : Nat} {k x t : Int} (h : Laid w W bx R k x t) (hb : Below W.heap.size W W') : Laid w W' bx R k x t :=
  ⟨h.bel.trans (hb.mono h.bel.size), (hb.block _ (heap_lt h.box)).trans h.box, (hb.block _ (heap_lt h.res)).trans h.res, h.new⟩
/-- The reply's cell is written, and the step is over. -/
theorem step_done {w W : World} {B bx R : Nat} {k x t now : Int} {v : Value} {l : List Tm} {r : Rep} {c ti : Int} {f : Value} (h : Laid w W bx R k x t) (hv : RH W B v l) (hr : RepAt W B (.agg #[.int .i64 c, f, .int .u64 ti]) r) :
    StepPost w B now l r (.returned (.tuple #[v, .int .u64 now, .agg #[.int .i64 c, f, .int .u64 ti]])) (((W.setCell ⟨R, 0, none⟩ (.int .i64 c)).setCell ⟨R, 1, none⟩ f).setCell ⟨R, 2, none⟩ (.int .u64 ti)) := by
  have hg9 := res_grown W R (.int .i64 c) f (.int .u64 ti)
  obtain ⟨ts, h1, h2⟩ := hv
  refine ⟨_, _, rfl, hr.far hg9 (fun k e => by
    have e : R = k := by simpa using e
    subst e
    exact ⟨_, _, _, h.res, by decide⟩), ⟨ts, h1.kept hg9 ?_, h2⟩, h.bel.grown hg9 h.bel.size (fun k e => by have := h.new; simp at e; omega)⟩
  cases hvb : v.ownBlock with
  | none => exact .inl rfl
  | some k' =>
    right
    intro e
    obtain ⟨_, cur, hk⟩ := own_type h1 k' hvb
    have e : k' = R := by simpa using e
    subst e
    rw [h.res] at hk; injection hk with hk; injection hk with _ e'; simp at e'

end Go.Proofs.Ytbhakpkdkeacmaa.Tq
