/-
  Several texts, one behind the other: GrB, GrC, GrE, GrD, GrF, GrG, GrK, GrL, GrJ, GrH, GrM, GrO, GrP.
-/
import Derived.Test.YtdncjhffniepbaaGreatDoorM5
import Derived.Test.YtdncjhffniepbaaGreatDoorShelf
import Derived.Lib.SmallJoins
import Derived.Deep.RegionHeld3
import Derived.RegionDies
/- (GrB)
  Layer 6, the program: numbers, the count, the signals' names, the policy.
-/
namespace Go.Proofs.YtdncjhffniepbaaGreatDoor.Lx
open Go.RowKit

/-- What a number's text is: at most 18 digits, and one at least. -/
def NumS (s : ByteArray) : Prop := 1 ≤ s.size ∧ s.size ≤ 18 ∧ ∀ x ∈ ch s, 48 ≤ x ∧ x ≤ 57
def NumsOk (ts : List Tok) : Prop := ∀ t ∈ ts, t.kind = 2 → NumS (bytesOf t.text)
theorem parse_digits : ∀ (l : List UInt8) (acc k : Nat), (∀ c ∈ l, 48 ≤ c.toNat ∧ c.toNat ≤ 57) → acc < 10 ^ k → k + l.length ≤ 18 →
    ∃ u : Nat, Lib.parseUintM (2 ^ 64 - 1) acc l = .ok u ∧ (u : Int) = (l.map fun b => (b.toNat : Int)).foldl (fun n z => IntKind.u64.wrap (IntKind.u64.wrap (10 * n) + (z - 48) % 256)) (acc : Int)
  | [], acc, k, _, _, _ => ⟨acc, rfl, rfl⟩
  | c :: r, acc, k, hd, ha, hk => by
    have hc := hd c (by simp)
    simp only [List.length_cons] at hk
    have h17 : 10 ^ k ≤ 10 ^ 17 := Nat.pow_le_pow_right (by omega) (by omega)
    have e17 : (10 : Nat) ^ 17 = 100000000000000000 := by decide
    have hp : 10 ^ (k + 1) = 10 ^ k * 10 := Nat.pow_succ _ _
    obtain ⟨u, h1, h2⟩ := parse_digits r (acc * 10 + (c.toNat - 48)) (k + 1) (fun x hx => hd x (by simp [hx])) (by omega) (by omega)
    refine ⟨u, ?_, ?_⟩
    · unfold Lib.parseUintM
      rw [if_pos hc, if_neg (by omega), if_neg (by rw [show 2 ^ 64 - 1 = 18446744073709551615 by decide]; omega)]
      exact h1
    · rw [h2, List.map_cons, List.foldl_cons]
      congr 1
      rw [IntKind.wrap_u64 (10 * (acc : Int)), IntKind.wrap_u64]
      omega
theorem parse_num {s : ByteArray} (h : NumS s) : ∃ u : Nat, Lib.parseUintB 64 s.data.toList = .ok u ∧ (u : Int) = numF (ch s) := by
  obtain ⟨h1, h2, h3⟩ := h
  have hl : s.data.toList.length = s.size := by rw [Array.length_toList]; rfl
  obtain ⟨u, e1, e2⟩ := parse_digits s.data.toList 0 0 (fun c hc => by
    have := h3 (c.toNat : Int) (List.mem_map.2 ⟨c, hc, rfl⟩)
    omega) (by decide) (by omega)
  refine ⟨u, ?_, e2⟩
  unfold Lib.parseUintB
  rw [if_neg (fun e => by rw [e] at hl; simp at hl; omega)]
  exact e1
theorem below_pu {w w' : World} {e : TypeId} {s : ByteArray} (h : w' = w ∨ w' = Lib.bytesWorld w e s) : Below w.heap.size w w' := by
  rcases h with rfl | rfl
  · exact Below.refl _ _
  · exact Joins.below_bytesWorld _ _ _ _ (Nat.le_refl _)
set_option maxRecDepth 100000 in
theorem gvalue_ex {s : ByteArray} (h : NumS s) (tk tl tc : Int) (w : World) :
    Calls Tryz.prog 123 #[.agg #[.int .i64 tk, .string s, .int .i64 tl, .int .i64 tc]] w fun en w' => en = .returned (.int .u64 (numF (ch s))) ∧ Below w.heap.size w w' := by
  obtain ⟨u, h1, h2⟩ := parse_num h
  have HP := Lib.hid (fun W => Tryz.strconv_ParseUint_10_at64_ok s (by have := h.2.1; omega) u h1 W)
  rw [← h2]
  clear h1 h2 h
  have k1 := heap_alloc_new w (TokB tk s tl tc)
  have t1 := cell_of_row _ _ 1 _ _ _ k1
  have B := Lib.hid (balloc w (TokB tk s tl tc))
  clear k1
  go_enter Tryz.func123, Tryz.ntmps123
  go_wp2_with (go_at_call 104; ((with_reducible refine (HP.out _).mono ?_); rintro e w1 ⟨rfl, hw⟩; have B1 : Hid (Below (w.alloc (TokB tk s tl tc)).heap.size (w.alloc (TokB tk s tl tc)) w1) := Lib.hid (below_pu hw); clear hw))
  go_ret
  exact ⟨rfl, B.out.trans (B1.out.mono B.out.size)⟩
set_option maxRecDepth 100000 in
theorem gnumber_ex {w : World} {q g off : Nat} {ts : List Tok} {a : Nat} (h : GP w q g off ts a) (hN : NumsOk ts) {t : Tok} (ht : ts[a]? = some t) :
    Calls Tryz.prog 110 #[.pointer (some ⟨q, 0, none⟩)] w (GPost w q g off ts (readF ts 2 a) (.int .u64 (numF (ch (bytesOf t.text))))) := by
  have HR := Lib.hid (gread_ex h ht 2 (by decide))
  have e2 : readF ts 2 a = if t.kind = 2 then .ok (a + 1) else tokFault 60 t := by unfold readF; rw [ht]
  have hn := hN t (List.mem_of_getElem? ht)
  rw [e2] at HR ⊢
  clear h ht e2
  obtain ⟨tk, tt, tl, tc⟩ := t
  unfold tokFault at *
  simp only at hn
  change Hid (Calls _ _ _ _ (GPost w q g off ts (if tk = 2 then .ok (a + 1) else .error (60, tl, tc)) (.agg #[.int .i64 tk, .string (bytesOf tt), .int .i64 tl, .int .i64 tc]))) at HR
  change Calls _ _ _ _ (GPost w q g off ts (if tk = 2 then .ok (a + 1) else .error (60, tl, tc)) (.int .u64 (numF (ch (bytesOf tt)))))
  generalize bytesOf tt = s at *
  by_cases hk : tk = 2
  · subst hk
    rw [if_pos rfl] at HR ⊢
    have HV := Lib.hid (fun W => gvalue_ex (hn rfl) 2 tl tc W)
    clear hn
    go_enter Tryz.func110, Tryz.ntmps110
    go_wp2_with (first
      | (go_at_call 87; ((with_reducible refine (HR.out).mono ?_); rintro e w1 ⟨hg1, rfl, hp1⟩; have G1 := Lib.hid hg1; have P1 := Lib.hid hp1; clear hg1 hp1))
      | (go_at_call 123; ((with_reducible refine (HV.out _).mono ?_); rintro e w2 ⟨rfl, hb2⟩; have B2 := Lib.hid hb2; clear hb2)))
    go_ret
    exact ⟨G1.out.trans (GrP.of_below B2.out), rfl, P1.out.below B2.out⟩
  · rw [if_neg hk] at HR ⊢
    go_enter Tryz.func110, Tryz.ntmps110
    go_wp2_with (go_at_call 87; ((with_reducible refine (HR.out).mono ?_); rintro e w1 ⟨hg1, rfl⟩; have G1 := Lib.hid hg1; clear hg1))
    exact ⟨rfl, G1.out, rfl⟩
/-- What count does. -/
def countF (ts : List Tok) (a : Nat) : St :=
  match ts[a]? with
  | none => .error (60, 0, 0)
  | some t => if t.kind = 2 then (if numF (ch (bytesOf t.text)) < 1 ∨ 16 < numF (ch (bytesOf t.text)) then tokFault 2 t else .ok (a + 1)) else tokFault 60 t
set_option maxRecDepth 100000 in
theorem gcount_ex {w : World} {q g off : Nat} {ts : List Tok} {a : Nat} (h : GP w q g off ts a) (hN : NumsOk ts) {t : Tok} (ht : ts[a]? = some t) :
    Calls Tryz.prog 111 #[.pointer (some ⟨q, 0, none⟩)] w (GPost w q g off ts (countF ts a) (.int .i64 (numF (ch (bytesOf t.text))))) := by
  have HR := Lib.hid (gread_ex h ht 2 (by decide))
  have e2 : readF ts 2 a = if t.kind = 2 then .ok (a + 1) else tokFault 60 t := by unfold readF; rw [ht]
  have e3 : countF ts a = if t.kind = 2 then (if numF (ch (bytesOf t.text)) < 1 ∨ 16 < numF (ch (bytesOf t.text)) then tokFault 2 t else .ok (a + 1)) else tokFault 60 t := by unfold countF; rw [ht]
  have hn := hN t (List.mem_of_getElem? ht)
  rw [e2] at HR
  rw [e3]
  clear h ht e2 e3
  obtain ⟨tk, tt, tl, tc⟩ := t
  unfold tokFault at *
  simp only at hn
  change Hid (Calls _ _ _ _ (GPost w q g off ts (if tk = 2 then .ok (a + 1) else .error (60, tl, tc)) (.agg #[.int .i64 tk, .string (bytesOf tt), .int .i64 tl, .int .i64 tc]))) at HR
  change Calls _ _ _ _ (GPost w q g off ts (if tk = 2 then (if numF (ch (bytesOf tt)) < 1 ∨ 16 < numF (ch (bytesOf tt)) then .error (2, tl, tc) else .ok (a + 1)) else .error (60, tl, tc)) (.int .i64 (numF (ch (bytesOf tt)))))
  generalize bytesOf tt = s at *
  by_cases hk : tk = 2
  · subst hk
    rw [if_pos rfl] at HR ⊢
    have HV := Lib.hid (fun W => gvalue_ex (hn rfl) 2 tl tc W)
    clear hn
    generalize numF (ch s) = n at *
    by_cases hr : n < 1 ∨ 16 < n
    · rw [if_pos hr]
      go_enter Tryz.func111, Tryz.ntmps111
      go_wp2_with (first
        | (go_at_call 87; ((with_reducible refine (HR.out).mono ?_); rintro e w1 ⟨hg1, rfl, hp1⟩; have G1 := Lib.hid (hg1.trans (GrP.of_below (balloc w1 (TokB 2 s tl tc)))); have P1 := Lib.hid (hp1.below (balloc w1 (TokB 2 s tl tc))); have K1 := heap_alloc_new w1 (TokB 2 s tl tc); have KC := Lib.hid K1; have d0 := cell_of_row _ _ 0 _ _ _ K1; have d1 := cell_of_row _ _ 1 _ _ _ K1; have d2 := cell_of_row _ _ 2 _ _ _ K1; have d3 := cell_of_row _ _ 3 _ _ _ K1; clear hg1 hp1 K1))
        | (go_at_call 123; ((with_reducible refine (HV.out _).mono ?_); rintro e w2 ⟨rfl, hb2⟩; have B2 := Lib.hid hb2; have K2 := (hb2.block _ (heap_lt KC.out)).trans KC.out; have d0 := cell_of_row _ _ 0 _ _ _ K2; have d1 := cell_of_row _ _ 1 _ _ _ K2; have d2 := cell_of_row _ _ 2 _ _ _ K2; have d3 := cell_of_row _ _ 3 _ _ _ K2; clear hb2 K2))
        | (go_at_call 61; ((with_reducible refine (gfail_ex _ _ _ _ _ _).mono ?_); rintro e w3 ⟨rfl, hb3⟩; have B3 := Lib.hid hb3; clear hb3)))
      all_goals first
        | exact ⟨rfl, (G1.out.trans (GrP.of_below B2.out)).trans (GrP.of_below B3.out), rfl⟩
        | (exfalso; omega)
    · rw [if_neg hr]
      go_enter Tryz.func111, Tryz.ntmps111
      go_wp2_with (first
        | (go_at_call 87; ((with_reducible refine (HR.out).mono ?_); rintro e w1 ⟨hg1, rfl, hp1⟩; have G1 := Lib.hid (hg1.trans (GrP.of_below (balloc w1 (TokB 2 s tl tc)))); have P1 := Lib.hid (hp1.below (balloc w1 (TokB 2 s tl tc))); have K1 := heap_alloc_new w1 (TokB 2 s tl tc); have KC := Lib.hid K1; have d0 := cell_of_row _ _ 0 _ _ _ K1; have d1 := cell_of_row _ _ 1 _ _ _ K1; have d2 := cell_of_row _ _ 2 _ _ _ K1; have d3 := cell_of_row _ _ 3 _ _ _ K1; clear hg1 hp1 K1))
        | (go_at_call 123; ((with_reducible refine (HV.out _).mono ?_); rintro e w2 ⟨rfl, hb2⟩; have B2 := Lib.hid hb2; have P2 := Lib.hid (P1.out.below hb2); clear hb2))
        | (exfalso; omega))
      trace_state
      go_ret
      exact ⟨G1.out.trans (GrP.of_below B2.out), rfl, P2.out⟩
  · rw [if_neg hk] at HR ⊢
    go_enter Tryz.func111, Tryz.ntmps111
    go_wp2_with (go_at_call 87; ((with_reducible refine (HR.out).mono ?_); rintro e w1 ⟨hg1, rfl⟩; have G1 := Lib.hid hg1; clear hg1))
    exact ⟨rfl, G1.out, rfl⟩
end Go.Proofs.YtdncjhffniepbaaGreatDoor.Lx
/- (GrC)
  Layer 6, the program: the signals' names; an element of needs.
-/
namespace Go.Proofs.YtdncjhffniepbaaGreatDoor.Lx
open Go.RowKit

set_option maxRecDepth 100000 in
theorem gsignal_ex (s : ByteArray) (w : World) : Calls Tryz.prog 28 #[.string s] w fun e w' => e = .returned (.int .i64 (sigF s)) ∧ Below w.heap.size w w' := by
  go_enter Tryz.func28, Tryz.ntmps28
  go_wp2_with fail
  all_goals go_ret
  all_goals refine ⟨ret_i0 ?_, Below.refl _ _⟩
  all_goals (unfold sigF; simp only [*, Bool.false_eq_true, if_true, if_false]; rfl)
theorem gcontains_ex {w : World} {v : Value} {n : Nat} {l : List ByteArray} (h : XLst w 1 v n (l.map Value.string)) (x : ByteArray) (b : Bool) (hb : b = true ↔ x ∈ l) :
    Calls Tryz.prog 122 #[v, .string x] w fun e w' => e = .returned (.bool b) ∧ w' = w := by
  obtain ⟨A, c, rfl, hlen, hat, _, hle, hm⟩ := h
  rw [List.length_map, Nat.mul_one] at hlen
  subst hlen
  by_cases h0 : l.length = 0
  · rw [h0]
    refine (Tryz.slices_Contains_string_empty A c x w).mono ?_
    rintro e w' ⟨h1, h2⟩
    rw [List.eq_nil_of_length_eq_zero h0] at hb
    have : b = false := by cases b with | false => rfl | true => simpa using hb.1 rfl
    subst this
    exact ⟨h1, h2⟩
  · obtain ⟨g, off, rfl, hc⟩ := hat (by rw [List.length_map]; omega)
    refine (Tryz.slices_Contains_string g off l.length c l x w (Nat.le_refl _) (by unfold maxLen at hm; omega) (fun j hj => hc j _ (by rw [List.getElem?_map, List.getElem?_eq_getElem hj, List.getD_eq_getElem?_getD, List.getElem?_eq_getElem hj]; rfl))).mono ?_
    rintro e w' ⟨h1, h2⟩
    refine ⟨?_, h2⟩
    rw [h1, List.take_length]
    refine ret_i0 (congrArg Value.bool ?_)
    rw [Bool.eq_iff_iff, Lib.containsS_iff, hb]
theorem step_app_x {w : World} {ops : Array Oper} {o : Oper} {a : Act} {K : Act → World → Prop} {Q : Exit → Act → World → Prop} {E0 : Prop} (hgd : o.guard = none) (s y : Operand) {ts e : TypeId} {z : Value} {pat : Shape} {bytes : Nat} (E : PElt ts e z pat bytes)
    (ho : o.op = .call { callee := .builtin .append, args := #[s, y], argTypes := #[ts, ts] })
    {B : Nat} {v : Value} {n : Nat} {xs : List Value} (hs : a.eval s = v) (h : XOwn w e pat.length B v n xs) (us : List Value) (hul : us.length = pat.length) (h1 : ∀ u ∈ us, u.oneCell' = true)
    (g c off : Nat) (hy : a.eval y = .slice (some ⟨g, off, none⟩) 1 c) (hg : ∀ j u, us[j]? = some u → w.cell? ⟨g, off + j, none⟩ = some u) (hl : n ≤ 100000) (hb : bytes ≤ 1000) (hB : B ≤ w.heap.size)
    (hK : ∀ v' w', XOwn w' e pat.length B v' (n + 1) (xs ++ us) → w.grownBy w' v.ownBlock → K (a.put o.dst v') w') : if Region.wanted o (yielded ops a.tmps) = true then Oper.wp Tryz.prog o a w K Q else E0 := by
  obtain ⟨i, hi, hz, hsz, hby⟩ := E.info
  exact step_append_lies w hgd s y ts ho B e i z pat.length bytes E.under hi hz hsz hby E.zlen E.pos v n xs hs h ⟨g, off, none⟩ 1 c us hy (by omega) (fun j u hj => by rw [Addr.add_lit]; exact hg j u hj) h1 (by omega) (by unfold maxLen; omega)
    (Nat.le_trans (Nat.mul_le_mul_left _ hb) (by omega)) hB _ rfl (fun g' cap w' r1 r2 _ _ => hK _ _ r1 r2)
abbrev JRow (w : World) (j : Nat) (x : J15) : Prop := w.heap[j]? = some (.cells x.arr 73 (0, 0))
theorem row_set {w : World} {j : Nat} {cs : Array Value} {t : TypeId} {f : Nat × Nat} (h : w.heap[j]? = some (.cells cs t f)) (i : Nat) (v : Value) : (w.setCell ⟨j, i, none⟩ v).heap[j]? = some (.cells (cs.setIfInBounds i v) t f) := by
  simp [World.setCell, Array.getElem?_modify, h]
theorem JRow.set_run {w : World} {j : Nat} {x : J15} (h : JRow w j x) (v : ByteArray) : JRow (w.setCell ⟨j, 1, none⟩ (.string v)) j { x with run := v } := row_set h 1 _
theorem JRow.set_env {w : World} {j : Nat} {x : J15} (h : JRow w j x) (v : Value) : JRow (w.setCell ⟨j, 2, none⟩ (v)) j { x with env := v } := row_set h 2 _
theorem JRow.set_needs {w : World} {j : Nat} {x : J15} (h : JRow w j x) (v : Value) : JRow (w.setCell ⟨j, 3, none⟩ (v)) j { x with needs := v } := row_set h 3 _
theorem JRow.set_hr {w : World} {j : Nat} {x : J15} (h : JRow w j x) (v : Bool) : JRow (w.setCell ⟨j, 4, none⟩ (.bool v)) j { x with hr := v } := row_set h 4 _
theorem JRow.set_rd {w : World} {j : Nat} {x : J15} (h : JRow w j x) (v : ByteArray) : JRow (w.setCell ⟨j, 5, none⟩ (.string v)) j { x with rd := v } := row_set h 5 _
theorem JRow.set_rs {w : World} {j : Nat} {x : J15} (h : JRow w j x) (v : Int) : JRow (w.setCell ⟨j, 6, none⟩ (.int .i64 v)) j { x with rs := v } := row_set h 6 _
theorem JRow.set_base {w : World} {j : Nat} {x : J15} (h : JRow w j x) (v : Int) : JRow (w.setCell ⟨j, 7, none⟩ (.int .u64 v)) j { x with base := v } := row_set h 7 _
theorem JRow.set_cap {w : World} {j : Nat} {x : J15} (h : JRow w j x) (v : Int) : JRow (w.setCell ⟨j, 8, none⟩ (.int .u64 v)) j { x with cap := v } := row_set h 8 _
theorem JRow.set_stb {w : World} {j : Nat} {x : J15} (h : JRow w j x) (v : Int) : JRow (w.setCell ⟨j, 9, none⟩ (.int .u64 v)) j { x with stb := v } := row_set h 9 _
theorem JRow.set_bur {w : World} {j : Nat} {x : J15} (h : JRow w j x) (v : Int) : JRow (w.setCell ⟨j, 10, none⟩ (.int .i64 v)) j { x with bur := v } := row_set h 10 _
theorem JRow.set_win {w : World} {j : Nat} {x : J15} (h : JRow w j x) (v : Int) : JRow (w.setCell ⟨j, 11, none⟩ (.int .u64 v)) j { x with win := v } := row_set h 11 _
theorem JRow.set_lad {w : World} {j : Nat} {x : J15} (h : JRow w j x) (v : Value) : JRow (w.setCell ⟨j, 12, none⟩ (v)) j { x with lad := v } := row_set h 12 _
/-- Where a row may be written: the job's block, and the row's own. -/
abbrev PN (j : Nat) (v : Value) (k : Nat) : Prop := k = j ∨ v.ownBlock = some k
/-- Behind an append of a box: all but the row; a cell elsewhere; a row elsewhere. -/
theorem needF {P : Nat → Prop} {w0 w w' : World} {o : Obj} {A : Option Addr} {n c : Nat} (h : GrP P w0 w) (hg : (w.alloc o).drew.grownBy w' (Value.slice A n c).ownBlock) (hP : ∀ k, (Value.slice A n c).ownBlock = some k → w0.heap.size ≤ k ∨ P k) : GrP P w0 w' :=
  ((h.trans (GrP.of_below (balloc w o))).trans (GrP.of_below (w' := (w.alloc o).drew) ⟨rfl, rfl, rfl, Nat.le_refl _, fun _ _ => rfl⟩)).grown hg hP
theorem needFH {w w' : World} {o x : Obj} {A : Option Addr} {n c k : Nat} (hx : w.heap[k]? = some x) (hg : (w.alloc o).drew.grownBy w' (Value.slice A n c).ownBlock) (hne : some k ≠ A.map (·.block)) : w'.heap[k]? = some x := by
  have h1 : (w.alloc o).drew.heap[k]? = some x := heap_alloc_old o hx
  refine (hg.block k (heap_lt h1) ?_).trans h1
  intro e
  refine hne (e.trans ?_)
  cases A <;> rfl
theorem needFC {w w' : World} {o : Obj} {A : Option Addr} {n c k i : Nat} {u : Value} (hx : w.cell? ⟨k, i, none⟩ = some u) (hg : (w.alloc o).drew.grownBy w' (Value.slice A n c).ownBlock) (hne : some k ≠ A.map (·.block)) : w'.cell? ⟨k, i, none⟩ = some u := by
  have hk := World.block_lt_of_cell? w _ hx
  have h1 : (w.alloc o).drew.cell? ⟨k, i, none⟩ = some u := ((balloc w o).cell hk).trans hx
  refine (World.cell?_of_block (a := ⟨k, i, none⟩) (hg.block k (World.block_lt_of_cell? _ _ h1) ?_)).trans h1
  intro e
  refine hne (e.trans ?_)
  cases A <;> rfl
end Go.Proofs.YtdncjhffniepbaaGreatDoor.Lx
/- (GrE)
  Layer 6, the program: a list of needs.
-/
namespace Go.Proofs.YtdncjhffniepbaaGreatDoor.Lx
open Go.RowKit

/-- The two parsers read a word of at most most bytes alike. -/
theorem takeF_read1 {ts : List Tok} {kd most : Int} {a : Nat} {t : Tok} (ht : ts[a]? = some t) : takeF ts kd most a = if t.kind = kd then (if most < (t.text.length : Int) then tokFault 1 t else .ok (a + 1)) else tokFault 60 t := by
  unfold takeF
  rw [ht]
  simp only
  by_cases hk : t.kind = kd
  · rw [if_neg (by simpa using hk), if_pos hk]
  · rw [if_pos hk, if_neg hk]
/-- Behind an element: the list's end, or what comes behind a comma. -/
def afterN (ts : List Tok) (f : Nat) (out : List ByteArray) (a : Nat) (R : Except Fau (List ByteArray × Nat)) : Prop :=
  (isF ts 5 ⟨#[44]⟩ a → needsF ts f out (a + 1) = R) ∧ (¬ isF ts 5 ⟨#[44]⟩ a → R = .ok (out, a))
/-- One element of needs, as both parsers read it. -/
theorem needsF_step {ts : List Tok} {f : Nat} {out : List ByteArray} {a : Nat} {R : Except Fau (List ByteArray × Nat)} (h : needsF ts (f + 1) out a = R) {t : Tok} (ht : ts[a]? = some t) :
    (t.kind ≠ 1 → R = .error (60, t.line, t.col)) ∧ (t.kind = 1 → out.length = 16 → R = .error (1, t.line, t.col)) ∧
    (t.kind = 1 → out.length < 16 → 32 < ((bytesOf t.text).size : Int) → R = .error (1, t.line, t.col)) ∧
    (t.kind = 1 → out.length < 16 → ¬ 32 < ((bytesOf t.text).size : Int) → bytesOf t.text ∈ out → R = .error (5, t.line, t.col)) ∧
    (t.kind = 1 → out.length < 16 → ¬ 32 < ((bytesOf t.text).size : Int) → bytesOf t.text ∉ out → afterN ts f (out ++ [bytesOf t.text]) (a + 1) R) := by
  unfold needsF at h
  rw [takeF_read1 ht, ht] at h
  rw [bytesOf_size]
  unfold tokFault at h
  refine ⟨fun hk => ?_, fun hk hl => ?_, fun hk hl hm => ?_, fun hk hl hm hin => ?_, fun hk hl hm hin => ?_⟩
  · rw [if_neg hk] at h; exact h.symm
  · rw [if_pos hk] at h
    split at h
    · rename_i e q
      split at q
      · injection q with q; subst q; exact h.symm
      · cases q
    · simp only [if_pos (show 16 ≤ out.length by omega)] at h; exact h.symm
  · rw [if_pos hk, if_pos hm] at h; exact h.symm
  · rw [if_pos hk, if_neg hm] at h
    simp only [if_neg (show ¬ 16 ≤ out.length by omega), if_pos hin] at h; exact h.symm
  · rw [if_pos hk, if_neg hm] at h
    simp only [if_neg (show ¬ 16 ≤ out.length by omega), if_neg hin] at h
    refine ⟨fun hc => ?_, fun hc => ?_⟩
    · rw [if_pos hc] at h; exact h
    · rw [if_neg hc] at h; exact h.symm
/-- Where a list may write: the parser, the job's block, and rows of its own. -/
abbrev PQ (q j B : Nat) (k : Nat) : Prop := k = q ∨ k = j ∨ B ≤ k
/-- What a list of needs does. -/
def NeedsPost (w : World) (q g off : Nat) (ts : List Tok) (j B : Nat) (x : J15) (R : Except Fau (List ByteArray × Nat)) (en : Ending) (w' : World) : Prop :=
  GrP (PQ q j B) w w' ∧ match R with
  | .ok (l, a') => en = .returned (.tuple #[]) ∧ GP w' q g off ts a' ∧ ∃ v', JRow w' j { x with needs := v' } ∧ XOwn w' 9 1 B v' l.length (l.map Value.string)
  | .error f => en = fauE f.1 f.2.1 f.2.2
end Go.Proofs.YtdncjhffniepbaaGreatDoor.Lx
/- (GrD)
  Layer 6, the program: an element of needs.
-/
namespace Go.Proofs.YtdncjhffniepbaaGreatDoor.Lx
open Go.RowKit

/-- What an element of needs does. -/
def NeedPost (w : World) (j B n : Nat) (x : J15) (out : List ByteArray) (s : ByteArray) (tl tc : Int) (en : Ending) (w' : World) : Prop :=
  GrP (PN j x.needs) w w' ∧ (32 < (s.size : Int) → en = fauE 1 tl tc) ∧ (¬ 32 < (s.size : Int) → s ∈ out → en = fauE 5 tl tc) ∧
    (¬ 32 < (s.size : Int) → s ∉ out → en = .returned (.tuple #[]) ∧ ∃ v', JRow w' j { x with needs := v' } ∧ XOwn w' 9 1 B v' (n + 1) ((out ++ [s]).map Value.string))
set_option maxHeartbeats 1000000 in
set_option maxRecDepth 100000 in
theorem gneed_ex {w : World} {j bx B n : Nat} {x : J15} {out : List ByteArray} (hrow : JRow w j x) (hbox : w.cell? ⟨bx, 0, none⟩ = some (.pointer (some ⟨j, 0, none⟩))) (hown : XOwn w 9 1 B x.needs n (out.map Value.string)) (hn : n ≤ 3000) (hjB : j < B) (hbB : bx < B)
    (hB : B ≤ w.heap.size) (tk tl tc : Int) (s : ByteArray) (hs : s.size ≤ 10000) :
    Calls Tryz.prog 121 #[.agg #[.int .i64 tk, .string s, .int .i64 tl, .int .i64 tc], .pointer (some ⟨bx, 0, none⟩)] w (NeedPost w j B n x out s tl tc) := by
  have B0 := Lib.hid (balloc w (TokB tk s tl tc))
  have K0 := Lib.hid (heap_alloc_new w (TokB tk s tl tc))
  have t0 := cell_of_row _ _ 0 _ _ _ K0.out
  have t1 := cell_of_row _ _ 1 _ _ _ K0.out
  have t2 := cell_of_row _ _ 2 _ _ _ K0.out
  have t3 := cell_of_row _ _ 3 _ _ _ K0.out
  have J0 := Lib.hid ((B0.out.block j (heap_lt hrow)).trans hrow)
  have j3 := cell_of_row _ _ 3 _ _ _ J0.out
  have fj3 := frozen_of_row _ _ 3 _ _ J0.out
  have b0 := (B0.out.cell (World.block_lt_of_cell? w _ hbox)).trans hbox
  have O0 := Lib.hid (xown_below hown B0.out)
  have hbw : bx < w.heap.size := World.block_lt_of_cell? w _ hbox
  have hjw := heap_lt hrow
  have hon : out.length = n := by have := hown.1; simp only [List.length_map, Nat.mul_one] at this; exact this
  obtain ⟨A, c, hA⟩ := xown_form hown
  obtain ⟨nm, run, env, needs, hr, rd, rs, base, cap, stb, bur, win, lad, line, col⟩ := x
  simp only at hA
  subst hA
  clear hrow hbox hown
  by_cases h32 : 32 < (s.size : Int)
  · go_enter Tryz.func121, Tryz.ntmps121
    go_wp2_with (go_at_call 61; ((with_reducible refine (gfail_ex _ _ _ _ _ _).mono ?_); rintro e w1 ⟨rfl, hb1⟩; have B1 := Lib.hid hb1; clear hb1))
    exact ⟨rfl, (GrP.of_below B0.out).trans (GrP.of_below B1.out), fun _ => rfl, fun h => absurd h32 h, fun h => absurd h32 h⟩
  · have H32 := Lib.hid h32
    by_cases hin : s ∈ out
    · have HC := Lib.hid (fun (k : Nat) => gcontains_ex (xown_lst (w := (w.alloc (TokB tk s tl tc)).drewN k) O0.out) s true ⟨fun _ => hin, fun _ => rfl⟩)
      go_enter Tryz.func121, Tryz.ntmps121
      go_wp2_with fail
      go_quiet ((go_at_call 122; exact Calls.quiet_of_same (HC.out _)))
      go_wp2_with (go_at_call 61; ((with_reducible refine (gfail_ex _ _ _ _ _ _).mono ?_); rintro e w1 ⟨rfl, hb1⟩; have B1 := Lib.hid hb1; clear hb1))
      exact ⟨rfl, ((GrP.of_below B0.out).trans (GrP.of_below (below_drewN _ _))).trans (GrP.of_below B1.out), fun h => by have := H32.out; omega, fun _ _ => rfl, fun _ h => absurd hin h⟩
    · have HC := Lib.hid (fun (k : Nat) => gcontains_ex (xown_lst (w := (w.alloc (TokB tk s tl tc)).drewN k) O0.out) s false (by simpa using hin))
      go_enter Tryz.func121, Tryz.ntmps121
      go_wp2_with fail
      go_quiet ((go_at_call 122; exact Calls.quiet_of_same (HC.out _)))
      go_wp2_with fail
      have Ba : Hid (Below w.heap.size w ((w.alloc (TokB tk s tl tc)).drewN nq)) := Lib.hid (B0.out.trans ((below_drewN _ nq).mono B0.out.size))
      have Oa : Hid (XOwn ((w.alloc (TokB tk s tl tc)).drewN nq) 9 1 B (.slice A n c) n (out.map Value.string)) := Lib.hid O0.out
      have Ja : Hid (JRow ((w.alloc (TokB tk s tl tc)).drewN nq) j ⟨nm, run, env, .slice A n c, hr, rd, rs, base, cap, stb, bur, win, lad, line, col⟩) := Lib.hid J0.out
      have ba : ((w.alloc (TokB tk s tl tc)).drewN nq).cell? ⟨bx, 0, none⟩ = some (.pointer (some ⟨j, 0, none⟩)) := b0
      have ta : ((w.alloc (TokB tk s tl tc)).drewN nq).cell? ⟨w.heap.size, 1, none⟩ = some (.string s) := t1
      have hwa : w.heap.size < ((w.alloc (TokB tk s tl tc)).drewN nq).heap.size := heap_lt (w := w.alloc (TokB tk s tl tc)) K0.out
      clear t0 t1 t2 t3 j3 fj3 b0
      generalize (w.alloc (TokB tk s tl tc)).drewN nq = wa at *
      have ja := cell_of_row _ _ 3 _ _ _ Ja.out
      have hne : some bx ≠ A.map (·.block) ∧ some j ≠ A.map (·.block) := by
        constructor
        · intro e; have := (xown_block Oa.out bx (by rw [show (Value.slice A n c).ownBlock = A.map (·.block) by cases A <;> rfl]; exact e.symm)).1; omega
        · intro e; have := (xown_block Oa.out j (by rw [show (Value.slice A n c).ownBlock = A.map (·.block) by cases A <;> rfl]; exact e.symm)).1; omega
      have fa := frozen_of_row _ _ 3 _ _ Ja.out
      have m1 : (wa.alloc (.cells #[.string s] 9)).cell? ⟨j, 3, none⟩ = some (.slice A n c) := ((balloc wa _).cell (World.block_lt_of_cell? wa _ ja)).trans ja
      have m2 : (wa.alloc (.cells #[.string s] 9)).cell? ⟨bx, 0, none⟩ = some (.pointer (some ⟨j, 0, none⟩)) := ((balloc wa _).cell (World.block_lt_of_cell? wa _ ba)).trans ba
      have m3 : (wa.alloc (.cells #[.string s] 9)).cell? ⟨w.heap.size, 1, none⟩ = some (.string s) := ((balloc wa _).cell (World.block_lt_of_cell? wa _ ta)).trans ta
      go_region_law (first
        | (refine step_app_x rfl (.tmp 22) (.tmp 25) elStr rfl rfl (xown_below Oa.out (balloc wa (.cells #[.string s] 9)).drew) [.string s] rfl (by simp [Value.oneCell']) wa.heap.size 1 0 rfl (one_cell wa (.string s) 9) (by omega) (by omega) (by simp; omega) ?_; intro v5 w5 hO hF; obtain ⟨A5, c5, rfl⟩ := xown_form hO; have O5 := Lib.hid hO; have F5 := Lib.hid (needF (P := PN j (.slice A n c)) (GrP.of_below Ba.out) hF (fun k e => .inr (.inr e))); have b5 := (needFC ba hF hne.1); have j5 := (needFH Ja.out hF hne.2); have J5 := Lib.hid j5; have c5' := cell_of_row _ _ 3 _ _ _ j5; have f5 := frozen_of_row _ _ 3 _ _ j5; clear hO hF j5))
      all_goals (go_end0; exact ⟨F5.out.set (.inr (.inl rfl)) 3 _, fun h => by have := H32.out; omega, fun _ h => absurd h hin, fun _ _ => ⟨rfl, _, JRow.set_needs (x := ⟨nm, run, env, .slice A n c, hr, rd, rs, base, cap, stb, bur, win, lad, line, col⟩) J5.out _, by rw [List.map_append]; exact xown_grown O5.out (grown_set _ _ _) (fun g e he => by have q1 := (xown_block O5.out g e).1; simp only [Option.some.injEq] at he; omega)⟩⟩)
theorem GP.step {P : Nat → Prop} {w w' : World} {q g off : Nat} {ts : List Tok} {a : Nat} (h : GP w q g off ts a) (hg : GrP P w w') (hq : ¬ P q) (hgg : ¬ P g) : GP w' q g off ts a := by
  obtain ⟨c, h1, h2⟩ := h.blk
  exact h.keep (hg.block g h.glt hgg) h.lt ⟨c, (hg.block q h.qlt hq).trans h1, h2⟩
theorem xown_grp {P : Nat → Prop} {w w' : World} {e : TypeId} {k B : Nat} {v : Value} {n : Nat} {xs : List Value} (h : XOwn w e k B v n xs) (hg : GrP P w w') (hne : ∀ g, v.ownBlock = some g → ¬ P g) : XOwn w' e k B v n xs := by
  refine ⟨h.1, ?_⟩
  rcases h.2 with h | ⟨g, cap, cur, h1, h2, h3, h4⟩
  · exact .inl h
  · exact .inr ⟨g, cap, cur, h1, h2, (hg.block g (heap_lt h3) (hne g (by rw [h1]; rfl))).trans h3, h4⟩
theorem boxS {w w' : World} {q j B bx : Nat} {u : Value} (hg : GrP (PQ q j B) w w') (hb : w.cell? ⟨bx, 0, none⟩ = some u) (h1 : bx ≠ q) (h2 : bx ≠ j) (h3 : bx < B) : w'.cell? ⟨bx, 0, none⟩ = some u :=
  (World.cell?_of_block (a := ⟨bx, 0, none⟩) (hg.block bx (World.block_lt_of_cell? w _ hb) (by rintro (e | e | e) <;> omega))).trans hb
/-- An element of needs: behind it is the next place, or the fault. -/
theorem gneed_el {w : World} {q g off : Nat} {ts : List Tok} {a f : Nat} {out : List ByteArray} {R : Except Fau (List ByteArray × Nat)} (h : GP w q g off ts (a + 1)) (hF : needsF ts (f + 1) out a = R) {t : Tok} (ht : ts[a]? = some t) (hk : t.kind = 1) (hlim : out.length < 16)
    {j bx B : Nat} {x : J15} {v : Value} (hrow : JRow w j { x with needs := v }) (hown : XOwn w 9 1 B v out.length (out.map Value.string)) (hbox : w.cell? ⟨bx, 0, none⟩ = some (.pointer (some ⟨j, 0, none⟩))) (hds : q ≠ j ∧ g ≠ j ∧ q < B ∧ g < B ∧ j < B) (hbB : bx < B) (hB : B ≤ w.heap.size) :
    Calls Tryz.prog 121 #[t.val, .pointer (some ⟨bx, 0, none⟩)] w fun en w' => GrP (PQ q j B) w w' ∧
      ((∃ a' out' v', en = .returned (.tuple #[]) ∧ GP w' q g off ts a' ∧ a < a' ∧ JRow w' j { x with needs := v' } ∧ XOwn w' 9 1 B v' out'.length (out'.map Value.string) ∧ out'.length = out.length + 1 ∧ afterN ts f out' a' R) ∨ (∃ e ex ey, en = fauE e ex ey ∧ R = .error (e, ex, ey))) := by
  have hs : (bytesOf t.text).size ≤ 10000 := by rw [bytesOf_size]; exact h.txt t (List.mem_of_getElem? ht)
  refine (gneed_ex hrow hbox hown (by omega) hds.2.2.2.2 hbB hB t.kind t.line t.col (bytesOf t.text) hs).mono ?_
  rintro en w' ⟨h1, h2, h3, h4⟩
  obtain ⟨_, _, s3, s4, s5⟩ := needsF_step hF ht
  have hv : ∀ k, v.ownBlock = some k → B ≤ k := fun k e => (xown_block hown k e).1
  have hg : GrP (PQ q j B) w w' := h1.mono (fun k _ e => e.elim (fun e => .inr (.inl e)) (fun e => .inr (.inr (hv k e))))
  refine ⟨hg, ?_⟩
  by_cases hm : 32 < ((bytesOf t.text).size : Int)
  · exact .inr ⟨_, _, _, h2 hm, s3 hk hlim hm⟩
  · by_cases hin : bytesOf t.text ∈ out
    · exact .inr ⟨_, _, _, h3 hm hin, s4 hk hlim hm hin⟩
    · obtain ⟨e1, v', e2, e3⟩ := h4 hm hin
      have nq : ∀ r, r ≠ j → r < B → ¬ PN j v r := by
        rintro r r1 r2 (e | e)
        · exact r1 e
        · have := hv r e; omega
      exact .inl ⟨a + 1, out ++ [bytesOf t.text], v', e1, h.step h1 (nq q hds.1 hds.2.2.1) (nq g hds.2.1 hds.2.2.2.1), by omega, e2, by rw [List.length_append]; exact e3, by simp, s5 hk hlim hm hin⟩
end Go.Proofs.YtdncjhffniepbaaGreatDoor.Lx
/- (GrF)
  Layer 6, the program: A list of needs: the walk.
-/
namespace Go.Proofs.YtdncjhffniepbaaGreatDoor.Lx
open Go.RowKit

theorem readF_eq {ts : List Tok} {kd : Int} {a : Nat} {t : Tok} (ht : ts[a]? = some t) : readF ts kd a = if t.kind = kd then .ok (a + 1) else tokFault 60 t := by unfold readF; rw [ht]
theorem gp_more {w : World} {q g off : Nat} {ts : List Tok} {a : Nat} (h : GP w q g off ts a) {t : Tok} (ht : ts[a]? = some t) (h6 : t.kind ≠ 6) : a + 1 < ts.length := by
  have h1 := h.lt
  rcases Nat.lt_or_ge (a + 1) ts.length with h2 | h2
  · exact h2
  · have h3 : a = ts.length - 1 := by omega
    rw [h3] at ht
    exact absurd (h.fin t ht) h6
set_option maxHeartbeats 4000000 in
set_option maxRecDepth 100000 in
theorem gneeds_list {w : World} {q g off : Nat} {ts : List Tok} {a : Nat} (h : GP w q g off ts a) {j bx B : Nat} {x : J15} (hrow : JRow w j x) (hnil : x.needs = .slice none 0 0) (hbox : w.cell? ⟨bx, 0, none⟩ = some (.pointer (some ⟨j, 0, none⟩)))
    (hbq : bx ≠ q) (hbj : bx ≠ j) (hbB : bx < B) (hds : q ≠ j ∧ g ≠ j ∧ q < B ∧ g < B ∧ j < B) (hB : B ≤ w.heap.size) :
    Calls Tryz.prog 120 #[.pointer (some ⟨q, 0, none⟩), .int .i64 16, .func (Fn.func 121) #[] #[.pointer (some ⟨bx, 0, none⟩)]] w (NeedsPost w q g off ts j B x (needsF ts (ts.length + 1) [] a)) := by
  have HH := Lib.hid h
  have HROW := Lib.hid hrow
  have HBX := Lib.hid hbox
  have HB1 := Lib.hid hbq
  have HB2 := Lib.hid hbj
  have HB3 := Lib.hid hbB
  have HDS := Lib.hid hds
  have HBW := Lib.hid hB
  have HJQ := Lib.hid (show ¬ (fun k => k = q) j from fun e => hds.1 e.symm)
  have hnil2 := Lib.hid (show x = { x with needs := .slice none 0 0 } by rw [← hnil])
  generalize hR0 : needsF ts (ts.length + 1) [] a = R
  have HR0 := Lib.hid hR0
  clear h hrow hbox hbq hbj hbB hds hB hR0 hnil
  go_enter Tryz.func120, Tryz.ntmps120
  go_wp2_with fail
  go_loopg [6] (ts.length + 1) (fun g' nv wr => ∃ (a1 f : Nat) (out : List ByteArray) (v : Value), nv = .int .i64 out.length ∧ GP wr q g off ts a1 ∧ GrP (PQ q j B) w wr ∧ JRow wr j { x with needs := v } ∧ XOwn wr 9 1 B v out.length (out.map Value.string) ∧ ((out = [] ∧ needsF ts (f + 1) out a1 = R) ∨ (out ≠ [] ∧ afterN ts (f + 1) out a1 R)) ∧ out.length ≤ 16 ∧ ts.length ≤ a1 + f + 1 ∧ ts.length - a1 + 1 ≤ g')
  case atStart => exact ⟨a, ts.length, [], .slice none 0 0, rfl, HH.out, GrP.refl _ _, (by rw [← hnil2.out]; exact HROW.out), World.ownsRow_nil _ _ _ _, .inl ⟨rfl, HR0.out⟩, by simp, by omega, by omega⟩
  case round =>
    obtain ⟨a1, f, out, v, rfl, hp, hgr, hjr, hown, hst, hl, hf, hg⟩ := hrel
    obtain ⟨wo, rfl⟩ : ∃ wo : World, wo = wr := ⟨_, rfl⟩
    have PC := Lib.hid hp
    have GC := Lib.hid hgr
    have JC := Lib.hid hjr
    have OC := Lib.hid hown
    clear hgr hjr hown
    rcases hst with ⟨h0, hF⟩ | ⟨h0, hF⟩
    · subst h0
      obtain ⟨⟨tk, tt, tl, tc⟩, ht, htl⟩ := hp.now
      have HT := Lib.hid ht
      have HST := needsF_step hF ht
      have HN := Lib.hid hF
      have hlt := hp.lt
      by_cases hk : tk = 1
      · subst hk
        have HRD := Lib.hid (show readF ts 1 a1 = .ok (a1 + 1) by rw [readF_eq ht]; exact if_pos rfl)
        have HL := Lib.hid (show ([] : List ByteArray).length < 16 by simp)
        clear ht hF hp HST
        go_wp2_with (first
        | (go_at_call 87; ((with_reducible refine (gread_ex PC.out HT.out 1 (by decide)).mono ?_); rintro e wn ⟨hgn, hst⟩; rw [HRD.out] at hst; obtain ⟨rfl, hpn⟩ := hst; have K1 := heap_alloc_new wn (TokB 1 (bytesOf tt) tl tc); have d0 := cell_of_row _ _ 0 _ _ _ K1; have d1 := cell_of_row _ _ 1 _ _ _ K1; have d2 := cell_of_row _ _ 2 _ _ _ K1; have d3 := cell_of_row _ _ 3 _ _ _ K1; have hgb := hgn.trans (GrP.of_below (balloc wn (TokB 1 (bytesOf tt) tl tc))); have PC := Lib.hid (hpn.below (balloc wn (TokB 1 (bytesOf tt) tl tc))); have GC := Lib.hid (GC.out.trans (hgb.mono (fun k _ e => .inl e))); have JC := Lib.hid ((hgb.block j (heap_lt JC.out) HJQ.out).trans JC.out); have OC := Lib.hid (xown_grp OC.out hgb (fun g9 e9 e => by have q1 := (xown_block OC.out g9 e9).1; have q2 := HDS.out.2.2.1; omega)); clear hgn hgb hpn K1))
        | (go_at_call 121; ((with_reducible refine (gneed_el PC.out HN.out HT.out rfl HL.out JC.out OC.out (boxS GC.out HBX.out HB1.out HB2.out HB3.out) HDS.out HB3.out (Nat.le_trans HBW.out GC.out.size)).mono ?_); rintro e wn ⟨hgn, hst⟩; have GC := Lib.hid (GC.out.trans hgn); clear hgn; rcases hst with ⟨a', out', v', rfl, hp', ha', hj', ho', hl', haf⟩ | ⟨ee, ex, ey, rfl, hR⟩))
        | (go_at_call 61; ((with_reducible refine (gfail_ex _ _ _ _ _ _).mono ?_); rintro e wf ⟨rfl, hbf⟩; have BF := Lib.hid hbf; clear hbf)))
        · skip
          have hf2 : ∃ f2, f = f2 + 1 := ⟨f - 1, by have := hp'.lt; omega⟩
          obtain ⟨f2, rfl⟩ := hf2

          go_roundg (ts.length - a' + 1)
          case measure => have := hp'.lt; omega
          case rel => exact ⟨a', f2, out', v', by first | rfl | (simp only [hl']; rfl), hp', GC.out, hj', ho', .inr ⟨fun e => by rw [e] at hl'; simp at hl', haf⟩, by rw [hl']; simp, by have := hp'.lt; omega, Nat.le_refl _⟩
        · first | exact ⟨rfl, GC.out, rfl⟩ | (rw [hR]; exact ⟨rfl, GC.out, rfl⟩)
      · have HRD := Lib.hid (show readF ts 1 a1 = .error (60, tl, tc) by rw [readF_eq ht]; exact if_neg hk)
        have hR := Lib.hid (HST.1 hk)
        clear HST
        go_wp2_with (go_at_call 87; ((with_reducible refine (gread_ex PC.out HT.out 1 (by decide)).mono ?_); rintro e wn ⟨hgn, hst⟩; rw [HRD.out] at hst; subst hst; have GC := Lib.hid (GC.out.trans (hgn.mono (fun k _ e => .inl e))); clear hgn))
        rw [hR.out]; exact ⟨rfl, GC.out, rfl⟩
    · have hop : 0 < out.length := List.length_pos_iff.2 h0
      have hz : ((out.length : Int) == 0) = false := by simp; intro e; exact h0 e
      have hpos : (0 : Int) < (out.length : Int) := by omega
      by_cases hc : isF ts 5 ⟨#[44]⟩ a1
      · have hF2 := hF.1 hc
        have HC := Lib.hid hc
        obtain ⟨t5, ht5, hk5, hb5⟩ := hc
        have HWD := Lib.hid (show wordF ts 5 ⟨#[44]⟩ a1 = .ok (a1 + 1) by unfold wordF; rw [ht5]; exact if_pos ⟨hk5, hb5⟩)
        have hlt1 : a1 + 1 < ts.length := gp_more hp ht5 (by omega)
        obtain ⟨⟨tk, tt, tl, tc⟩, ht⟩ : ∃ t, ts[a1 + 1]? = some t := ⟨_, List.getElem?_eq_getElem hlt1⟩
        have HT := Lib.hid ht
        have HST := needsF_step hF2 ht
        have HN := Lib.hid hF2
        by_cases hk : tk = 1
        · subst hk
          have HRD := Lib.hid (show readF ts 1 (a1 + 1) = .ok (a1 + 1 + 1) by rw [readF_eq ht]; exact if_pos rfl)
          by_cases hlim : out.length = 16
          · have hR := Lib.hid (HST.2.1 rfl hlim)
            have hlb : ((out.length : Int) == 16) = true := by simp [hlim]
            clear ht hF hF2 hp HST ht5 hk5 hb5
            go_wp2_with (first
        | (go_at_call 88; ((with_reducible refine (gfollows_ex PC.out 5 ⟨#[44]⟩).mono ?_); rintro e wn ⟨r, rfl, hr, hb⟩; obtain rfl : r = true := hr.2 HC.out; clear hr; have PC := Lib.hid (PC.out.below hb); have GC := Lib.hid (GC.out.trans (GrP.of_below hb)); have JC := Lib.hid ((hb.block j (heap_lt JC.out)).trans JC.out); have OC := Lib.hid (xown_below OC.out hb); clear hb))
        | (go_at_call 59; ((with_reducible refine (gexpect_ex PC.out ⟨#[44]⟩ 5 (by decide)).mono ?_); rintro e wn ⟨hgn, hst⟩; rw [HWD.out] at hst; obtain ⟨rfl, hpn⟩ := hst; have PC := Lib.hid hpn; have GC := Lib.hid (GC.out.trans (hgn.mono (fun k _ e => .inl e))); have JC := Lib.hid ((hgn.block j (heap_lt JC.out) HJQ.out).trans JC.out); have OC := Lib.hid (xown_grp OC.out hgn (fun g9 e9 e => by have q1 := (xown_block OC.out g9 e9).1; have q2 := HDS.out.2.2.1; omega)); clear hgn hpn))
        | (go_at_call 87; ((with_reducible refine (gread_ex PC.out HT.out 1 (by decide)).mono ?_); rintro e wn ⟨hgn, hst⟩; rw [HRD.out] at hst; obtain ⟨rfl, hpn⟩ := hst; have K1 := heap_alloc_new wn (TokB 1 (bytesOf tt) tl tc); have d0 := cell_of_row _ _ 0 _ _ _ K1; have d1 := cell_of_row _ _ 1 _ _ _ K1; have d2 := cell_of_row _ _ 2 _ _ _ K1; have d3 := cell_of_row _ _ 3 _ _ _ K1; have hgb := hgn.trans (GrP.of_below (balloc wn (TokB 1 (bytesOf tt) tl tc))); have PC := Lib.hid (hpn.below (balloc wn (TokB 1 (bytesOf tt) tl tc))); have GC := Lib.hid (GC.out.trans (hgb.mono (fun k _ e => .inl e))); have JC := Lib.hid ((hgb.block j (heap_lt JC.out) HJQ.out).trans JC.out); have OC := Lib.hid (xown_grp OC.out hgb (fun g9 e9 e => by have q1 := (xown_block OC.out g9 e9).1; have q2 := HDS.out.2.2.1; omega)); clear hgn hgb hpn K1))
        | (go_at_call 121; ((with_reducible refine (gneed_el PC.out HN.out HT.out rfl HL.out JC.out OC.out (boxS GC.out HBX.out HB1.out HB2.out HB3.out) HDS.out HB3.out (Nat.le_trans HBW.out GC.out.size)).mono ?_); rintro e wn ⟨hgn, hst⟩; have GC := Lib.hid (GC.out.trans hgn); clear hgn; rcases hst with ⟨a', out', v', rfl, hp', ha', hj', ho', hl', haf⟩ | ⟨ee, ex, ey, rfl, hR⟩))
        | (go_at_call 61; ((with_reducible refine (gfail_ex _ _ _ _ _ _).mono ?_); rintro e wf ⟨rfl, hbf⟩; have BF := Lib.hid hbf; clear hbf)))
            rw [hR.out]; exact ⟨rfl, GC.out.trans (GrP.of_below BF.out), rfl⟩
          · have HL := Lib.hid (show out.length < 16 by omega)
            have hlb : ((out.length : Int) == 16) = false := by simp; omega
            clear ht hF hF2 hp HST ht5 hk5 hb5
            go_wp2_with (first
        | (go_at_call 88; ((with_reducible refine (gfollows_ex PC.out 5 ⟨#[44]⟩).mono ?_); rintro e wn ⟨r, rfl, hr, hb⟩; obtain rfl : r = true := hr.2 HC.out; clear hr; have PC := Lib.hid (PC.out.below hb); have GC := Lib.hid (GC.out.trans (GrP.of_below hb)); have JC := Lib.hid ((hb.block j (heap_lt JC.out)).trans JC.out); have OC := Lib.hid (xown_below OC.out hb); clear hb))
        | (go_at_call 59; ((with_reducible refine (gexpect_ex PC.out ⟨#[44]⟩ 5 (by decide)).mono ?_); rintro e wn ⟨hgn, hst⟩; rw [HWD.out] at hst; obtain ⟨rfl, hpn⟩ := hst; have PC := Lib.hid hpn; have GC := Lib.hid (GC.out.trans (hgn.mono (fun k _ e => .inl e))); have JC := Lib.hid ((hgn.block j (heap_lt JC.out) HJQ.out).trans JC.out); have OC := Lib.hid (xown_grp OC.out hgn (fun g9 e9 e => by have q1 := (xown_block OC.out g9 e9).1; have q2 := HDS.out.2.2.1; omega)); clear hgn hpn))
        | (go_at_call 87; ((with_reducible refine (gread_ex PC.out HT.out 1 (by decide)).mono ?_); rintro e wn ⟨hgn, hst⟩; rw [HRD.out] at hst; obtain ⟨rfl, hpn⟩ := hst; have K1 := heap_alloc_new wn (TokB 1 (bytesOf tt) tl tc); have d0 := cell_of_row _ _ 0 _ _ _ K1; have d1 := cell_of_row _ _ 1 _ _ _ K1; have d2 := cell_of_row _ _ 2 _ _ _ K1; have d3 := cell_of_row _ _ 3 _ _ _ K1; have hgb := hgn.trans (GrP.of_below (balloc wn (TokB 1 (bytesOf tt) tl tc))); have PC := Lib.hid (hpn.below (balloc wn (TokB 1 (bytesOf tt) tl tc))); have GC := Lib.hid (GC.out.trans (hgb.mono (fun k _ e => .inl e))); have JC := Lib.hid ((hgb.block j (heap_lt JC.out) HJQ.out).trans JC.out); have OC := Lib.hid (xown_grp OC.out hgb (fun g9 e9 e => by have q1 := (xown_block OC.out g9 e9).1; have q2 := HDS.out.2.2.1; omega)); clear hgn hgb hpn K1))
        | (go_at_call 121; ((with_reducible refine (gneed_el PC.out HN.out HT.out rfl HL.out JC.out OC.out (boxS GC.out HBX.out HB1.out HB2.out HB3.out) HDS.out HB3.out (Nat.le_trans HBW.out GC.out.size)).mono ?_); rintro e wn ⟨hgn, hst⟩; have GC := Lib.hid (GC.out.trans hgn); clear hgn; rcases hst with ⟨a', out', v', rfl, hp', ha', hj', ho', hl', haf⟩ | ⟨ee, ex, ey, rfl, hR⟩))
        | (go_at_call 61; ((with_reducible refine (gfail_ex _ _ _ _ _ _).mono ?_); rintro e wf ⟨rfl, hbf⟩; have BF := Lib.hid hbf; clear hbf)))
            · skip
              obtain ⟨f2, rfl⟩ : ∃ f2, f = f2 + 1 := ⟨f - 1, by have := hp'.lt; omega⟩
              go_roundg (ts.length - a' + 1)
              case measure => have := hp'.lt; omega
              case rel => exact ⟨a', f2, out', v', by rw [hl']; rfl, hp', GC.out, hj', ho', .inr ⟨fun e => by rw [e] at hl'; simp at hl', haf⟩, by rw [hl']; have := HL.out; omega, by have := hp'.lt; omega, Nat.le_refl _⟩
            · first | exact ⟨rfl, GC.out, rfl⟩ | (rw [hR]; exact ⟨rfl, GC.out, rfl⟩)
        · have HRD := Lib.hid (show readF ts 1 (a1 + 1) = .error (60, tl, tc) by rw [readF_eq ht]; exact if_neg hk)
          have hR := Lib.hid (HST.1 hk)
          clear ht hF hF2 hp HST ht5 hk5 hb5
          go_wp2_with (first
        | (go_at_call 88; ((with_reducible refine (gfollows_ex PC.out 5 ⟨#[44]⟩).mono ?_); rintro e wn ⟨r, rfl, hr, hb⟩; obtain rfl : r = true := hr.2 HC.out; clear hr; have PC := Lib.hid (PC.out.below hb); have GC := Lib.hid (GC.out.trans (GrP.of_below hb)); clear hb))
        | (go_at_call 59; ((with_reducible refine (gexpect_ex PC.out ⟨#[44]⟩ 5 (by decide)).mono ?_); rintro e wn ⟨hgn, hst⟩; rw [HWD.out] at hst; obtain ⟨rfl, hpn⟩ := hst; have PC := Lib.hid hpn; have GC := Lib.hid (GC.out.trans (hgn.mono (fun k _ e => .inl e))); clear hgn hpn))
        | (go_at_call 87; ((with_reducible refine (gread_ex PC.out HT.out 1 (by decide)).mono ?_); rintro e wn ⟨hgn, hst⟩; rw [HRD.out] at hst; subst hst; have GC := Lib.hid (GC.out.trans (hgn.mono (fun k _ e => .inl e))); clear hgn)))
          rw [hR.out]; exact ⟨rfl, GC.out, rfl⟩
      · have hR := Lib.hid (hF.2 hc)
        have HC := Lib.hid hc
        clear hF hp hc
        go_wp2_with (go_at_call 88; ((with_reducible refine (gfollows_ex PC.out 5 ⟨#[44]⟩).mono ?_); rintro e wn ⟨r, rfl, hr, hb⟩; obtain rfl : r = false := (by cases r; rfl; exact absurd (hr.1 rfl) HC.out); clear hr; have PC := Lib.hid (PC.out.below hb); have GC := Lib.hid (GC.out.trans (GrP.of_below hb)); have JC := Lib.hid ((hb.block j (heap_lt JC.out)).trans JC.out); have OC := Lib.hid (xown_below OC.out hb); clear hb))
        go_end0
        rw [hR.out]; exact ⟨GC.out, rfl, PC.out, _, JC.out, OC.out⟩
end Go.Proofs.YtdncjhffniepbaaGreatDoor.Lx
/- (GrG)
  Layer 6, the program: needs; an element of a ladder.
-/
namespace Go.Proofs.YtdncjhffniepbaaGreatDoor.Lx
open Go.RowKit

theorem xown_mono {w : World} {e : TypeId} {k B B' : Nat} {v : Value} {n : Nat} {xs : List Value} (h : XOwn w e k B v n xs) (hB : B' ≤ B) : XOwn w e k B' v n xs := by
  refine ⟨h.1, ?_⟩
  rcases h.2 with h | ⟨g, cap, cur, h1, h2, h3⟩
  · exact .inl h
  · exact .inr ⟨g, cap, cur, h1, by omega, h3⟩
theorem JRow.below {w w' : World} {j : Nat} {x : J15} (h : JRow w j x) (hb : Below w.heap.size w w') : JRow w' j x := (hb.block j (heap_lt h)).trans h
set_option maxRecDepth 100000 in
theorem gneeds_ex {w : World} {q g off : Nat} {ts : List Tok} {a : Nat} (h : GP w q g off ts a) {j : Nat} {x : J15} (hrow : JRow w j x) (hnil : x.needs = .slice none 0 0) (hds : q ≠ j ∧ g ≠ j) :
    Calls Tryz.prog 108 #[.pointer (some ⟨q, 0, none⟩), .pointer (some ⟨j, 0, none⟩)] w (NeedsPost w q g off ts j w.heap.size x (needsF ts (ts.length + 1) [] a)) := by
  have hmf : ∀ (fn : Fn) (first cap : Array Value) (w : World), (Instr.makeFunc fn first cap).run Tryz.prog w = .ok (.func fn first cap) w := fun _ _ _ _ => rfl
  have B0 := Lib.hid (balloc w (.cells #[.pointer (some ⟨j, 0, none⟩)] 151))
  have hqw := h.qlt
  have hgw := h.glt
  have hjw := heap_lt hrow
  have HL := Lib.hid (gneeds_list (h.below B0.out) (hrow.below B0.out) hnil (bx := w.heap.size) (B := w.heap.size + 1) (cell_of_row _ _ 0 _ _ _ (heap_alloc_new w _)) (by omega) (by omega) (by omega) ⟨hds.1, hds.2, by omega, by omega, by omega⟩ (by simp))
  clear h hrow hnil
  generalize needsF ts (ts.length + 1) [] a = R at *
  rcases R with f | ⟨l, a'⟩
  · go_enter Tryz.func108, Tryz.ntmps108
    go_wp2_with (go_at_call 120; ((with_reducible refine HL.out.mono ?_); rintro e w1 ⟨hg1, rfl⟩; have G1 := Lib.hid hg1; clear hg1))
    exact ⟨rfl, ((GrP.of_below B0.out).trans (G1.out.mono (fun k _ e => e))).mono (fun k hk e => by unfold PQ at *; omega), rfl⟩
  · go_enter Tryz.func108, Tryz.ntmps108
    go_wp2_with (go_at_call 120; ((with_reducible refine HL.out.mono ?_); rintro e w1 ⟨hg1, rfl, hp, v', hj, ho⟩; have G1 := Lib.hid hg1; have P1 := Lib.hid hp; have J1 := Lib.hid hj; have O1 := Lib.hid ho; clear hg1 hp hj ho))
    go_end0
    exact ⟨((GrP.of_below B0.out).trans (G1.out.mono (fun k _ e => e))).mono (fun k hk e => by unfold PQ at *; omega), rfl, P1.out, v', J1.out, xown_mono O1.out (by omega)⟩
end Go.Proofs.YtdncjhffniepbaaGreatDoor.Lx
/- (GrK)
  Layer 6, the program: is there a variable of this name already?
-/
namespace Go.Proofs.YtdncjhffniepbaaGreatDoor.Lx
open Go.RowKit

/-- Variables as cells. -/
def varCells (l : List (ByteArray × ByteArray)) : List Value := l.flatMap fun r => [.string r.1, .string r.2]
theorem varCells_length (l : List (ByteArray × ByteArray)) : (varCells l).length = l.length * 2 := by
  induction l with
  | nil => rfl
  | cons r l ih => simp only [varCells, List.flatMap_cons, List.length_append, List.length_cons, List.length_nil] at *; omega
theorem varCells_snoc (l : List (ByteArray × ByteArray)) (r : ByteArray × ByteArray) : varCells (l ++ [r]) = varCells l ++ [.string r.1, .string r.2] := by simp [varCells]
theorem varCells_at : ∀ (l : List (ByteArray × ByteArray)) (k : Nat) (h : k < l.length), (varCells l)[k * 2]? = some (.string (l[k]'h).1) ∧ (varCells l)[k * 2 + 1]? = some (.string (l[k]'h).2)
  | r :: l, 0, _ => ⟨rfl, rfl⟩
  | r :: l, k + 1, h => by
    obtain ⟨h1, h2⟩ := varCells_at l k (by simpa using h)
    have e : varCells (r :: l) = .string r.1 :: .string r.2 :: varCells l := by simp [varCells]
    rw [e, show (k + 1) * 2 = k * 2 + 1 + 1 by omega, show k * 2 + 1 + 1 + 1 = (k * 2 + 1) + 1 + 1 by omega]
    simp only [List.getElem?_cons_succ]
    exact ⟨h1, h2⟩
theorem cell_up {w w' : World} {k i : Nat} {u : Value} (hb : Below w.heap.size w w') (h : w.cell? ⟨k, i, none⟩ = some u) : w'.cell? ⟨k, i, none⟩ = some u := (hb.cell (World.block_lt_of_cell? w _ h)).trans h
abbrev VarB (n v : ByteArray) : Obj := .cells #[.string n, .string v] 121
set_option maxRecDepth 100000 in
theorem gvarfn_ex {w : World} {nb : Nat} {s : ByteArray} (hbox : w.cell? ⟨nb, 1, none⟩ = some (.string s)) (n v : ByteArray) :
    Calls Tryz.prog 119 #[.agg #[.string n, .string v], .pointer (some ⟨nb, 0, none⟩)] w fun e w' => e = .returned (.bool (decide (n = s))) ∧ Below w.heap.size w w' := by
  have k1 := heap_alloc_new w (VarB n v)
  have t0 := cell_of_row _ _ 0 _ _ _ k1
  have t1 := cell_of_row _ _ 1 _ _ _ k1
  have b0 := cell_up (balloc w (VarB n v)) hbox
  have B := Lib.hid (balloc w (VarB n v))
  clear k1 hbox
  go_enter Tryz.func119, Tryz.ntmps119
  go_wp2_with fail
  go_ret
  exact ⟨ret_i0 (congrArg Value.bool (str_eq n s)), B.out⟩
theorem notmem_snoc_fst {l : List (ByteArray × ByteArray)} {s : ByteArray} {r : ByteArray × ByteArray} (h : s ∉ l.map Prod.fst) (h2 : ¬ r.1 = s) : s ∉ (l ++ [r]).map Prod.fst := by
  rw [List.map_append]
  exact notin_snoc h h2
set_option maxHeartbeats 1000000 in
set_option maxRecDepth 100000 in
theorem gindexvar_ex {w : World} {v : Value} {n : Nat} {l : List (ByteArray × ByteArray)} (h : XLst w 2 v n (varCells l)) {nb : Nat} {s : ByteArray} (hbox : w.cell? ⟨nb, 1, none⟩ = some (.string s)) :
    Calls Tryz.prog 135 #[v, .func (Fn.func 119) #[] #[.pointer (some ⟨nb, 0, none⟩)]] w fun e w' => (∃ r : Int, e = .returned (.int .i64 r) ∧ (0 ≤ r ↔ s ∈ l.map Prod.fst)) ∧ Below w.heap.size w w' := by
  obtain ⟨A, c, rfl, hlen, h2, h4, h5, h6⟩ := h
  have hn : n ≤ 9223372036854775807 := by unfold maxLen at h6; omega
  have hln : l.length = n := by rw [varCells_length] at hlen; omega
  have H := Lib.hid h2
  have BX := Lib.hid hbox
  clear h2 h4 h5 h6 hlen hbox
  go_enter Tryz.func135, Tryz.ntmps135
  go_wp2_with fail
  go_loopg [8] (n + 1) (fun g' i wr => ∃ (k : Nat), i = .int .i64 k ∧ k ≤ n ∧ s ∉ (l.take k).map Prod.fst ∧ n - k + 1 ≤ g' ∧ Below w.heap.size w wr)
  case atStart => exact ⟨0, rfl, by omega, by simp, by omega, Below.refl _ _⟩
  case round =>
    obtain ⟨k, rfl, hk, hno, hg, hbr⟩ := hrel
    obtain ⟨wo, rfl⟩ : ∃ wo : World, wo = wr := ⟨_, rfl⟩
    have BR := Lib.hid hbr
    by_cases hkn : k < n
    · have hki : (k : Int) < (n : Int) := by omega
      have hkl : k < l.length := by omega
      obtain ⟨g, off, rfl, hc⟩ := H.out (by rw [varCells_length]; omega)
      have hu := varCells_at l k hkl
      have e0 := cell_up hbr (hc (k * 2) _ hu.1)
      have e1 := cell_up hbr (hc (k * 2 + 1) _ hu.2)
      have e1' : wo.cell? ⟨g, off + k * 2 + 1, none⟩ = some (.string (l[k]'hkl).2) := by rw [Nat.add_assoc]; exact e1
      have hmem : l[k]'hkl ∈ l := List.getElem_mem hkl
      have htk : l.take (k + 1) = l.take k ++ [l[k]'hkl] := List.take_succ_eq_append_getElem hkl
      generalize l[k]'hkl = t at *
      obtain ⟨tn, tv⟩ := t
      simp only at e0 e1 e1' hu
      have HF := Lib.hid (gvarfn_ex (cell_up hbr BX.out) tn tv)
      clear hc e1 hbr hu
      by_cases hst : tn = s
      · subst hst
        rw [decide_eq_true rfl] at HF
        go_wp2_with (go_at_call 119; ((with_reducible refine HF.out.mono ?_); rintro e w1 ⟨rfl, hb1⟩; have B1 := Lib.hid (BR.out.trans (hb1.mono BR.out.size)); clear hb1))
        go_ret
        exact ⟨⟨k, rfl, ⟨fun _ => List.mem_map.2 ⟨_, hmem, rfl⟩, fun _ => by omega⟩⟩, B1.out⟩
      · rw [decide_eq_false hst] at HF
        go_wp2_with (go_at_call 119; ((with_reducible refine HF.out.mono ?_); rintro e w1 ⟨rfl, hb1⟩; have B1 := Lib.hid (BR.out.trans (hb1.mono BR.out.size)); clear hb1))
        go_roundg (n - (k + 1) + 1)
        case measure => omega
        case rel => exact ⟨k + 1, by go_num, by omega, by rw [htk]; exact notmem_snoc_fst hno hst, Nat.le_refl _, B1.out⟩
    · obtain rfl : k = n := by omega
      rw [List.take_of_length_le (by omega)] at hno
      go_wp2_with fail
      go_ret
      exact ⟨⟨-1, rfl, ⟨fun h => by omega, fun h => absurd h hno⟩⟩, BR.out⟩
theorem gcontainsvar_ex {w : World} {v : Value} {n : Nat} {l : List (ByteArray × ByteArray)} (h : XLst w 2 v n (varCells l)) {nb : Nat} {s : ByteArray} (hbox : w.cell? ⟨nb, 1, none⟩ = some (.string s)) :
    Calls Tryz.prog 118 #[v, .func (Fn.func 119) #[] #[.pointer (some ⟨nb, 0, none⟩)]] w fun e w' => (∃ r : Bool, e = .returned (.bool r) ∧ (r = true ↔ s ∈ l.map Prod.fst)) ∧ Below w.heap.size w w' := by
  have HI := Lib.hid (gindexvar_ex h hbox)
  obtain ⟨A, c, rfl, _⟩ := h
  clear hbox
  go_enter Tryz.func118, Tryz.ntmps118
  go_wp2_with (go_at_call 135; ((with_reducible refine HI.out.mono ?_); rintro e w1 ⟨⟨r, rfl, hr⟩, hb1⟩; have HR := Lib.hid hr; have B1 := Lib.hid hb1; clear hr hb1))
  go_ret
  exact ⟨⟨_, rfl, by rw [decide_eq_true_eq]; exact HR.out⟩, B1.out⟩
end Go.Proofs.YtdncjhffniepbaaGreatDoor.Lx
/- (GrL)
  Layer 6, the program: a variable.
-/
namespace Go.Proofs.YtdncjhffniepbaaGreatDoor.Lx
open Go.RowKit

open Classical in
/-- What variable does. -/
noncomputable def varF (ts : List Tok) (env : List (ByteArray × ByteArray)) (a : Nat) : Except Fau ((ByteArray × ByteArray) × Nat) :=
  match takeF ts 1 32 a with
  | .error f => .error f
  | .ok n =>
    match ts[a]? with
    | none => .error (60, 0, 0)
    | some t =>
      if 16 ≤ env.length then .error (1, t.line, t.col)
      else if bytesOf t.text ∈ env.map Prod.fst then .error (5, t.line, t.col)
      else
        match signF ts ⟨#[61]⟩ n with
        | .error f => .error f
        | .ok n2 =>
          match takeF ts 3 512 n2 with
          | .error f => .error f
          | .ok n3 => .ok ((bytesOf t.text, txtAt ts n2), n3)
theorem wordF_sign {ts : List Tok} {z : ByteArray} {a : Nat} : wordF ts 5 z a = signF ts z a := rfl
theorem signF_ok {ts : List Tok} {z : ByteArray} {a n : Nat} (h : signF ts z a = .ok n) : n = a + 1 := by
  unfold signF at h
  split at h
  · cases h
  · split at h
    · injection h with h; exact h.symm
    · cases h
def VarPost (w : World) (q g off : Nat) (ts : List Tok) (R : Except Fau ((ByteArray × ByteArray) × Nat)) (en : Ending) (w' : World) : Prop :=
  GrP (fun k => k = q) w w' ∧ match R with
  | .ok (p, a') => en = .returned (.agg #[.string p.1, .string p.2]) ∧ GP w' q g off ts a'
  | .error f => en = fauE f.1 f.2.1 f.2.2
theorem xlst_grp {P : Nat → Prop} {w w' : World} {k : Nat} {v : Value} {n : Nat} {xs : List Value} (h : XLst w k v n xs) (hg : GrP P w w') (hne : ∀ g, v.ownBlock = some g → ¬ P g) : XLst w' k v n xs := by
  obtain ⟨A, c, rfl, h2, h3, h4⟩ := h
  refine ⟨A, c, rfl, h2, fun hn => ?_, h4⟩
  obtain ⟨g, off, hA, hc⟩ := h3 hn
  refine ⟨g, off, hA, fun j u hj => ?_⟩
  have h1 := hc j u hj
  exact (World.cell?_of_block (a := ⟨g, _, none⟩) (hg.block g (World.block_lt_of_cell? w _ h1) (hne g (by rw [hA]; rfl)))).trans h1
theorem set2_row {w : World} {R : Nat} {a b : Value} {t : TypeId} (h : w.heap[R]? = some (.cells #[a, b] t (0, 0))) (x y : Value) : ((w.setCell ⟨R, 0, none⟩ x).setCell ⟨R, 1, none⟩ y).heap[R]? = some (.cells #[x, y] t (0, 0)) := by
  simp [World.setCell, Array.getElem?_modify, h]
set_option maxHeartbeats 4000000 in
set_option maxRecDepth 100000 in
theorem gvariable_ex {w : World} {q g off : Nat} {ts : List Tok} {a : Nat} (h : GP w q g off ts a) {env : List (ByteArray × ByteArray)} {v : Value} (henv : XLst w 2 v env.length (varCells env)) (hvq : v.ownBlock ≠ some q) (hlen : env.length ≤ 16) :
    Calls Tryz.prog 107 #[.pointer (some ⟨q, 0, none⟩), v] w (VarPost w q g off ts (varF ts env a)) := by
  obtain ⟨⟨tk, tt, tl, tc⟩, ht, htl⟩ := h.now
  generalize hR : varF ts env a = R
  unfold varF at hR
  have VZ := Lib.hid (balloc w (VarB ⟨#[]⟩ ⟨#[]⟩))
  have KZ := Lib.hid (heap_alloc_new w (VarB ⟨#[]⟩ ⟨#[]⟩))
  have HL := Lib.hid (glimited_ex (h.below VZ.out) ht 1 32 (by decide))
  have hqw := h.qlt
  have hgw := h.glt
  have EV := Lib.hid (henv.below VZ.out)
  have HV := Lib.hid (show ∀ r, v.ownBlock = some r → ¬ (fun k => k = q) r from fun r e e2 => hvq (by rw [e]; exact congrArg some e2))
  have hqz : q ≠ w.heap.size := by omega
  have hgz : g ≠ w.heap.size := by omega
  have QZ := Lib.hid (show ¬ (fun k => k = q) w.heap.size from fun e => hqz e.symm)
  obtain ⟨A, c, hA⟩ : ∃ A c, v = .slice A env.length c := by obtain ⟨A, c, e, _⟩ := henv; exact ⟨A, c, e⟩
  subst hA
  clear henv hvq
  change Hid (Calls _ _ _ _ (GPost _ q g off ts _ (.agg #[.int .i64 tk, .string (bytesOf tt), .int .i64 tl, .int .i64 tc]))) at HL
  cases hT : takeF ts 1 32 a with
  | error f =>
    rw [hT] at hR HL
    subst hR
    clear h ht hT
    go_enter Tryz.func107, Tryz.ntmps107
    go_wp2_with (go_at_call 60; ((with_reducible refine HL.out.mono ?_); rintro e w1 ⟨hg1, rfl⟩; have G1 := Lib.hid hg1; clear hg1))
    exact ⟨rfl, (GrP.of_below VZ.out).trans G1.out, rfl⟩
  | ok n =>
    rw [hT] at hR HL
    simp only [ht] at hR
    obtain ⟨rfl, t', ht', hk, _⟩ := takeF_ok hT
    rw [ht] at ht'
    injection ht' with ht'
    subst ht'
    simp only at hk htl
    subst hk
    have HT := Lib.hid ht
    clear h ht hT
    generalize bytesOf tt = s at *
    by_cases h16 : 16 ≤ env.length
    · rw [if_pos h16] at hR
      subst hR
      have hl16 : ((env.length : Int) == 16) = true := by simp; omega
      go_enter Tryz.func107, Tryz.ntmps107
      go_wp2_with (first
        | (go_at_call 60; ((with_reducible refine HL.out.mono ?_); rintro e w1 ⟨hg1, rfl, hp1⟩; have G1 := Lib.hid (hg1.trans (GrP.of_below (balloc w1 (TokB 1 s tl tc)))); have K1 := heap_alloc_new w1 (TokB 1 s tl tc); have d0 := cell_of_row _ _ 0 _ _ _ K1; have d1 := cell_of_row _ _ 1 _ _ _ K1; have d2 := cell_of_row _ _ 2 _ _ _ K1; have d3 := cell_of_row _ _ 3 _ _ _ K1; clear hg1 hp1 K1))
        | (go_at_call 61; ((with_reducible refine (gfail_ex _ _ _ _ _ _).mono ?_); rintro e wf ⟨rfl, hbf⟩; have BF := Lib.hid hbf; clear hbf)))
      exact ⟨rfl, ((GrP.of_below VZ.out).trans G1.out).trans (GrP.of_below BF.out), rfl⟩
    · rw [if_neg h16] at hR
      have hl16 : ((env.length : Int) == 16) = false := by simp; omega
      have hmf : ∀ (fn : Fn) (first cap : Array Value) (w : World), (Instr.makeFunc fn first cap).run Tryz.prog w = .ok (.func fn first cap) w := fun _ _ _ _ => rfl
      by_cases hin : s ∈ env.map Prod.fst
      · rw [if_pos hin] at hR
        subst hR
        have HIN := Lib.hid hin
        clear hin
        go_enter Tryz.func107, Tryz.ntmps107
        go_wp2_with (first
          | (go_at_call 60; ((with_reducible refine HL.out.mono ?_); rintro e w1 ⟨hg1, rfl, hp1⟩; have hga := hg1.trans (GrP.of_below (balloc w1 (TokB 1 s tl tc))); have G1 := Lib.hid hga; have E1 := Lib.hid (xlst_grp EV.out hga HV.out); have K1 := heap_alloc_new w1 (TokB 1 s tl tc); have KC := Lib.hid K1; have d1 := cell_of_row _ _ 1 _ _ _ K1; have D1 := Lib.hid d1; have d0 := cell_of_row _ _ 0 _ _ _ K1; have d2 := cell_of_row _ _ 2 _ _ _ K1; have d3 := cell_of_row _ _ 3 _ _ _ K1; clear hg1 hp1 K1 hga))
          | (go_at_call 118; ((with_reducible refine (gcontainsvar_ex E1.out D1.out).mono ?_); rintro e w2 ⟨⟨r, rfl, hr⟩, hb2⟩; obtain rfl : r = true := hr.2 HIN.out; have B2 := Lib.hid hb2; have K2 := (hb2.block _ (heap_lt KC.out)).trans KC.out; have d0 := cell_of_row _ _ 0 _ _ _ K2; have d1 := cell_of_row _ _ 1 _ _ _ K2; have d2 := cell_of_row _ _ 2 _ _ _ K2; have d3 := cell_of_row _ _ 3 _ _ _ K2; clear hb2 K2 hr))
          | (go_at_call 61; ((with_reducible refine (gfail_ex _ _ _ _ _ _).mono ?_); rintro e wf ⟨rfl, hbf⟩; have BF := Lib.hid hbf; clear hbf)))
        exact ⟨rfl, (((GrP.of_below VZ.out).trans G1.out).trans (GrP.of_below B2.out)).trans (GrP.of_below BF.out), rfl⟩
      · rw [if_neg hin] at hR
        have HIN := Lib.hid hin
        clear hin
        cases hS : signF ts ⟨#[61]⟩ (a + 1) with
        | error f =>
          rw [hS] at hR
          subst hR
          have HWD := Lib.hid (wordF_sign.trans hS)
          clear hS
          go_enter Tryz.func107, Tryz.ntmps107
          go_wp2_with (first
            | (go_at_call 60; ((with_reducible refine HL.out.mono ?_); rintro e w1 ⟨hg1, rfl, hp1⟩; have hga := hg1.trans (GrP.of_below (balloc w1 (TokB 1 s tl tc))); have G1 := Lib.hid hga; have P1 := Lib.hid (hp1.below (balloc w1 (TokB 1 s tl tc))); have E1 := Lib.hid (xlst_grp EV.out hga HV.out); have K1 := heap_alloc_new w1 (TokB 1 s tl tc); have d1 := cell_of_row _ _ 1 _ _ _ K1; have D1 := Lib.hid d1; clear hg1 hp1 K1 hga))
            | (go_at_call 118; ((with_reducible refine (gcontainsvar_ex E1.out D1.out).mono ?_); rintro e w2 ⟨⟨r, rfl, hr⟩, hb2⟩; obtain rfl : r = false := (by cases r; rfl; exact absurd (hr.1 rfl) HIN.out); have B2 := Lib.hid hb2; have P2 := Lib.hid (P1.out.below hb2); clear hb2 hr))
            | (go_at_call 59; ((with_reducible refine (gexpect_ex P2.out ⟨#[61]⟩ 5 (by decide)).mono ?_); rintro e w3 ⟨hg3, hst⟩; rw [HWD.out] at hst; subst hst; have G3 := Lib.hid hg3; clear hg3)))
          exact ⟨rfl, (((GrP.of_below VZ.out).trans G1.out).trans (GrP.of_below B2.out)).trans G3.out, rfl⟩
        | ok n2 =>
          rw [hS] at hR
          have HWD := Lib.hid (wordF_sign.trans hS)
          obtain rfl := signF_ok hS
          clear hS
          cases hT3 : takeF ts 3 512 (a + 1 + 1) with
          | error f =>
            simp only [hT3] at hR
            subst hR
            go_enter Tryz.func107, Tryz.ntmps107
            go_wp2_with (first
              | (go_at_call 60; ((with_reducible refine HL.out.mono ?_); rintro e w1 ⟨hg1, rfl, hp1⟩; have hga := hg1.trans (GrP.of_below (balloc w1 (TokB 1 s tl tc))); have G1 := Lib.hid hga; have P1 := Lib.hid (hp1.below (balloc w1 (TokB 1 s tl tc))); have E1 := Lib.hid (xlst_grp EV.out hga HV.out); have R1 := Lib.hid ((hga.block _ (heap_lt KZ.out) QZ.out).trans KZ.out); have K1 := heap_alloc_new w1 (TokB 1 s tl tc); have d1 := cell_of_row _ _ 1 _ _ _ K1; have D1 := Lib.hid d1; have N1 := Lib.hid (show w1.heap.size ≠ q by have := hp1.qlt; omega); clear hg1 hp1 K1 hga))
              | (go_at_call 118; ((with_reducible refine (gcontainsvar_ex E1.out D1.out).mono ?_); rintro e w2 ⟨⟨r, rfl, hr⟩, hb2⟩; obtain rfl : r = false := (by cases r; rfl; exact absurd (hr.1 rfl) HIN.out); have B2 := Lib.hid hb2; have P2 := Lib.hid (P1.out.below hb2); have R2 := Lib.hid ((hb2.block _ (heap_lt R1.out)).trans R1.out); have D2 := Lib.hid (cell_up hb2 D1.out); clear hb2 hr))
              | (go_at_call 59; ((with_reducible refine (gexpect_ex P2.out ⟨#[61]⟩ 5 (by decide)).mono ?_); rintro e w3 ⟨hg3, hst⟩; rw [HWD.out] at hst; obtain ⟨rfl, hp3⟩ := hst; have G3 := Lib.hid (((GrP.of_below VZ.out).trans G1.out).trans ((GrP.of_below B2.out).trans hg3)); have P3 := Lib.hid hp3; have R3 := Lib.hid ((hg3.block _ (heap_lt R2.out) QZ.out).trans R2.out); have d3 := (World.cell?_of_block (a := ⟨w1.heap.size, 1, none⟩) (hg3.block _ (World.block_lt_of_cell? _ _ D2.out) N1.out)).trans D2.out; clear hg3 hp3)))
            obtain ⟨⟨tk3, tt3, tl3, tc3⟩, ht3, htl3⟩ := P3.out.now
            have HL3 := Lib.hid (glimited_ex (P3.out.below (Below.refl _ w3).drew) ht3 3 512 (by decide))
            rw [hT3] at HL3
            go_region_dies
            all_goals ((refine HL3.out.mono ?_); rintro e w4 ⟨hg4, rfl⟩; exact ⟨rfl, (G3.out.trans (GrP.of_below (Below.refl _ w3).drew)).trans hg4, rfl⟩)
          | ok n3 =>
            simp only [hT3] at hR
            subst hR
            go_enter Tryz.func107, Tryz.ntmps107
            go_wp2_with (first
              | (go_at_call 60; ((with_reducible refine HL.out.mono ?_); rintro e w1 ⟨hg1, rfl, hp1⟩; have hga := hg1.trans (GrP.of_below (balloc w1 (TokB 1 s tl tc))); have G1 := Lib.hid hga; have P1 := Lib.hid (hp1.below (balloc w1 (TokB 1 s tl tc))); have E1 := Lib.hid (xlst_grp EV.out hga HV.out); have R1 := Lib.hid ((hga.block _ (heap_lt KZ.out) QZ.out).trans KZ.out); have K1 := heap_alloc_new w1 (TokB 1 s tl tc); have d1 := cell_of_row _ _ 1 _ _ _ K1; have D1 := Lib.hid d1; have N1 := Lib.hid (show w1.heap.size ≠ q by have := hp1.qlt; omega); clear hg1 hp1 K1 hga))
              | (go_at_call 118; ((with_reducible refine (gcontainsvar_ex E1.out D1.out).mono ?_); rintro e w2 ⟨⟨r, rfl, hr⟩, hb2⟩; obtain rfl : r = false := (by cases r; rfl; exact absurd (hr.1 rfl) HIN.out); have B2 := Lib.hid hb2; have P2 := Lib.hid (P1.out.below hb2); have R2 := Lib.hid ((hb2.block _ (heap_lt R1.out)).trans R1.out); have D2 := Lib.hid (cell_up hb2 D1.out); clear hb2 hr))
              | (go_at_call 59; ((with_reducible refine (gexpect_ex P2.out ⟨#[61]⟩ 5 (by decide)).mono ?_); rintro e w3 ⟨hg3, hst⟩; rw [HWD.out] at hst; obtain ⟨rfl, hp3⟩ := hst; have G3 := Lib.hid (((GrP.of_below VZ.out).trans G1.out).trans ((GrP.of_below B2.out).trans hg3)); have P3 := Lib.hid hp3; have R3 := Lib.hid ((hg3.block _ (heap_lt R2.out) QZ.out).trans R2.out); have d3 := (World.cell?_of_block (a := ⟨w1.heap.size, 1, none⟩) (hg3.block _ (World.block_lt_of_cell? _ _ D2.out) N1.out)).trans D2.out; clear hg3 hp3)))
            obtain ⟨⟨tk3, tt3, tl3, tc3⟩, ht3, htl3⟩ := P3.out.now
            have HL3 := Lib.hid (glimited_ex (P3.out.below (Below.refl _ w3).drew) ht3 3 512 (by decide))
            rw [hT3] at HL3
            have htx : txtAt ts (a + 1 + 1) = bytesOf tt3 := by unfold txtAt; rw [ht3]; rfl
            rw [htx]
            change Hid (Calls _ _ _ _ (GPost _ q g off ts _ (.agg #[.int .i64 tk3, .string (bytesOf tt3), .int .i64 tl3, .int .i64 tc3]))) at HL3
            generalize bytesOf tt3 = s3 at *
            have ft := field_text tk3 tl3 tc3 s3
            go_region_law (go_simp; go_at_call 60; ((refine HL3.out.mono ?_); rintro e w4 ⟨hg4, rfl, hp4⟩; have hgd := (GrP.of_below (P := fun k => k = q) (Below.refl _ w3).drew).trans hg4; have G4 := Lib.hid (G3.out.trans hgd); have P4 := Lib.hid hp4; have r4 := (hgd.block _ (heap_lt R3.out) QZ.out).trans R3.out; have R4 := Lib.hid r4; have e0 := cell_of_row _ _ 0 _ _ _ r4; have e1 := cell_of_row _ _ 1 _ _ _ r4; have f0 := frozen_of_row _ _ 0 _ _ r4; have f1 := frozen_of_row _ _ 1 _ _ r4; have d4 := (World.cell?_of_block (a := ⟨w1.heap.size, 1, none⟩) (hgd.block _ (World.block_lt_of_cell? _ _ d3) N1.out)).trans d3; clear hg4 hp4 hgd r4))
            all_goals
              have hb9 := set2_row R4.out (.string s) (.string s3)
              go_wp2_with fail
              refine bodyPost_ret (v := .agg #[.string s, .string s3]) (by simp [results, Tryz.results107, go_sem, cell_of_row _ w.heap.size 0 _ _ _ hb9, cell_of_row _ w.heap.size 1 _ _ _ hb9]) rfl ?_
              exact ⟨(G4.out.set (.inl (Nat.le_refl _)) _ _).set (.inl (Nat.le_refl _)) _ _, rfl, (P4.out.set hqz.symm hgz.symm _ _).set hqz.symm hgz.symm _ _⟩
end Go.Proofs.YtdncjhffniepbaaGreatDoor.Lx
/- (GrJ)
  Layer 6, the program: the policy.
-/
namespace Go.Proofs.YtdncjhffniepbaaGreatDoor.Lx
open Go.RowKit

def polG (s : ByteArray) (tl tc : Int) (a : Nat) : Except Fau (Int × Nat) := if polF s = 0 then .error (60, tl, tc) else .ok (polF s, a + 1)
/-- What policy does. -/
def policyF (ts : List Tok) (a : Nat) : Except Fau (Int × Nat) :=
  match ts[a]? with
  | none => .error (60, 0, 0)
  | some t => if t.kind = 1 then polG (bytesOf t.text) t.line t.col a else .error (60, t.line, t.col)
def PolPost (w : World) (q g off : Nat) (ts : List Tok) (j : Nat) (x : J15) (R : Except Fau (Int × Nat)) (en : Ending) (w' : World) : Prop :=
  GrP (fun k => k = q ∨ k = j) w w' ∧ match R with
  | .ok (r, a') => en = .returned (.tuple #[]) ∧ GP w' q g off ts a' ∧ JRow w' j { x with rs := r }
  | .error f => en = fauE f.1 f.2.1 f.2.2
theorem jrow_grp {P : Nat → Prop} {w w' : World} {j : Nat} {x : J15} (h : JRow w j x) (hg : GrP P w w') (hj : ¬ P j) : JRow w' j x := (hg.block j (heap_lt h) hj).trans h
/-- The value of the policy's number is in the row, whatever way led there. -/
theorem pol_end {w w1 : World} {q g off : Nat} {ts : List Tok} {a' j : Nat} {x : J15} (hg : GrP (fun k => k = q) w w1) (hp : GP w1 q g off ts a') (hj : JRow w1 j x) (h1 : q ≠ j) (h2 : g ≠ j) {r p : Int} (hr : p = r) :
    PolPost w q g off ts j x (.ok (p, a')) (.returned (.tuple #[])) (w1.setCell ⟨j, 6, none⟩ (.int .i64 r)) := by
  subst hr
  exact ⟨(hg.mono (fun k _ e => .inl e)).set (.inr (.inr rfl)) 6 _, rfl, hp.set h1.symm h2.symm _ _, JRow.set_rs hj p⟩
set_option maxHeartbeats 2000000 in
set_option maxRecDepth 100000 in
theorem gpolicy_ex {w : World} {q g off : Nat} {ts : List Tok} {a : Nat} (h : GP w q g off ts a) {t : Tok} (ht : ts[a]? = some t) {j : Nat} {x : J15} (hrow : JRow w j x) (h1 : q ≠ j) (h2 : g ≠ j) :
    Calls Tryz.prog 109 #[.pointer (some ⟨q, 0, none⟩), .pointer (some ⟨j, 0, none⟩)] w (PolPost w q g off ts j x (policyF ts a)) := by
  have e1 : policyF ts a = if t.kind = 1 then polG (bytesOf t.text) t.line t.col a else .error (60, t.line, t.col) := by unfold policyF; rw [ht]
  have e2 : readF ts 1 a = if t.kind = 1 then .ok (a + 1) else tokFault 60 t := by unfold readF; rw [ht]
  have HR := Lib.hid (gread_ex h ht 1 (by decide))
  rw [e1]
  rw [e2] at HR
  have JH := Lib.hid hrow
  have H1 := Lib.hid h1
  have H2 := Lib.hid h2
  have HJ := Lib.hid (show ¬ (fun k => k = q) j from fun e => h1 e.symm)
  clear e1 e2 h ht hrow h1 h2
  obtain ⟨tk, tt, tl, tc⟩ := t
  unfold tokFault at *
  change Hid (Calls _ _ _ _ (GPost w q g off ts (if tk = 1 then .ok (a + 1) else .error (60, tl, tc)) (.agg #[.int .i64 tk, .string (bytesOf tt), .int .i64 tl, .int .i64 tc]))) at HR
  change Calls _ _ _ _ (PolPost w q g off ts j x (if tk = 1 then polG (bytesOf tt) tl tc a else .error (60, tl, tc)))
  generalize bytesOf tt = s at *
  by_cases hk : tk = 1
  · subst hk
    rw [if_pos rfl] at HR ⊢
    go_enter Tryz.func109, Tryz.ntmps109
    go_wp2_with (first
      | (go_at_call 87; ((with_reducible refine (HR.out).mono ?_); rintro e w1 ⟨hg1, rfl, hp1⟩; have G1 := Lib.hid (hg1.trans (GrP.of_below (balloc w1 (TokB 1 s tl tc)))); have P1 := Lib.hid (hp1.below (balloc w1 (TokB 1 s tl tc))); have j1 := (jrow_grp JH.out hg1 HJ.out).below (balloc w1 (TokB 1 s tl tc)); have J1 := Lib.hid j1; have c6 := cell_of_row _ _ 6 _ _ _ j1; have f6 := frozen_of_row _ _ 6 _ _ j1; have K1 := heap_alloc_new w1 (TokB 1 s tl tc); have d0 := cell_of_row _ _ 0 _ _ _ K1; have d1 := cell_of_row _ _ 1 _ _ _ K1; have d2 := cell_of_row _ _ 2 _ _ _ K1; have d3 := cell_of_row _ _ 3 _ _ _ K1; clear hg1 hp1 j1 K1))
      | (go_at_call 61; ((with_reducible refine (gfail_ex _ _ _ _ _ _).mono ?_); rintro e wf ⟨rfl, hbf⟩; have BF := Lib.hid hbf; clear hbf)))
    all_goals first
      | (go_end0; unfold polG; rw [if_neg (by unfold polF; simp [*])]; exact pol_end G1.out P1.out J1.out H1.out H2.out (by unfold polF; simp only [*, Bool.false_eq_true, if_true, if_false]))
      | (unfold polG; rw [if_pos (by unfold polF; simp [*])]; exact ⟨rfl, (G1.out.mono (fun k _ e => .inl e)).trans (GrP.of_below BF.out), rfl⟩)
      | trace_state
  · rw [if_neg hk] at HR ⊢
    go_enter Tryz.func109, Tryz.ntmps109
    go_wp2_with (go_at_call 87; ((with_reducible refine (HR.out).mono ?_); rintro e w1 ⟨hg1, rfl⟩; have G1 := Lib.hid hg1; clear hg1))
    exact ⟨rfl, G1.out.mono (fun k _ e => .inl e), rfl⟩
end Go.Proofs.YtdncjhffniepbaaGreatDoor.Lx
/- (GrH)
  Layer 6, the program: a ladder, what it does.
-/
namespace Go.Proofs.YtdncjhffniepbaaGreatDoor.Lx
open Go.RowKit

/-- What is known of a Procfile's tokens: numbers are numbers, and no text is longer than a Procfile. -/
structure TsOk (ts : List Tok) : Prop where
  nums : NumsOk ts
  txt8 : ∀ t ∈ ts, t.text.length ≤ 8192
/-- Behind an element of a ladder: the ladder's end, or what comes behind a comma. -/
def afterL (ts : List Tok) (f : Nat) (out : List (Int × Int)) (a : Nat) (R : Except Fau (List (Int × Int) × Nat)) : Prop :=
  (isF ts 5 ⟨#[44]⟩ a → ladderF ts f out (a + 1) = R) ∧ (¬ isF ts 5 ⟨#[44]⟩ a → R = .ok (out, a))
theorem takeF_num {ts : List Tok} (hT : TsOk ts) (a : Nat) : takeF ts 2 18 a = readF ts 2 a := by
  unfold takeF readF
  cases h : ts[a]? with
  | none => rfl
  | some t =>
    simp only
    by_cases hk : t.kind = 2
    · have h1 := (hT.nums t (List.mem_of_getElem? h) hk).2.1
      rw [bytesOf_size] at h1
      rw [if_neg (by simpa using hk), if_pos hk, if_neg (by omega)]
    · rw [if_pos hk, if_neg hk]
theorem takeF_word {ts : List Tok} (hT : TsOk ts) (a : Nat) : takeF ts 1 8192 a = readF ts 1 a := by
  unfold takeF readF
  cases h : ts[a]? with
  | none => rfl
  | some t =>
    simp only
    by_cases hk : t.kind = 1
    · have h1 := hT.txt8 t (List.mem_of_getElem? h)
      rw [if_neg (by simpa using hk), if_pos hk, if_neg (by omega)]
    · rw [if_pos hk, if_neg hk]
/-- One element of a ladder, as both parsers read it. -/
theorem ladderF_step {ts : List Tok} (hT : TsOk ts) {f : Nat} {out : List (Int × Int)} {a : Nat} {R : Except Fau (List (Int × Int) × Nat)} (h : ladderF ts (f + 1) out a = R) {t : Tok} (ht : ts[a]? = some t) :
    (t.kind ≠ 1 → R = .error (60, t.line, t.col)) ∧ (t.kind = 1 → out.length = 5 → R = .error (1, t.line, t.col)) ∧
    (t.kind = 1 → out.length < 5 → sigF (bytesOf t.text) = 0 → R = .error (4, t.line, t.col)) ∧
    (t.kind = 1 → out.length < 5 → ¬ sigF (bytesOf t.text) = 0 → (∀ e, readF ts 2 (a + 1) = .error e → R = .error e) ∧ (∀ n, readF ts 2 (a + 1) = .ok n → afterL ts f (out ++ [(sigF (bytesOf t.text), numF (ch (txtAt ts (a + 1))))]) n R)) := by
  unfold ladderF at h
  rw [takeF_word hT, show readF ts 1 a = if t.kind = 1 then .ok (a + 1) else tokFault 60 t by unfold readF; rw [ht], ht] at h
  unfold tokFault at h
  refine ⟨fun hk => ?_, fun hk hl => ?_, fun hk hl hm => ?_, fun hk hl hm => ⟨fun e he => ?_, fun n hn => ?_⟩⟩
  · rw [if_neg hk] at h; exact h.symm
  · rw [if_pos hk] at h
    simp only [if_pos (show 5 ≤ out.length by omega)] at h; exact h.symm
  · rw [if_pos hk] at h
    simp only [if_neg (show ¬ 5 ≤ out.length by omega), if_pos hm] at h; exact h.symm
  · rw [if_pos hk] at h
    simp only [if_neg (show ¬ 5 ≤ out.length by omega), if_neg hm, takeF_num hT, he] at h; exact h.symm
  · rw [if_pos hk] at h
    simp only [if_neg (show ¬ 5 ≤ out.length by omega), if_neg hm, takeF_num hT, hn] at h
    refine ⟨fun hc => ?_, fun hc => ?_⟩
    · rw [if_pos hc] at h; exact h
    · rw [if_neg hc] at h; exact h.symm
/-- What a ladder does. -/
def LadderPost (w : World) (q g off : Nat) (ts : List Tok) (j B : Nat) (x : J15) (R : Except Fau (List (Int × Int) × Nat)) (en : Ending) (w' : World) : Prop :=
  GrP (PQ q j B) w w' ∧ match R with
  | .ok (l, a') => en = .returned (.tuple #[]) ∧ GP w' q g off ts a' ∧ ∃ v', JRow w' j { x with lad := v' } ∧ XOwn w' 115 2 B v' l.length (rungCells l)
  | .error f => en = fauE f.1 f.2.1 f.2.2
/-- What an element of a ladder does: st is where its number leaves the parser. -/
def RungPost (w : World) (q g off : Nat) (ts : List Tok) (j B n : Nat) (x : J15) (out : List (Int × Int)) (s : ByteArray) (nr : Int) (tl tc : Int) (st : St) (en : Ending) (w' : World) : Prop :=
  GrP (fun k => k = q ∨ PN j x.lad k) w w' ∧ (sigF s = 0 → en = fauE 4 tl tc) ∧
    (sigF s ≠ 0 → match st with
      | .ok a' => en = .returned (.tuple #[]) ∧ GP w' q g off ts a' ∧ ∃ v', JRow w' j { x with lad := v' } ∧ XOwn w' 115 2 B v' (n + 1) (rungCells (out ++ [(sigF s, nr)]))
      | .error f => en = fauE f.1 f.2.1 f.2.2)
/-- Behind an append of a box: all but the row; a row elsewhere; a cell elsewhere. -/
theorem appF {P : Nat → Prop} {w0 w w' : World} {o : Obj} {A : Option Addr} {n c : Nat} (h : GrP P w0 w) (hg : (w.alloc o).grownBy w' (Value.slice A n c).ownBlock) (hP : ∀ k, (Value.slice A n c).ownBlock = some k → w0.heap.size ≤ k ∨ P k) : GrP P w0 w' :=
  (h.trans (GrP.of_below (balloc w o))).grown hg hP
theorem appH {w w' : World} {o x : Obj} {A : Option Addr} {n c k : Nat} (hx : w.heap[k]? = some x) (hg : (w.alloc o).grownBy w' (Value.slice A n c).ownBlock) (hne : some k ≠ A.map (·.block)) : w'.heap[k]? = some x := by
  have h1 : (w.alloc o).heap[k]? = some x := heap_alloc_old o hx
  refine (hg.block k (heap_lt h1) ?_).trans h1
  intro e
  refine hne (e.trans ?_)
  cases A <;> rfl
theorem appC {w w' : World} {o : Obj} {A : Option Addr} {n c k i : Nat} {u : Value} (hx : w.cell? ⟨k, i, none⟩ = some u) (hg : (w.alloc o).grownBy w' (Value.slice A n c).ownBlock) (hne : some k ≠ A.map (·.block)) : w'.cell? ⟨k, i, none⟩ = some u := by
  have hk := World.block_lt_of_cell? w _ hx
  have h1 : (w.alloc o).cell? ⟨k, i, none⟩ = some u := ((balloc w o).cell hk).trans hx
  refine (World.cell?_of_block (a := ⟨k, i, none⟩) (hg.block k (World.block_lt_of_cell? _ _ h1) ?_)).trans h1
  intro e
  refine hne (e.trans ?_)
  cases A <;> rfl
theorem appG {w w' : World} {o : Obj} {A : Option Addr} {n c : Nat} {q g off : Nat} {ts : List Tok} {a : Nat} (h : GP w q g off ts a) (hg : (w.alloc o).grownBy w' (Value.slice A n c).ownBlock) (h1 : some q ≠ A.map (·.block)) (h2 : some g ≠ A.map (·.block)) : GP w' q g off ts a := by
  obtain ⟨c', h3, h4⟩ := h.blk
  have hgo := h.glt
  refine h.keep ((hg.block g (by have := (balloc w o).size; omega) (fun e => h2 (e.trans (by cases A <;> rfl)))).trans ((balloc w o).block g hgo)) h.lt ⟨c', appH h3 hg h1, h4⟩
theorem cell_in {w w' : World} {k i : Nat} {u : Value} (hb : Below w.heap.size w w') (h : w.cell? ⟨k, i, none⟩ = some u) : w'.cell? ⟨k, i, none⟩ = some u := (hb.cell (World.block_lt_of_cell? w _ h)).trans h
theorem cell_grp {P : Nat → Prop} {w w' : World} {k i : Nat} {u : Value} (hg : GrP P w w') (h : w.cell? ⟨k, i, none⟩ = some u) (hk : ¬ P k) : w'.cell? ⟨k, i, none⟩ = some u :=
  (World.cell?_of_block (a := ⟨k, i, none⟩) (hg.block k (World.block_lt_of_cell? w _ h) hk)).trans h
end Go.Proofs.YtdncjhffniepbaaGreatDoor.Lx
/- (GrM)
  Layer 6: a job as both parsers make it; what an item does; the program's job in the making.
-/
namespace Go.Proofs.YtdncjhffniepbaaGreatDoor.Lx
open Go.RowKit

/-- A job. -/
structure JobS where
  nm : ByteArray
  run : ByteArray
  env : List (ByteArray × ByteArray)
  needs : List ByteArray
  hr : Bool
  rd : ByteArray
  rs : Int
  base : Int
  cap : Int
  stb : Int
  bur : Int
  win : Int
  lad : List (Int × Int)
  line : Int
  col : Int
/-- What an item does, behind its word. -/
noncomputable def itemF (ts : List Tok) (J : JobS) (s : ByteArray) (tl tc : Int) (a : Nat) : Except Fau (JobS × Nat) :=
  if s.toList == [114, 117, 110] then (takeF ts 3 512 a).map fun n => ({ J with run := txtAt ts a }, n)
  else if s.toList == [101, 110, 118] then (varF ts J.env a).map fun r => ({ J with env := J.env ++ [r.1] }, r.2)
  else if s.toList == [110, 101, 101, 100, 115] then (needsF ts (ts.length + 1) [] a).map fun r => ({ J with needs := r.1 }, r.2)
  else if s.toList == [114, 101, 97, 100, 121] then (takeF ts 4 128 a).map fun n => ({ J with hr := true, rd := txtAt ts a }, n)
  else if s.toList == [114, 101, 115, 116, 97, 114, 116] then (policyF ts a).map fun r => ({ J with rs := r.1 }, r.2)
  else if s.toList == [98, 97, 99, 107, 111, 102, 102] then (readF ts 2 a).bind fun n1 => (readF ts 2 n1).bind fun n2 => (readF ts 2 n2).map fun n3 => ({ J with base := numF (ch (txtAt ts a)), cap := numF (ch (txtAt ts n1)), stb := numF (ch (txtAt ts n2)) }, n3)
  else if s.toList == [98, 117, 114, 115, 116] then (countF ts a).bind fun n1 => (readF ts 2 n1).map fun n2 => ({ J with bur := numF (ch (txtAt ts a)), win := numF (ch (txtAt ts n1)) }, n2)
  else if s.toList == [115, 116, 111, 112] then (ladderF ts (ts.length + 1) [] a).map fun r => ({ J with lad := r.1 }, r.2)
  else .error (60, tl, tc)
/-- A row of cells that says what a job says, but for its lists. -/
structure Scal (x : J15) (J : JobS) : Prop where
  nm : x.nm = J.nm
  run : x.run = J.run
  hr : x.hr = J.hr
  rd : x.rd = J.rd
  rs : x.rs = J.rs
  base : x.base = J.base
  cap : x.cap = J.cap
  stb : x.stb = J.stb
  bur : x.bur = J.bur
  win : x.win = J.win
  line : x.line = J.line
  col : x.col = J.col
/-- The job at block j, as the program's parser makes it: its lists are rows of its own. -/
structure JW (w : World) (j : Nat) (x : J15) (J : JobS) : Prop where
  row : JRow w j x
  scal : Scal x J
  env : XOwn w 121 2 (j + 1) x.env J.env.length (varCells J.env)
  needs : XOwn w 9 1 (j + 1) x.needs J.needs.length (J.needs.map Value.string)
  lad : XOwn w 115 2 (j - 1) x.lad J.lad.length (rungCells J.lad)
  nil : J.needs = [] → x.needs = .slice none 0 0
/-- A row does not lie in a block of another type. -/
theorem xown_ne_row {w : World} {e t : TypeId} {k B j : Nat} {v : Value} {n : Nat} {xs : List Value} {cs : Array Value} {f : Nat × Nat} (h : XOwn w e k B v n xs) (hr : w.heap[j]? = some (.cells cs t f)) (hne : e ≠ t) : ∀ r, v.ownBlock = some r → r ≠ j := by
  intro r hv e1
  subst e1
  rcases h.2 with ⟨h1, _⟩ | ⟨g, cap, cur, h1, _, h3, _⟩
  · rw [h1] at hv; simp [Value.ownBlock] at hv
  · rw [h1] at hv
    simp [Value.ownBlock] at hv
    subst hv
    rw [h3] at hr
    injection hr with hr
    injection hr with _ h4
    exact hne h4
theorem JW.grp {P : Nat → Prop} {w w' : World} {j : Nat} {x : J15} {J : JobS} (h : JW w j x J) (hg : GrP P w w') (hP : ∀ k, j - 1 ≤ k → ¬ P k) : JW w' j x J :=
  ⟨jrow_grp h.row hg (hP j (by omega)), h.scal, xown_grp h.env hg (fun r e => hP r (by have := (xown_block h.env r e).1; omega)), xown_grp h.needs hg (fun r e => hP r (by have := (xown_block h.needs r e).1; omega)), xown_grp h.lad hg (fun r e => hP r (by have := (xown_block h.lad r e).1; omega)), h.nil⟩
theorem JW.below {w w' : World} {j : Nat} {x : J15} {J : JobS} (h : JW w j x J) (hb : Below w.heap.size w w') : JW w' j x J := h.grp (P := fun _ => False) (GrP.of_below hb) (fun _ _ e => e)
theorem JW.setx {w : World} {j : Nat} {x x' : J15} {J J' : JobS} (h : JW w j x J) (i : Nat) (u : Value) (hr : JRow (w.setCell ⟨j, i, none⟩ u) j x') (hs : Scal x' J') (h1 : x'.env = x.env ∧ x'.needs = x.needs ∧ x'.lad = x.lad) (h2 : J'.env = J.env ∧ J'.needs = J.needs ∧ J'.lad = J.lad) : JW (w.setCell ⟨j, i, none⟩ u) j x' J' := by
  have ho : ∀ {e : TypeId} {k : Nat} {v : Value} {n : Nat} {xs : List Value}, XOwn w e k (j + 1) v n xs → XOwn (w.setCell ⟨j, i, none⟩ u) e k (j + 1) v n xs := fun ho => xown_grown ho (grown_set _ _ _) (fun g e he => by have q1 := (xown_block ho g e).1; simp only [Option.some.injEq] at he; omega)
  refine ⟨hr, hs, ?_, ?_, ?_, ?_⟩
  · rw [h1.1, h2.1]; exact ho h.env
  · rw [h1.2.1, h2.2.1]; exact ho h.needs
  · rw [h1.2.2, h2.2.2]; exact xown_grown h.lad (grown_set _ _ _) (fun g e he => xown_ne_row h.lad h.row (by decide) g e (by simp only [Option.some.injEq] at he; exact he.symm))
  · rw [h1.2.1, h2.2.1]; exact h.nil
theorem JW.set_run {w : World} {j : Nat} {x : J15} {J : JobS} (h : JW w j x J) (v : ByteArray) : JW (w.setCell ⟨j, 1, none⟩ (.string v)) j { x with run := v } { J with run := v } := h.setx 1 _ (h.row.set_run v) ⟨h.scal.nm, rfl, h.scal.hr, h.scal.rd, h.scal.rs, h.scal.base, h.scal.cap, h.scal.stb, h.scal.bur, h.scal.win, h.scal.line, h.scal.col⟩ ⟨rfl, rfl, rfl⟩ ⟨rfl, rfl, rfl⟩
theorem JW.set_hr {w : World} {j : Nat} {x : J15} {J : JobS} (h : JW w j x J) (v : Bool) : JW (w.setCell ⟨j, 4, none⟩ (.bool v)) j { x with hr := v } { J with hr := v } := h.setx 4 _ (h.row.set_hr v) ⟨h.scal.nm, h.scal.run, rfl, h.scal.rd, h.scal.rs, h.scal.base, h.scal.cap, h.scal.stb, h.scal.bur, h.scal.win, h.scal.line, h.scal.col⟩ ⟨rfl, rfl, rfl⟩ ⟨rfl, rfl, rfl⟩
theorem JW.set_rd {w : World} {j : Nat} {x : J15} {J : JobS} (h : JW w j x J) (v : ByteArray) : JW (w.setCell ⟨j, 5, none⟩ (.string v)) j { x with rd := v } { J with rd := v } := h.setx 5 _ (h.row.set_rd v) ⟨h.scal.nm, h.scal.run, h.scal.hr, rfl, h.scal.rs, h.scal.base, h.scal.cap, h.scal.stb, h.scal.bur, h.scal.win, h.scal.line, h.scal.col⟩ ⟨rfl, rfl, rfl⟩ ⟨rfl, rfl, rfl⟩
theorem JW.set_rs {w : World} {j : Nat} {x : J15} {J : JobS} (h : JW w j x J) (v : Int) : JW (w.setCell ⟨j, 6, none⟩ (.int .i64 v)) j { x with rs := v } { J with rs := v } := h.setx 6 _ (h.row.set_rs v) ⟨h.scal.nm, h.scal.run, h.scal.hr, h.scal.rd, rfl, h.scal.base, h.scal.cap, h.scal.stb, h.scal.bur, h.scal.win, h.scal.line, h.scal.col⟩ ⟨rfl, rfl, rfl⟩ ⟨rfl, rfl, rfl⟩
theorem JW.set_base {w : World} {j : Nat} {x : J15} {J : JobS} (h : JW w j x J) (v : Int) : JW (w.setCell ⟨j, 7, none⟩ (.int .u64 v)) j { x with base := v } { J with base := v } := h.setx 7 _ (h.row.set_base v) ⟨h.scal.nm, h.scal.run, h.scal.hr, h.scal.rd, h.scal.rs, rfl, h.scal.cap, h.scal.stb, h.scal.bur, h.scal.win, h.scal.line, h.scal.col⟩ ⟨rfl, rfl, rfl⟩ ⟨rfl, rfl, rfl⟩
theorem JW.set_cap {w : World} {j : Nat} {x : J15} {J : JobS} (h : JW w j x J) (v : Int) : JW (w.setCell ⟨j, 8, none⟩ (.int .u64 v)) j { x with cap := v } { J with cap := v } := h.setx 8 _ (h.row.set_cap v) ⟨h.scal.nm, h.scal.run, h.scal.hr, h.scal.rd, h.scal.rs, h.scal.base, rfl, h.scal.stb, h.scal.bur, h.scal.win, h.scal.line, h.scal.col⟩ ⟨rfl, rfl, rfl⟩ ⟨rfl, rfl, rfl⟩
theorem JW.set_stb {w : World} {j : Nat} {x : J15} {J : JobS} (h : JW w j x J) (v : Int) : JW (w.setCell ⟨j, 9, none⟩ (.int .u64 v)) j { x with stb := v } { J with stb := v } := h.setx 9 _ (h.row.set_stb v) ⟨h.scal.nm, h.scal.run, h.scal.hr, h.scal.rd, h.scal.rs, h.scal.base, h.scal.cap, rfl, h.scal.bur, h.scal.win, h.scal.line, h.scal.col⟩ ⟨rfl, rfl, rfl⟩ ⟨rfl, rfl, rfl⟩
theorem JW.set_bur {w : World} {j : Nat} {x : J15} {J : JobS} (h : JW w j x J) (v : Int) : JW (w.setCell ⟨j, 10, none⟩ (.int .i64 v)) j { x with bur := v } { J with bur := v } := h.setx 10 _ (h.row.set_bur v) ⟨h.scal.nm, h.scal.run, h.scal.hr, h.scal.rd, h.scal.rs, h.scal.base, h.scal.cap, h.scal.stb, rfl, h.scal.win, h.scal.line, h.scal.col⟩ ⟨rfl, rfl, rfl⟩ ⟨rfl, rfl, rfl⟩
theorem JW.set_win {w : World} {j : Nat} {x : J15} {J : JobS} (h : JW w j x J) (v : Int) : JW (w.setCell ⟨j, 11, none⟩ (.int .u64 v)) j { x with win := v } { J with win := v } := h.setx 11 _ (h.row.set_win v) ⟨h.scal.nm, h.scal.run, h.scal.hr, h.scal.rd, h.scal.rs, h.scal.base, h.scal.cap, h.scal.stb, h.scal.bur, rfl, h.scal.line, h.scal.col⟩ ⟨rfl, rfl, rfl⟩ ⟨rfl, rfl, rfl⟩
/-- Where an item may write. -/
abbrev PI (q j : Nat) (v : Value) (k : Nat) : Prop := k = q ∨ k = j ∨ v.ownBlock = some k
/-- What an item does. -/
def ItemPost (w : World) (q g off : Nat) (ts : List Tok) (j : Nat) (x : J15) (R : Except Fau (JobS × Nat)) (en : Ending) (w' : World) : Prop :=
  GrP (PI q j x.env) w w' ∧ match R with
  | .ok (J, a') => en = .returned (.tuple #[]) ∧ GP w' q g off ts a' ∧ ∃ x', JW w' j x' J
  | .error f => en = fauE f.1 f.2.1 f.2.2
theorem needsF_ne (ts : List Tok) : ∀ (f : Nat) (out : List ByteArray) (a : Nat) {l : List ByteArray} {n : Nat}, needsF ts f out a = .ok (l, n) → l ≠ []
  | 0, _, _, _, _, h => by simp [needsF] at h
  | f + 1, out, a, l, n, h => by
    unfold needsF at h
    split at h
    · cases h
    · split at h
      · cases h
      · split at h
        · cases h
        · split at h
          · cases h
          · split at h
            · exact needsF_ne ts f _ _ h
            · injection h with h
              injection h with h _
              rw [← h]; simp
/-- Two rows of different types do not lie in one block. -/
theorem xown_apart {w : World} {e e' : TypeId} {k k' B B' : Nat} {v v' : Value} {n n' : Nat} {xs xs' : List Value} (h : XOwn w e k B v n xs) (h' : XOwn w e' k' B' v' n' xs') (hne : e ≠ e') : ∀ r, v.ownBlock = some r → v'.ownBlock ≠ some r := by
  intro r hr hr'
  rcases h.2 with ⟨h1, _⟩ | ⟨g, cap, cur, h1, _, h3, _⟩
  · rw [h1] at hr; simp [Value.ownBlock] at hr
  · rcases h'.2 with ⟨h1', _⟩ | ⟨g', cap', cur', h1', _, h3', _⟩
    · rw [h1'] at hr'; simp [Value.ownBlock] at hr'
    · rw [h1] at hr; rw [h1'] at hr'
      simp [Value.ownBlock] at hr hr'
      subst hr; subst hr'
      rw [h3] at h3'
      injection h3' with h3'
      injection h3' with _ h4
      exact hne h4
end Go.Proofs.YtdncjhffniepbaaGreatDoor.Lx
/- (GrO)
  Layer 6, the program: an item, backoff.
-/
namespace Go.Proofs.YtdncjhffniepbaaGreatDoor.Lx
open Go.RowKit

theorem ts_more {ts : List Tok} {a : Nat} (hfin : ∀ t, ts[ts.length - 1]? = some t → t.kind = 6) {t : Tok} (ht : ts[a]? = some t) (h6 : t.kind ≠ 6) : a + 1 < ts.length := by
  have h1 : a < ts.length := (List.getElem?_eq_some_iff.1 ht).1
  rcases Nat.lt_or_ge (a + 1) ts.length with h2 | h2
  · exact h2
  · have h3 : a = ts.length - 1 := by omega
    rw [h3] at ht
    exact absurd (hfin t ht) h6
set_option maxHeartbeats 4000000 in
set_option maxRecDepth 100000 in
theorem gitem_backoff {w : World} {q g off : Nat} {ts : List Tok} {a : Nat} (h : GP w q g off ts a) (hT : TsOk ts) {j : Nat} {x : J15} {J : JobS} (hj : JW w j x J) (hqj : q < j - 1) (hgj : g < j - 1) (tk tl tc : Int) {s : ByteArray} (hs1 : (s.toList == [114, 117, 110]) = false) (hs2 : (s.toList == [101, 110, 118]) = false) (hs3 : (s.toList == [110, 101, 101, 100, 115]) = false) (hs4 : (s.toList == [114, 101, 97, 100, 121]) = false) (hs5 : (s.toList == [114, 101, 115, 116, 97, 114, 116]) = false) (hs6 : (s.toList == [98, 97, 99, 107, 111, 102, 102]) = true) :
    Calls Tryz.prog 89 #[.pointer (some ⟨q, 0, none⟩), .pointer (some ⟨j, 0, none⟩), .agg #[.int .i64 tk, .string s, .int .i64 tl, .int .i64 tc]] w (ItemPost w q g off ts j x ((readF ts 2 a).bind fun n1 => (readF ts 2 n1).bind fun n2 => (readF ts 2 n2).map fun n3 => ({ J with base := numF (ch (txtAt ts a)), cap := numF (ch (txtAt ts n1)), stb := numF (ch (txtAt ts n2)) }, n3))) := by
  have B0 := Lib.hid (balloc w (TokB tk s tl tc))
  have K0 := heap_alloc_new w (TokB tk s tl tc)
  have d0 := cell_of_row _ _ 0 _ _ _ K0
  have d1 := cell_of_row _ _ 1 _ _ _ K0
  have d2 := cell_of_row _ _ 2 _ _ _ K0
  have d3 := cell_of_row _ _ 3 _ _ _ K0
  have PH := Lib.hid (h.below B0.out)
  have JH := Lib.hid (hj.below B0.out)
  have HJQ := Lib.hid (show ∀ k, j - 1 ≤ k → ¬ (fun k => k = q) k from fun k hk (e : k = q) => by omega)
  have hq1 : j ≠ q := by omega
  have hg1 : j ≠ g := by omega
  obtain ⟨⟨k1, tt1, l1, c1⟩, ht, htl⟩ := h.now
  have htx : txtAt ts a = bytesOf tt1 := by unfold txtAt; rw [ht]; rfl
  clear h hj K0
  have e1 : (readF ts 2 a) = if k1 = 2 then .ok (a + 1) else .error (60, l1, c1) := readF_eq ht
  rw [htx]
  have HN1 := Lib.hid (gnumber_ex PH.out hT.nums ht)
  have HP := Lib.hid (fun (W : World) (hW : GP W q g off ts (a + 1)) => hW.now)
  have HNX := Lib.hid (fun (W : World) (b : Nat) (t : Tok) (hW : GP W q g off ts b) (hb : ts[b]? = some t) => gnumber_ex hW hT.nums hb)
  simp only at HN1
  generalize numF (ch (bytesOf tt1)) = v1 at *
  clear htl htx hT e1
  cases h1 : readF ts 2 a with
  | error f =>
    rw [h1] at HN1
    clear h1 ht
    go_enter Tryz.func89, Tryz.ntmps89
    go_wp2_with ((go_at_call 110; ((with_reducible refine (HN1.out).mono ?_); rintro e w1 ⟨hgn, rfl⟩; have G1 := Lib.hid ((GrP.of_below (P := PI q j x.env) B0.out).trans (hgn.mono (fun k _ e => .inl e))); clear hgn)))
    exact ⟨rfl, G1.out, rfl⟩
  | ok n1 =>
    rw [h1] at HN1
    obtain ⟨rfl, t1, ht1, hk1⟩ := readF_ok h1
    have hlt1 := ts_more PH.out.fin ht1 (by omega)
    clear h1 ht ht1 hk1
    obtain ⟨tx, htx⟩ : ∃ t, ts[a + 1]? = some t := ⟨_, List.getElem?_eq_getElem hlt1⟩
    · have hv2 : txtAt ts (a + 1) = bytesOf tx.text := by unfold txtAt; rw [htx]; rfl
      cases h2 : readF ts 2 (a + 1) with
      | error f =>
        simp only [Except.bind, h2]
        have HN2 := Lib.hid (fun (W : World) (hW : GP W q g off ts (a + 1)) => HNX.out W _ tx hW htx)
        simp only [h2] at HN2
        clear h2 htx
        go_enter Tryz.func89, Tryz.ntmps89
        go_wp2_with (first
          | (go_at_call 110; ((with_reducible refine (HN1.out).mono ?_); rintro e w1 ⟨hgn, rfl, hp1⟩; have G1 := Lib.hid ((GrP.of_below (P := PI q j x.env) B0.out).trans (hgn.mono (fun k _ e => .inl e))); have P1 := Lib.hid hp1; have J1 := Lib.hid (JH.out.grp hgn HJQ.out); have cc7 := cell_of_row _ _ 7 _ _ _ J1.out.row; have ff7 := frozen_of_row _ _ 7 _ _ J1.out.row; clear hgn hp1))
          | (go_at_call 110; ((with_reducible refine (HN2.out _ (P1.out.set hq1 hg1 _ _)).mono ?_); rintro e w2 ⟨hgn, rfl⟩; have G2 := Lib.hid ((G1.out.set (R := j) (.inr (.inr (.inl rfl))) 7 (.int .u64 v1)).trans (hgn.mono (fun k _ e => .inl e))); clear hgn)))
        exact ⟨rfl, G2.out, rfl⟩
      | ok n2 =>
        have HN2 := Lib.hid (fun (W : World) (hW : GP W q g off ts (a + 1)) => HNX.out W _ tx hW htx)
        simp only [h2] at HN2
        obtain ⟨rfl, t2, ht2, hk2⟩ := readF_ok h2
        have hlt2 := ts_more PH.out.fin ht2 (by omega)
        simp only [Except.bind, h2, hv2]
        generalize numF (ch (bytesOf tx.text)) = v2 at *
        clear h2 htx hv2 ht2 hk2
        obtain ⟨ty, hty⟩ : ∃ t, ts[a + 1 + 1]? = some t := ⟨_, List.getElem?_eq_getElem hlt2⟩
        · have hv3 : txtAt ts (a + 1 + 1) = bytesOf ty.text := by unfold txtAt; rw [hty]; rfl
          cases h3 : readF ts 2 (a + 1 + 1) with
          | error f =>
            simp only [Except.map]
            have HN3 := Lib.hid (fun (W : World) (hW : GP W q g off ts (a + 1 + 1)) => HNX.out W _ ty hW hty)
            simp only [h3] at HN3
            clear h3 hty
            go_enter Tryz.func89, Tryz.ntmps89
            go_wp2_with (first
              | (go_at_call 110; ((with_reducible refine (HN1.out).mono ?_); rintro e w1 ⟨hgn, rfl, hp1⟩; have G1 := Lib.hid ((GrP.of_below (P := PI q j x.env) B0.out).trans (hgn.mono (fun k _ e => .inl e))); have P1 := Lib.hid hp1; have J1 := Lib.hid (JH.out.grp hgn HJQ.out); have cc7 := cell_of_row _ _ 7 _ _ _ J1.out.row; have ff7 := frozen_of_row _ _ 7 _ _ J1.out.row; clear hgn hp1))
              | (go_at_call 110; ((with_reducible refine (HN2.out _ (P1.out.set hq1 hg1 _ _)).mono ?_); rintro e w2 ⟨hgn, rfl, hp2⟩; have G2 := Lib.hid ((G1.out.set (R := j) (.inr (.inr (.inl rfl))) 7 (.int .u64 v1)).trans (hgn.mono (fun k _ e => .inl e))); have P2 := Lib.hid hp2; have J2 := Lib.hid ((J1.out.set_base v1).grp hgn HJQ.out); have cc8 := cell_of_row _ _ 8 _ _ _ J2.out.row; have ff8 := frozen_of_row _ _ 8 _ _ J2.out.row; clear hgn hp2))
              | (go_at_call 110; ((with_reducible refine (HN3.out _ (P2.out.set hq1 hg1 _ _)).mono ?_); rintro e w3 ⟨hgn, rfl⟩; have G3 := Lib.hid ((G2.out.set (R := j) (.inr (.inr (.inl rfl))) 8 (.int .u64 v2)).trans (hgn.mono (fun k _ e => .inl e))); clear hgn)))
            exact ⟨rfl, G3.out, rfl⟩
          | ok n3 =>
            have HN3 := Lib.hid (fun (W : World) (hW : GP W q g off ts (a + 1 + 1)) => HNX.out W _ ty hW hty)
            simp only [h3] at HN3
            simp only [Except.map, hv3]
            generalize numF (ch (bytesOf ty.text)) = v3 at *
            clear h3 hty hv3
            go_enter Tryz.func89, Tryz.ntmps89
            go_wp2_with (first
              | (go_at_call 110; ((with_reducible refine (HN1.out).mono ?_); rintro e w1 ⟨hgn, rfl, hp1⟩; have G1 := Lib.hid ((GrP.of_below (P := PI q j x.env) B0.out).trans (hgn.mono (fun k _ e => .inl e))); have P1 := Lib.hid hp1; have J1 := Lib.hid (JH.out.grp hgn HJQ.out); have cc7 := cell_of_row _ _ 7 _ _ _ J1.out.row; have ff7 := frozen_of_row _ _ 7 _ _ J1.out.row; clear hgn hp1))
              | (go_at_call 110; ((with_reducible refine (HN2.out _ (P1.out.set hq1 hg1 _ _)).mono ?_); rintro e w2 ⟨hgn, rfl, hp2⟩; have G2 := Lib.hid ((G1.out.set (R := j) (.inr (.inr (.inl rfl))) 7 (.int .u64 v1)).trans (hgn.mono (fun k _ e => .inl e))); have P2 := Lib.hid hp2; have J2 := Lib.hid ((J1.out.set_base v1).grp hgn HJQ.out); have cc8 := cell_of_row _ _ 8 _ _ _ J2.out.row; have ff8 := frozen_of_row _ _ 8 _ _ J2.out.row; clear hgn hp2))
              | (go_at_call 110; ((with_reducible refine (HN3.out _ (P2.out.set hq1 hg1 _ _)).mono ?_); rintro e w3 ⟨hgn, rfl, hp3⟩; have G3 := Lib.hid ((G2.out.set (R := j) (.inr (.inr (.inl rfl))) 8 (.int .u64 v2)).trans (hgn.mono (fun k _ e => .inl e))); have P3 := Lib.hid hp3; have J3 := Lib.hid ((J2.out.set_cap v2).grp hgn HJQ.out); have cc9 := cell_of_row _ _ 9 _ _ _ J3.out.row; have ff9 := frozen_of_row _ _ 9 _ _ J3.out.row; clear hgn hp3)))
            go_end0
            exact ⟨G3.out.set (.inr (.inr (.inl rfl))) _ _, rfl, P3.out.set hq1 hg1 _ _, _, J3.out.set_stb _⟩

end Go.Proofs.YtdncjhffniepbaaGreatDoor.Lx
/- (GrP)
  Layer 6, the program: an item, burst, and what no word begins.
-/
namespace Go.Proofs.YtdncjhffniepbaaGreatDoor.Lx
open Go.RowKit

set_option maxHeartbeats 4000000 in
set_option maxRecDepth 100000 in
theorem gitem_burst {w : World} {q g off : Nat} {ts : List Tok} {a : Nat} (h : GP w q g off ts a) (hT : TsOk ts) {j : Nat} {x : J15} {J : JobS} (hj : JW w j x J) (hqj : q < j - 1) (hgj : g < j - 1) (tk tl tc : Int) {s : ByteArray} (hs1 : (s.toList == [114, 117, 110]) = false) (hs2 : (s.toList == [101, 110, 118]) = false) (hs3 : (s.toList == [110, 101, 101, 100, 115]) = false) (hs4 : (s.toList == [114, 101, 97, 100, 121]) = false) (hs5 : (s.toList == [114, 101, 115, 116, 97, 114, 116]) = false) (hs6 : (s.toList == [98, 97, 99, 107, 111, 102, 102]) = false) (hs7 : (s.toList == [98, 117, 114, 115, 116]) = true) :
    Calls Tryz.prog 89 #[.pointer (some ⟨q, 0, none⟩), .pointer (some ⟨j, 0, none⟩), .agg #[.int .i64 tk, .string s, .int .i64 tl, .int .i64 tc]] w (ItemPost w q g off ts j x ((countF ts a).bind fun n1 => (readF ts 2 n1).map fun n2 => ({ J with bur := numF (ch (txtAt ts a)), win := numF (ch (txtAt ts n1)) }, n2))) := by
  have B0 := Lib.hid (balloc w (TokB tk s tl tc))
  have K0 := heap_alloc_new w (TokB tk s tl tc)
  have d0 := cell_of_row _ _ 0 _ _ _ K0
  have d1 := cell_of_row _ _ 1 _ _ _ K0
  have d2 := cell_of_row _ _ 2 _ _ _ K0
  have d3 := cell_of_row _ _ 3 _ _ _ K0
  have PH := Lib.hid (h.below B0.out)
  have JH := Lib.hid (hj.below B0.out)
  have HJQ := Lib.hid (show ∀ k, j - 1 ≤ k → ¬ (fun k => k = q) k from fun k hk (e : k = q) => by omega)
  have hq1 : j ≠ q := by omega
  have hg1 : j ≠ g := by omega
  obtain ⟨⟨k1, tt1, l1, c1⟩, ht, htl⟩ := h.now
  have htx : txtAt ts a = bytesOf tt1 := by unfold txtAt; rw [ht]; rfl
  clear h hj K0
  rw [htx]
  have HN1 := Lib.hid (gcount_ex PH.out hT.nums ht)
  have HNX := Lib.hid (fun (W : World) (b : Nat) (t : Tok) (hW : GP W q g off ts b) (hb : ts[b]? = some t) => gnumber_ex hW hT.nums hb)
  simp only at HN1
  have hcf : ∀ n1, countF ts a = .ok n1 → n1 = a + 1 ∧ k1 = 2 := by
    intro n1 hc
    unfold countF at hc
    rw [ht] at hc
    simp only at hc
    split at hc
    · rename_i hk
      split at hc
      · cases hc
      · injection hc with hc; exact ⟨hc.symm, hk⟩
    · cases hc
  generalize numF (ch (bytesOf tt1)) = v1 at *
  clear htl htx hT
  cases h1 : countF ts a with
  | error f =>
    rw [h1] at HN1
    clear h1 ht hcf
    go_enter Tryz.func89, Tryz.ntmps89
    go_wp2_with ((go_at_call 111; ((with_reducible refine (HN1.out).mono ?_); rintro e w1 ⟨hgn, rfl⟩; have G1 := Lib.hid ((GrP.of_below (P := PI q j x.env) B0.out).trans (hgn.mono (fun k _ e => .inl e))); clear hgn)))
    exact ⟨rfl, G1.out, rfl⟩
  | ok n1 =>
    rw [h1] at HN1
    obtain ⟨rfl, rfl⟩ := hcf _ h1
    have hlt1 := ts_more PH.out.fin ht (by simp)
    clear h1 ht hcf
    obtain ⟨tx, htx⟩ : ∃ t, ts[a + 1]? = some t := ⟨_, List.getElem?_eq_getElem hlt1⟩
    have hv2 : txtAt ts (a + 1) = bytesOf tx.text := by unfold txtAt; rw [htx]; rfl
    cases h2 : readF ts 2 (a + 1) with
    | error f =>
      simp only [Except.bind, Except.map, h2]
      have HN2 := Lib.hid (fun (W : World) (hW : GP W q g off ts (a + 1)) => HNX.out W _ tx hW htx)
      simp only [h2] at HN2
      clear h2 htx
      go_enter Tryz.func89, Tryz.ntmps89
      go_wp2_with (first
        | (go_at_call 111; ((with_reducible refine (HN1.out).mono ?_); rintro e w1 ⟨hgn, rfl, hp1⟩; have G1 := Lib.hid ((GrP.of_below (P := PI q j x.env) B0.out).trans (hgn.mono (fun k _ e => .inl e))); have P1 := Lib.hid hp1; have J1 := Lib.hid (JH.out.grp hgn HJQ.out); have cc10 := cell_of_row _ _ 10 _ _ _ J1.out.row; have ff10 := frozen_of_row _ _ 10 _ _ J1.out.row; clear hgn hp1))
        | (go_at_call 110; ((with_reducible refine (HN2.out _ (P1.out.set hq1 hg1 _ _)).mono ?_); rintro e w2 ⟨hgn, rfl⟩; have G2 := Lib.hid ((G1.out.set (R := j) (.inr (.inr (.inl rfl))) 10 (.int .i64 v1)).trans (hgn.mono (fun k _ e => .inl e))); clear hgn)))
      exact ⟨rfl, G2.out, rfl⟩
    | ok n2 =>
      have HN2 := Lib.hid (fun (W : World) (hW : GP W q g off ts (a + 1)) => HNX.out W _ tx hW htx)
      simp only [h2] at HN2
      simp only [Except.bind, Except.map, h2, hv2]
      generalize numF (ch (bytesOf tx.text)) = v2 at *
      clear h2 htx hv2
      go_enter Tryz.func89, Tryz.ntmps89
      go_wp2_with (first
        | (go_at_call 111; ((with_reducible refine (HN1.out).mono ?_); rintro e w1 ⟨hgn, rfl, hp1⟩; have G1 := Lib.hid ((GrP.of_below (P := PI q j x.env) B0.out).trans (hgn.mono (fun k _ e => .inl e))); have P1 := Lib.hid hp1; have J1 := Lib.hid (JH.out.grp hgn HJQ.out); have cc10 := cell_of_row _ _ 10 _ _ _ J1.out.row; have ff10 := frozen_of_row _ _ 10 _ _ J1.out.row; clear hgn hp1))
        | (go_at_call 110; ((with_reducible refine (HN2.out _ (P1.out.set hq1 hg1 _ _)).mono ?_); rintro e w2 ⟨hgn, rfl, hp2⟩; have G2 := Lib.hid ((G1.out.set (R := j) (.inr (.inr (.inl rfl))) 10 (.int .i64 v1)).trans (hgn.mono (fun k _ e => .inl e))); have P2 := Lib.hid hp2; have J2 := Lib.hid ((J1.out.set_bur v1).grp hgn HJQ.out); have cc11 := cell_of_row _ _ 11 _ _ _ J2.out.row; have ff11 := frozen_of_row _ _ 11 _ _ J2.out.row; clear hgn hp2)))
      go_end0
      exact ⟨G2.out.set (.inr (.inr (.inl rfl))) _ _, rfl, P2.out.set hq1 hg1 _ _, _, J2.out.set_win _⟩

set_option maxHeartbeats 4000000 in
set_option maxRecDepth 100000 in
theorem gitem_none {w : World} {q g off : Nat} {ts : List Tok} {a : Nat} (h : GP w q g off ts a) {j : Nat} {x : J15} {J : JobS} (hj : JW w j x J) (hqj : q < j - 1) (hgj : g < j - 1) (tk tl tc : Int) {s : ByteArray} (hs1 : (s.toList == [114, 117, 110]) = false) (hs2 : (s.toList == [101, 110, 118]) = false) (hs3 : (s.toList == [110, 101, 101, 100, 115]) = false) (hs4 : (s.toList == [114, 101, 97, 100, 121]) = false) (hs5 : (s.toList == [114, 101, 115, 116, 97, 114, 116]) = false) (hs6 : (s.toList == [98, 97, 99, 107, 111, 102, 102]) = false) (hs7 : (s.toList == [98, 117, 114, 115, 116]) = false) (hs8 : (s.toList == [115, 116, 111, 112]) = false) :
    Calls Tryz.prog 89 #[.pointer (some ⟨q, 0, none⟩), .pointer (some ⟨j, 0, none⟩), .agg #[.int .i64 tk, .string s, .int .i64 tl, .int .i64 tc]] w (ItemPost w q g off ts j x (.error (60, tl, tc))) := by
  have B0 := Lib.hid (balloc w (TokB tk s tl tc))
  have K0 := heap_alloc_new w (TokB tk s tl tc)
  have d0 := cell_of_row _ _ 0 _ _ _ K0
  have d1 := cell_of_row _ _ 1 _ _ _ K0
  have d2 := cell_of_row _ _ 2 _ _ _ K0
  have d3 := cell_of_row _ _ 3 _ _ _ K0
  have PH := Lib.hid (h.below B0.out)
  have JH := Lib.hid (hj.below B0.out)
  have HJQ := Lib.hid (show ∀ k, j - 1 ≤ k → ¬ (fun k => k = q) k from fun k hk (e : k = q) => by omega)
  have hq1 : j ≠ q := by omega
  have hg1 : j ≠ g := by omega
  obtain ⟨⟨k1, tt1, l1, c1⟩, ht, htl⟩ := h.now
  have htx : txtAt ts a = bytesOf tt1 := by unfold txtAt; rw [ht]; rfl
  clear h hj K0
  clear ht htl htx PH JH HJQ hq1 hg1
  go_enter Tryz.func89, Tryz.ntmps89
  go_wp2_with (go_at_call 61; ((with_reducible refine (gfail_ex _ _ _ _ _ _).mono ?_); rintro e wf ⟨rfl, hbf⟩; have BF := Lib.hid hbf; clear hbf))
  exact ⟨rfl, (GrP.of_below (P := PI q j x.env) B0.out).trans (GrP.of_below BF.out), rfl⟩

end Go.Proofs.YtdncjhffniepbaaGreatDoor.Lx
