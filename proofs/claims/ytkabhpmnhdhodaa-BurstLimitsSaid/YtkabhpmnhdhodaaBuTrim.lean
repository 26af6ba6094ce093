/-
  The contracts of Clone, DeleteFunc, Trim and Allow.
-/
import Derived.Test.YtkabhpmnhdhodaaBuCalls
import Derived.Test.YtkabhpmnhdhodaaShelf
namespace Go.Proofs.Ytkabhpmnhdhodaa.Bu
open Go.RowKit Go.Shelf Go.Sort

/-- A number of 64 bits. -/
structure T where
  n : Int
  lo : 0 ≤ n
  hi : n ≤ mx
def T0 : T := ⟨0, Int.le_refl 0, by unfold mx; omega⟩
instance : Inhabited T := ⟨T0⟩
def encT (t : T) : Value := .int .u64 t.n
def mk : (l : List Int) → U l → List T
  | [], _ => []
  | x :: r, h => ⟨x, (h x (by simp)).1, (h x (by simp)).2⟩ :: mk r (fun y hy => h y (by simp [hy]))
theorem mk_map : ∀ (l : List Int) (h : U l), (mk l h).map (·.n) = l
  | [], _ => rfl
  | x :: r, h => by
    have ih := mk_map r (fun y hy => h y (by simp [hy]))
    simp [mk, ih]
theorem mk_length (l : List Int) (h : U l) : (mk l h).length = l.length := by
  have := congrArg List.length (mk_map l h); simpa using this
theorem mk_filter : ∀ (l : List Int) (h : U l) (p : Int → Bool), ((mk l h).filter fun t => p t.n).map (·.n) = l.filter p
  | [], _, _ => rfl
  | x :: r, h, p => by
    have ih := mk_filter r (fun y hy => h y (by simp [hy])) p
    by_cases hx : p x = true <;> simp [mk, hx, ih]

theorem clone_nil (w : World) : Calls Try.prog 18 #[.slice none 0 0] w fun e w' => e = .returned (.slice none 0 0) ∧ w = w' := by
  have q22 : ∀ (w : World) (a : Option Addr) (n c n' c' : Nat), (binOp .eql 22 (.slice a n c) (.slice none n' c')).run Try.prog w = .ok (.bool a.isNone) w := fun w a n c n' c' => Lib.run_eql_slice_nil w _ _ a n c n' c' Try.underlying22
  go_enter Try.func18, Try.ntmps18
  go_wp2
  go_ret
  exact ⟨rfl, rfl⟩

set_option maxHeartbeats 1000000 in
theorem clone_some {w : World} {a : Addr} {n c : Nat} {l : List Int} (hr : Rd w (some a) n l) (hn : n ≤ 1000) :
    Calls Try.prog 18 #[.slice (some a) n c] w fun e w' => ∃ g cap, e = .returned (.slice (some ⟨g, 0, none⟩) n cap) ∧ Seg w' w.heap.size (.slice (some ⟨g, 0, none⟩) n cap) l ∧ Below w.heap.size w w' := by
  obtain ⟨i0, hi0, hz0, hz1, hz2⟩ := info_parts Try.info23
  have q22 : ∀ (w : World) (a : Option Addr) (n c n' c' : Nat), (binOp .eql 22 (.slice a n c) (.slice none n' c')).run Try.prog w = .ok (.bool a.isNone) w := fun w a n c n' c' => Lib.run_eql_slice_nil w _ _ a n c n' c' Try.underlying22
  have hl := hr.1
  have hc : ∀ j u, (l.map (Value.int .u64))[j]? = some u → (w.alloc (.cells #[] 23)).cell? (a.add j) = some u := by
    intro j u hj
    rw [List.getElem?_map] at hj
    cases hk : l[j]? with
    | none => rw [hk] at hj; simp at hj
    | some y =>
      rw [hk] at hj
      have hjl : j < l.length := (List.getElem?_eq_some_iff.1 hk).1
      obtain ⟨g, off, e, hcell⟩ := hr.2 (by omega)
      simp only [Option.some.injEq] at e
      subst e
      have := hcell j y hk
      rw [Addr.add_lit, World.cell?_alloc_lt w _ _ (World.block_lt_of_cell? w _ this), this]
      simpa using hj
  have h1 : ∀ u ∈ l.map (Value.int .u64), u.oneCell' = true := fun u hu => by obtain ⟨y, _, rfl⟩ := List.mem_map.1 hu; rfl
  have HL := Lib.hid hl
  have HC := Lib.hid hc
  have H1 := Lib.hid h1
  clear hr hl hc h1
  go_enter Try.func18, Try.ntmps18
  go_wp2_with (at_builtin; refine wpList_append_own _ rfl _ _ 22 rfl w.heap.size 23 i0 (.int .u64 0) 1 8 Try.underlying22 hi0 hz0 hz1 hz2 rfl (by decide) _ _ _ rfl (World.ownsRow_made w #[] 0 (Nat.le_refl _) (Nat.zero_le _) (by simp)) a n c (l.map (Value.int .u64)) rfl ?qc1 ?qc2 ?qc3 ?qc4 ?qc5 ?qc6 ?_)
  case qc1 => rw [List.length_map, HL.out, Nat.mul_one]
  case qc2 => exact HC.out
  case qc3 => exact H1.out
  case qc4 => rw [Nat.zero_add]; unfold maxLen; omega
  case qc5 => omega
  case qc6 => simp
  intro v' w1 hown hgrow hnil
  have HO := Lib.hid hown
  have HG := Lib.hid hgrow
  have HN := Lib.hid hnil
  clear hown hgrow hnil
  go_wp2_with fail
  go_ret
  have ho := HO.out
  have hS := Seg.of_own ho
  rcases ho.2 with ⟨hv, h0⟩ | ⟨g, cap, cur, hv, _⟩
  · exact (HN.out hv).elim
  · subst hv
    exact ⟨g, cap, rfl, hS, ((Below.refl _ w).alloc (Nat.le_refl _) _).grown HG.out (by simp) (by intro k hk; simp [Value.ownBlock] at hk; omega)⟩

theorem del_nil (fv : Value) (w : World) : Calls Try.prog 17 #[.slice none 0 0, fv] w fun e w' => e = .returned (.slice none 0 0) ∧ w = w' := by
  have H := Lib.hid (AnyE.slices_IndexFunc_empty Try.l6 none 0 fv w)
  go_enter Try.func17, Try.ntmps17
  go_wp2_with (go_at_call 21; refine H.out.mono ?_; rintro e w' ⟨rfl, rfl⟩)
  go_ret
  exact ⟨rfl, rfl⟩

theorem del_some {w : World} {B g off cap b1 b2 : Nat} {l : List Int} {now win : Int} (h : Seg w B (.slice (some ⟨g, off, none⟩) l.length cap) l) (hU : U l)
    (c1 : w.cell? ⟨b1, 0, none⟩ = some (.int .u64 now)) (c2 : w.cell? ⟨b2, 0, none⟩ = some (.int .u64 win)) (n1 : b1 ≠ g) (n2 : b2 ≠ g) (h0 : 0 ≤ now) (h1 : now ≤ mx) :
    Calls Try.prog 17 #[.slice (some ⟨g, off, none⟩) l.length cap, .func (.func 22) #[] #[.pointer (some ⟨b1, 0, none⟩), .pointer (some ⟨b2, 0, none⟩)]] w
      fun e w' => ∃ v', e = .returned v' ∧ Seg w' B v' (trim l now win) ∧ Below B w w' := by
  have hle := h.le
  rcases h with ⟨hv, _⟩ | ⟨g', off', cap', cur, hv, hb, hg, hc, hm, hs, hcells⟩
  · simp at hv
  simp only [Value.slice.injEq, Option.some.injEq, Addr.mk.injEq, and_true, true_and] at hv
  obtain ⟨⟨rfl, rfl⟩, rfl⟩ := hv
  have eg : ∀ args w, (callFunc 22 args).run Try.prog w = .ok (.enter 22 args) w := enters_of Try.func22 (by kernel_rfl) rfl
  have hO : OneCell encT := fun _ => rfl
  have hsz : (mk l hU).toArray.size = l.length := by simp [mk_length]
  have hdj : ∀ (j : Nat) (hj : j < l.length), encT ((mk l hU).toArray[j]!) = .int .u64 l[j] := by
    intro j hj
    have hj' : j < (mk l hU).length := by rw [mk_length]; exact hj
    have e1 : (mk l hU).toArray[j]! = (mk l hU)[j] := by simp [hj']
    have e2 : ((mk l hU).map (·.n))[j]'(by simpa using hj') = ((mk l hU)[j]).n := by simp
    rw [e1]
    unfold encT
    rw [← e2]
    congr 1
    simp only [mk_map]
  have hH : Holds encT w g off (mk l hU).toArray := fun j hj => by
    rw [hsz] at hj
    refine ⟨?_, by simp [World.frozen?, hg]⟩
    rw [hdj j hj, cell_of_row w g _ cur _ _ hg]
    exact hcells j _ (List.getElem?_eq_getElem hj)
  have hp : PredAt Try.prog 22 #[.pointer (some ⟨b1, 0, none⟩), .pointer (some ⟨b2, 0, none⟩)] encT (fun x => !young now win x.n) w := fun W x hbl =>
    old_any ((hbl.cell (p := ⟨b1, 0, none⟩) (World.block_lt_of_cell? w _ c1)).trans c1) ((hbl.cell (p := ⟨b2, 0, none⟩) (World.block_lt_of_cell? w _ c2)).trans c2) h0 h1 x.lo x.hi
  have hov : ∀ (b : Nat) (u : Value) (n : Nat) (os : Array Obj) (dk : Array T), b ≠ g → w.cell? ⟨b, 0, none⟩ = some u → (sortWorld encT w g off n dk os).cell? ⟨b, 0, none⟩ = some u := by
    intro b u n os dk hbg hcb
    unfold sortWorld
    rw [cell?_grow _ _ _ (by show b < (putRow _ _ _ _ _).heap.size; rw [Sort.size_putRow]; exact World.block_lt_of_cell? w _ hcb), cell?_putRow_other _ _ g off _ _ (Or.inl hbg)]
    exact hcb
  have hpo : PredOver Try.prog 22 #[.pointer (some ⟨b1, 0, none⟩), .pointer (some ⟨b2, 0, none⟩)] encT (fun x => !young now win x.n) g off (mk l hU).toArray.size w := fun n os dk x _ =>
    old_any (hov b1 _ n os dk n1 c1) (hov b2 _ n os dk n2 c2) h0 h1 x.lo x.hi
  have hcon := AnyE.slices_DeleteFunc Try.l10 encT hO (fun x => !young now win x.n) 22 _ eg T0 Try.zeroValue23 g off cap (mk l hU).toArray w hp hpo hH (by rw [hsz]; exact hle) (by rw [hsz]; exact hc)
  rw [hsz] at hcon
  refine Calls.mono hcon ?_
  rintro e w' ⟨rfl, q, rfl⟩
  have hf : ((mk l hU).filter fun t => !!young now win t.n).map (·.n) = trim l now win := by
    simp only [Bool.not_not]; exact mk_filter l hU _
  simp only
  generalize (mk l hU).filter (fun t => !!young now win t.n) = F at hf ⊢
  have hfl : F.length = (trim l now win).length := by rw [← hf, List.length_map]
  have hle2 := trim_le l now win
  refine ⟨_, rfl, .inr ⟨g, off, cap, putCells encT off (F ++ List.replicate (l.length - F.length) T0).toArray cur, by rw [hfl], hb, ?_, Nat.le_trans hle2 hc, hm, by simpa [putCells] using hs, fun k x hk => ?_⟩, ?_⟩
  · simp [putRow, mapBlock, Array.getElem?_modify, onCells, Sort.ahead, hg]
  · have hkl : k < (trim l now win).length := (List.getElem?_eq_some_iff.1 hk).1
    have hk2 : k < F.length := by omega
    have hcur : off + k < cur.size := by omega
    unfold putCells
    rw [Array.getElem?_mapIdx, Array.getElem?_eq_getElem hcur, Option.map_some, if_pos ⟨by omega, by simp; omega⟩, show off + k - off = k by omega]
    have e1 : (F ++ List.replicate (l.length - F.length) T0).toArray[k]! = F[k] := by
      rw [getElem!_pos _ k (by simp; omega)]
      simp [hk2]
    rw [e1]
    rw [← hf, List.getElem?_map, List.getElem?_eq_getElem hk2] at hk
    simp only [Option.map_some, Option.some.injEq] at hk
    unfold encT
    rw [hk]
  · refine ⟨rfl, rfl, rfl, by rw [Sort.size_putRow]; exact Nat.le_refl _, fun k hk => ?_⟩
    simp only [putRow, mapBlock, Array.getElem?_modify]
    rw [if_neg (by omega)]; rfl
end Go.Proofs.Ytkabhpmnhdhodaa.Bu
