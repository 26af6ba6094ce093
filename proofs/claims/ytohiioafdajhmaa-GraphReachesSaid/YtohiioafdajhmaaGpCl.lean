/-
  Layer 7, the program: the tests that are handed on, and the library's search with them.
-/
import Derived.Test.YtohiioafdajhmaaGpAll
namespace Go.Proofs.Ytohiioafdajhmaa.Gp
open Go.RowKit

/-- A function that reads places below n. -/
def Reads (g : Nat) (lb : Array Value) (n : Nat) (p : Nat → Bool) (w : World) : Prop :=
  ∀ (W : World) (x : Nat), x < n → Below w.heap.size w W → Calls Try.prog g (#[.int .i64 x] ++ lb) W fun e w' => e = .returned (.bool (p x)) ∧ ∃ q, w' = W.drewN q
theorem sub_list {n : Nat} : ∀ (l : List Nat), (∀ x ∈ l, x < n) → ∃ zs : List { x // x < n }, zs.map Subtype.val = l
  | [], _ => ⟨[], rfl⟩
  | a :: l, h => by
    obtain ⟨zs, e⟩ := sub_list l fun x hx => h x (List.mem_cons_of_mem _ hx)
    exact ⟨⟨a, h a (by simp)⟩ :: zs, by simp [e]⟩
theorem cf_ex {g : Nat} {lb : Array Value} (eg : ∀ args w, (callFunc g args).run Try.prog w = .ok (.enter g args) w) {w : World} {v : Value} {n : Nat} {l : List Nat} {p : Nat → Bool} (hl : Lst .i64 w v (ints l)) (hlt : ∀ x ∈ l, x < n) (hp : Reads g lb n p w) :
    Calls Try.prog 43 #[v, .func (.func g) #[] lb] w fun e w' => e = .returned (.bool (l.any p)) ∧ ∃ q, w' = w.drewN q := by
  obtain ⟨A, c, rfl, hr, _, hlc, hcm⟩ := hl
  rw [ints_length] at *
  rcases Nat.eq_zero_or_pos l.length with h0 | h0
  · have : l = [] := List.eq_nil_of_length_eq_zero h0
    subst this
    refine (Try.slices_ContainsFunc_empty (α := Nat) A c _ w).mono ?_
    rintro e w' ⟨he, rfl⟩
    exact ⟨he, 0, rfl⟩
  · obtain ⟨b, off, rfl, hc⟩ := hr (by rw [ints_length]; exact h0)
    obtain ⟨zs, hz⟩ := sub_list l hlt
    have hzl : zs.length = l.length := by rw [← hz, List.length_map]
    have i0 : Inhabited { x // x < n } := ⟨zs[0]'(by omega)⟩
    have hh := Try.slices_ContainsFunc (α := { x // x < n }) (fun x => .int .i64 (x.1 : Int)) (fun x => p x.1) g lb eg b off l.length c zs w (fun W x hb => hp W x.1 x.2 hb) (by omega) (by unfold maxLen at hcm; omega) (fun j hj => hc j _ (by
      rw [← hz, List.getElem?_map, List.getElem?_map, List.getElem?_eq_getElem hj, getElem!_pos zs j hj]; rfl))
    refine hh.mono ?_
    rintro e w' ⟨he, hw⟩
    refine ⟨?_, hw⟩
    rw [he, List.take_of_length_le (by omega), ← hz, List.any_map]
    rfl
theorem find_at {p : Nat → Bool} {y : Nat} : ∀ (l : List Nat), l.find? p = some y → l[l.findIdx p]? = some y
  | a :: l, h => by
    by_cases ha : p a = true
    · rw [List.find?_cons_of_pos ha] at h
      injection h with h
      rw [List.findIdx_cons, ha, h]; rfl
    · rw [List.find?_cons_of_neg ha] at h
      rw [List.findIdx_cons, show p a = false by simpa using ha]
      simpa using find_at l h
theorem idx_spec (p : Nat → Bool) {n : Nat} [Inhabited { x // x < n }] {y : Nat} : ∀ (zs : List { x // x < n }) (i : Nat), (zs.map Subtype.val).find? p = some y → Lib.idxByFrom (fun _ y => p y.1) default zs i = ((i + (zs.map Subtype.val).findIdx p : Nat) : Int)
  | z :: zs, i, h => by
    by_cases hz : p z.1 = true
    · rw [List.map_cons, List.findIdx_cons, hz]
      show (if p z.1 = true then (i : Int) else _) = _
      rw [if_pos hz]; rfl
    · have e : Lib.idxByFrom (fun _ y => p y.1) default (z :: zs) i = Lib.idxByFrom (fun _ y => p y.1) default zs (i + 1) := by
        show (if p z.1 = true then (i : Int) else _) = _
        rw [if_neg hz]
      rw [List.map_cons, List.find?_cons_of_neg hz] at h
      rw [e, idx_spec p zs (i + 1) h, List.map_cons, List.findIdx_cons, show p z.1 = false by simpa using hz]
      show ((i + 1 + _ : Nat) : Int) = ((i + (_ + 1) : Nat) : Int)
      congr 1; omega
theorem if_ex {g : Nat} {lb : Array Value} (eg : ∀ args w, (callFunc g args).run Try.prog w = .ok (.enter g args) w) {w : World} {v : Value} {n : Nat} {l : List Nat} {p : Nat → Bool} {y : Nat} (hl : Lst .i64 w v (ints l)) (hlt : ∀ x ∈ l, x < n) (hp : Reads g lb n p w) (hy : l.find? p = some y) :
    Calls Try.prog 35 #[v, .func (.func g) #[] lb] w fun e w' => e = .returned (.int .i64 (l.findIdx p : Nat)) ∧ ∃ q, w' = w.drewN q := by
  obtain ⟨A, c, rfl, hr, _, hlc, hcm⟩ := hl
  rw [ints_length] at *
  rcases Nat.eq_zero_or_pos l.length with h0 | h0
  · have : l = [] := List.eq_nil_of_length_eq_zero h0
    subst this
    cases hy
  · obtain ⟨b, off, rfl, hc⟩ := hr (by rw [ints_length]; exact h0)
    obtain ⟨zs, hz⟩ := sub_list l hlt
    have hzl : zs.length = l.length := by rw [← hz, List.length_map]
    have i0 : Inhabited { x // x < n } := ⟨zs[0]'(by omega)⟩
    have hh := Try.slices_IndexFunc (α := { x // x < n }) (fun x => .int .i64 (x.1 : Int)) (fun x => p x.1) g lb eg b off l.length c zs w (fun W x hb => hp W x.1 x.2 hb) (by omega) (by unfold maxLen at hcm; omega) (fun j hj => hc j _ (by
      rw [← hz, List.getElem?_map, List.getElem?_map, List.getElem?_eq_getElem hj, getElem!_pos zs j hj]; rfl))
    refine hh.mono ?_
    rintro e w' ⟨he, hw⟩
    refine ⟨?_, hw⟩
    rw [List.take_of_length_le (by omega)] at he
    have := idx_spec p zs 0 (by rw [hz]; exact hy)
    rw [hz] at this
    rw [he]
    exact ret_i (by unfold Lib.idxBy; rw [this]; omega)

theorem gtaken_ex {w : World} {cv : Value} {n : Nat} {out : List Nat} (hb : BL w cv n out) {bx : Nat} (hbox : w.cell? ⟨bx, 0, none⟩ = some cv) : Reads 49 #[.pointer (some ⟨bx, 0, none⟩)] n (fun k => decide (k ∉ out)) w := by
  intro W x hx hbel
  obtain ⟨A, c, rfl, h2⟩ := hb.below hbel
  obtain ⟨g, off, rfl, h3⟩ := h2 x hx
  have h4 := cell_up hbel hbox
  have hxi : (x : Int) < (n : Int) := by omega
  clear hb hbox h2 hbel
  by_cases hm : x ∈ out
  · rw [decide_eq_true hm] at h3
    have M := Lib.hid hm
    clear hm
    show Calls Try.prog 49 #[.int .i64 x, .pointer (some ⟨bx, 0, none⟩)] W _
    go_enter Try.func49, Try.ntmps49
    go_wp2_with fail
    go_ret
    exact ⟨ret_b (decide_eq_false (not_not_intro M.out)).symm, 0, rfl⟩
  · rw [decide_eq_false hm] at h3
    have M := Lib.hid hm
    clear hm
    show Calls Try.prog 49 #[.int .i64 x, .pointer (some ⟨bx, 0, none⟩)] W _
    go_enter Try.func49, Try.ntmps49
    go_wp2_with fail
    go_ret
    exact ⟨ret_b (decide_eq_true M.out).symm, 0, rfl⟩
theorem gleft_ex {w : World} {cv : Value} {n : Nat} {out : List Nat} (hb : BL w cv n out) {bx : Nat} (hbox : w.cell? ⟨bx, 0, none⟩ = some cv) : Reads 32 #[.pointer (some ⟨bx, 0, none⟩)] n (fun k => decide (k ∉ out)) w := by
  intro W x hx hbel
  obtain ⟨A, c, rfl, h2⟩ := hb.below hbel
  obtain ⟨g, off, rfl, h3⟩ := h2 x hx
  have h4 := cell_up hbel hbox
  have hxi : (x : Int) < (n : Int) := by omega
  clear hb hbox h2 hbel
  by_cases hm : x ∈ out
  · rw [decide_eq_true hm] at h3
    have M := Lib.hid hm
    clear hm
    show Calls Try.prog 32 #[.int .i64 x, .pointer (some ⟨bx, 0, none⟩)] W _
    go_enter Try.func32, Try.ntmps32
    go_wp2_with fail
    go_ret
    exact ⟨ret_b (decide_eq_false (not_not_intro M.out)).symm, 0, rfl⟩
  · rw [decide_eq_false hm] at h3
    have M := Lib.hid hm
    clear hm
    show Calls Try.prog 32 #[.int .i64 x, .pointer (some ⟨bx, 0, none⟩)] W _
    go_enter Try.func32, Try.ntmps32
    go_wp2_with fail
    go_ret
    exact ⟨ret_b (decide_eq_true M.out).symm, 0, rfl⟩
theorem gfound_ex {w : World} {cv : Value} {n : Nat} {out : List Nat} (hb : BL w cv n out) {ib bx : Nat} {i : Int} (hi : w.cell? ⟨ib, 0, none⟩ = some (.int .i64 i)) (hbox : w.cell? ⟨bx, 0, none⟩ = some cv) :
    Reads 44 #[.pointer (some ⟨ib, 0, none⟩), .pointer (some ⟨bx, 0, none⟩)] n (fun k => decide ((k : Int) = i) || decide (k ∈ out)) w := by
  intro W x hx hbel
  obtain ⟨A, c, rfl, h2⟩ := hb.below hbel
  obtain ⟨g, off, rfl, h3⟩ := h2 x hx
  have h4 := cell_up hbel hbox
  have h5 := cell_up hbel hi
  have hxi : (x : Int) < (n : Int) := by omega
  clear hb hbox h2 hbel hi
  show Calls Try.prog 44 #[.int .i64 x, .pointer (some ⟨ib, 0, none⟩), .pointer (some ⟨bx, 0, none⟩)] W (fun e w' => e = .returned (.bool (decide ((x : Int) = i) || decide (x ∈ out))) ∧ ∃ q, w' = W.drewN q)
  by_cases he : (x : Int) = i
  · have h6 : ((x : Int) == i) = true := by rw [he]; exact beq_self_eq_true _
    rw [decide_eq_true he]
    have HE := Lib.hid he
    clear he
    go_enter Try.func44, Try.ntmps44
    go_wp2_with fail
    go_ret
    exact ⟨rfl, 0, rfl⟩
  · have h6 : ((x : Int) == i) = false := beq_eq_false_iff_ne.2 he
    rw [decide_eq_false he, Bool.false_or]
    clear he
    generalize decide (x ∈ out) = b at *
    go_enter Try.func44, Try.ntmps44
    go_wp2_with fail
    go_ret
    exact ⟨rfl, 0, rfl⟩

theorem fitsO_any (need out : List Nat) : (!need.any fun k => !decide (k ∈ out)) = fitsO need out := by
  unfold fitsO
  rw [List.not_any_eq_all_not]
  congr 1
  funext k
  by_cases h : k ∈ out <;> simp [h]
theorem gfitO_ex {w : World} {nv cv : Value} {n : Nat} {need out : List Nat} (hn : Lst .i64 w nv (ints need)) (hlt : ∀ x ∈ need, x < n) (hb : BL w cv n out) :
    Calls Try.prog 48 #[nv, cv] w (BPost w (fitsO need out)) := by
  have hmf : ∀ (fn : Fn) (first cap : Array Value) (w : World), (Instr.makeFunc fn first cap).run Try.prog w = .ok (.func fn first cap) w := fun _ _ _ _ => rfl
  have B0 := Lib.hid (balloc w (.cells #[cv] 54))
  have HF := Lib.hid (cf_ex (enters_of Try.func49 (by kernel_rfl) rfl) (hn.below B0.out) hlt (gtaken_ex (hb.below B0.out) (bx := w.heap.size) (by simp)))
  obtain ⟨An, cn, rfl⟩ := lst_formN hn
  obtain ⟨Ac, cc, rfl, _⟩ := hb
  have E := Lib.hid (fitsO_any need out)
  clear hn
  go_enter Try.func48, Try.ntmps48
  go_wp2_with (go_at_call 43; ((with_reducible refine HF.out.mono ?_); rintro e w1 ⟨rfl, q, rfl⟩))
  go_ret
  exact ⟨ret_b E.out, B0.out.trans ((below_drewN _ _).mono B0.out.size)⟩
theorem gfitD_ex {w : World} {nv cv : Value} {n : Nat} {need out : List Nat} (hn : Lst .i64 w nv (ints need)) (hlt : ∀ x ∈ need, x < n) (hb : BL w cv n out) {ib : Nat} {i : Int} (hi : w.cell? ⟨ib, 0, none⟩ = some (.int .i64 i)) :
    Calls Try.prog 42 #[nv, cv, .pointer (some ⟨ib, 0, none⟩)] w (BPost w (fitsD i need out)) := by
  have hmf : ∀ (fn : Fn) (first cap : Array Value) (w : World), (Instr.makeFunc fn first cap).run Try.prog w = .ok (.func fn first cap) w := fun _ _ _ _ => rfl
  have B0 := Lib.hid (balloc w (.cells #[cv] 54))
  have HF := Lib.hid (cf_ex (enters_of Try.func44 (by kernel_rfl) rfl) (hn.below B0.out) hlt (gfound_ex (hb.below B0.out) (cell_up B0.out hi) (bx := w.heap.size) (by simp)))
  obtain ⟨An, cn, rfl⟩ := lst_formN hn
  obtain ⟨Ac, cc, rfl, _⟩ := hb
  clear hn hi
  go_enter Try.func42, Try.ntmps42
  go_wp2_with (go_at_call 43; ((with_reducible refine HF.out.mono ?_); rintro e w1 ⟨rfl, q, rfl⟩))
  go_ret
  exact ⟨rfl, B0.out.trans ((below_drewN _ _).mono B0.out.size)⟩
end Go.Proofs.Ytohiioafdajhmaa.Gp
