/-
  Several texts, one behind the other: GrPa, GrSa, GrSb, GrSignals, LxLaid.
-/
import Derived.Test.YtdncjhffniepbaaGreatDoorM8
import Derived.Test.YtdncjhffniepbaaGreatDoorM4
import Derived.Test.YtdncjhffniepbaaGreatDoorRows
import Derived.Lay
import Derived.LaidSub
import Derived.LaidHandle
import Derived.Stop.LaidErr
import Derived.ChangeSame
import Derived.ChangeVars
import Derived.JoinedOf
import Derived.Stop.Joined
/- (GrPa)
  Layer 6, the program: Parse, the walk.
-/
namespace Go.Proofs.YtdncjhffniepbaaGreatDoor.Lx
open Go.RowKit

theorem lexC_code : ∀ (f c : Nat) (l : List Int) (p : Int × Int) (e : Flt), l.length < f → lexC f c l p = .error e → e.1 ≠ 0
  | 0, _, _, _, _, h, _ => by omega
  | f + 1, c, l, p, e, hf, h => by
    unfold lexC at h
    split at h
    · cases h
    · rename_i hne
      split at h
      · rename_i e1 h1
        injection h with h
        rw [← h]
        exact one_code h1
      · rename_i k t n h1
        split at h
        · injection h with h; rw [← h]; simp
        · cases hr : lexC f (c + 1) (l.drop (skip l + n)) (adv p (l.take (skip l + n))) with
          | error e' =>
            rw [hr] at h
            simp only [Except.map, Except.error.injEq] at h
            subst h
            have hn := (one_len h1).1
            rw [List.length_drop] at hne
            exact lexC_code f (c + 1) _ _ _ (by rw [List.length_drop]; omega) hr
          | ok r => rw [hr] at h; cases h
theorem all_code {l : List Int} {e : Flt} (h : all l = .error e) : e.1 ≠ 0 := by
  unfold all at h
  split at h
  · injection h with h; rw [← h]; simp
  · exact lexC_code _ _ _ _ _ (by omega) h
/-- What both parsers say of a text. -/
noncomputable def parseG (l : List Int) : Except Fau (List JobS) :=
  match all l with
  | .error f => .error f
  | .ok ts => (jobsF ts (ts.length + 1) [] 0).map Prod.fst
/-- What Parse returns. -/
def GParse (w : World) (R : Except Fau (List JobS)) (en : Ending) (w' : World) : Prop :=
  Below w.heap.size w w' ∧ match R with
  | .ok out => ∃ v xs, en = .returned (.tuple #[v, .agg #[.int .i64 0, .int .i64 0, .int .i64 0]]) ∧ XOwn w' 73 15 w.heap.size v out.length (jobCells xs) ∧ JAll w' w.heap.size xs out
  | .error f => en = .returned (.tuple #[.slice none 0 0, .agg #[.int .i64 f.1, .int .i64 f.2.1, .int .i64 f.2.2]])
abbrev FauB (e x y : Int) : Obj := .cells #[.int .i64 e, .int .i64 x, .int .i64 y] 32
theorem allT_ok {l : List Int} {ts : List Tok} (h : all l = .ok ts) : allT l = ts ∧ allF l = (0, 0, 0) := by unfold allT allF; rw [h]; exact ⟨rfl, rfl⟩
theorem allT_err {l : List Int} {f : Flt} (h : all l = .error f) : allT l = [] ∧ allF l = f := by unfold allT allF; rw [h]; exact ⟨rfl, rfl⟩
theorem set6_grp (W : World) (R : Nat) (a b c d e f : Value) : GrP (fun r => r = R) W ((((((W.setCell ⟨R, 0, none⟩ a).setCell ⟨R, 1, none⟩ b).setCell ⟨R, 2, none⟩ c).setCell ⟨R, 0, none⟩ d).setCell ⟨R, 1, none⟩ e).setCell ⟨R, 2, none⟩ f) := by
  have r0 := GrP.refl (fun r => r = R) W
  have r1 := r0.set (R := R) (.inr rfl) 0 a
  have r2 := r1.set (R := R) (.inr rfl) 1 b
  have r3 := r2.set (R := R) (.inr rfl) 2 c
  have r4 := r3.set (R := R) (.inr rfl) 0 d
  have r5 := r4.set (R := R) (.inr rfl) 1 e
  exact r5.set (R := R) (.inr rfl) 2 f
theorem JAll.mono {w : World} {B B' : Nat} {xs : List J15} {out : List JobS} (h : JAll w B xs out) (hB : B' ≤ B) : JAll w B' xs out := ⟨h.1, fun i x J h1 h2 => (h.2 i x J h1 h2).mono hB⟩
theorem gp_start {w1 : World} {v : Obj} {ts : List Tok} {g off c : Nat} (p1 : 0 < ts.length) (p2 : ts.length ≤ 3000) (p3 : ∀ t, ts[ts.length - 1]? = some t → t.kind = 6) (p4 : TsOk ts) (hle : ts.length ≤ c) (hm : c ≤ maxLen) (hg : g < w1.heap.size)
    (hcl : ∀ k t, ts[k]? = some t → w1.cell? ⟨g, off + k * 4, none⟩ = some (.int .i64 t.kind) ∧ w1.cell? ⟨g, off + k * 4 + 1, none⟩ = some (.string (bytesOf t.text)) ∧ w1.cell? ⟨g, off + k * 4 + 2, none⟩ = some (.int .i64 t.line) ∧ w1.cell? ⟨g, off + k * 4 + 3, none⟩ = some (.int .i64 t.col)) :
    GP ((w1.alloc v).alloc (.cells #[.slice (some ⟨g, off, none⟩) ts.length c] 76)) (w1.heap.size + 1) g off ts 0 := by
  have k2 := heap_alloc_new (w1.alloc v) (.cells #[.slice (some ⟨g, off, none⟩) ts.length c] 76)
  rw [show (w1.alloc v).heap.size = w1.heap.size + 1 by simp] at k2
  have hb : Below w1.heap.size w1 ((w1.alloc v).alloc (.cells #[.slice (some ⟨g, off, none⟩) ts.length c] 76)) := (balloc w1 v).trans ((balloc _ _).mono (balloc w1 v).size)
  refine ⟨⟨c, k2, by omega, hm⟩, p1, p3, p2, fun t ht => by have := p4.txt8 t ht; omega, by omega, fun k t ht => ?_⟩
  obtain ⟨a1, a2, a3, a4⟩ := hcl k t ht
  exact ⟨cell_in hb a1, cell_in hb a2, cell_in hb a3, cell_in hb a4⟩
set_option maxHeartbeats 4000000 in
set_option maxRecDepth 100000 in
theorem gparse_ex {s : ByteArray} {l : List Int} (hs : ch s = l) (hn : l.length ≤ 100000) (w : World) (het : ET w) : Calls Tryz.prog 20 #[.string s] w (GParse w (parseG l)) := by
  generalize hR : parseG l = R
  unfold parseG at hR
  have BZ := Lib.hid (balloc w (FauB 0 0 0))
  have KZ := Lib.hid (heap_alloc_new w (FauB 0 0 0))
  have HA := Lib.hid (gall_any hs hn (w.alloc (FauB 0 0 0)) (het.below BZ.out))
  clear hs hn het
  cases hall : all l with
  | error f =>
    obtain ⟨e1, e2⟩ := allT_err hall
    rw [e1, e2] at HA
    have hc := all_code hall
    rw [hall] at hR
    subst hR
    obtain ⟨fc, fx, fy⟩ := f
    clear hall e1 e2
    simp only at hc
    go_enter_defers Tryz.func20, Tryz.ntmps20
    go_wp2_with (go_at_call 16; ((refine HA.out.mono ?_); rintro e w1 ⟨v1, rfl, hl1, hb1⟩; have B1 := Lib.hid hb1; have k1 := (hb1.block _ (heap_lt KZ.out)).trans KZ.out; have KZ1 := Lib.hid k1; have d0 := cell_of_row _ _ 0 _ _ _ k1; have d1 := cell_of_row _ _ 1 _ _ _ k1; have d2 := cell_of_row _ _ 2 _ _ _ k1; have f0 := frozen_of_row _ _ 0 _ _ k1; have f1 := frozen_of_row _ _ 1 _ _ k1; have f2 := frozen_of_row _ _ 2 _ _ k1; have kn := heap_alloc_new w1 (FauB fc fx fy); have c0 := cell_of_row _ _ 0 _ _ _ kn; have c1 := cell_of_row _ _ 1 _ _ _ kn; have c2 := cell_of_row _ _ 2 _ _ _ kn; have hwl := heap_lt k1; clear hl1 hb1 k1 kn))
    go_region
    go_wp2_with fail
    have hb9 : ((((w1.setCell ⟨w.heap.size, 0, none⟩ (.int .i64 fc)).setCell ⟨w.heap.size, 1, none⟩ (.int .i64 fx)).setCell ⟨w.heap.size, 2, none⟩ (.int .i64 fy)).alloc (FauB fc fx fy)).drew.heap[w.heap.size]? = _ := heap_alloc_old (FauB fc fx fy) (res3 w1 w.heap.size (.int .i64 0) (.int .i64 0) (.int .i64 0) (.int .i64 fc) (.int .i64 fx) (.int .i64 fy) _ KZ1.out)
    simp [bodyPostD, Leaves, results, Tryz.results20, go_sem, cell_of_row _ w.heap.size 0 _ _ _ hb9, cell_of_row _ w.heap.size 1 _ _ _ hb9, cell_of_row _ w.heap.size 2 _ _ _ hb9]
    exact ⟨((below3 (BZ.out.trans (B1.out.mono BZ.out.size)) (Nat.le_refl _) _ _ _).alloc (by simp; omega) _).drew, rfl⟩
  | ok ts =>
    obtain ⟨e1, e2⟩ := allT_ok hall
    rw [e1, e2] at HA
    rw [hall] at hR
    simp only at hR
    obtain ⟨p1, p2, p3, p4⟩ := all_props hall
    have HRR := Lib.hid hR
    clear hall e1 e2 hR
    have hmf : ∀ (fn : Fn) (first cap : Array Value) (w : World), (Instr.makeFunc fn first cap).run Tryz.prog w = .ok (.func fn first cap) w := fun _ _ _ _ => rfl
    cases hJ : jobsF ts (ts.length + 1) [] 0 with
    | error f =>
      have HJ := Lib.hid hJ
      clear hJ
      go_enter_defers Tryz.func20, Tryz.ntmps20
      go_wp2_with (first
        | (go_at_call 16; ((refine HA.out.mono ?_); rintro e w1 ⟨v1, rfl, ⟨A, c, rfl, hat, _, hle, hm⟩, hb1⟩; obtain ⟨g, off, rfl, hcl⟩ := hat p1; have B1 := Lib.hid hb1; have k1 := (hb1.block _ (heap_lt KZ.out)).trans KZ.out; have hwl := heap_lt k1; have K1 := Lib.hid k1; have kn := heap_alloc_new w1 (FauB 0 0 0); have c0 := cell_of_row _ _ 0 _ _ _ kn; have c1 := cell_of_row _ _ 1 _ _ _ kn; have c2 := cell_of_row _ _ 2 _ _ _ kn; have hgl : g < w1.heap.size := World.block_lt_of_cell? w1 _ (hcl 0 _ (List.getElem?_eq_getElem p1)).1; have P2 := Lib.hid (gp_start (v := FauB 0 0 0) p1 p2 p3 p4 hle hm hgl hcl); have BB := Lib.hid (BZ.out.trans ((hb1.trans ((balloc w1 (FauB 0 0 0)).trans ((balloc (w1.alloc (FauB 0 0 0)) (.cells #[.slice (some ⟨g, off, none⟩) ts.length c] 76)).mono (balloc w1 (FauB 0 0 0)).size) |>.mono hb1.size)).mono BZ.out.size)); have K2 := Lib.hid (heap_alloc_old (.cells #[.slice (some ⟨g, off, none⟩) ts.length c] 76) (heap_alloc_old (FauB 0 0 0) K1.out)); clear hb1 k1 kn hcl))
        | (go_at_call 39; ((refine (gjobs_ex P2.out p4).mono ?_); rintro e w3 ⟨hg3, hst⟩; rw [HJ.out] at hst; subst hst; have G3 := Lib.hid hg3; have K3 := Lib.hid ((hg3.block _ (heap_lt K2.out) (fun e => by omega)).trans K2.out); clear hg3)))
      refine leaves_cons (f := 38) (args := #[.pointer (some ⟨w.heap.size, 0, none⟩)]) (by simp) (by simp [go_sem]) ?_
      refine (gcatch_panicking _ f.1 f.2.1 f.2.2 0 0 0 [] _ _ w.heap.size rfl K3.out).mono ?_
      rintro e u' w'' ⟨rfl, rfl, rfl⟩
      have hb9 := res3 w3 w.heap.size (.int .i64 0) (.int .i64 0) (.int .i64 0) (.int .i64 f.1) (.int .i64 f.2.1) (.int .i64 f.2.2) _ K3.out
      simp [Leaves, settle, results, Tryz.results20, go_sem, cell_of_row _ w.heap.size 0 _ _ _ hb9, cell_of_row _ w.heap.size 1 _ _ _ hb9, cell_of_row _ w.heap.size 2 _ _ _ hb9]
      have hRR := HRR.out
      rw [HJ.out] at hRR
      subst hRR
      exact ⟨below3 (BB.out.trans (G3.out.below BB.out.size (fun k e => by omega))) (Nat.le_refl _) _ _ _, rfl⟩
    | ok r =>
      obtain ⟨out, a9⟩ := r
      have HJ := Lib.hid hJ
      clear hJ
      go_enter_defers Tryz.func20, Tryz.ntmps20
      go_wp2_with (first
        | (go_at_call 16; ((refine HA.out.mono ?_); rintro e w1 ⟨v1, rfl, ⟨A, c, rfl, hat, _, hle, hm⟩, hb1⟩; obtain ⟨g, off, rfl, hcl⟩ := hat p1; have B1 := Lib.hid hb1; have k1 := (hb1.block _ (heap_lt KZ.out)).trans KZ.out; have hwl := heap_lt k1; have K1 := Lib.hid k1; have kn := heap_alloc_new w1 (FauB 0 0 0); have c0 := cell_of_row _ _ 0 _ _ _ kn; have c1 := cell_of_row _ _ 1 _ _ _ kn; have c2 := cell_of_row _ _ 2 _ _ _ kn; have hgl : g < w1.heap.size := World.block_lt_of_cell? w1 _ (hcl 0 _ (List.getElem?_eq_getElem p1)).1; have P2 := Lib.hid (gp_start (v := FauB 0 0 0) p1 p2 p3 p4 hle hm hgl hcl); have BB := Lib.hid (BZ.out.trans ((hb1.trans ((balloc w1 (FauB 0 0 0)).trans ((balloc (w1.alloc (FauB 0 0 0)) (.cells #[.slice (some ⟨g, off, none⟩) ts.length c] 76)).mono (balloc w1 (FauB 0 0 0)).size) |>.mono hb1.size)).mono BZ.out.size)); have K2 := Lib.hid (heap_alloc_old (.cells #[.slice (some ⟨g, off, none⟩) ts.length c] 76) (heap_alloc_old (FauB 0 0 0) K1.out)); clear hb1 k1 kn hcl))
        | (go_at_call 39; ((refine (gjobs_ex P2.out p4).mono ?_); rintro e w3 ⟨hg3, hst⟩; rw [HJ.out] at hst; obtain ⟨_, v9, xs9, rfl, hx9, ha9⟩ := hst; have G3 := Lib.hid hg3; have X3 := Lib.hid hx9; have A3 := Lib.hid ha9; have k3 := (hg3.block _ (heap_lt K2.out) (fun e => by omega)).trans K2.out; have K3 := Lib.hid k3; have m0 := cell_of_row _ _ 0 _ _ _ k3; have m1 := cell_of_row _ _ 1 _ _ _ k3; have m2 := cell_of_row _ _ 2 _ _ _ k3; have n0 := frozen_of_row _ _ 0 _ _ k3; have n1 := frozen_of_row _ _ 1 _ _ k3; have n2 := frozen_of_row _ _ 2 _ _ k3; clear hg3 hx9 ha9 k3)))
      have k4 := res3 w3 w.heap.size (.int .i64 0) (.int .i64 0) (.int .i64 0) (.int .i64 0) (.int .i64 0) (.int .i64 0) _ K3.out
      refine leaves_cons (f := 38) (args := #[.pointer (some ⟨w.heap.size, 0, none⟩)]) (by simp) (by simp [go_sem]) ?_
      refine (gcatch_idle _ 0 0 0 _ _ w.heap.size rfl k4).mono ?_
      rintro e u' w'' ⟨rfl, rfl, rfl⟩
      have hb9 := res3 _ w.heap.size (.int .i64 0) (.int .i64 0) (.int .i64 0) (.int .i64 0) (.int .i64 0) (.int .i64 0) _ k4
      simp [Leaves, settle, results, Tryz.results20, go_sem, cell_of_row _ w.heap.size 0 _ _ _ hb9, cell_of_row _ w.heap.size 1 _ _ _ hb9, cell_of_row _ w.heap.size 2 _ _ _ hb9]
      have hRR := HRR.out
      rw [HJ.out] at hRR
      subst hRR
      have g9 := set6_grp w3 w.heap.size (.int .i64 0) (.int .i64 0) (.int .i64 0) (.int .i64 0) (.int .i64 0) (.int .i64 0)
      have hbs := BB.out.size
      have hws : w.heap.size < ((w1.alloc (FauB 0 0 0)).alloc (.cells #[.slice (some ⟨g, off, none⟩) ts.length c] 76)).heap.size := by simp; omega
      exact ⟨below3 (below3 (BB.out.trans (G3.out.below BB.out.size (fun k e => by omega))) (Nat.le_refl _) _ _ _) (Nat.le_refl _) _ _ _, v9, xs9, rfl, xown_mono (xown_grp X3.out g9 (fun r e (e2 : r = w.heap.size) => by have := (xown_block X3.out r e).1; omega)) (by omega), (A3.out.grp g9 (fun k hk (e2 : k = w.heap.size) => by omega)).mono (by omega)⟩
end Go.Proofs.YtdncjhffniepbaaGreatDoor.Lx
/- (GrSa)
  Layer 6: the chapter's examples.
-/
namespace Go.Proofs.YtdncjhffniepbaaGreatDoor.Lx
open Go.RowKit

abbrev sn1 : List Int := [106, 111, 98, 32, 97, 32, 123, 32, 114, 117, 110, 32, 34, 120, 34, 32, 125]
abbrev sn2 : List Int := [106, 111, 98, 32, 97, 32, 123, 32, 114, 117, 110, 32, 125]
abbrev snT1 : List Tok := [⟨1, [106, 111, 98], 1, 1⟩, ⟨1, [97], 1, 5⟩, ⟨5, [123], 1, 7⟩, ⟨1, [114, 117, 110], 1, 9⟩, ⟨3, [120], 1, 13⟩, ⟨5, [125], 1, 17⟩, ⟨6, [], 1, 18⟩]
abbrev snT2 : List Tok := [⟨1, [106, 111, 98], 1, 1⟩, ⟨1, [97], 1, 5⟩, ⟨5, [123], 1, 7⟩, ⟨1, [114, 117, 110], 1, 9⟩, ⟨5, [125], 1, 13⟩, ⟨6, [], 1, 14⟩]
theorem sn_all1 : all sn1 = .ok snT1 := by kernel_rfl
theorem sn_all2 : all sn2 = .ok snT2 := by kernel_rfl
abbrev snJ : JobS := { job0 ⟨#[97]⟩ 1 5 with run := ⟨#[120]⟩ }
theorem bytes_toList (l : List Int) : (bytesOf l).toList = l.map fun x => UInt8.ofNat x.toNat := by rw [ByteArray.toList_eq]; rfl
theorem sn_parse1 : parseG sn1 = .ok [snJ] := by
  unfold parseG
  rw [sn_all1]
  have w1 : wordF snT1 1 jobB 0 = .ok 1 := by simp [wordF, bytesOf, jobB]
  have t1 : takeF snT1 1 32 1 = .ok 2 := by simp [takeF]
  have g1 : signF snT1 ⟨#[123]⟩ 2 = .ok 3 := by simp [signF, bytesOf]
  have g2 : signF snT1 ⟨#[125]⟩ 5 = .ok 6 := by simp [signF, bytesOf]
  have f1 : ¬ isF snT1 5 ⟨#[125]⟩ 3 := by simp [isF]
  have f2 : isF snT1 5 ⟨#[125]⟩ 5 := by simp [isF, bytesOf]
  have r1 : readF snT1 1 3 = .ok 4 := by simp [readF]
  have i1 : itemF snT1 (job0 ⟨#[97]⟩ 1 5) (bytesOf [114, 117, 110]) 1 9 4 = .ok (snJ, 5) := by
    unfold itemF
    rw [if_pos (by rw [bytes_toList]; decide)]
    have : takeF snT1 3 512 4 = .ok 5 := by simp [takeF]
    rw [this]
    rfl
  have hi : itemsF snT1 8 (job0 ⟨#[97]⟩ 1 5) [] 3 = .ok ((snJ, [runB]), 5) := by
    unfold itemsF
    rw [if_neg f1, r1]
    simp only [show snT1[3]? = some ⟨1, [114, 117, 110], 1, 9⟩ from rfl, List.not_mem_nil, if_false, i1]
    unfold itemsF
    rw [if_pos f2]
    rfl
  have hj : jobF snT1 (bytesOf [97]) 1 5 2 = .ok (snJ, 6) := by
    unfold jobF
    rw [g1]
    simp only [show (snT1.length + 1) = 8 from rfl]
    rw [show job0 (bytesOf [97]) 1 5 = job0 ⟨#[97]⟩ 1 5 from rfl, hi]
    simp only [List.mem_singleton, not_true_eq_false, if_false, g2]
  unfold jobsF
  simp only [show snT1[0]? = some ⟨1, [106, 111, 98], 1, 1⟩ from rfl, w1, t1, show snT1[1]? = some ⟨1, [97], 1, 5⟩ from rfl]
  rw [if_neg (by decide), if_neg (by decide), hj]
  simp only [show snT1.length = 7 from rfl]
  unfold jobsF
  simp only [show snT1[6]? = some ⟨6, [], 1, 18⟩ from rfl, if_true]
  rfl
theorem sn_parse2 : parseG sn2 = .error (60, 1, 13) := by
  unfold parseG
  rw [sn_all2]
  have w1 : wordF snT2 1 jobB 0 = .ok 1 := by simp [wordF, bytesOf, jobB]
  have t1 : takeF snT2 1 32 1 = .ok 2 := by simp [takeF]
  have g1 : signF snT2 ⟨#[123]⟩ 2 = .ok 3 := by simp [signF, bytesOf]
  have f1 : ¬ isF snT2 5 ⟨#[125]⟩ 3 := by simp [isF]
  have r1 : readF snT2 1 3 = .ok 4 := by simp [readF]
  have i1 : itemF snT2 (job0 ⟨#[97]⟩ 1 5) (bytesOf [114, 117, 110]) 1 9 4 = .error (60, 1, 13) := by
    unfold itemF
    rw [if_pos (by rw [bytes_toList]; decide)]
    have : takeF snT2 3 512 4 = .error (60, 1, 13) := by simp [takeF, tokFault]
    rw [this]
    rfl
  have hi : itemsF snT2 7 (job0 ⟨#[97]⟩ 1 5) [] 3 = .error (60, 1, 13) := by
    unfold itemsF
    rw [if_neg f1, r1]
    simp only [show snT2[3]? = some ⟨1, [114, 117, 110], 1, 9⟩ from rfl, List.not_mem_nil, if_false, i1]
  have hj : jobF snT2 (bytesOf [97]) 1 5 2 = .error (60, 1, 13) := by
    unfold jobF
    rw [g1]
    simp only [show (snT2.length + 1) = 7 from rfl]
    rw [show job0 (bytesOf [97]) 1 5 = job0 ⟨#[97]⟩ 1 5 from rfl, hi]
  unfold jobsF
  simp only [show snT2[0]? = some ⟨1, [106, 111, 98], 1, 1⟩ from rfl, w1, t1, show snT2[1]? = some ⟨1, [97], 1, 5⟩ from rfl]
  rw [if_neg (by decide), if_neg (by decide), hj]
  rfl
end Go.Proofs.YtdncjhffniepbaaGreatDoor.Lx
/- (GrSb)
  Layer 6: the statements' example.
-/
namespace Go.Proofs.YtdncjhffniepbaaGreatDoor.Lx
open Go.RowKit

/-- A list of one job: four of its cells. -/
theorem one_job {w : World} {B : Nat} {v : Value} {xs : List J15} {J : JobS} (h : XOwn w 73 15 B v 1 (jobCells xs)) (ha : JAll w B xs [J]) :
    ∃ g off c Al cl, v = .slice (some ⟨g, off, none⟩) 1 c ∧ w.cell? ⟨g, off, none⟩ = some (.string J.nm) ∧ w.cell? ⟨g, off + 1, none⟩ = some (.string J.run) ∧ w.cell? ⟨g, off + 8, none⟩ = some (.int .u64 J.cap) ∧ w.cell? ⟨g, off + 12, none⟩ = some (.slice Al J.lad.length cl) := by
  obtain ⟨h1, h2⟩ := ha
  match xs, h1 with
  | [x], _ =>
    obtain ⟨A, c, rfl, hl, hat, _⟩ := xown_lst h
    obtain ⟨g, off, rfl, hc⟩ := hat (by rw [jobCells_length]; simp)
    have hj := h2 0 x J rfl rfl
    obtain ⟨Al, cl, hlad⟩ := xown_form hj.lad
    have e : jobCells [x] = x.arr.toList := by simp [jobCells]
    rw [e] at hc
    have c0 : w.cell? ⟨g, off + 0, none⟩ = some (.string x.nm) := hc 0 _ rfl
    have c1 : w.cell? ⟨g, off + 1, none⟩ = some (.string x.run) := hc 1 _ rfl
    have c8 : w.cell? ⟨g, off + 8, none⟩ = some (.int .u64 x.cap) := hc 8 _ rfl
    have c12 : w.cell? ⟨g, off + 12, none⟩ = some x.lad := hc 12 _ rfl
    rw [hj.scal.nm] at c0
    rw [hj.scal.run] at c1
    rw [hj.scal.cap] at c8
    rw [hlad] at c12
    exact ⟨g, off, c, Al, cl, rfl, c0, c1, c8, c12⟩
theorem gp_one (W : World) (h : ET W) : Calls Tryz.prog 20 #[.string ⟨#[106, 111, 98, 32, 97, 32, 123, 32, 114, 117, 110, 32, 34, 120, 34, 32, 125]⟩] W (GParse W (.ok [snJ])) := by
  rw [← sn_parse1]
  exact gparse_ex (by decide) (by simp) W h
theorem gp_two (W : World) (h : ET W) : Calls Tryz.prog 20 #[.string ⟨#[106, 111, 98, 32, 97, 32, 123, 32, 114, 117, 110, 32, 125]⟩] W (GParse W (.error (60, 1, 13))) := by
  rw [← sn_parse2]
  exact gparse_ex (by decide) (by simp) W h
set_option maxRecDepth 100000 in
set_option maxHeartbeats 1000000 in
theorem gsane_any (w : World) (het : ET w) : Calls Tryz.prog 19 #[] w (BPost w true) := by
  have HET := Lib.hid het
  clear het
  go_enter Tryz.func19, Tryz.ntmps19
  have e97 : ((⟨#[97]⟩ : ByteArray).toList == [97]) = true := by rw [ByteArray.toList_eq]; rfl
  have e120 : ((⟨#[120]⟩ : ByteArray).toList == [120]) = true := by rw [ByteArray.toList_eq]; rfl
  go_wp2_with (first
    | (go_at_call 20; ((with_reducible refine (gp_one _ HET.out).mono ?_); rintro e w1 ⟨hb1, v1, xs, rfl, hx1, ha1⟩; have B1 := Lib.hid (hb1.alloc hb1.size (FauB 0 0 0)); have k1 := heap_alloc_new w1 (FauB 0 0 0); have K1 := Lib.hid k1; obtain ⟨g, off, c, Al, cl, rfl, u0, u1, u8, u12⟩ := one_job hx1 ha1; have hb2 := balloc w1 (FauB 0 0 0); have U0 := Lib.hid (cell_in hb2 u0); have U1 := Lib.hid (cell_in hb2 u1); have U8 := Lib.hid (cell_in hb2 u8); have U12 := Lib.hid (cell_in hb2 u12); clear hb1 k1 hx1 ha1 hb2 u0 u1 u8 u12))
    | (go_at_call 20; ((with_reducible refine (gp_two _ (HET.out.below B1.out)).mono ?_); rintro e w2 ⟨hb2, rfl⟩; have B2 := Lib.hid ((B1.out.trans (hb2.mono B1.out.size)).alloc (by have := B1.out.size; have := hb2.size; omega) (FauB 60 1 13)); have b3 := hb2.trans ((balloc w2 (FauB 60 1 13)).mono hb2.size); have k3 := (b3.block _ (heap_lt K1.out)).trans K1.out; have d0 := cell_of_row _ _ 0 _ _ _ k3; have d1 := cell_of_row _ _ 1 _ _ _ k3; have d2 := cell_of_row _ _ 2 _ _ _ k3; have k4 := heap_alloc_new w2 (FauB 60 1 13); have e0 := cell_of_row _ _ 0 _ _ _ k4; have e1 := cell_of_row _ _ 1 _ _ _ k4; have e2 := cell_of_row _ _ 2 _ _ _ k4; have u0 := cell_in b3 U0.out; have u1 := cell_in b3 U1.out; have u8 := cell_in b3 U8.out; have u12 := cell_in b3 U12.out; change _ = some (Value.string ⟨#[97]⟩) at u0; change _ = some (Value.string ⟨#[120]⟩) at u1; change _ = some (Value.int IntKind.u64 10000) at u8; change _ = some (Value.slice Al 1 cl) at u12; clear hb2 b3 k3 k4)))
  go_ret
  exact ⟨rfl, B2.out⟩
end Go.Proofs.YtdncjhffniepbaaGreatDoor.Lx
/- (GrSignals)
  GrammarSignals: the walk.
-/
namespace Go.Proofs.YtdncjhffniepbaaGreatDoor.Lx
open Go.RowKit

abbrev Nine : Obj := .cells #[Value.string ⟨#[72, 85, 80]⟩, Value.string ⟨#[73, 78, 84]⟩, Value.string ⟨#[81, 85, 73, 84]⟩, Value.string ⟨#[85, 83, 82, 49]⟩, Value.string ⟨#[85, 83, 82, 50]⟩, Value.string ⟨#[84, 69, 82, 77]⟩, Value.string ⟨#[75, 73, 76, 76]⟩, Value.string ⟨#[116, 101, 114, 109]⟩, Value.string ⟨#[]⟩] 9
theorem nine_cell (w : World) (k : Nat) (hk : k < 9) : ∃ z : ByteArray, (w.alloc Nine).cell? ⟨w.heap.size, k, none⟩ = some (.string z) := by
  have h := fun i => cell_of_row _ _ i _ _ _ (heap_alloc_new w Nine)
  have hc : k = 0 ∨ k = 1 ∨ k = 2 ∨ k = 3 ∨ k = 4 ∨ k = 5 ∨ k = 6 ∨ k = 7 ∨ k = 8 := by omega
  rcases hc with rfl | rfl | rfl | rfl | rfl | rfl | rfl | rfl | rfl <;> exact ⟨_, h _⟩
set_option maxRecDepth 100000 in
set_option maxHeartbeats 4000000 in
theorem GrammarSignals_law (s : ByteArray) (n : Int) (hn0 : -9223372036854775808 ≤ n) (hn1 : n ≤ 9223372036854775807) (w : World) (het : ET w) : Calls Tryz.prog 9 #[.string s, .int .i64 n] w (BPost w true) := by
  have HS := Lib.hid (gsane_any w het)
  have HM := Lib.hid (fun W => mod_any n 9 (by omega) (by omega) hn0 hn1 W)
  have h0 := Int.emod_nonneg n (show (9 : Int) ≠ 0 by omega)
  have h1 := Int.emod_lt_of_pos n (show (0 : Int) < 9 by omega)
  generalize n % 9 = r at *
  obtain ⟨k, rfl⟩ := Int.eq_ofNat_of_zero_le h0
  have hk9 : k < 9 := by omega
  clear het
  go_enter Tryz.func9, Tryz.ntmps9
  go_wp2_with (first
    | (go_at_call 19; ((with_reducible refine HS.out.mono ?_); rintro e w1 ⟨rfl, hb1⟩; have B1 := Lib.hid hb1; obtain ⟨z, hz⟩ := nine_cell w1 k hk9; clear hb1))
    | (go_at_call 26; ((with_reducible refine (HM.out _).mono ?_); rintro e w2 ⟨rfl, rfl⟩)))
  have BW := Lib.hid ((B1.out.alloc B1.out.size Nine).alloc (by have := B1.out.size; simp; omega) (.cells #[.string s, .string z] 9))
  have k2 := heap_alloc_new (w1.alloc Nine) (.cells #[.string s, .string z] 9)
  have z0 := cell_of_row _ _ 0 _ _ _ k2
  have z1 := cell_of_row _ _ 1 _ _ _ k2
  have hsz : (w1.alloc Nine).heap.size = w1.heap.size + 1 := by simp
  rw [hsz] at z0 z1
  go_loopg [17] 3 (fun g' i wr => ∃ k2 : Nat, i = .int .i64 k2 ∧ k2 ≤ 2 ∧ Below ((w1.alloc Nine).alloc (.cells #[.string s, .string z] 9)).heap.size ((w1.alloc Nine).alloc (.cells #[.string s, .string z] 9)) wr ∧ 2 - k2 + 1 ≤ g')
  case atStart => exact ⟨0, rfl, by omega, Below.refl _ _, by omega⟩
  case round =>
    obtain ⟨k2, rfl, hk2, hbr, hg⟩ := hrel
    obtain ⟨wo, rfl⟩ : ∃ wo : World, wo = wr := ⟨_, rfl⟩
    have BR := Lib.hid hbr
    have y0 := cell_in hbr z0
    have y1 := cell_in hbr z1
    clear hbr
    have hc : k2 = 0 ∨ k2 = 1 ∨ k2 = 2 := by omega
    rcases hc with rfl | rfl | rfl
    · go_wp2_with (first
        | (go_at_call 28; ((with_reducible refine (gsignal_ex _ _).mono ?_); rintro e w3 ⟨rfl, hb3⟩; have B3 := Lib.hid (BR.out.trans (hb3.mono BR.out.size)); clear hb3))
        | (go_at_call 29; ((with_reducible refine (signal_ex _ _).mono ?_); rintro e w4 ⟨rfl, hb4⟩; have B4 := Lib.hid (B3.out.trans (hb4.mono B3.out.size)); clear hb4)))
      go_roundg 2
      case measure => omega
      case rel => exact ⟨1, rfl, by omega, B4.out, by omega⟩
    · go_wp2_with (first
        | (go_at_call 28; ((with_reducible refine (gsignal_ex _ _).mono ?_); rintro e w3 ⟨rfl, hb3⟩; have B3 := Lib.hid (BR.out.trans (hb3.mono BR.out.size)); clear hb3))
        | (go_at_call 29; ((with_reducible refine (signal_ex _ _).mono ?_); rintro e w4 ⟨rfl, hb4⟩; have B4 := Lib.hid (B3.out.trans (hb4.mono B3.out.size)); clear hb4)))
      go_roundg 1
      case measure => omega
      case rel => exact ⟨2, rfl, by omega, B4.out, by omega⟩
    · go_wp2_with fail
      go_ret
      exact ⟨rfl, BW.out.trans (BR.out.mono BW.out.size)⟩
end Go.Proofs.YtdncjhffniepbaaGreatDoor.Lx
/- (LxLaid)
  What the listed package-level variables give a walk; a world in which they are laid.
-/
namespace Go.Proofs.YtdncjhffniepbaaGreatDoor.Lx
open Go.ChangeShapes Go.WideShapes Go.RowKit

def laidL : List (String × DataW Unit) := [("math/bits.deBruijn32tab", Rows.laid_math_bits_deBruijn32tab), ("math/bits.deBruijn64tab", Rows.laid_math_bits_deBruijn64tab), ("internal/strconv.uint64pow10", Rows.laid_internal_strconv_uint64pow10), ("errors.errorType", Rows.laid_errors_errorType), ("strconv.ErrRange", Rows.laid_strconv_ErrRange), ("strconv.ErrSyntax", Rows.laid_strconv_ErrSyntax)]
def laidD : List (String × DataW Unit) := [("math/bits.deBruijn32tab", Rows.laid_math_bits_deBruijn32tab), ("math/bits.deBruijn64tab", Rows.laid_math_bits_deBruijn64tab), ("internal/strconv.uint64pow10", Rows.laid_internal_strconv_uint64pow10), ("strconv.ErrRange", Rows.laid_strconv_ErrRange), ("strconv.ErrSyntax", Rows.laid_strconv_ErrSyntax)]
theorem g_et : Tryz.prog.globalNamed "errors.errorType" = some 0 := by kernel_rfl
theorem g_es : Tryz.prog.globalNamed "strconv.ErrSyntax" = some 2 := by kernel_rfl
theorem g_esT : (Tryz.prog.globals[2]?).map (·.type) = some 58 := by kernel_rfl
theorem t_rt : (Tryz.prog.cutTypes.find? (·.1 == "internal/reflectlite.rtype")).map (·.2) = some 133 := by kernel_rfl
theorem t_size : Tryz.prog.types.size = 335 - 100 := by kernel_rfl
theorem t_one : ((List.range (335 - 100)).filter fun t => Tryz.prog.rowNamed t [101, 114, 114, 111, 114]) = [58] := by kernel_rfl
theorem t_star : "*" ++ "errors.errorString" = "*errors.errorString" := by decide
theorem t_ptr (u : TypeId) (h : Tryz.prog.typeName? 3 u = some "*errors.errorString") : u = 192 :=
  typeName_ptr_named (nm := "errors.errorString") (by rw [t_star]; kernel_rfl) (by kernel_rfl) (by decide) u (by rw [t_star]; exact h)
theorem c_es : Tryz.prog.cellsOf 194 = 1 := by kernel_rfl
theorem c_str : Tryz.prog.cellsOf 9 = 1 := by kernel_rfl
theorem et_of_laid {W : World} (h : laidMetH Tryz.prog laidL W) : ET W := by
  obtain ⟨hd, hh⟩ := laidMetH_iff.1 h
  refine ⟨?_, ?_⟩
  · obtain ⟨name, u, ty, e1, e2, e3, e4, e5⟩ := hh ("errors.errorType", Rows.laid_errors_errorType) (List.mem_filter.2 ⟨by simp [laidL], rfl⟩)
    have en : name = [101, 114, 114, 111, 114] := (Option.some.inj e1).symm
    subst en
    obtain rfl := Option.some.inj (t_rt.symm.trans e2)
    have hm : ty ∈ (List.range (335 - 100)).filter fun t => Tryz.prog.rowNamed t [101, 114, 114, 111, 114] := List.mem_filter.2 ⟨List.mem_range.2 (by rw [← t_size]; exact e3), e4⟩
    rw [t_one] at hm
    obtain rfl := List.mem_singleton.1 hm
    have ht : typeHandle Tryz.prog 58 = .pointer (some ⟨7, 58, none⟩) := by kernel_rfl
    rw [ht] at e5
    simpa using World.var?_cell g_et e5 0
  · have hs : laidMet Tryz.prog [("strconv.ErrSyntax", Rows.laid_strconv_ErrSyntax)] W := hd.filter (fun x => x.1 == "strconv.ErrSyntax")
    obtain ⟨a, s, hv, _⟩ := laid_sentinel hs g_es g_esT Tryz.underlying58 t_ptr Tryz.underlying192 Tryz.underlying194 rfl rfl Tryz.underlying9 c_es c_str
    exact ⟨_, _, by simpa using World.var?_cell g_es hv 0⟩

/-- A world in which they are laid. -/
noncomputable def laidBase (os : Os) : World :=
  let w0 := World.holding Tryz.prog os ⟨#[], #[], []⟩
  { w0 with heap := w0.heap.modify 0 fun
      | .cells _ t fz => .cells #[.iface 133 (.agg #[.pointer (some ⟨7, 58, none⟩)])] t fz
      | o => o }
noncomputable def laidWorld (os : Os) : World := (laidBase os).layVars Tryz.prog laidD
theorem laidWorld_os (os : Os) : (laidWorld os).os = os := World.layVars_os _ _ _
theorem laid_data (os : Os) : laidMet Tryz.prog laidD (laidWorld os) := by
  have e1 : (laidD.filter fun x => (laidD.map (·.1)).contains x.1) = laidD := List.filter_eq_self.2 fun x hx => List.contains_iff_mem.2 (List.mem_map.2 ⟨x, hx, rfl⟩)
  have e2 : (laidD.filter fun x => !(laidD.map (·.1)).contains x.1) = [] := List.filter_eq_nil_iff.2 fun x hx => by rw [List.contains_iff_mem.2 (List.mem_map.2 ⟨x, hx, rfl⟩)]; simp
  exact laidMet_layVars (w0 := laidBase os) (laidD.map (·.1)) [] (by rw [e1]; rfl) (by rw [e1]; kernel_rfl) (by rw [e1]; kernel_rfl) (by rw [e2]; exact LaidIn.none)
theorem laid_met (os : Os) (args : Array Value) : laidMetH Tryz.prog laidL ((laidWorld os).forCall (fun _ _ => 0) ⟨#[], args, []⟩).memory :=
  laidMetH_of_parts ((laid_data os).of_heap (by simp [World.memory, World.forCall, Input.heap])) (by kernel_rfl)
end Go.Proofs.YtdncjhffniepbaaGreatDoor.Lx
