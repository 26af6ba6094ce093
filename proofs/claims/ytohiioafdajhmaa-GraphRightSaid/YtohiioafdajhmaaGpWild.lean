/-
  Layer 7: jobs with any needs.
-/
import Derived.Test.YtohiioafdajhmaaGpSane
namespace Go.Proofs.Ytohiioafdajhmaa.Gp
open Go.RowKit

/-- What a step leaves: all that was there, but for the blocks that P names. -/
structure GrP (P : Nat → Prop) (w w' : World) : Prop where
  os : w'.os = w.os
  tape : w'.tape = w.tape
  output : w'.output = w.output
  size : w.heap.size ≤ w'.heap.size
  block : ∀ k, k < w.heap.size → ¬ P k → w'.heap[k]? = w.heap[k]?
theorem GrP.refl (P : Nat → Prop) (w : World) : GrP P w w := ⟨rfl, rfl, rfl, Nat.le_refl _, fun _ _ _ => rfl⟩
theorem GrP.trans {P : Nat → Prop} {w0 w w' : World} (h : GrP P w0 w) (k : GrP P w w') : GrP P w0 w' :=
  ⟨k.os.trans h.os, k.tape.trans h.tape, k.output.trans h.output, Nat.le_trans h.size k.size, fun i hi hne => (k.block i (Nat.lt_of_lt_of_le hi h.size) hne).trans (h.block i hi hne)⟩
theorem GrP.of_below {P : Nat → Prop} {w w' : World} (h : Below w.heap.size w w') : GrP P w w' := ⟨h.os, h.tape, h.output, h.size, fun k hk _ => h.block k hk⟩
theorem GrP.below {P : Nat → Prop} {B : Nat} {w w' : World} (h : GrP P w w') (hB : B ≤ w.heap.size) (hP : ∀ k, P k → B ≤ k) : Below B w w' :=
  ⟨h.os, h.tape, h.output, h.size, fun k hk => h.block k (by omega) (fun hp => by have := hP k hp; omega)⟩
theorem GrP.set {P : Nat → Prop} {w0 w : World} (h : GrP P w0 w) {R : Nat} (hR : w0.heap.size ≤ R) (i : Nat) (u : Value) : GrP P w0 (w.setCell ⟨R, i, none⟩ u) :=
  ⟨h.os, h.tape, h.output, by simp; exact h.size, fun k hk hne => (Below.heap_setCell _ _ _ _ (by simp only [ne_eq]; omega)).trans (h.block k hk hne)⟩
theorem GrP.grown {P : Nat → Prop} {w0 w w' : World} (h : GrP P w0 w) {row : Option Nat} (hg : w.grownBy w' row) (hr : ∀ g, row = some g → w0.heap.size ≤ g ∨ P g) : GrP P w0 w' :=
  ⟨hg.os.trans h.os, hg.tape.trans h.tape, hg.output.trans h.output, Nat.le_trans h.size hg.size, fun i hi hne => (hg.block i (Nat.lt_of_lt_of_le hi h.size) (fun e => by
    rcases hr _ e.symm with h1 | h1
    · omega
    · exact hne h1)).trans (h.block i hi hne)⟩
theorem xown_grp {P : Nat → Prop} {w w' : World} {e : TypeId} {k B : Nat} {v : Value} {n : Nat} {xs : List Value} (h : XOwn w e k B v n xs) (hg : GrP P w w') (hne : ∀ g, v.ownBlock = some g → ¬ P g) : XOwn w' e k B v n xs := by
  refine ⟨h.1, ?_⟩
  rcases h.2 with h | ⟨g, cap, cur, h1, h2, h3, h4⟩
  · exact .inl h
  · exact .inr ⟨g, cap, cur, h1, h2, (hg.block g (heap_lt h3) (hne g (by rw [h1]; rfl))).trans h3, h4⟩
theorem xown_mono {w : World} {e : TypeId} {k B B' : Nat} {v : Value} {n : Nat} {xs : List Value} (h : XOwn w e k B v n xs) (hB : B' ≤ B) : XOwn w e k B' v n xs := by
  refine ⟨h.1, ?_⟩
  rcases h.2 with h | ⟨g, cap, cur, h1, h2, h3⟩
  · exact .inl h
  · exact .inr ⟨g, cap, cur, h1, by omega, h3⟩
/-- A row of the call's own is no block of another type. -/
theorem xown_off {w : World} {e e' : TypeId} {k B R : Nat} {v : Value} {n : Nat} {xs : List Value} {cs : Array Value} {fr : Nat × Nat} (h : XOwn w e k B v n xs) (hr : w.heap[R]? = some (.cells cs e' fr)) (hne : e ≠ e') : ∀ g, v.ownBlock = some g → g ≠ R := by
  intro g hg e2
  subst e2
  rcases h.2 with ⟨h1, _⟩ | ⟨g', cap, cur, h1, _, h3, _⟩
  · rw [h1] at hg; simp [Value.ownBlock] at hg
  · rw [h1] at hg; simp [Value.ownBlock] at hg; subst hg
    rw [hr] at h3
    injection h3 with h3
    injection h3 with _ h3
    exact hne h3.symm
theorem xown_apart {w : World} {e e' : TypeId} {k k' B B' : Nat} {v v' : Value} {n n' : Nat} {xs xs' : List Value} (h : XOwn w e k B v n xs) (h' : XOwn w e' k' B' v' n' xs') (hne : e ≠ e') : ∀ r, v.ownBlock = some r → v'.ownBlock ≠ some r := by
  intro r hr hr'
  rcases h'.2 with ⟨h1', _⟩ | ⟨g', cap', cur', h1', _, h3', _⟩
  · rw [h1'] at hr'; simp [Value.ownBlock] at hr'
  · rw [h1'] at hr'
    simp [Value.ownBlock] at hr'
    exact xown_off h h3' hne r hr hr'.symm
abbrev pat15 : Shape := [isStr 0, isStr 0, isStr 0, isStr 0, isStr 0, isStr 0, isStr 0, isStr 0, isStr 0, isStr 0, isStr 0, isStr 0, isStr 0, isStr 0, isStr 0]
abbrev ZJob : Array Value := (bare ⟨#[]⟩ (.slice none 0 0)).arr
theorem Try.info45 : (Try.prog.info? 45).map (fun i => (i.zero, i.size, i.bytes)) = some (some (.agg ZJob), 15, 192) := by kernel_rfl
theorem Try.info9 : (Try.prog.info? 9).map (fun i => (i.zero, i.size, i.bytes)) = some (some (.string ⟨#[]⟩), 1, 16) := by kernel_rfl
theorem elJob : PElt 23 45 (.agg ZJob) pat15 192 := ⟨Try.underlying23, by obtain ⟨i, h1, h2, h3, h4⟩ := info_parts Try.info45; exact ⟨i, h1, h2, h3, h4⟩, rfl, by decide⟩
theorem elStr : PElt 40 9 (.string ⟨#[]⟩) [isStr 0] 16 := ⟨Try.underlying40, by obtain ⟨i, h1, h2, h3, h4⟩ := info_parts Try.info9; exact ⟨i, h1, h2, h3, h4⟩, rfl, by decide⟩
theorem arr_one {x : J15} (h : x.env.oneCell' = true ∧ x.lad.oneCell' = true) (hn : x.needs.oneCell' = true) : ∀ u ∈ x.arr.toList, u.oneCell' = true := by
  intro u hu
  simp only [List.mem_cons, List.not_mem_nil, or_false] at hu
  rcases hu with rfl | rfl | rfl | rfl | rfl | rfl | rfl | rfl | rfl | rfl | rfl | rfl | rfl | rfl | rfl
  all_goals first | rfl | exact h.1 | exact h.2 | exact hn
/-- wild's state: its deck, and the jobs that it has. -/
structure WS (w0 w : World) (d : Nat) (A : Option Addr) (n c : Nat) (zs : List Int) (kd : Nat) (v : Value) (xs : List GJ) : Prop where
  own : XOwn w 45 15 w0.heap.size v xs.length (jobCells (xs.map GJ.j))
  needs : ∀ x ∈ xs, XOwn w 9 1 w0.heap.size x.j.needs x.ns.length (x.ns.map Value.string) ∧ x.ns.length ≤ 2000000
  deck : Deck w d A n c zs kd
  bel : Below w0.heap.size w0 w
  dge : w0.heap.size ≤ d
  zb : 0 < n → ∀ a, A = some a → a.block < w0.heap.size
theorem WS.jl {w0 w : World} {d : Nat} {A : Option Addr} {n c : Nat} {zs : List Int} {kd : Nat} {v : Value} {xs : List GJ} (h : WS w0 w d A n c zs kd v xs) (hl : xs.length ≤ 12) : JL w v xs :=
  ⟨xown_lst h.own, hl, fun x hx => ⟨xown_lst (h.needs x hx).1, (h.needs x hx).2⟩⟩
/-- A job that is being made, at block J, since world w1. -/
structure IS (w1 w : World) (d : Nat) (A : Option Addr) (n c : Nat) (zs : List Int) (kd : Nat) (J : Nat) (x : J15) (ns : List ByteArray) : Prop where
  row : w.heap[J]? = some (.cells x.arr 45 (0, 0))
  nd : XOwn w 9 1 w1.heap.size x.needs ns.length (ns.map Value.string)
  deck : Deck w d A n c zs kd
  gr : GrP (fun k => k = d) w1 w
  jge : w1.heap.size ≤ J
  dlt : d < w1.heap.size
  zb : 0 < n → ∀ a, A = some a → a.block < d
  el : x.env.oneCell' = true ∧ x.lad.oneCell' = true
theorem IS.below {w1 w w' : World} {d : Nat} {A : Option Addr} {n c : Nat} {zs : List Int} {kd J : Nat} {x : J15} {ns : List ByteArray} (h : IS w1 w d A n c zs kd J x ns) (hb : Below w.heap.size w w') : IS w1 w' d A n c zs kd J x ns :=
  ⟨(hb.block J (heap_lt h.row)).trans h.row, xown_below h.nd hb, h.deck.keep hb, h.gr.trans (GrP.of_below hb), h.jge, h.dlt, h.zb, h.el⟩
theorem IS.next {w1 w w' : World} {d : Nat} {A : Option Addr} {n c : Nat} {zs : List Int} {kd kd' J : Nat} {x : J15} {ns : List ByteArray} (h : IS w1 w d A n c zs kd J x ns) (hg : w.grownBy w' (some d)) (hD : Deck w' d A n c zs kd') : IS w1 w' d A n c zs kd' J x ns :=
  ⟨(hg.block J (heap_lt h.row) (by have := h.jge; have := h.dlt; simp; omega)).trans h.row,
   xown_grown h.nd hg (fun g e e2 => by injection e2 with e2; have := (xown_block h.nd g e).1; have := h.dlt; omega), hD,
   h.gr.grown hg (fun g e => by injection e with e; exact .inr e.symm), h.jge, h.dlt, h.zb, h.el⟩
theorem IS.set {w1 w : World} {d : Nat} {A : Option Addr} {n c : Nat} {zs : List Int} {kd J : Nat} {x x' : J15} {ns ns' : List ByteArray} (h : IS w1 w d A n c zs kd J x ns) (i : Nat) (u : Value) (hx : x.arr.setIfInBounds i u = x'.arr) (he : x'.env.oneCell' = true ∧ x'.lad.oneCell' = true) (hn : XOwn w 9 1 w1.heap.size x'.needs ns'.length (ns'.map Value.string)) : IS w1 (w.setCell ⟨J, i, none⟩ u) d A n c zs kd J x' ns' :=
  ⟨by rw [row_set h.row, hx], xown_grown hn (grown_set _ _ _) (fun g e e2 => xown_off hn h.row (by decide) g e (by injection e2 with e2; exact e2.symm)),
   ⟨(Below.heap_setCell _ _ _ _ (by have := h.jge; have := h.dlt; simp; omega)).trans h.deck.blk, h.deck.le, h.deck.bd, h.deck.wf, h.deck.len, fun hn => by
      obtain ⟨b, off, h1, h2, h3, h4⟩ := h.deck.rd hn
      exact ⟨b, off, h1, h2, by simp; exact h3, fun q z hz => by
        have h5 := h4 q z hz
        refine (World.cell?_of_block (a := ⟨b, off + q, none⟩) (Below.heap_setCell _ _ _ _ ?_)).trans h5
        intro e
        have e : b = J := e
        have := h.zb hn _ h1; have := h.jge; have := h.dlt; simp at *; omega⟩⟩,
   h.gr.set h.jge i u, h.jge, h.dlt, h.zb, he⟩
/-- One name more. -/
theorem IS.app {w1 w w' : World} {d : Nat} {A : Option Addr} {n c : Nat} {zs : List Int} {kd J : Nat} {x : J15} {ns ns' : List ByteArray} (h : IS w1 w d A n c zs kd J x ns) {v' : Value} (hg : w.grownBy w' x.needs.ownBlock) (hn : XOwn w' 9 1 w1.heap.size v' ns'.length (ns'.map Value.string)) :
    IS w1 (w'.setCell ⟨J, 3, none⟩ v') d A n c zs kd J { x with needs := v' } ns' := by
  have hJ : x.needs.ownBlock ≠ some J := fun e => xown_off h.nd h.row (by decide) J e rfl
  have hd : x.needs.ownBlock ≠ some d := fun e => by have := (xown_block h.nd d e).1; have := h.dlt; omega
  have r1 := (hg.block J (heap_lt h.row) (fun e => hJ e.symm)).trans h.row
  refine ⟨row_set r1 3 v', xown_grown hn (grown_set _ _ _) (fun g e e2 => xown_off hn r1 (by decide) g e (by injection e2 with e2; exact e2.symm)), ?_, (h.gr.grown hg (fun g e => .inl (xown_block h.nd g e).1)).set h.jge 3 v', h.jge, h.dlt, h.zb, h.el⟩
  refine ⟨(Below.heap_setCell _ _ _ _ (by have := h.jge; have := h.dlt; simp; omega)).trans ((hg.block d (heap_lt h.deck.blk) (fun e => hd e.symm)).trans h.deck.blk), h.deck.le, h.deck.bd, h.deck.wf, h.deck.len, fun hn0 => ?_⟩
  obtain ⟨b, off, h1, h2, h3, h4⟩ := h.deck.rd hn0
  have hbd := h.zb hn0 _ h1
  refine ⟨b, off, h1, h2, by have := hg.size; simp; omega, fun q z hz => ?_⟩
  have hne : x.needs.ownBlock ≠ some b := fun e => by have := (xown_block h.nd b e).1; have := h.dlt; simp at hbd; omega
  exact (World.cell?_of_block (a := ⟨b, off + q, none⟩) ((Below.heap_setCell _ _ _ _ (by have := h.jge; have := h.dlt; simp at *; omega)).trans (hg.block b h3 (fun e => hne e.symm)))).trans (h4 q z hz)
/-- The job is done. -/
theorem WS.snoc {w0 w1 w w' : World} {d : Nat} {A : Option Addr} {n c : Nat} {zs : List Int} {kd0 kd J : Nat} {v v' : Value} {xs : List GJ} {x : J15} {ns : List ByteArray} {o : Obj} (h0 : WS w0 w1 d A n c zs kd0 v xs) (h : IS w1 w d A n c zs kd J x ns) (hns : ns.length ≤ 2000000)
    (hg : (w.alloc o).grownBy w' v.ownBlock) (ho : XOwn w' 45 15 w0.heap.size v' (xs.length + 1) (jobCells (xs.map GJ.j) ++ x.arr.toList)) : WS w0 w' d A n c zs kd v' (xs ++ [⟨x, ns⟩]) := by
  have hB := h0.bel.size
  have hv : XOwn w 45 15 w0.heap.size v xs.length (jobCells (xs.map GJ.j)) := xown_grp h0.own h.gr (fun g e e2 => xown_off h0.own h0.deck.blk (by decide) g e e2)
  have key : ∀ (B : Nat) (u : Value) (m : Nat) (ys : List Value), XOwn w 9 1 B u m ys → XOwn w' 9 1 B u m ys := fun B u m ys hu =>
    xown_grown (xown_below hu (balloc w o)) hg (fun g e => xown_apart hu hv (by decide) g e)
  have hvd : v.ownBlock ≠ some d := fun e => xown_off hv h.deck.blk (by decide) d e rfl
  refine ⟨?_, fun y hy => ?_, ?_, ?_, h0.dge, h0.zb⟩
  · rw [List.length_append, List.map_append]
    show XOwn w' _ 15 _ v' (xs.length + 1) (jobCells (xs.map GJ.j ++ [x]))
    rw [jobCells_snoc]
    exact ho
  · rw [List.mem_append] at hy
    rcases hy with hy | hy
    · obtain ⟨n1, n2⟩ := h0.needs y hy
      exact ⟨key _ _ _ _ (xown_grp n1 h.gr (fun g e e2 => xown_off n1 h0.deck.blk (by decide) g e e2)), n2⟩
    · simp at hy; subst hy
      exact ⟨key _ _ _ _ (xown_mono h.nd hB), hns⟩
  · have hd2 := (balloc w o).block d (heap_lt h.deck.blk)
    refine ⟨(hg.block d (by simp; have := heap_lt h.deck.blk; omega) (fun e => hvd e.symm)).trans (hd2.trans h.deck.blk), h.deck.le, h.deck.bd, h.deck.wf, h.deck.len, fun hn0 => ?_⟩
    obtain ⟨b, off, h1, h2, h3, h4⟩ := h.deck.rd hn0
    refine ⟨b, off, h1, h2, by have := hg.size; simp at this; omega, fun q z hz => ?_⟩
    by_cases hvb : v.ownBlock = some b
    · exfalso
      have h5 := h0.zb hn0 _ h1
      have h6 := (xown_block hv b hvb).1
      simp at h5; omega
    · exact (World.cell?_of_block (a := ⟨b, off + q, none⟩) ((hg.block b (by simp; omega) (fun e => hvb e.symm)).trans ((balloc w o).block b h3))).trans (h4 q z hz)
  · have h1 : Below w0.heap.size w1 w := h.gr.below hB (fun k e => by rw [e]; exact h0.dge)
    exact ((h0.bel.trans h1).trans ((balloc w o).mono (Nat.le_trans hB h.gr.size))).grown hg (by have := h.gr.size; simp; omega) (fun g e => (xown_block hv g e).1)
theorem WS.grown_deck {w0 w w' : World} {d : Nat} {A : Option Addr} {n c : Nat} {zs : List Int} {kd : Nat} {v : Value} {xs : List GJ} (h : WS w0 w d A n c zs kd v xs) (hb : Below w.heap.size w w') : WS w0 w' d A n c zs kd v xs :=
  ⟨xown_below h.own hb, fun x hx => ⟨xown_below (h.needs x hx).1 hb, (h.needs x hx).2⟩, h.deck.keep hb, h.bel.trans (hb.mono h.bel.size), h.dge, h.zb⟩
theorem WS.own_in {w0 w1 w : World} {d : Nat} {A : Option Addr} {n c : Nat} {zs : List Int} {kd0 kd J : Nat} {v : Value} {xs : List GJ} {x : J15} {ns : List ByteArray} (h0 : WS w0 w1 d A n c zs kd0 v xs) (h : IS w1 w d A n c zs kd J x ns) :
    XOwn w 45 15 w0.heap.size v xs.length (jobCells (xs.map GJ.j)) := xown_grp h0.own h.gr (fun g e e2 => xown_off h0.own h0.deck.blk (by decide) g e e2)
/-- A job that begins. -/
theorem IS.start {w0 w2 : World} {d : Nat} {A : Option Addr} {n c : Nat} {zs : List Int} {kd : Nat} {v : Value} {xs : List GJ} (h : WS w0 w2 d A n c zs kd v xs) (o : Obj) (s : ByteArray) :
    IS w2 ((w2.alloc o).alloc (JobB (bare s (.slice none 0 0)))) d A n c zs kd (w2.heap.size + 1) (bare s (.slice none 0 0)) [] := by
  have hb : Below w2.heap.size w2 ((w2.alloc o).alloc (JobB (bare s (.slice none 0 0)))) := (balloc w2 o).trans ((balloc (w2.alloc o) _).mono (by simp))
  have k := heap_alloc_new (w2.alloc o) (JobB (bare s (.slice none 0 0)))
  rw [World.size_alloc] at k
  exact ⟨k, World.ownsRow_nil _ _ _ _, h.deck.keep hb, GrP.of_below hb, by omega, heap_lt h.deck.blk, fun hn a ha => by have := h.zb hn a ha; have := h.dge; omega, rfl, rfl⟩
set_option maxHeartbeats 4000000 in
set_option maxRecDepth 100000 in
theorem wild_any {w : World} {A : Option Addr} {n c : Nat} {zs : List Int} (h : IntsIn w A n zs) :
    Calls Try.prog 9 #[.slice A n c] w fun e w' => ∃ v js, e = .returned v ∧ JL w' v js ∧ js.length ≤ 6 ∧ Below w.heap.size w w' := by
  have HNW := Lib.hid (new_any (c := c) h)
  have HI := Lib.hid h
  clear h
  go_enter Try.func9, Try.ntmps9
  go_wp2_with (go_at_call 11; ((with_reducible refine HNW.out.mono ?_); rintro e w1 ⟨rfl, hD, hb1, _⟩; have D1 := Lib.hid hD; have B1 := Lib.hid hb1; clear hD hb1))
  obtain ⟨d, hd⟩ : ∃ d, d = w.heap.size := ⟨_, rfl⟩
  rw [← hd] at D1 ⊢
  have W1 : Hid (WS w w1 d A n c zs 0 (.slice none 0 0) []) := Lib.hid ⟨World.ownsRow_nil _ _ _ _, fun x hx => by simp at hx, D1.out, B1.out, by omega, fun hn a ha => by
    obtain ⟨b, off, h1, h2, _⟩ := HI.out.rd hn
    rw [h1] at ha; injection ha with ha; subst ha; exact h2⟩
  have DE := Lib.hid hd
  clear D1 B1 HNW HI hd
  go_loopg [4, 5] 7 (fun g' v4 i wr => ∃ (xs : List GJ) (k kd : Nat), i = .int .i64 k ∧ k ≤ 6 ∧ xs.length ≤ k ∧ WS w wr d A n c zs kd v4 xs ∧ 6 - k + 1 ≤ g')
  case atStart => exact ⟨[], 0, 0, rfl, by omega, by simp, W1.out, by omega⟩
  case round =>
    obtain ⟨xs, k, kd, rfl, hk, hxl, hws, hg⟩ := hrel
    obtain ⟨wo, rfl⟩ : ∃ wo : World, wo = wr := ⟨_, rfl⟩
    obtain ⟨A4, c4, hv4⟩ := xown_form hws.own
    subst hv4
    have WS0 := Lib.hid hws
    have HL := Lib.hid (left_any hws.deck)
    clear hws
    by_cases hk6 : k < 6
    · have hki : (k : Int) < 6 := by omega
      by_cases hkd : kd < n
      · rw [decide_eq_true hkd] at HL
        have hkd0 := Lib.hid hkd
        clear hkd
        have hw1 : IntKind.i64.wrap (97 + (k : Int)) = 97 + (k : Int) := by rw [IntKind.wrap_i64]; omega
        have hw2 : IntKind.u8.wrap (97 + (k : Int)) = 97 + (k : Int) := by rw [IntKind.wrap_u8]; omega
        go_wp2_with (first
          | (go_at_call 25; ((with_reducible refine HL.out.mono ?_); rintro e w2 ⟨rfl, q, hq⟩; have hb2 : Below wo.heap.size wo w2 := (by rw [hq]; exact below_drewN _ _); have W2 := Lib.hid (WS0.out.grown_deck hb2); have hcv := conv_lst (lst_one (k := .u8) w2 (97 + (k : Int)) 5) (by intro x hx; simp at hx; omega); have S2 := Lib.hid (IS.start W2.out (.cells #[.int .u8 (97 + (k : Int))] 5) (bytesOf [97 + (k : Int)])); have HN8 := Lib.hid (next_any S2.out.deck 8 (by omega) (by omega)); generalize bytesOf [97 + (k : Int)] = nm at *; clear hb2 hq))
          | (go_at_call 26; ((with_reducible refine HN8.out.mono ?_); rintro e w3 ⟨r, kd3, rfl, hr0, hr1, _, _, hD3, hG3⟩; have S3 := Lib.hid (S2.out.next hG3 hD3); have j0 := cell_of_row _ _ 0 _ _ _ S3.out.row; have f0 : w3.frozen? ⟨w2.heap.size + 1, 0, none⟩ = false := (by simp [World.frozen?, S3.out.row]); have S4 := Lib.hid (S3.out.set 0 (.string ⟨#[97]⟩) (x' := bare ⟨#[97]⟩ (.slice none 0 0)) rfl ⟨rfl, rfl⟩ (ns' := []) S3.out.nd); clear hr0 hr1 hD3 hG3))
          | (go_at_call 26; ((with_reducible refine (next_any S3.out.deck 3 (by omega) (by omega)).mono ?_); rintro e w5 ⟨r5, kd5, rfl, hr50, hr51, _, _, hD5, hG5⟩; have S5 : Hid (∃ x, IS w2 w5 d A n c zs kd5 (w2.heap.size + 1) x []) := Lib.hid ⟨_, S3.out.next hG5 hD5⟩; clear hD5 hG5))
          | (go_at_call 26; ((with_reducible refine (next_any S4.out.deck 3 (by omega) (by omega)).mono ?_); rintro e w5 ⟨r5, kd5, rfl, hr50, hr51, _, _, hD5, hG5⟩; have S5 : Hid (∃ x, IS w2 w5 d A n c zs kd5 (w2.heap.size + 1) x []) := Lib.hid ⟨_, S4.out.next hG5 hD5⟩; clear hD5 hG5)))
        all_goals
          clear j0 f0 hcv
          obtain ⟨q5, rfl⟩ := Int.eq_ofNat_of_zero_le hr50
          obtain ⟨J, hJ⟩ : ∃ J, J = w2.heap.size + 1 := ⟨_, rfl⟩
          rw [← hJ] at S5 ⊢
          clear S4 S3 S2 hJ hr50 HN8 HL
          go_loopg [7] 4 (fun g7 v7 w7 => ∃ (q kd7 : Nat) (x : J15) (ns : List ByteArray), v7 = .int .i64 q ∧ ns.length + q ≤ 2 ∧ IS w2 w7 d A n c zs kd7 J x ns ∧ q + 1 ≤ g7)
          case atStart =>
            obtain ⟨x5, hx5⟩ := S5.out
            exact ⟨q5, kd5, x5, [], rfl, by simp; omega, hx5, by omega⟩
          case round =>
            obtain ⟨q, kd7, x, ns, rfl, hq, hS, hg7⟩ := hrel
            obtain ⟨wq, rfl⟩ : ∃ wq : World, wq = wr := ⟨_, rfl⟩
            obtain ⟨An, cn, hxn⟩ := xown_form hS.nd
            obtain ⟨nm, run, env, needs, hr, rd, rs, base, cap, stb, bur, win, lad, line, col⟩ := x
            simp only at hxn
            subst hxn
            have SQ := Lib.hid hS
            clear hS S5
            by_cases hq0 : q = 0
            · subst hq0
              have OW := Lib.hid (W2.out.own_in SQ.out)
              have c0 := cell_of_row _ _ 0 _ _ _ SQ.out.row
              have c1 := cell_of_row _ _ 1 _ _ _ SQ.out.row
              have c2 := cell_of_row _ _ 2 _ _ _ SQ.out.row
              have c3 := cell_of_row _ _ 3 _ _ _ SQ.out.row
              have c4 := cell_of_row _ _ 4 _ _ _ SQ.out.row
              have c5 := cell_of_row _ _ 5 _ _ _ SQ.out.row
              have c6 := cell_of_row _ _ 6 _ _ _ SQ.out.row
              have c7 := cell_of_row _ _ 7 _ _ _ SQ.out.row
              have c8 := cell_of_row _ _ 8 _ _ _ SQ.out.row
              have c9 := cell_of_row _ _ 9 _ _ _ SQ.out.row
              have c10 := cell_of_row _ _ 10 _ _ _ SQ.out.row
              have c11 := cell_of_row _ _ 11 _ _ _ SQ.out.row
              have c12 := cell_of_row _ _ 12 _ _ _ SQ.out.row
              have c13 := cell_of_row _ _ 13 _ _ _ SQ.out.row
              have c14 := cell_of_row _ _ 14 _ _ _ SQ.out.row
              go_wp2_with (at_builtin; refine wpList_app_x rfl _ _ elJob rfl rfl (xown_below OW.out (balloc _ _)) (J15.arr ⟨nm, run, env, .slice An ns.length cn, hr, rd, rs, base, cap, stb, bur, win, lad, line, col⟩).toList rfl (arr_one SQ.out.el rfl) wq.heap.size 1 0 rfl ?_ (by omega) (by omega) (by have := W2.out.bel.size; have := SQ.out.gr.size; simp; omega) ?_; (case refine_1 => (intro j9 u9 hu9; rw [cell_of_row _ _ _ _ _ _ (heap_alloc_new wq _), Nat.zero_add]; simpa using hu9)); intro v8 w8 hO8 hF8; obtain ⟨A8, c8, rfl⟩ := xown_form hO8; have W8 := Lib.hid (W2.out.snoc SQ.out (by omega) hF8 hO8); clear hO8 hF8)
              go_roundg (6 - (k + 1) + 1)
              case measure => omega
              case rel => exact ⟨xs ++ [_], k + 1, kd7, by go_num, by omega, by simp; omega, W8.out, Nat.le_refl _⟩
            · obtain ⟨q1, rfl⟩ : ∃ q1, q = q1 + 1 := ⟨q - 1, by omega⟩
              have hqi : (0 : Int) < ((q1 + 1 : Nat) : Int) := by omega
              have j3 := cell_of_row _ _ 3 _ _ _ SQ.out.row
              have HN := Lib.hid (next_any (SQ.out.below (Below.refl wq.heap.size wq).drew).deck 8 (by omega) (by omega))
              go_wp2_with fail
              go_region_law (first
                | (go_simp; go_at_call 26; ((refine HN.out.mono ?_); rintro e w6 ⟨r6, kd6, rfl, hr60, hr61, _, _, hD6, hG6⟩; have S6 := Lib.hid ((SQ.out.below (Below.refl wq.heap.size wq).drew).next hG6 hD6); have hw3 : IntKind.i64.wrap (97 + r6) = 97 + r6 := (by rw [IntKind.wrap_i64]; omega); have hw4 : IntKind.u8.wrap (97 + r6) = 97 + r6 := (by rw [IntKind.wrap_u8]; omega); have hcv := conv_lst (lst_one (k := .u8) w6 (97 + r6) 5) (by intro x hx; simp at hx; omega); have j6 := cell_of_row _ _ 3 _ _ _ S6.out.row; have m1 : ∀ o, (w6.alloc o).cell? ⟨J, 3, none⟩ = some (.slice An ns.length cn) := (fun o => ((balloc w6 o).cell (World.block_lt_of_cell? w6 _ j6)).trans j6); have m2 : ∀ o o', ((w6.alloc o).alloc o').cell? ⟨J, 3, none⟩ = some (.slice An ns.length cn) := (fun o o' => ((balloc (w6.alloc o) o').cell (World.block_lt_of_cell? _ _ (m1 o))).trans (m1 o)); clear hr60 hr61 hD6 hG6))
                | (refine step_app_x rfl (.tmp 35) (.tmp 42) elStr rfl rfl (xown_below (xown_below S6.out.nd (balloc w6 (.cells #[.int .u8 (97 + r6)] 5))) (balloc _ (.cells #[.string (bytesOf [97 + r6])] 9))) [.string (bytesOf [97 + r6])] rfl (by simp [Value.oneCell']) (w6.heap.size + 1) 1 0 rfl ?_ (by omega) (by omega) (by have := S6.out.gr.size; simp; omega) ?_; (case refine_1 => (intro j9 u9 hu9; have h9 := heap_alloc_new (w6.alloc (.cells #[.int .u8 (97 + r6)] 5)) (.cells #[.string (bytesOf [97 + r6])] 9); rw [World.size_alloc] at h9; rw [cell_of_row _ _ _ _ _ _ h9, Nat.zero_add]; simpa using hu9)); intro v7 w7 hO hF; obtain ⟨A7, c7, rfl⟩ := xown_form hO; have S7 := Lib.hid (((S6.out.below (balloc w6 (.cells #[.int .u8 (97 + r6)] 5))).below (balloc _ (.cells #[.string (bytesOf [97 + r6])] 9))).app (ns' := ns ++ [bytesOf [97 + r6]]) hF (by rw [List.length_append, List.map_append]; exact hO)); have r7 := ((hF.block J (by have := heap_lt S6.out.row; simp; omega) (fun e => xown_off S6.out.nd S6.out.row (by decide) J e.symm rfl)).trans (((S6.out.below (balloc w6 (.cells #[.int .u8 (97 + r6)] 5))).below (balloc _ (.cells #[.string (bytesOf [97 + r6])] 9))).row)); have j7 := cell_of_row _ _ 3 _ _ _ r7; have f7 : w7.frozen? ⟨J, 3, none⟩ = false := (by simp [World.frozen?, r7]); clear hO hF m1 m2 r7))
              all_goals
                go_wp2_with fail
                go_roundg (q1 + 1)
                case measure => omega
                case rel => exact ⟨q1, kd6, _, ns ++ [_], by go_num, by simp; omega, S7.out, Nat.le_refl _⟩
      · rw [decide_eq_false hkd] at HL
        clear hkd
        go_wp2_with (go_at_call 25; ((with_reducible refine HL.out.mono ?_); rintro e w2 ⟨rfl, q, rfl⟩))
        go_ret
        have W2 := WS0.out.grown_deck (below_drewN wo q)
        exact ⟨_, xs, rfl, W2.jl (by omega), by omega, W2.bel⟩
    · obtain rfl : k = 6 := by omega
      go_wp2_with fail
      go_ret
      exact ⟨_, xs, rfl, WS0.out.jl (by omega), by omega, WS0.out.bel⟩
end Go.Proofs.Ytohiioafdajhmaa.Gp
