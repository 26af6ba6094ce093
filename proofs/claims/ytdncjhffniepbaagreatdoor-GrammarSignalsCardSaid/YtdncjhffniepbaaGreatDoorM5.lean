/-
  Several texts, one behind the other: LxPE, LxHas, LxNeeds, LxNeedsX, LxLadder, LxLadderX, LxListX, LxPrint1, LxMill, LxJob, LxJobRow, GrA.
-/
import Derived.Test.YtdncjhffniepbaaGreatDoorM4
import Derived.Recover
/- (LxPE)
  The reference's parser as a state that is either a place or the first fault.
-/
namespace Go.Proofs.YtdncjhffniepbaaGreatDoor.Lx
open Go.RowKit

abbrev Fau := Int × Int × Int
/-- Where the parser is: at a token, or at its first fault. -/
abbrev St := Except Fau Nat
def StIs : St → Nat → Int → Int → Int → Prop
  | .ok n, a, b, x, y => a = n ∧ b = 0 ∧ x = 0 ∧ y = 0
  | .error f, _, b, x, y => b ≠ 0 ∧ b = f.1 ∧ x = f.2.1 ∧ y = f.2.2
/-- The parser at block p is there. -/
def PE (w : World) (p : Nat) (A : Option Addr) (c : Nat) (ts : List Tok) (st : St) (S : Value) : Prop := ∃ a b x y, Par w p A c ts a b x y S ∧ StIs st a b x y
theorem PE.lt {w : World} {p : Nat} {A : Option Addr} {c : Nat} {ts : List Tok} {st : St} {S : Value} (h : PE w p A c ts st S) : p < w.heap.size := by
  obtain ⟨a, b, x, y, h1, _⟩ := h
  exact heap_lt h1.blk
theorem PE.below {w w' : World} {p : Nat} {A : Option Addr} {c : Nat} {ts : List Tok} {st : St} {S : Value} (h : PE w p A c ts st S) (hb : Below w.heap.size w w') : PE w' p A c ts st S := by
  obtain ⟨a, b, x, y, h1, h2⟩ := h
  exact ⟨a, b, x, y, h1.below hb, h2⟩
theorem PE.tok {w : World} {p : Nat} {A : Option Addr} {c : Nat} {ts : List Tok} {a : Nat} {S : Value} (h : PE w p A c ts (.ok a) S) : ∃ t, ts[a]? = some t ∧ t.text.length ≤ 10000 := by
  obtain ⟨a', b, x, y, h1, rfl, _⟩ := h
  exact ⟨ts[a']'h1.lt, List.getElem?_eq_getElem _, h1.txt _ (List.getElem_mem _)⟩
/-- A fault at a token. -/
def tokFault (e : Int) (t : Tok) : St := .error (e, t.line, t.col)
/-- Where there is no fault yet, this one. -/
def failS (e : Int) (t : Tok) (st : St) : St := st.bind fun _ => tokFault e t
def takeF (ts : List Tok) (kd most : Int) (a : Nat) : St :=
  match ts[a]? with
  | none => .error (60, 0, 0)
  | some t => if t.kind ≠ kd then tokFault 60 t else if most < (t.text.length : Int) then tokFault 1 t else .ok (a + 1)
def isF (ts : List Tok) (kd : Int) (z : ByteArray) (a : Nat) : Prop := ∃ t, ts[a]? = some t ∧ t.kind = kd ∧ bytesOf t.text = z
def signF (ts : List Tok) (z : ByteArray) (a : Nat) : St :=
  match ts[a]? with
  | none => .error (60, 0, 0)
  | some t => if t.kind = 5 ∧ bytesOf t.text = z then .ok (a + 1) else tokFault 60 t
theorem takeN_is {ts : List Tok} {st : St} {a : Nat} {b x y : Int} (h : StIs st a b x y) {t : Tok} (ht : ts[a]? = some t) (kd most : Int) {a' : Nat} {b' x' y' : Int} (hn : (a', b', x', y') = takeN a b x y kd most t.kind (bytesOf t.text).size t.line t.col) :
    StIs (st.bind (takeF ts kd most)) a' b' x' y' := by
  unfold takeN at hn
  rw [bytesOf_size] at hn
  cases st with
  | error f =>
    rw [if_pos h.1] at hn
    simp only [Prod.mk.injEq] at hn
    obtain ⟨rfl, rfl, rfl, rfl⟩ := hn
    exact h
  | ok n =>
    obtain ⟨rfl, rfl, rfl, rfl⟩ := h
    rw [if_neg (by simp)] at hn
    change StIs (takeF ts kd most a) a' b' x' y'
    unfold takeF
    rw [ht]
    simp only
    split at hn
    · rename_i hk
      rw [if_pos hk]
      simp only [Prod.mk.injEq] at hn
      exact ⟨by rw [hn.2.1]; decide, hn.2.1, hn.2.2.1, hn.2.2.2⟩
    · rename_i hk
      rw [if_neg hk]
      split at hn
      · rename_i hm
        rw [if_pos hm]
        simp only [Prod.mk.injEq] at hn
        exact ⟨by rw [hn.2.1]; decide, hn.2.1, hn.2.2.1, hn.2.2.2⟩
      · rename_i hm
        rw [if_neg hm]
        simp only [Prod.mk.injEq] at hn
        exact hn
theorem signN_is {ts : List Tok} {st : St} {a : Nat} {b x y : Int} (h : StIs st a b x y) {t : Tok} (ht : ts[a]? = some t) (z : ByteArray) {a' : Nat} {b' x' y' : Int} (hn : (a', b', x', y') = signN a b x y t.kind (bytesOf t.text) z t.line t.col) :
    StIs (st.bind (signF ts z)) a' b' x' y' := by
  unfold signN at hn
  cases st with
  | error f =>
    rw [if_pos h.1] at hn
    simp only [Prod.mk.injEq] at hn
    obtain ⟨rfl, rfl, rfl, rfl⟩ := hn
    exact h
  | ok n =>
    obtain ⟨rfl, rfl, rfl, rfl⟩ := h
    rw [if_neg (by simp)] at hn
    change StIs (signF ts z a) a' b' x' y'
    unfold signF
    rw [ht]
    simp only
    split at hn
    · rename_i hk
      rw [if_pos hk]
      simp only [Prod.mk.injEq] at hn
      exact hn
    · rename_i hk
      rw [if_neg hk]
      simp only [Prod.mk.injEq] at hn
      exact ⟨by rw [hn.2.1]; decide, hn.2.1, hn.2.2.1, hn.2.2.2⟩
/-- A token as a value, known where the parser has no fault. -/
def TokNow (ts : List Tok) (st : St) (v : Value) : Prop := ∃ (tk : Int) (s : ByteArray) (tl tc : Int), v = .agg #[.int .i64 tk, .string s, .int .i64 tl, .int .i64 tc] ∧ s.size ≤ 10000 ∧ ∀ a, st = .ok a → ∃ t, ts[a]? = some t ∧ tk = t.kind ∧ s = bytesOf t.text ∧ tl = t.line ∧ tc = t.col
theorem tokNow_of {ts : List Tok} {st : St} {a : Nat} {b x y : Int} (h : StIs st a b x y) {t : Tok} (ht : ts[a]? = some t) (hl : t.text.length ≤ 10000) : TokNow ts st t.val :=
  ⟨_, _, _, _, rfl, by rw [bytesOf_size]; exact hl, fun n e => by subst e; obtain ⟨rfl, _⟩ := h; exact ⟨t, ht, rfl, rfl, rfl, rfl⟩⟩
theorem take_pe {w : World} {p : Nat} {A : Option Addr} {c : Nat} {ts : List Tok} {st : St} {S : Value} (h : PE w p A c ts st S) (kd most : Int) (hk : kd ≠ 6) :
    Calls Tryz.prog 65 #[.pointer (some ⟨p, 0, none⟩), .int .i64 kd, .int .i64 most] w fun en w' => ∃ v, en = .returned v ∧ TokNow ts st v ∧ PE w' p A c ts (st.bind (takeF ts kd most)) S ∧ w.grownBy w' (some p) := by
  obtain ⟨a, b, x, y, h1, h2⟩ := h
  obtain ⟨t, ht⟩ : ∃ t, ts[a]? = some t := ⟨ts[a]'h1.lt, List.getElem?_eq_getElem _⟩
  refine (take_ex h1 (tk := t.kind) (tt := t.text) (tl := t.line) (tc := t.col) ht kd most hk).mono ?_
  rintro e w' ⟨he, a', b', x', y', hn, h3, h4⟩
  exact ⟨_, he, tokNow_of h2 ht (h1.txt _ (List.mem_of_getElem? ht)), ⟨a', b', x', y', h3, takeN_is h2 ht kd most hn⟩, h4⟩
theorem now_pe {w : World} {p : Nat} {A : Option Addr} {c : Nat} {ts : List Tok} {st : St} {S : Value} (h : PE w p A c ts st S) :
    Calls Tryz.prog 40 #[.pointer (some ⟨p, 0, none⟩)] w fun en w' => ∃ v, en = .returned v ∧ TokNow ts st v ∧ Below w.heap.size w w' := by
  obtain ⟨a, b, x, y, h1, h2⟩ := h
  obtain ⟨t, ht⟩ : ∃ t, ts[a]? = some t := ⟨ts[a]'h1.lt, List.getElem?_eq_getElem _⟩
  refine (now_any h1 ht).mono ?_
  rintro e w' ⟨he, hb⟩
  exact ⟨_, he, tokNow_of h2 ht (h1.txt _ (List.mem_of_getElem? ht)), hb⟩
theorem failed_pe {w : World} {p : Nat} {A : Option Addr} {c : Nat} {ts : List Tok} {st : St} {S : Value} (h : PE w p A c ts st S) :
    Calls Tryz.prog 42 #[.pointer (some ⟨p, 0, none⟩)] w fun en w' => ∃ r : Bool, en = .returned (.bool r) ∧ (r = true ↔ ∃ f, st = .error f) ∧ Below w.heap.size w w' := by
  obtain ⟨a, b, x, y, h1, h2⟩ := h
  refine (failed_any h1).mono ?_
  rintro e w' ⟨he, hb⟩
  refine ⟨_, he, ?_, hb⟩
  cases st with
  | ok n => obtain ⟨_, rfl, _⟩ := h2; simp
  | error f => simp [h2.1]
theorem fail_pe {w : World} {p : Nat} {A : Option Addr} {c : Nat} {ts : List Tok} {st : St} {S : Value} (h : PE w p A c ts st S) (e : Int) (he : e ≠ 0) (tk tl tc : Int) (s : ByteArray) :
    Calls Tryz.prog 64 #[.pointer (some ⟨p, 0, none⟩), .int .i64 e, .agg #[.int .i64 tk, .string s, .int .i64 tl, .int .i64 tc]] w fun en w' => en = .returned (.tuple #[]) ∧ PE w' p A c ts (st.bind fun _ => .error (e, tl, tc)) S ∧ w.grownBy w' (some p) := by
  obtain ⟨a, b, x, y, h1, h2⟩ := h
  refine (fail_ex h1 e tk tl tc s).mono ?_
  rintro en w' ⟨h3, h4, h5⟩
  refine ⟨h3, ⟨a, _, _, _, h4, ?_⟩, h5⟩
  cases st with
  | ok n =>
    obtain ⟨_, rfl, _⟩ := h2
    simp only [if_true]
    exact ⟨he, rfl, rfl, rfl⟩
  | error f =>
    simp only [if_neg h2.1]
    exact h2
theorem is_pe {w : World} {p : Nat} {A : Option Addr} {c : Nat} {ts : List Tok} {st : St} {S : Value} (h : PE w p A c ts st S) (kd : Int) (z : ByteArray) :
    Calls Tryz.prog 63 #[.pointer (some ⟨p, 0, none⟩), .int .i64 kd, .string z] w fun en w' => ∃ r : Bool, en = .returned (.bool r) ∧ (r = true ↔ ∃ a, st = .ok a ∧ isF ts kd z a) ∧ Below w.heap.size w w' := by
  obtain ⟨a, b, x, y, h1, h2⟩ := h
  obtain ⟨t, ht⟩ : ∃ t, ts[a]? = some t := ⟨ts[a]'h1.lt, List.getElem?_eq_getElem _⟩
  refine (is_ex h1 (tk := t.kind) (tt := t.text) (tl := t.line) (tc := t.col) ht kd z).mono ?_
  rintro e w' ⟨r, he, hr, hb⟩
  refine ⟨r, he, ?_, hb⟩
  rw [hr, decide_eq_true_eq]
  cases st with
  | ok n =>
    obtain ⟨rfl, rfl, _⟩ := h2
    constructor
    · exact fun q => ⟨a, rfl, t, ht, q.2.1, q.2.2⟩
    · rintro ⟨n, e, t', ht', q1, q2⟩
      injection e with e
      subst e
      rw [ht] at ht'
      injection ht' with ht'
      subst ht'
      exact ⟨rfl, q1, q2⟩
  | error f =>
    constructor
    · exact fun q => absurd q.1 h2.1
    · rintro ⟨n, e, _⟩
      simp at e
theorem sign_pe {w : World} {p : Nat} {A : Option Addr} {c : Nat} {ts : List Tok} {st : St} {S : Value} (h : PE w p A c ts st S) (z : ByteArray) :
    Calls Tryz.prog 66 #[.pointer (some ⟨p, 0, none⟩), .string z] w fun en w' => en = .returned (.tuple #[]) ∧ PE w' p A c ts (st.bind (signF ts z)) S ∧ w.grownBy w' (some p) := by
  obtain ⟨a, b, x, y, h1, h2⟩ := h
  obtain ⟨t, ht⟩ : ∃ t, ts[a]? = some t := ⟨ts[a]'h1.lt, List.getElem?_eq_getElem _⟩
  refine (sign_ex h1 (tk := t.kind) (tt := t.text) (tl := t.line) (tc := t.col) ht z).mono ?_
  rintro e w' ⟨he, a', b', x', y', hn, h3, h4⟩
  exact ⟨he, ⟨a', b', x', y', h3, signN_is h2 ht z hn⟩, h4⟩
/-- The text of the present token. -/
def txtAt (ts : List Tok) (a : Nat) : ByteArray := (ts[a]?.map fun t => bytesOf t.text).getD ⟨#[]⟩
theorem number_pe {w : World} {p : Nat} {A : Option Addr} {c : Nat} {ts : List Tok} {st : St} {S : Value} (h : PE w p A c ts st S) :
    Calls Tryz.prog 93 #[.pointer (some ⟨p, 0, none⟩)] w fun en w' => ∃ r : Int, en = .returned (.int .u64 r) ∧ (0 ≤ r ∧ r ≤ 18446744073709551615) ∧ (∀ a n, st = .ok a → takeF ts 2 18 a = .ok n → r = numF (ch (txtAt ts a))) ∧ PE w' p A c ts (st.bind (takeF ts 2 18)) S ∧ w.grownBy w' (some p) := by
  obtain ⟨a, b, x, y, h1, h2⟩ := h
  obtain ⟨t, ht⟩ : ∃ t, ts[a]? = some t := ⟨ts[a]'h1.lt, List.getElem?_eq_getElem _⟩
  refine (number_ex h1 (tk := t.kind) (tt := t.text) (tl := t.line) (tc := t.col) ht).mono ?_
  rintro e w' ⟨a', b', x', y', he, hn, h3, h4⟩
  have hs := takeN_is h2 ht 2 18 hn
  have q := numF_u64 (ch (bytesOf t.text))
  refine ⟨_, he, by split <;> omega, ?_, ⟨a', b', x', y', h3, hs⟩, h4⟩
  rintro a2 n rfl htk
  obtain ⟨rfl, _⟩ := h2
  change StIs (takeF ts 2 18 a) a' b' x' y' at hs
  rw [htk] at hs
  obtain ⟨_, rfl, _⟩ := hs
  rw [if_pos rfl]
  unfold txtAt
  rw [ht]
  rfl
end Go.Proofs.YtdncjhffniepbaaGreatDoor.Lx
/- (LxHas)
  has and known: strings looked up.
-/
namespace Go.Proofs.YtdncjhffniepbaaGreatDoor.Lx
open Go.RowKit

/-- Some Boolean; nothing that was there is another. -/
def SomeB (w : World) (e : Ending) (w' : World) : Prop := ∃ r : Bool, e = .returned (.bool r) ∧ Below w.heap.size w w'
set_option maxRecDepth 100000 in
theorem has_any {w : World} {v : Value} {n M : Nat} (h : PLst w [isStr M] v n) (s : ByteArray) : Calls Tryz.prog 68 #[v, .string s] w (SomeB w) := by
  obtain ⟨A, c, rfl, h2, _, h4, h5⟩ := h
  have hn : n ≤ 9223372036854775807 := by unfold maxLen at h5; omega
  have H := Lib.hid h2
  clear h2 h4 h5
  go_enter Tryz.func68, Tryz.ntmps68
  go_wp2_with fail
  go_loopg [5] (n + 1) (fun g' i wr => ∃ (k : Nat), i = .int .i64 k ∧ k ≤ n ∧ n - k + 1 ≤ g' ∧ ∃ m, wr = w.drewN m)
  case atStart => exact ⟨0, rfl, by omega, by omega, 0, rfl⟩
  case round =>
    obtain ⟨k, rfl, hk, hg, m, rfl⟩ := hrel
    by_cases hkn : k < n
    · have hki : (k : Int) < (n : Int) := by omega
      obtain ⟨g, off, rfl, hc⟩ := H.out (by omega)
      obtain ⟨u, hu, t, rfl, ht⟩ := hc k 0 _ hkn rfl
      simp only [List.length_cons, List.length_nil, Nat.zero_add, Nat.mul_one, Nat.add_zero] at hu
      clear hc
      go_wp2_with fail
      · go_ret
        exact ⟨_, rfl, below_drewN w m⟩
      · go_roundg (n - (k + 1) + 1)
        case measure => omega
        case rel => exact ⟨k + 1, by go_num, by omega, Nat.le_refl _, m, rfl⟩
    · obtain rfl : k = n := by omega
      go_wp2_with fail
      go_ret
      exact ⟨_, rfl, below_drewN w m⟩
/-- A row of strings written out. -/
theorem plst_lit (w : World) (l : List ByteArray) (t : TypeId) {M : Nat} (hl : l.length ≤ 100000) (h : ∀ s ∈ l, s.size ≤ M) : PLst (w.alloc (.cells (l.map Value.string).toArray t)) [isStr M] (.slice (some ⟨w.heap.size, 0, none⟩) l.length l.length) l.length := by
  refine ⟨_, _, rfl, fun _ => ⟨w.heap.size, 0, rfl, fun k j q hk hq => ?_⟩, fun e => by simp at e, Nat.le_refl _, by unfold maxLen; omega⟩
  have hj : j < 1 := (List.getElem?_eq_some_iff.1 hq).1
  obtain rfl : j = 0 := by omega
  simp at hq; subst hq
  refine ⟨.string l[k], ?_, l[k], rfl, h _ (List.getElem_mem _)⟩
  rw [cell_of_row _ _ _ _ _ _ (heap_alloc_new w _)]
  simp [hk]
set_option maxRecDepth 100000 in
theorem known_any (s : ByteArray) (w : World) : Calls Tryz.prog 67 #[.string s] w (SomeB w) := by
  have hL := plst_lit w [⟨#[114, 117, 110]⟩, ⟨#[101, 110, 118]⟩, ⟨#[110, 101, 101, 100, 115]⟩, ⟨#[114, 101, 97, 100, 121]⟩, ⟨#[114, 101, 115, 116, 97, 114, 116]⟩, ⟨#[98, 97, 99, 107, 111, 102, 102]⟩, ⟨#[98, 117, 114, 115, 116]⟩, ⟨#[115, 116, 111, 112]⟩] 9 (M := 20) (by simp) (by
    intro s hs
    simp only [List.mem_cons, List.not_mem_nil, or_false] at hs
    rcases hs with rfl | rfl | rfl | rfl | rfl | rfl | rfl | rfl <;> decide)
  have HH := Lib.hid (has_any hL s)
  have B1 := Lib.hid (balloc w (.cells ([⟨#[114, 117, 110]⟩, ⟨#[101, 110, 118]⟩, ⟨#[110, 101, 101, 100, 115]⟩, ⟨#[114, 101, 97, 100, 121]⟩, ⟨#[114, 101, 115, 116, 97, 114, 116]⟩, ⟨#[98, 97, 99, 107, 111, 102, 102]⟩, ⟨#[98, 117, 114, 115, 116]⟩, ⟨#[115, 116, 111, 112]⟩].map Value.string).toArray 9))
  simp only [List.map_cons, List.map_nil, List.length_cons, List.length_nil, Nat.zero_add, Nat.reduceAdd] at HH B1
  clear hL
  go_enter Tryz.func67, Tryz.ntmps67
  go_wp2_with (go_at_call 68; ((with_reducible refine (HH.out).mono ?_); rintro e w1 ⟨r, rfl, hb1⟩; have B2 := Lib.hid (B1.out.trans (hb1.mono B1.out.size)); clear hb1))
  go_ret
  exact ⟨r, rfl, B2.out⟩
end Go.Proofs.YtdncjhffniepbaaGreatDoor.Lx
/- (LxNeeds)
  The parser's needs.
-/
namespace Go.Proofs.YtdncjhffniepbaaGreatDoor.Lx
open Go.RowKit

theorem Tryz.info9 : (Tryz.prog.info? 9).map (fun i => (i.zero, i.size, i.bytes)) = some (some (.string ⟨#[]⟩), 1, 16) := by kernel_rfl
/-- The parser where only the call's own rows have been turned. -/
theorem Par.frame {w0 w w' : World} {p : Nat} {A : Option Addr} {c : Nat} {ts : List Tok} {a a0 : Nat} {b x y b0 x0 y0 : Int} {S S0 : Value} (h0 : Par w0 p A c ts a0 b0 x0 y0 S0) (h : Par w p A c ts a b x y S) (hb : Below w0.heap.size w w') : Par w' p A c ts a b x y S := by
  refine ⟨(hb.block p (heap_lt h0.blk)).trans h.blk, h.lt, h.fin, h.len, h.txt, ?_⟩
  obtain ⟨g0, off0, hA0, _, hc0⟩ := h0.tok
  obtain ⟨g, off, hA, hne, hc⟩ := h.tok
  obtain ⟨rfl, rfl⟩ : g = g0 ∧ off = off0 := by rw [hA0] at hA; simp at hA; exact ⟨hA.1.symm, hA.2.symm⟩
  refine ⟨g, off, hA, hne, fun k t ht => ?_⟩
  obtain ⟨c1, c2, c3, c4⟩ := hc k t ht
  have hl : g < w0.heap.size := World.block_lt_of_cell? w0 _ (hc0 k t ht).1
  have hg1 := hb.block g hl
  exact ⟨(World.cell?_of_block (a := ⟨g, _, none⟩) hg1).trans c1, (World.cell?_of_block (a := ⟨g, _, none⟩) hg1).trans c2, (World.cell?_of_block (a := ⟨g, _, none⟩) hg1).trans c3, (World.cell?_of_block (a := ⟨g, _, none⟩) hg1).trans c4⟩
theorem grown_frame {w0 w w' : World} {row : Option Nat} (h : w0.grownBy w row) (hb : Below w0.heap.size w w') : w0.grownBy w' row :=
  ⟨hb.os.trans h.os, hb.tape.trans h.tape, hb.output.trans h.output, Nat.le_trans h.size hb.size, fun k hk hne => (hb.block k hk).trans (h.block k hk hne)⟩
theorem one_cell (w : World) (u : Value) (t : TypeId) : ∀ j z, [u][j]? = some z → (w.alloc (.cells #[u] t)).cell? ⟨w.heap.size, 0 + j, none⟩ = some z := by
  intro j z hj
  rw [cell_of_row _ _ _ _ _ _ (heap_alloc_new w _), Nat.zero_add]
  simpa using hj
theorem shape_one {q0 : Value → Prop} {u : Value} (h : q0 u) : ∀ (j : Nat) (q : Value → Prop), [q0][j]? = some q → ∃ z, [u][j]? = some z ∧ q z := by
  intro j q hq
  have hj : j < 1 := (List.getElem?_eq_some_iff.1 hq).1
  obtain rfl : j = 0 := by omega
  simp at hq; subst hq
  exact ⟨u, rfl, h⟩
/-- Behind an append of the call's own. -/
theorem own_below {w0 w w' : World} {o : Obj} {e : TypeId} {pat : Shape} {v : Value} {n : Nat} (hs : w0.heap.size ≤ w.heap.size) (ho : POwn (w.alloc o) e pat w0.heap.size v n) (hg : (w.alloc o).grownBy w' v.ownBlock) : Below w0.heap.size w w' :=
  ((Below.refl _ _).alloc hs o).grown hg (by simp; omega) (fun g e => (ho.block g e).1)
/-- The methods again, whatever the present token. -/
theorem take_now {w : World} {p : Nat} {A : Option Addr} {c : Nat} {ts : List Tok} {a : Nat} {b x y : Int} {S : Value} (h : Par w p A c ts a b x y S) (kd most : Int) (hk : kd ≠ 6) :
    Calls Tryz.prog 65 #[.pointer (some ⟨p, 0, none⟩), .int .i64 kd, .int .i64 most] w fun en w' => ∃ (tk : Int) (s : ByteArray) (tl tc : Int) (a' : Nat) (b' x' y' : Int), en = .returned (.agg #[.int .i64 tk, .string s, .int .i64 tl, .int .i64 tc]) ∧ s.size ≤ 10000 ∧ Par w' p A c ts a' b' x' y' S ∧ w.grownBy w' (some p) ∧ a ≤ a' ∧ (b' = 0 → b = 0 ∧ a + 1 ≤ a') := by
  obtain ⟨t, ht⟩ : ∃ t, ts[a]? = some t := ⟨ts[a]'h.lt, List.getElem?_eq_getElem _⟩
  have htl := h.txt t (List.mem_of_getElem? ht)
  obtain ⟨tk, tt, tl, tc⟩ := t
  refine (take_any h ht kd most hk).mono ?_
  rintro e w' ⟨he, a', b', x', y', h1, h2, h3, h4⟩
  exact ⟨tk, bytesOf tt, tl, tc, a', b', x', y', he, by rw [bytesOf_size]; exact htl, h1, h2, h3, h4⟩
/-- The present token is of this kind. -/
def HasKd (ts : List Tok) (a : Nat) (kd : Int) : Prop := ∃ t, ts[a]? = some t ∧ t.kind = kd
theorem is_now {w : World} {p : Nat} {A : Option Addr} {c : Nat} {ts : List Tok} {a : Nat} {b x y : Int} {S : Value} (h : Par w p A c ts a b x y S) (kd : Int) (z : ByteArray) :
    Calls Tryz.prog 63 #[.pointer (some ⟨p, 0, none⟩), .int .i64 kd, .string z] w fun e w' => ∃ r : Bool, e = .returned (.bool r) ∧ (r = true → b = 0 ∧ HasKd ts a kd) ∧ Below w.heap.size w w' := by
  obtain ⟨t, ht⟩ : ∃ t, ts[a]? = some t := ⟨ts[a]'h.lt, List.getElem?_eq_getElem _⟩
  refine (is_any h (tk := t.kind) (tl := t.line) (tc := t.col) (tt := t.text) ht kd z).mono ?_
  rintro e w' ⟨r, he, hr, hb⟩
  exact ⟨r, he, fun e => ⟨(hr e).1, t, ht, (hr e).2⟩, hb⟩
theorem failed_is {w : World} {p : Nat} {A : Option Addr} {c : Nat} {ts : List Tok} {a : Nat} {b x y : Int} {S : Value} (h : Par w p A c ts a b x y S) {r : Bool} (hr : r = decide (b ≠ 0)) :
    Calls Tryz.prog 42 #[.pointer (some ⟨p, 0, none⟩)] w (VPost w (.bool r)) := by rw [hr]; exact failed_any h
theorem fail_now {w : World} {p : Nat} {A : Option Addr} {c : Nat} {ts : List Tok} {a : Nat} {b x y : Int} {S : Value} (h : Par w p A c ts a b x y S) (e : Int) (he : e ≠ 0) (tk tl tc : Int) (s : ByteArray) :
    Calls Tryz.prog 64 #[.pointer (some ⟨p, 0, none⟩), .int .i64 e, .agg #[.int .i64 tk, .string s, .int .i64 tl, .int .i64 tc]] w fun en w' => en = .returned (.tuple #[]) ∧ ∃ b' x' y', b' ≠ 0 ∧ Par w' p A c ts a b' x' y' S ∧ w.grownBy w' (some p) := by
  refine (fail_any h e tk tl tc s).mono ?_
  rintro en w' ⟨h1, x', y', h2, h3⟩
  exact ⟨h1, _, x', y', by split <;> assumption, h2, h3⟩
theorem elStr : PElt 28 9 (.string ⟨#[]⟩) [isStr 10000] 16 := ⟨Tryz.underlying28, by obtain ⟨i, h1, h2, h3, h4⟩ := info_parts Tryz.info9; exact ⟨i, h1, h2, h3, h4⟩, rfl, by decide⟩

set_option maxRecDepth 100000 in
theorem needs_any {w : World} {p : Nat} {A : Option Addr} {c : Nat} {ts : List Tok} {a : Nat} {b x y : Int} {S : Value} (h : Par w p A c ts a b x y S) :
    Calls Tryz.prog 91 #[.pointer (some ⟨p, 0, none⟩)] w fun e w' => ∃ v n, e = .returned v ∧ POwn w' 9 [isStr 10000] w.heap.size v n ∧ Adv w p A c ts a b S 0 w' := by
  have H := Lib.hid h
  have PW := Lib.hid (heap_lt h.blk)
  clear h
  go_enter Tryz.func91, Tryz.ntmps91
  go_wp2_with fail
  go_loopg [3] (ts.length + 1) (fun g' ov wr => ∃ (a1 : Nat) (b1 x1 y1 : Int) (n : Nat), Par wr p A c ts a1 b1 x1 y1 S ∧ w.grownBy wr (some p) ∧ a + n ≤ a1 ∧ (b1 = 0 → b = 0) ∧ POwn wr 9 [isStr 10000] w.heap.size ov n ∧ ts.length - a1 + 1 ≤ g')
  case atStart => exact ⟨a, b, x, y, 0, H.out, grown_refl _ _, Nat.le_refl _, id, POwn.nil _ _ _ _, by omega⟩
  case round =>
    obtain ⟨a1, b1, x1, y1, n, hpar, hgr, han, hb1, hown, hg⟩ := hrel
    obtain ⟨wo, rfl⟩ : ∃ wo : World, wo = wr := ⟨_, rfl⟩
    have HC := Lib.hid hpar
    have GC := Lib.hid hgr
    have OC := Lib.hid hown
    obtain ⟨A9, c9, rfl⟩ := hown.form
    have HB1 := Lib.hid hb1
    have hn : n ≤ 3000 := by have := hpar.len; have := hpar.lt; omega
    clear hpar hgr hown hb1
    go_wp2_with (go_at_call 65; ((with_reducible refine (take_now HC.out 1 32 (by omega)).mono ?_); rintro e wn ⟨tk, s, tl, tc, an, bn, xn, yn, rfl, hsn, hh, hg, hln, hpn⟩; have GC := Lib.hid (grown_trans GC.out hg); have HC := Lib.hid hh; have OC := Lib.hid (OC.out.grown hg (fun g e he => by have q1 := (OC.out.block g e).1; have q2 := PW.out; simp only [Option.some.injEq] at he; omega)); have NB := Lib.hid (show p < wn.heap.size from heap_lt hh.blk); have hb := balloc wn (TokB tk s tl tc); have GC := Lib.hid (grown_trans GC.out (grown_below hb (some p))); have HC := Lib.hid (HC.out.below hb); have OC := Lib.hid (OC.out.below hb); have KC := Lib.hid (heap_alloc_new wn (TokB tk s tl tc)); have HL := Lib.hid hln; have HP := Lib.hid hpn; have HS := Lib.hid hsn; clear hb hg hh hln hpn hsn; by_cases hbz : bn = 0))
    · subst hbz
      go_wp2_with (first
          | (go_at_call 42; ((with_reducible refine (failed_is HC.out (r := false) (by simp)).mono ?_); rintro e wn ⟨rfl, hb⟩; have GC := Lib.hid (grown_trans GC.out (grown_below hb (some p))); have HC := Lib.hid (HC.out.below hb); have OC := Lib.hid (OC.out.below hb); have KC := Lib.hid ((hb.block _ (heap_lt KC.out)).trans KC.out); have d0 := cell_of_row _ _ 0 _ _ _ KC.out; have d1 := cell_of_row _ _ 1 _ _ _ KC.out; have d2 := cell_of_row _ _ 2 _ _ _ KC.out; have d3 := cell_of_row _ _ 3 _ _ _ KC.out; clear hb))
          | (go_at_call 64; ((with_reducible refine (fail_now HC.out 1 (by omega) tk tl tc s).mono ?_); rintro e wn ⟨rfl, bf, xf, yf, hbf, hh, hg⟩; have HBF := Lib.hid hbf; clear hbf; have GC := Lib.hid (grown_trans GC.out hg); have HC := Lib.hid hh; have OC := Lib.hid (OC.out.grown hg (fun g e he => by have q1 := (OC.out.block g e).1; have q2 := PW.out; simp only [Option.some.injEq] at he; omega)); have KC := Lib.hid ((hg.block _ (heap_lt KC.out) (by have q2 := NB.out; simp only [ne_eq, Option.some.injEq]; omega)).trans KC.out); have d0 := cell_of_row _ _ 0 _ _ _ KC.out; have d1 := cell_of_row _ _ 1 _ _ _ KC.out; have d2 := cell_of_row _ _ 2 _ _ _ KC.out; have d3 := cell_of_row _ _ 3 _ _ _ KC.out; clear hg hh))
          | (go_at_call 64; ((with_reducible refine (fail_now HC.out 5 (by omega) tk tl tc s).mono ?_); rintro e wn ⟨rfl, bf, xf, yf, hbf, hh, hg⟩; have HBF := Lib.hid hbf; clear hbf; have GC := Lib.hid (grown_trans GC.out hg); have HC := Lib.hid hh; have OC := Lib.hid (OC.out.grown hg (fun g e he => by have q1 := (OC.out.block g e).1; have q2 := PW.out; simp only [Option.some.injEq] at he; omega)); have KC := Lib.hid ((hg.block _ (heap_lt KC.out) (by have q2 := NB.out; simp only [ne_eq, Option.some.injEq]; omega)).trans KC.out); have d0 := cell_of_row _ _ 0 _ _ _ KC.out; have d1 := cell_of_row _ _ 1 _ _ _ KC.out; have d2 := cell_of_row _ _ 2 _ _ _ KC.out; have d3 := cell_of_row _ _ 3 _ _ _ KC.out; clear hg hh))
          | (go_at_call 68; ((with_reducible refine (has_any OC.out.lst s).mono ?_); rintro e wn ⟨r, rfl, hb⟩; have GC := Lib.hid (grown_trans GC.out (grown_below hb (some p))); have HC := Lib.hid (HC.out.below hb); have OC := Lib.hid (OC.out.below hb); have KC := Lib.hid ((hb.block _ (heap_lt KC.out)).trans KC.out); have d0 := cell_of_row _ _ 0 _ _ _ KC.out; have d1 := cell_of_row _ _ 1 _ _ _ KC.out; have d2 := cell_of_row _ _ 2 _ _ _ KC.out; have d3 := cell_of_row _ _ 3 _ _ _ KC.out; clear hb; cases r))
          | (at_builtin; refine wpList_app_p rfl _ _ elStr rfl rfl (OC.out.below (balloc _ _)) [.string s] rfl (shape_one ⟨s, rfl, HS.out⟩) (by simp [Value.oneCell']) _ 1 0 rfl (one_cell _ _ _) (by omega) (by omega) (by have := GC.out.size; simp; omega) ?_; intro v5 w5 hO hF; have hb := own_below GC.out.size (OC.out.below (balloc _ _)) hF; have GC := Lib.hid (grown_frame GC.out hb); have HC := Lib.hid (H.out.frame HC.out hb); obtain ⟨A5, c5, rfl⟩ := hO.form; have OC := Lib.hid hO; clear hO hF hb)
          | (go_at_call 63; ((with_reducible refine (is_now HC.out 5 _).mono ?_); rintro e wn ⟨r, rfl, hr, hb⟩; have GC := Lib.hid (grown_trans GC.out (grown_below hb (some p))); have HC := Lib.hid (HC.out.below hb); have OC := Lib.hid (OC.out.below hb); clear hb; have HR := Lib.hid hr; have c1 := cell_of_row _ _ 1 _ _ _ HC.out.blk; have g1 := frozen_of_row _ _ 1 _ _ HC.out.blk; have n5 : IntKind.i64.wrap ((an : Int) + 1) = (an : Int) + 1 := (by have q1 := HC.out.lt; have q2 := HC.out.len; rw [IntKind.wrap_i64]; omega); clear hr; cases r)))
      all_goals first
        | (go_ret; exact ⟨_, n + 1, rfl, OC.out, Adv.mk0 HC.out GC.out (by have := HL.out; omega) (fun e => absurd e HBF.out)⟩)
        | (go_ret; exact ⟨_, n + 1, rfl, OC.out, Adv.mk0 HC.out GC.out (by have := HL.out; omega) (fun _ => ⟨HB1.out (HP.out (by trivial)).1, by have := HL.out; omega⟩)⟩)
        | (exfalso; have q := HR.out; simp at q; exact HBF.out q.1)
        | (have q := HR.out
           simp only [true_and, forall_const] at q
           obtain ⟨t, ht, htk⟩ := q
           have hm := HC.out.more ht (by omega)
           have hp := (HP.out (by trivial))
           have hlt := HC.out.lt
           obtain ⟨q1, q2⟩ := HC.out.step GC.out hm
           go_roundg (ts.length - (an + 1) + 1)
           case measure => omega
           case rel => exact ⟨an + 1, 0, _, _, n + 1, q1, q2, by omega, fun _ => HB1.out hp.1, OC.out.grown (grown_set _ _ _) (fun g e he => by have q1 := (OC.out.block g e).1; have q2 := PW.out; simp only [Option.some.injEq] at he; omega), Nat.le_refl _⟩)
    · go_wp2_with (go_at_call 42; ((with_reducible refine (failed_is HC.out (r := true) (by simp [hbz])).mono ?_); rintro e wn ⟨rfl, hb⟩; have GC := Lib.hid (grown_trans GC.out (grown_below hb (some p))); have HC := Lib.hid (HC.out.below hb); have OC := Lib.hid (OC.out.below hb); have KC := Lib.hid ((hb.block _ (heap_lt KC.out)).trans KC.out); have d0 := cell_of_row _ _ 0 _ _ _ KC.out; have d1 := cell_of_row _ _ 1 _ _ _ KC.out; have d2 := cell_of_row _ _ 2 _ _ _ KC.out; have d3 := cell_of_row _ _ 3 _ _ _ KC.out; clear hb))
      go_ret
      exact ⟨_, 0, rfl, POwn.nil _ _ _ _, Adv.mk0 HC.out GC.out (by have := HL.out; omega) (fun e => absurd e hbz)⟩
end Go.Proofs.YtdncjhffniepbaaGreatDoor.Lx
/- (LxNeedsX)
  The parser's needs, exactly.
-/
namespace Go.Proofs.YtdncjhffniepbaaGreatDoor.Lx
open Go.RowKit

theorem PE.frame {w0 w w' : World} {p : Nat} {A : Option Addr} {c : Nat} {ts : List Tok} {st0 st : St} {S0 S : Value} (h0 : PE w0 p A c ts st0 S0) (h : PE w p A c ts st S) (hb : Below w0.heap.size w w') : PE w' p A c ts st S := by
  obtain ⟨a0, b0, x0, y0, h1, _⟩ := h0
  obtain ⟨a, b, x, y, h2, h3⟩ := h
  exact ⟨a, b, x, y, h1.frame h2 hb, h3⟩
theorem xown_frame {w0 w w' : World} {o : Obj} {e : TypeId} {k : Nat} {v : Value} {n : Nat} {xs : List Value} (hs : w0.heap.size ≤ w.heap.size) (ho : XOwn (w.alloc o) e k w0.heap.size v n xs) (hg : (w.alloc o).grownBy w' v.ownBlock) : Below w0.heap.size w w' :=
  ((Below.refl _ _).alloc hs o).grown hg (by simp; omega) (fun g e => (xown_block ho g e).1)
theorem takeF_ok {ts : List Tok} {kd most : Int} {a n : Nat} (h : takeF ts kd most a = .ok n) : n = a + 1 ∧ ∃ t, ts[a]? = some t ∧ t.kind = kd ∧ (t.text.length : Int) ≤ most := by
  unfold takeF at h
  split at h
  · cases h
  · rename_i t ht
    split at h
    · cases h
    · rename_i hk
      split at h
      · cases h
      · rename_i hm
        injection h with h
        exact ⟨h.symm, t, ht, by simpa using hk, by omega⟩
open Classical in
/-- The needs from a place on; what has been read so far. -/
noncomputable def needsF (ts : List Tok) : Nat → List ByteArray → Nat → Except Fau (List ByteArray × Nat)
  | 0, _, _ => .error (60, 0, 0)
  | f + 1, out, a =>
    match takeF ts 1 32 a with
    | .error e => .error e
    | .ok n =>
      match ts[a]? with
      | none => .error (60, 0, 0)
      | some t =>
        if 16 ≤ out.length then .error (1, t.line, t.col)
        else if bytesOf t.text ∈ out then .error (5, t.line, t.col)
        else if isF ts 5 ⟨#[44]⟩ n then needsF ts f (out ++ [bytesOf t.text]) (n + 1)
        else .ok (out ++ [bytesOf t.text], n)
set_option maxRecDepth 100000 in
theorem needs_ok {w : World} {p : Nat} {A : Option Addr} {c : Nat} {ts : List Tok} {a : Nat} {S : Value} (h : PE w p A c ts (.ok a) S) :
    Calls Tryz.prog 91 #[.pointer (some ⟨p, 0, none⟩)] w fun e w' => ∃ v n xs, e = .returned v ∧ XOwn w' 9 1 w.heap.size v n xs ∧ n ≤ 3000 ∧ PE w' p A c ts ((needsF ts (ts.length + 1) [] a).map Prod.snd) S ∧ w.grownBy w' (some p) ∧ (∀ l a2, needsF ts (ts.length + 1) [] a = .ok (l, a2) → xs = l.map Value.string) := by
  have H := Lib.hid h
  have PW := Lib.hid h.lt
  have hlen : ts.length ≤ 3000 := by obtain ⟨_, _, _, _, h1, _⟩ := h; exact h1.len
  generalize hR : needsF ts (ts.length + 1) [] a = R
  have HR0 := Lib.hid hR
  clear h hR
  go_enter Tryz.func91, Tryz.ntmps91
  go_wp2_with fail
  go_loopg [3] (ts.length + 1) (fun g' ov wr => ∃ (a1 n f : Nat) (out : List ByteArray), PE wr p A c ts (.ok a1) S ∧ w.grownBy wr (some p) ∧ n ≤ a1 ∧ XOwn wr 9 1 w.heap.size ov n (out.map Value.string) ∧ needsF ts (f + 1) out a1 = R ∧ ts.length - a1 ≤ f ∧ ts.length - a1 + 1 ≤ g')
  case atStart => exact ⟨a, 0, ts.length, [], H.out, grown_refl _ _, Nat.zero_le _, World.ownsRow_nil _ _ _ _, HR0.out, by omega, by omega⟩
  case round =>
    obtain ⟨a1, n, f, out, hpar, hgr, han, hown, hrr, hf, hg⟩ := hrel
    obtain ⟨wo, rfl⟩ : ∃ wo : World, wo = wr := ⟨_, rfl⟩
    have HC := Lib.hid hpar
    have GC := Lib.hid hgr
    have OC := Lib.hid hown
    have hon : out.length = n := by have := hown.1; simp only [List.length_map, Nat.mul_one] at this; exact this
    obtain ⟨A9, c9, rfl⟩ := xown_form hown
    have hal : a1 < ts.length := by obtain ⟨a', _, _, _, h1, rfl, _⟩ := hpar; exact h1.lt
    obtain ⟨f, rfl⟩ : ∃ f', f = f' + 1 := ⟨f - 1, by omega⟩
    have HN := Lib.hid hrr
    clear hpar hgr hown hrr
    go_wp2_with (go_at_call 65; ((with_reducible refine (take_pe HC.out 1 32 (by omega)).mono ?_); rintro e wn ⟨v, rfl, ⟨tk, s, tl, tc, rfl, hsn, hv⟩, hh, hg⟩; have GC := Lib.hid (grown_trans GC.out hg); have OC := Lib.hid (xown_grown OC.out hg (fun g e he => by have q1 := (xown_block OC.out g e).1; have q2 := PW.out; simp only [Option.some.injEq] at he; omega)); have NB := Lib.hid (show p < wn.heap.size from hh.lt); have hb := balloc wn (TokB tk s tl tc); have GC := Lib.hid (grown_trans GC.out (grown_below hb (some p))); have HC := Lib.hid (hh.below hb); have OC := Lib.hid (xown_below OC.out hb); have KC := Lib.hid (heap_alloc_new wn (TokB tk s tl tc)); have HS := Lib.hid hsn; have HV := Lib.hid (hv _ rfl); clear hb hg hh hsn hv; generalize hT : Except.bind (Except.ok a1) (takeF ts 1 32) = T at *; rcases T with f9 | a2))
    · skip
      go_wp2_with (go_at_call 42; ((with_reducible refine (failed_pe HC.out).mono ?_); rintro e wn ⟨r, rfl, hr, hb⟩; obtain rfl : r = true := hr.2 ⟨_, rfl⟩; clear hr; have GC := Lib.hid (grown_trans GC.out (grown_below hb (some p))); have HC := Lib.hid (HC.out.below hb); have OC := Lib.hid (xown_below OC.out hb); have KC := Lib.hid ((hb.block _ (heap_lt KC.out)).trans KC.out); have d0 := cell_of_row _ _ 0 _ _ _ KC.out; have d1 := cell_of_row _ _ 1 _ _ _ KC.out; have d2 := cell_of_row _ _ 2 _ _ _ KC.out; have d3 := cell_of_row _ _ 3 _ _ _ KC.out; clear hb))
      go_ret
      have e1 : takeF ts 1 32 a1 = .error f9 := hT
      have hn := HN.out
      unfold needsF at hn
      rw [e1] at hn
      subst hn
      exact ⟨_, 0, [], rfl, World.ownsRow_nil _ _ _ _, by omega, HC.out, GC.out, fun l a2 e => by cases e⟩
    · have e1 : takeF ts 1 32 a1 = .ok a2 := hT
      obtain ⟨t, ht, q1, q2, q3, q4⟩ := HV.out
      have hn := HN.out
      unfold needsF at hn
      rw [e1] at hn
      simp only [ht] at hn
      rw [← q2, ← q3, ← q4] at hn
      have hal2 := (takeF_ok e1).1
      have HN2 := Lib.hid hn
      clear hn hT e1 q1 q2 q3 q4 HV
      go_wp2_with (first
          | (go_at_call 42; ((with_reducible refine (failed_pe HC.out).mono ?_); rintro e wn ⟨r, rfl, hr, hb⟩; obtain rfl : r = false := (by cases r; rfl; obtain ⟨f, e⟩ := hr.1 rfl; cases e); clear hr; have GC := Lib.hid (grown_trans GC.out (grown_below hb (some p))); have HC := Lib.hid (HC.out.below hb); have OC := Lib.hid (xown_below OC.out hb); have KC := Lib.hid ((hb.block _ (heap_lt KC.out)).trans KC.out); have d0 := cell_of_row _ _ 0 _ _ _ KC.out; have d1 := cell_of_row _ _ 1 _ _ _ KC.out; have d2 := cell_of_row _ _ 2 _ _ _ KC.out; have d3 := cell_of_row _ _ 3 _ _ _ KC.out; clear hb))
          | (go_at_call 64; ((with_reducible refine (fail_pe HC.out 1 (by omega) tk tl tc s).mono ?_); rintro e wn ⟨rfl, hh, hg⟩; have GC := Lib.hid (grown_trans GC.out hg); have HC := Lib.hid hh; have OC := Lib.hid (xown_grown OC.out hg (fun g e he => by have q1 := (xown_block OC.out g e).1; have q2 := PW.out; simp only [Option.some.injEq] at he; omega)); have KC := Lib.hid ((hg.block _ (heap_lt KC.out) (by have q2 := NB.out; simp only [ne_eq, Option.some.injEq]; omega)).trans KC.out); have d0 := cell_of_row _ _ 0 _ _ _ KC.out; have d1 := cell_of_row _ _ 1 _ _ _ KC.out; have d2 := cell_of_row _ _ 2 _ _ _ KC.out; have d3 := cell_of_row _ _ 3 _ _ _ KC.out; clear hg hh))
          | (go_at_call 64; ((with_reducible refine (fail_pe HC.out 5 (by omega) tk tl tc s).mono ?_); rintro e wn ⟨rfl, hh, hg⟩; have GC := Lib.hid (grown_trans GC.out hg); have HC := Lib.hid hh; have OC := Lib.hid (xown_grown OC.out hg (fun g e he => by have q1 := (xown_block OC.out g e).1; have q2 := PW.out; simp only [Option.some.injEq] at he; omega)); have KC := Lib.hid ((hg.block _ (heap_lt KC.out) (by have q2 := NB.out; simp only [ne_eq, Option.some.injEq]; omega)).trans KC.out); have d0 := cell_of_row _ _ 0 _ _ _ KC.out; have d1 := cell_of_row _ _ 1 _ _ _ KC.out; have d2 := cell_of_row _ _ 2 _ _ _ KC.out; have d3 := cell_of_row _ _ 3 _ _ _ KC.out; clear hg hh))
          | (go_at_call 68; ((with_reducible refine (has_ex (xown_lst OC.out) s).mono ?_); rintro e wn ⟨r, rfl, hr, hb⟩; have HM := Lib.hid hr; clear hr; have GC := Lib.hid (grown_trans GC.out (grown_below hb (some p))); have HC := Lib.hid (HC.out.below hb); have OC := Lib.hid (xown_below OC.out hb); have KC := Lib.hid ((hb.block _ (heap_lt KC.out)).trans KC.out); have d0 := cell_of_row _ _ 0 _ _ _ KC.out; have d1 := cell_of_row _ _ 1 _ _ _ KC.out; have d2 := cell_of_row _ _ 2 _ _ _ KC.out; have d3 := cell_of_row _ _ 3 _ _ _ KC.out; clear hb; cases r))
          | (at_builtin; refine wpList_app_x rfl _ _ elStr rfl rfl (xown_below OC.out (balloc _ _)) [.string s] rfl (by simp [Value.oneCell']) _ 1 0 rfl (one_cell _ _ _) (by omega) (by omega) (by have := GC.out.size; simp; omega) ?_; intro v5 w5 hO hF; have hb := xown_frame GC.out.size (xown_below OC.out (balloc _ _)) hF; have GC := Lib.hid (grown_frame GC.out hb); have HC := Lib.hid (H.out.frame HC.out hb); obtain ⟨A5, c5, rfl⟩ := xown_form hO; have OC := Lib.hid hO; clear hO hF hb)
          | (go_at_call 63; ((with_reducible refine (is_pe HC.out 5 _).mono ?_); rintro e wn ⟨r, rfl, hr, hb⟩; have HR := Lib.hid hr; clear hr; have GC := Lib.hid (grown_trans GC.out (grown_below hb (some p))); have HC := Lib.hid (HC.out.below hb); have OC := Lib.hid (xown_below OC.out hb); clear hb; obtain ⟨a9, b9, x9, y9, hp9, hs9⟩ := HC.out; have HP9 := Lib.hid hp9; have HS9 := Lib.hid hs9; have c1 := cell_of_row _ _ 1 _ _ _ hp9.blk; have g1 := frozen_of_row _ _ 1 _ _ hp9.blk; have n5 : IntKind.i64.wrap ((a9 : Int) + 1) = (a9 : Int) + 1 := (by have q1 := hp9.lt; have q2 := hp9.len; rw [IntKind.wrap_i64]; omega); clear hp9 hs9; cases r)))
      all_goals have hn := HN2.out
      all_goals first
        | (go_ret; rw [if_pos (by omega)] at hn; subst hn; exact ⟨_, n + 1, _, rfl, OC.out, by omega, HC.out, GC.out, fun l a2 e => by cases e⟩)
        | (go_ret; rw [if_neg (by omega), if_pos (HM.out.1 trivial)] at hn; subst hn; exact ⟨_, n + 1, _, rfl, OC.out, by omega, HC.out, GC.out, fun l a2 e => by cases e⟩)
        | (go_ret; rw [if_neg (by omega), if_neg (by have q := HM.out; simpa using q), if_neg (fun q => by have q9 := HR.out; simp at q9; exact q9 q)] at hn; subst hn; exact ⟨_, n + 1, _, rfl, OC.out, by omega, HC.out, GC.out, fun l a2 e => by injection e with e; injection e with e _; rw [← e, List.map_append]; rfl⟩)
        | (exfalso; obtain ⟨a8, e, _⟩ := HR.out.1 trivial; simp [Except.bind] at e; done)
        | (obtain ⟨a8, e, hisf⟩ := HR.out.1 trivial
           injection e with e
           subst e
           obtain ⟨rfl, rfl, rfl, rfl⟩ := HS9.out
           rw [if_neg (by omega), if_neg (by have q := HM.out; simpa using q), if_pos hisf] at hn
           obtain ⟨t5, ht5, hk5, _⟩ := hisf
           have hm := HP9.out.more ht5 (by omega)
           obtain ⟨q1, q2⟩ := HP9.out.step GC.out hm
           go_roundg (ts.length - (a9 + 1) + 1)
           case measure => omega
           case rel => exact ⟨a9 + 1, n + 1, f, out ++ [s], ⟨_, _, _, _, q1, rfl, rfl, rfl, rfl⟩, q2, by omega, by rw [List.map_append]; exact xown_grown OC.out (grown_set _ _ _) (fun g e he => by have q1 := (xown_block OC.out g e).1; have q2 := PW.out; simp only [Option.some.injEq] at he; omega), hn, by omega, Nat.le_refl _⟩)
end Go.Proofs.YtdncjhffniepbaaGreatDoor.Lx
/- (LxLadder)
  The parser's ladder.
-/
namespace Go.Proofs.YtdncjhffniepbaaGreatDoor.Lx
open Go.RowKit

theorem Tryz.info115 : (Tryz.prog.info? 115).map (fun i => (i.zero, i.size, i.bytes)) = some (some (.agg #[.int .i64 0, .int .u64 0]), 2, 16) := by kernel_rfl
theorem elRung : PElt 71 115 (.agg #[.int .i64 0, .int .u64 0]) [isI64, isU64] 16 := ⟨Tryz.underlying71, by obtain ⟨i, h1, h2, h3, h4⟩ := info_parts Tryz.info115; exact ⟨i, h1, h2, h3, h4⟩, rfl, by decide⟩
theorem two_cell (w : World) (u v : Value) (t : TypeId) : ∀ j z, [u, v][j]? = some z → (w.alloc (.cells #[u, v] t)).cell? ⟨w.heap.size, 0 + j, none⟩ = some z := by
  intro j z hj
  rw [cell_of_row _ _ _ _ _ _ (heap_alloc_new w _), Nat.zero_add]
  simpa using hj
theorem shape_two {q0 q1 : Value → Prop} {u v : Value} (h : q0 u) (h' : q1 v) : ∀ (j : Nat) (q : Value → Prop), [q0, q1][j]? = some q → ∃ z, [u, v][j]? = some z ∧ q z := by
  intro j q hq
  match j, hq with
  | 0, hq => simp at hq; subst hq; exact ⟨u, rfl, h⟩
  | 1, hq => simp at hq; subst hq; exact ⟨v, rfl, h'⟩
  | j + 2, hq => simp at hq

set_option maxRecDepth 100000 in
theorem ladder_any {w : World} {p : Nat} {A : Option Addr} {c : Nat} {ts : List Tok} {a : Nat} {b x y : Int} {S : Value} (h : Par w p A c ts a b x y S) :
    Calls Tryz.prog 95 #[.pointer (some ⟨p, 0, none⟩)] w fun e w' => ∃ v n, e = .returned v ∧ POwn w' 115 [isI64, isU64] w.heap.size v n ∧ Adv w p A c ts a b S 0 w' := by
  have H := Lib.hid h
  have PW := Lib.hid (heap_lt h.blk)
  clear h
  go_enter Tryz.func95, Tryz.ntmps95
  go_wp2_with fail
  go_loopg [3] (ts.length + 1) (fun g' ov wr => ∃ (a1 : Nat) (b1 x1 y1 : Int) (n : Nat), Par wr p A c ts a1 b1 x1 y1 S ∧ w.grownBy wr (some p) ∧ a + n ≤ a1 ∧ (b1 = 0 → b = 0) ∧ POwn wr 115 [isI64, isU64] w.heap.size ov n ∧ ts.length - a1 + 1 ≤ g')
  case atStart => exact ⟨a, b, x, y, 0, H.out, grown_refl _ _, Nat.le_refl _, id, POwn.nil _ _ _ _, by omega⟩
  case round =>
    obtain ⟨a1, b1, x1, y1, n, hpar, hgr, han, hb1, hown, hg⟩ := hrel
    obtain ⟨wo, rfl⟩ : ∃ wo : World, wo = wr := ⟨_, rfl⟩
    have HC := Lib.hid hpar
    have GC := Lib.hid hgr
    have OC := Lib.hid hown
    obtain ⟨A9, c9, rfl⟩ := hown.form
    have HB1 := Lib.hid hb1
    have hn : n ≤ 3000 := by have := hpar.len; have := hpar.lt; omega
    clear hpar hgr hown hb1
    go_wp2_with (go_at_call 65; ((with_reducible refine (take_now HC.out 1 8192 (by omega)).mono ?_); rintro e wn ⟨tk, s, tl, tc, an, bn, xn, yn, rfl, hsn, hh, hg, hln, hpn⟩; have GC := Lib.hid (grown_trans GC.out hg); have HC := Lib.hid hh; have OC := Lib.hid (OC.out.grown hg (fun g e he => by have q1 := (OC.out.block g e).1; have q2 := PW.out; simp only [Option.some.injEq] at he; omega)); have NB := Lib.hid (show p < wn.heap.size from heap_lt hh.blk); have hb := balloc wn (TokB tk s tl tc); have GC := Lib.hid (grown_trans GC.out (grown_below hb (some p))); have HC := Lib.hid (HC.out.below hb); have OC := Lib.hid (OC.out.below hb); have KC := Lib.hid (heap_alloc_new wn (TokB tk s tl tc)); have HL := Lib.hid hln; have HP := Lib.hid hpn; have HS := Lib.hid hsn; clear hb hg hh hln hpn hsn; by_cases hbz : bn = 0))
    · subst hbz
      go_wp2_with (first
          | (go_at_call 42; ((with_reducible refine (failed_is HC.out (r := false) (by simp)).mono ?_); rintro e wn ⟨rfl, hb⟩; have GC := Lib.hid (grown_trans GC.out (grown_below hb (some p))); have HC := Lib.hid (HC.out.below hb); have OC := Lib.hid (OC.out.below hb); have KC := Lib.hid ((hb.block _ (heap_lt KC.out)).trans KC.out); have d0 := cell_of_row _ _ 0 _ _ _ KC.out; have d1 := cell_of_row _ _ 1 _ _ _ KC.out; have d2 := cell_of_row _ _ 2 _ _ _ KC.out; have d3 := cell_of_row _ _ 3 _ _ _ KC.out; clear hb))
          | (go_at_call 64; ((with_reducible refine (fail_now HC.out 1 (by omega) tk tl tc s).mono ?_); rintro e wn ⟨rfl, bf, xf, yf, hbf, hh, hg⟩; have HBF := Lib.hid hbf; clear hbf; have GC := Lib.hid (grown_trans GC.out hg); have HC := Lib.hid hh; have OC := Lib.hid (OC.out.grown hg (fun g e he => by have q1 := (OC.out.block g e).1; have q2 := PW.out; simp only [Option.some.injEq] at he; omega)); have KC := Lib.hid ((hg.block _ (heap_lt KC.out) (by have q2 := NB.out; simp only [ne_eq, Option.some.injEq]; omega)).trans KC.out); have d0 := cell_of_row _ _ 0 _ _ _ KC.out; have d1 := cell_of_row _ _ 1 _ _ _ KC.out; have d2 := cell_of_row _ _ 2 _ _ _ KC.out; have d3 := cell_of_row _ _ 3 _ _ _ KC.out; clear hg hh))
          | (go_at_call 64; ((with_reducible refine (fail_now HC.out 4 (by omega) tk tl tc s).mono ?_); rintro e wn ⟨rfl, bf, xf, yf, hbf, hh, hg⟩; have HBF := Lib.hid hbf; clear hbf; have GC := Lib.hid (grown_trans GC.out hg); have HC := Lib.hid hh; have OC := Lib.hid (OC.out.grown hg (fun g e he => by have q1 := (OC.out.block g e).1; have q2 := PW.out; simp only [Option.some.injEq] at he; omega)); have KC := Lib.hid ((hg.block _ (heap_lt KC.out) (by have q2 := NB.out; simp only [ne_eq, Option.some.injEq]; omega)).trans KC.out); have d0 := cell_of_row _ _ 0 _ _ _ KC.out; have d1 := cell_of_row _ _ 1 _ _ _ KC.out; have d2 := cell_of_row _ _ 2 _ _ _ KC.out; have d3 := cell_of_row _ _ 3 _ _ _ KC.out; clear hg hh))
          | (go_at_call 29; ((with_reducible refine (signal_any s _).mono ?_); rintro e wn ⟨sg, rfl, hs0, hs1, hb⟩; have GC := Lib.hid (grown_trans GC.out (grown_below hb (some p))); have HC := Lib.hid (HC.out.below hb); have OC := Lib.hid (OC.out.below hb); have KC := Lib.hid ((hb.block _ (heap_lt KC.out)).trans KC.out); have d0 := cell_of_row _ _ 0 _ _ _ KC.out; have d1 := cell_of_row _ _ 1 _ _ _ KC.out; have d2 := cell_of_row _ _ 2 _ _ _ KC.out; have d3 := cell_of_row _ _ 3 _ _ _ KC.out; clear hb; clear hs0 hs1))
          | (go_at_call 93; ((with_reducible refine (number_any HC.out).mono ?_); rintro e wn ⟨nr, rfl, hn0, hn1, aq, bq, xq, yq, hh, hg, hlq, hpq⟩; have HN0 := Lib.hid hn0; have HN1 := Lib.hid hn1; have HLQ := Lib.hid hlq; have HPQ := Lib.hid hpq; clear hn0 hn1 hlq hpq; have GC := Lib.hid (grown_trans GC.out hg); have HC := Lib.hid hh; have OC := Lib.hid (OC.out.grown hg (fun g e he => by have q1 := (OC.out.block g e).1; have q2 := PW.out; simp only [Option.some.injEq] at he; omega)); have KC := Lib.hid ((hg.block _ (heap_lt KC.out) (by have q2 := NB.out; simp only [ne_eq, Option.some.injEq]; omega)).trans KC.out); have d0 := cell_of_row _ _ 0 _ _ _ KC.out; have d1 := cell_of_row _ _ 1 _ _ _ KC.out; have d2 := cell_of_row _ _ 2 _ _ _ KC.out; have d3 := cell_of_row _ _ 3 _ _ _ KC.out; clear hg hh))
          | (at_builtin; refine wpList_app_p rfl _ _ elRung rfl rfl (OC.out.below (balloc _ _)) [.int .i64 sg, .int .u64 nr] rfl (shape_two ⟨sg, rfl⟩ ⟨nr, rfl, HN0.out, HN1.out⟩) (by simp [Value.oneCell']) _ 1 0 rfl (two_cell _ _ _ _) (by omega) (by omega) (by have := GC.out.size; simp; omega) ?_; intro v5 w5 hO hF; have hb := own_below GC.out.size (OC.out.below (balloc _ _)) hF; have GC := Lib.hid (grown_frame GC.out hb); have HC := Lib.hid (H.out.frame HC.out hb); obtain ⟨A5, c5, rfl⟩ := hO.form; have OC := Lib.hid hO; clear hO hF hb)
          | (go_at_call 63; ((with_reducible refine (is_now HC.out 5 _).mono ?_); rintro e wn ⟨r, rfl, hr, hb⟩; have GC := Lib.hid (grown_trans GC.out (grown_below hb (some p))); have HC := Lib.hid (HC.out.below hb); have OC := Lib.hid (OC.out.below hb); clear hb; have HR := Lib.hid hr; have c1 := cell_of_row _ _ 1 _ _ _ HC.out.blk; have g1 := frozen_of_row _ _ 1 _ _ HC.out.blk; have n5 : IntKind.i64.wrap ((aq : Int) + 1) = (aq : Int) + 1 := (by have q1 := HC.out.lt; have q2 := HC.out.len; rw [IntKind.wrap_i64]; omega); clear hr; cases r)))
      all_goals first
        | (go_ret; exact ⟨_, n + 1, rfl, OC.out, Adv.mk0 HC.out GC.out (by have := HL.out; have := HLQ.out; omega) (fun e => absurd (HPQ.out e).1 HBF.out)⟩)
        | (go_ret; exact ⟨_, n + 1, rfl, OC.out, Adv.mk0 HC.out GC.out (by have := HL.out; have := HLQ.out; omega) (fun _ => ⟨HB1.out (HP.out (by trivial)).1, by have := HL.out; have := HLQ.out; omega⟩)⟩)
        | (exfalso; have q := HR.out; simp at q; exact HBF.out (HPQ.out q.1).1)
        | (have q := HR.out
           simp only [forall_const] at q
           obtain ⟨rfl, t, ht, htk⟩ := q
           have hm := HC.out.more ht (by omega)
           have hp := (HP.out (by trivial))
           have hp2 := HLQ.out
           have hlt := HC.out.lt
           obtain ⟨q1, q2⟩ := HC.out.step GC.out hm
           go_roundg (ts.length - (aq + 1) + 1)
           case measure => omega
           case rel => exact ⟨aq + 1, 0, _, _, n + 1, q1, q2, by omega, fun _ => HB1.out hp.1, OC.out.grown (grown_set _ _ _) (fun g e he => by have q1 := (OC.out.block g e).1; have q2 := PW.out; simp only [Option.some.injEq] at he; omega), Nat.le_refl _⟩)
    · go_wp2_with (go_at_call 42; ((with_reducible refine (failed_is HC.out (r := true) (by simp [hbz])).mono ?_); rintro e wn ⟨rfl, hb⟩; have GC := Lib.hid (grown_trans GC.out (grown_below hb (some p))); have HC := Lib.hid (HC.out.below hb); have OC := Lib.hid (OC.out.below hb); have KC := Lib.hid ((hb.block _ (heap_lt KC.out)).trans KC.out); have d0 := cell_of_row _ _ 0 _ _ _ KC.out; have d1 := cell_of_row _ _ 1 _ _ _ KC.out; have d2 := cell_of_row _ _ 2 _ _ _ KC.out; have d3 := cell_of_row _ _ 3 _ _ _ KC.out; clear hb))
      go_ret
      exact ⟨_, 0, rfl, POwn.nil _ _ _ _, Adv.mk0 HC.out GC.out (by have := HL.out; omega) (fun e => absurd e hbz)⟩
end Go.Proofs.YtdncjhffniepbaaGreatDoor.Lx
/- (LxLadderX)
  The parser's ladder, exactly.
-/
namespace Go.Proofs.YtdncjhffniepbaaGreatDoor.Lx
open Go.RowKit

/-- Rungs as cells. -/
def rungCells (l : List (Int × Int)) : List Value := l.flatMap fun r => [.int .i64 r.1, .int .u64 r.2]
theorem rungCells_length (l : List (Int × Int)) : (rungCells l).length = l.length * 2 := by
  induction l with
  | nil => rfl
  | cons r l ih => simp only [rungCells, List.flatMap_cons, List.length_append, List.length_cons, List.length_nil] at *; omega
theorem rungCells_snoc (l : List (Int × Int)) (r : Int × Int) : rungCells (l ++ [r]) = rungCells l ++ [.int .i64 r.1, .int .u64 r.2] := by simp [rungCells]
open Classical in
/-- The rungs from a place on; what has been read so far. -/
noncomputable def ladderF (ts : List Tok) : Nat → List (Int × Int) → Nat → Except Fau (List (Int × Int) × Nat)
  | 0, _, _ => .error (60, 0, 0)
  | f + 1, out, a =>
    match takeF ts 1 8192 a with
    | .error e => .error e
    | .ok n =>
      match ts[a]? with
      | none => .error (60, 0, 0)
      | some t =>
        if 5 ≤ out.length then .error (1, t.line, t.col)
        else if sigF (bytesOf t.text) = 0 then .error (4, t.line, t.col)
        else match takeF ts 2 18 n with
          | .error e => .error e
          | .ok n2 =>
            if isF ts 5 ⟨#[44]⟩ n2 then ladderF ts f (out ++ [(sigF (bytesOf t.text), numF (ch (txtAt ts n)))]) (n2 + 1)
            else .ok (out ++ [(sigF (bytesOf t.text), numF (ch (txtAt ts n)))], n2)
set_option maxRecDepth 100000 in
theorem ladder_ok {w : World} {p : Nat} {A : Option Addr} {c : Nat} {ts : List Tok} {a : Nat} {S : Value} (h : PE w p A c ts (.ok a) S) :
    Calls Tryz.prog 95 #[.pointer (some ⟨p, 0, none⟩)] w fun e w' => ∃ v n xs, e = .returned v ∧ XOwn w' 115 2 w.heap.size v n xs ∧ n ≤ 3000 ∧ PE w' p A c ts ((ladderF ts (ts.length + 1) [] a).map Prod.snd) S ∧ w.grownBy w' (some p) ∧ (∀ l a2, ladderF ts (ts.length + 1) [] a = .ok (l, a2) → xs = rungCells l) := by
  have H := Lib.hid h
  have PW := Lib.hid h.lt
  have hlen : ts.length ≤ 3000 := by obtain ⟨_, _, _, _, h1, _⟩ := h; exact h1.len
  generalize hR : ladderF ts (ts.length + 1) [] a = R
  have HR0 := Lib.hid hR
  clear h hR
  go_enter Tryz.func95, Tryz.ntmps95
  go_wp2_with fail
  go_loopg [3] (ts.length + 1) (fun g' ov wr => ∃ (a1 n f : Nat) (out : List (Int × Int)), PE wr p A c ts (.ok a1) S ∧ w.grownBy wr (some p) ∧ n ≤ a1 ∧ XOwn wr 115 2 w.heap.size ov n (rungCells out) ∧ ladderF ts (f + 1) out a1 = R ∧ ts.length - a1 ≤ f ∧ ts.length - a1 + 1 ≤ g')
  case atStart => exact ⟨a, 0, ts.length, [], H.out, grown_refl _ _, Nat.zero_le _, World.ownsRow_nil _ _ _ _, HR0.out, by omega, by omega⟩
  case round =>
    obtain ⟨a1, n, f, out, hpar, hgr, han, hown, hrr, hf, hg⟩ := hrel
    obtain ⟨wo, rfl⟩ : ∃ wo : World, wo = wr := ⟨_, rfl⟩
    have HC := Lib.hid hpar
    have GC := Lib.hid hgr
    have OC := Lib.hid hown
    have hon : out.length = n := by have := hown.1; rw [rungCells_length] at this; omega
    obtain ⟨A9, c9, rfl⟩ := xown_form hown
    have hal : a1 < ts.length := by obtain ⟨a', _, _, _, h1, rfl, _⟩ := hpar; exact h1.lt
    obtain ⟨f, rfl⟩ : ∃ f', f = f' + 1 := ⟨f - 1, by omega⟩
    have HN := Lib.hid hrr
    clear hpar hgr hown hrr
    go_wp2_with (go_at_call 65; ((with_reducible refine (take_pe HC.out 1 8192 (by omega)).mono ?_); rintro e wn ⟨v, rfl, ⟨tk, s, tl, tc, rfl, hsn, hv⟩, hh, hg⟩; have GC := Lib.hid (grown_trans GC.out hg); have OC := Lib.hid (xown_grown OC.out hg (fun g e he => by have q1 := (xown_block OC.out g e).1; have q2 := PW.out; simp only [Option.some.injEq] at he; omega)); have NB := Lib.hid (show p < wn.heap.size from hh.lt); have hb := balloc wn (TokB tk s tl tc); have GC := Lib.hid (grown_trans GC.out (grown_below hb (some p))); have HC := Lib.hid (hh.below hb); have OC := Lib.hid (xown_below OC.out hb); have KC := Lib.hid (heap_alloc_new wn (TokB tk s tl tc)); have HS := Lib.hid hsn; have HV := Lib.hid (hv _ rfl); clear hb hg hh hsn hv; generalize hT : Except.bind (Except.ok a1) (takeF ts 1 8192) = T at *; rcases T with f9 | a2))
    · skip
      go_wp2_with (go_at_call 42; ((with_reducible refine (failed_pe HC.out).mono ?_); rintro e wn ⟨r, rfl, hr, hb⟩; obtain rfl : r = true := hr.2 ⟨_, rfl⟩; clear hr; have GC := Lib.hid (grown_trans GC.out (grown_below hb (some p))); have HC := Lib.hid (HC.out.below hb); have OC := Lib.hid (xown_below OC.out hb); have KC := Lib.hid ((hb.block _ (heap_lt KC.out)).trans KC.out); have d0 := cell_of_row _ _ 0 _ _ _ KC.out; have d1 := cell_of_row _ _ 1 _ _ _ KC.out; have d2 := cell_of_row _ _ 2 _ _ _ KC.out; have d3 := cell_of_row _ _ 3 _ _ _ KC.out; clear hb))
      go_ret
      have e1 : takeF ts 1 8192 a1 = .error f9 := hT
      have hn := HN.out
      unfold ladderF at hn
      rw [e1] at hn
      subst hn
      exact ⟨_, 0, [], rfl, World.ownsRow_nil _ _ _ _, by omega, HC.out, GC.out, fun l a2 e => by cases e⟩
    · have e1 : takeF ts 1 8192 a1 = .ok a2 := hT
      obtain ⟨t, ht, q1, q2, q3, q4⟩ := HV.out
      have hn := HN.out
      unfold ladderF at hn
      rw [e1] at hn
      simp only [ht] at hn
      rw [← q2, ← q3, ← q4] at hn
      have hal2 := (takeF_ok e1).1
      have HN2 := Lib.hid hn
      clear hn hT e1 q1 q2 q3 q4 HV
      go_wp2_with (first
          | (go_at_call 42; ((with_reducible refine (failed_pe HC.out).mono ?_); rintro e wn ⟨r, rfl, hr, hb⟩; obtain rfl : r = false := (by cases r; rfl; obtain ⟨f, e⟩ := hr.1 rfl; cases e); clear hr; have GC := Lib.hid (grown_trans GC.out (grown_below hb (some p))); have HC := Lib.hid (HC.out.below hb); have OC := Lib.hid (xown_below OC.out hb); have KC := Lib.hid ((hb.block _ (heap_lt KC.out)).trans KC.out); have d0 := cell_of_row _ _ 0 _ _ _ KC.out; have d1 := cell_of_row _ _ 1 _ _ _ KC.out; have d2 := cell_of_row _ _ 2 _ _ _ KC.out; have d3 := cell_of_row _ _ 3 _ _ _ KC.out; clear hb))
          | (go_at_call 64; ((with_reducible refine (fail_pe HC.out 1 (by omega) tk tl tc s).mono ?_); rintro e wn ⟨rfl, hh, hg⟩; have GC := Lib.hid (grown_trans GC.out hg); have HC := Lib.hid hh; have OC := Lib.hid (xown_grown OC.out hg (fun g e he => by have q1 := (xown_block OC.out g e).1; have q2 := PW.out; simp only [Option.some.injEq] at he; omega)); have KC := Lib.hid ((hg.block _ (heap_lt KC.out) (by have q2 := NB.out; simp only [ne_eq, Option.some.injEq]; omega)).trans KC.out); have d0 := cell_of_row _ _ 0 _ _ _ KC.out; have d1 := cell_of_row _ _ 1 _ _ _ KC.out; have d2 := cell_of_row _ _ 2 _ _ _ KC.out; have d3 := cell_of_row _ _ 3 _ _ _ KC.out; clear hg hh))
          | (go_at_call 64; ((with_reducible refine (fail_pe HC.out 4 (by omega) tk tl tc s).mono ?_); rintro e wn ⟨rfl, hh, hg⟩; have GC := Lib.hid (grown_trans GC.out hg); have HC := Lib.hid hh; have OC := Lib.hid (xown_grown OC.out hg (fun g e he => by have q1 := (xown_block OC.out g e).1; have q2 := PW.out; simp only [Option.some.injEq] at he; omega)); have KC := Lib.hid ((hg.block _ (heap_lt KC.out) (by have q2 := NB.out; simp only [ne_eq, Option.some.injEq]; omega)).trans KC.out); have d0 := cell_of_row _ _ 0 _ _ _ KC.out; have d1 := cell_of_row _ _ 1 _ _ _ KC.out; have d2 := cell_of_row _ _ 2 _ _ _ KC.out; have d3 := cell_of_row _ _ 3 _ _ _ KC.out; clear hg hh))
          | (go_at_call 29; ((with_reducible refine (signal_ex s _).mono ?_); rintro e wn ⟨rfl, hb⟩; have GC := Lib.hid (grown_trans GC.out (grown_below hb (some p))); have HC := Lib.hid (HC.out.below hb); have OC := Lib.hid (xown_below OC.out hb); have KC := Lib.hid ((hb.block _ (heap_lt KC.out)).trans KC.out); have d0 := cell_of_row _ _ 0 _ _ _ KC.out; have d1 := cell_of_row _ _ 1 _ _ _ KC.out; have d2 := cell_of_row _ _ 2 _ _ _ KC.out; have d3 := cell_of_row _ _ 3 _ _ _ KC.out; clear hb))
          | (go_at_call 93; ((with_reducible refine (number_pe HC.out).mono ?_); rintro e wn ⟨nr, rfl, hnr, hnv, hh, hg⟩; have HNR := Lib.hid hnr; have HNV := Lib.hid hnv; clear hnr hnv; have GC := Lib.hid (grown_trans GC.out hg); have HC := Lib.hid hh; have OC := Lib.hid (xown_grown OC.out hg (fun g e he => by have q1 := (xown_block OC.out g e).1; have q2 := PW.out; simp only [Option.some.injEq] at he; omega)); have KC := Lib.hid ((hg.block _ (heap_lt KC.out) (by have q2 := NB.out; simp only [ne_eq, Option.some.injEq]; omega)).trans KC.out); have d0 := cell_of_row _ _ 0 _ _ _ KC.out; have d1 := cell_of_row _ _ 1 _ _ _ KC.out; have d2 := cell_of_row _ _ 2 _ _ _ KC.out; have d3 := cell_of_row _ _ 3 _ _ _ KC.out; clear hg hh))
          | (at_builtin; refine wpList_app_x rfl _ _ elRung rfl rfl (xown_below OC.out (balloc _ _)) [.int .i64 (sigF s), .int .u64 nr] rfl (by simp [Value.oneCell']) _ 1 0 rfl (two_cell _ _ _ _) (by omega) (by omega) (by have := GC.out.size; simp; omega) ?_; intro v5 w5 hO hF; have hb := xown_frame GC.out.size (xown_below OC.out (balloc _ _)) hF; have GC := Lib.hid (grown_frame GC.out hb); have HC := Lib.hid (H.out.frame HC.out hb); obtain ⟨A5, c5, rfl⟩ := xown_form hO; have OC := Lib.hid hO; clear hO hF hb)
          | (go_at_call 63; ((with_reducible refine (is_pe HC.out 5 _).mono ?_); rintro e wn ⟨r, rfl, hr, hb⟩; have HR := Lib.hid hr; clear hr; have GC := Lib.hid (grown_trans GC.out (grown_below hb (some p))); have HC := Lib.hid (HC.out.below hb); have OC := Lib.hid (xown_below OC.out hb); clear hb; obtain ⟨a9, b9, x9, y9, hp9, hs9⟩ := HC.out; have HP9 := Lib.hid hp9; have HS9 := Lib.hid hs9; have c1 := cell_of_row _ _ 1 _ _ _ hp9.blk; have g1 := frozen_of_row _ _ 1 _ _ hp9.blk; have n5 : IntKind.i64.wrap ((a9 : Int) + 1) = (a9 : Int) + 1 := (by have q1 := hp9.lt; have q2 := hp9.len; rw [IntKind.wrap_i64]; omega); clear hp9 hs9; cases r)))
      all_goals have hn := HN2.out
      all_goals first
        | (go_ret; rw [if_pos (by omega)] at hn; subst hn; exact ⟨_, n + 1, _, rfl, OC.out, by omega, HC.out, GC.out, fun l a2 e => by cases e⟩)
        | (go_ret; rw [if_neg (by omega), if_pos (eq_of_beq (by assumption))] at hn; subst hn; exact ⟨_, n + 1, _, rfl, OC.out, by omega, HC.out, GC.out, fun l a2 e => by cases e⟩)
        | (exfalso; obtain ⟨a8, e, _⟩ := HR.out.1 trivial; simp [Except.bind] at e; done)
        | (obtain ⟨a8, e, hisf⟩ := HR.out.1 trivial
           have hs := HS9.out
           rw [e] at hs
           obtain ⟨rfl, rfl, rfl, rfl⟩ := hs
           have e2 : takeF ts 2 18 a2 = .ok a9 := e
           have ha9 := (takeF_ok e2).1
           rw [if_neg (by omega), if_neg (beq_eq_false_iff_ne.1 (by assumption)), e2] at hn
           simp only at hn
           rw [if_pos hisf, ← HNV.out a2 a9 rfl e2] at hn
           obtain ⟨t5, ht5, hk5, _⟩ := hisf
           have hm := HP9.out.more ht5 (by omega)
           obtain ⟨q1, q2⟩ := HP9.out.step GC.out hm
           go_roundg (ts.length - (a9 + 1) + 1)
           case measure => omega
           case rel => exact ⟨a9 + 1, n + 1, f, out ++ [(sigF s, nr)], ⟨_, _, _, _, q1, rfl, rfl, rfl, rfl⟩, q2, by omega, by rw [rungCells_snoc]; exact xown_grown OC.out (grown_set _ _ _) (fun g e he => by have q1 := (xown_block OC.out g e).1; have q2 := PW.out; simp only [Option.some.injEq] at he; omega), hn, by omega, Nat.le_refl _⟩)
        | (go_ret; rw [if_neg (by omega), if_neg (beq_eq_false_iff_ne.1 (by assumption))] at hn
           rcases e2 : takeF ts 2 18 a2 with f2 | n2
           · rw [e2] at hn
             have hc := HC.out
             change PE _ _ _ _ _ (takeF ts 2 18 a2) _ at hc
             rw [e2] at hc
             subst hn
             exact ⟨_, n + 1, _, rfl, OC.out, by omega, hc, GC.out, fun l a2 e => by cases e⟩
           · rw [e2] at hn
             simp only at hn
             have hc := HC.out
             change PE _ _ _ _ _ (takeF ts 2 18 a2) _ at hc
             rw [e2] at hc
             rw [if_neg (fun q => by have q9 := HR.out; change (false = true ↔ ∃ a, takeF ts 2 18 a2 = .ok a ∧ _) at q9; rw [e2] at q9; exact absurd (q9.2 ⟨n2, rfl, q⟩) (by simp))] at hn
             subst hn
             exact ⟨_, n + 1, _, rfl, OC.out, by omega, hc, GC.out, fun l a3 e => by injection e with e; injection e with e _; rw [← e, rungCells_snoc, ← HNV.out a2 n2 rfl e2]⟩)
end Go.Proofs.YtdncjhffniepbaaGreatDoor.Lx
/- (LxListX)
  The parser's lists whatever its state; restart.
-/
namespace Go.Proofs.YtdncjhffniepbaaGreatDoor.Lx
open Go.RowKit

set_option maxRecDepth 100000 in
theorem needs_er {w : World} {p : Nat} {A : Option Addr} {c : Nat} {ts : List Tok} {f : Fau} {S : Value} (h : PE w p A c ts (.error f) S) :
    Calls Tryz.prog 91 #[.pointer (some ⟨p, 0, none⟩)] w fun e w' => e = .returned (.slice none 0 0) ∧ PE w' p A c ts (.error f) S ∧ w.grownBy w' (some p) := by
  have HC := Lib.hid h
  have GC := Lib.hid (grown_refl w (some p))
  clear h
  go_enter Tryz.func91, Tryz.ntmps91
  go_wp2_with fail
  go_loopg [3] (1) (fun g' ov wr => wr = w ∧ 1 ≤ g')
  case atStart => exact ⟨rfl, by omega⟩
  case round =>
    obtain ⟨rfl, hg⟩ := hrel
    go_wp2_with (first
          | (go_at_call 65; ((with_reducible refine (take_pe HC.out 1 32 (by omega)).mono ?_); rintro e wn ⟨v, rfl, ⟨tk, s, tl, tc, rfl, hsn, hv⟩, hh, hg⟩; have GC := Lib.hid (grown_trans GC.out hg); have hb := balloc wn (TokB tk s tl tc); have GC := Lib.hid (grown_trans GC.out (grown_below hb (some p))); have HC := Lib.hid (hh.below hb); clear hb hg hh hsn hv))
          | (go_at_call 42; ((with_reducible refine (failed_pe HC.out).mono ?_); rintro e wn ⟨r, rfl, hr, hb⟩; obtain rfl : r = true := hr.2 ⟨_, rfl⟩; clear hr; have GC := Lib.hid (grown_trans GC.out (grown_below hb (some p))); have HC := Lib.hid (HC.out.below hb); clear hb)))
    go_ret
    exact ⟨rfl, HC.out, GC.out⟩
set_option maxRecDepth 100000 in
theorem ladder_er {w : World} {p : Nat} {A : Option Addr} {c : Nat} {ts : List Tok} {f : Fau} {S : Value} (h : PE w p A c ts (.error f) S) :
    Calls Tryz.prog 95 #[.pointer (some ⟨p, 0, none⟩)] w fun e w' => e = .returned (.slice none 0 0) ∧ PE w' p A c ts (.error f) S ∧ w.grownBy w' (some p) := by
  have HC := Lib.hid h
  have GC := Lib.hid (grown_refl w (some p))
  clear h
  go_enter Tryz.func95, Tryz.ntmps95
  go_wp2_with fail
  go_loopg [3] (1) (fun g' ov wr => wr = w ∧ 1 ≤ g')
  case atStart => exact ⟨rfl, by omega⟩
  case round =>
    obtain ⟨rfl, hg⟩ := hrel
    go_wp2_with (first
          | (go_at_call 65; ((with_reducible refine (take_pe HC.out 1 8192 (by omega)).mono ?_); rintro e wn ⟨v, rfl, ⟨tk, s, tl, tc, rfl, hsn, hv⟩, hh, hg⟩; have GC := Lib.hid (grown_trans GC.out hg); have hb := balloc wn (TokB tk s tl tc); have GC := Lib.hid (grown_trans GC.out (grown_below hb (some p))); have HC := Lib.hid (hh.below hb); clear hb hg hh hsn hv))
          | (go_at_call 42; ((with_reducible refine (failed_pe HC.out).mono ?_); rintro e wn ⟨r, rfl, hr, hb⟩; obtain rfl : r = true := hr.2 ⟨_, rfl⟩; clear hr; have GC := Lib.hid (grown_trans GC.out (grown_below hb (some p))); have HC := Lib.hid (HC.out.below hb); clear hb)))
    go_ret
    exact ⟨rfl, HC.out, GC.out⟩
theorem needs_pe {w : World} {p : Nat} {A : Option Addr} {c : Nat} {ts : List Tok} {st : St} {S : Value} (h : PE w p A c ts st S) :
    Calls Tryz.prog 91 #[.pointer (some ⟨p, 0, none⟩)] w fun e w' => ∃ v n xs, e = .returned v ∧ XOwn w' 9 1 w.heap.size v n xs ∧ n ≤ 3000 ∧ PE w' p A c ts (st.bind fun a => (needsF ts (ts.length + 1) [] a).map Prod.snd) S ∧ w.grownBy w' (some p) ∧ (∀ a l a2, st = .ok a → needsF ts (ts.length + 1) [] a = .ok (l, a2) → xs = l.map Value.string) := by
  cases st with
  | error f =>
    refine (needs_er h).mono ?_
    rintro e w' ⟨h1, h2, h3⟩
    exact ⟨_, 0, [], h1, World.ownsRow_nil _ _ _ _, by omega, h2, h3, fun a l a2 e => by cases e⟩
  | ok a =>
    refine (needs_ok h).mono ?_
    rintro e w' ⟨v, n, xs, h1, h2, h3, h4, h5, h6⟩
    exact ⟨v, n, xs, h1, h2, h3, h4, h5, fun a' l a2 e => by injection e with e; subst e; exact h6 l a2⟩
theorem ladder_pe {w : World} {p : Nat} {A : Option Addr} {c : Nat} {ts : List Tok} {st : St} {S : Value} (h : PE w p A c ts st S) :
    Calls Tryz.prog 95 #[.pointer (some ⟨p, 0, none⟩)] w fun e w' => ∃ v n xs, e = .returned v ∧ XOwn w' 115 2 w.heap.size v n xs ∧ n ≤ 3000 ∧ PE w' p A c ts (st.bind fun a => (ladderF ts (ts.length + 1) [] a).map Prod.snd) S ∧ w.grownBy w' (some p) ∧ (∀ a l a2, st = .ok a → ladderF ts (ts.length + 1) [] a = .ok (l, a2) → xs = rungCells l) := by
  cases st with
  | error f =>
    refine (ladder_er h).mono ?_
    rintro e w' ⟨h1, h2, h3⟩
    exact ⟨_, 0, [], h1, World.ownsRow_nil _ _ _ _, by omega, h2, h3, fun a l a2 e => by cases e⟩
  | ok a =>
    refine (ladder_ok h).mono ?_
    rintro e w' ⟨v, n, xs, h1, h2, h3, h4, h5, h6⟩
    exact ⟨v, n, xs, h1, h2, h3, h4, h5, fun a' l a2 e => by injection e with e; subst e; exact h6 l a2⟩
/-- The policy at a place. -/
def polSt (ts : List Tok) (a : Nat) : St := (takeF ts 1 8192 a).bind fun n => if polF (txtAt ts a) = 0 then .error (60, (ts[a]?.map Tok.line).getD 0, (ts[a]?.map Tok.col).getD 0) else .ok n
theorem restart_pe {w : World} {p : Nat} {A : Option Addr} {c : Nat} {ts : List Tok} {st : St} {S : Value} (h : PE w p A c ts st S) :
    Calls Tryz.prog 92 #[.pointer (some ⟨p, 0, none⟩)] w fun e w' => ∃ r : Int, e = .returned (.int .i64 r) ∧ (0 ≤ r ∧ r ≤ 3) ∧ (∀ a n, st = .ok a → polSt ts a = .ok n → r = polF (txtAt ts a)) ∧ PE w' p A c ts (st.bind (polSt ts)) S ∧ w.grownBy w' (some p) := by
  obtain ⟨a, b, x, y, h1, h2⟩ := h
  obtain ⟨t, ht⟩ : ∃ t, ts[a]? = some t := ⟨ts[a]'h1.lt, List.getElem?_eq_getElem _⟩
  refine (restart_ex h1 (tk := t.kind) (tt := t.text) (tl := t.line) (tc := t.col) ht).mono ?_
  rintro e w' ⟨he, a', b', x', y', hn, h3, h4⟩
  have htx : txtAt ts a = bytesOf t.text := by unfold txtAt; rw [ht]; rfl
  generalize hq : takeN a b x y 1 8192 t.kind (bytesOf t.text).size t.line t.col = q at *
  obtain ⟨a1, b1, x1, y1⟩ := q
  have hs := takeN_is h2 ht 1 8192 hq.symm
  unfold polN at hn
  rw [hq] at hn
  refine ⟨_, he, polV_range _ _, ?_, ⟨a', b', x', y', h3, ?_⟩, h4⟩
  · rintro a2 n rfl hp
    obtain ⟨rfl, _⟩ := h2
    unfold polSt at hp
    change StIs (takeF ts 1 8192 a) a1 b1 x1 y1 at hs
    rcases hk : takeF ts 1 8192 a with f | m
    · rw [hk] at hp; cases hp
    · rw [hk] at hs
      obtain ⟨_, rfl, _⟩ := hs
      rw [htx]
      rfl
  · cases st with
    | error f =>
      have hb : ¬ (b1 = 0 ∧ polF (bytesOf t.text) = 0) := fun z => hs.1 z.1
      rw [if_neg hb] at hn
      simp only [Prod.mk.injEq] at hn
      obtain ⟨rfl, rfl, rfl, rfl⟩ := hn
      exact hs
    | ok a2 =>
      obtain ⟨rfl, _⟩ := h2
      change StIs (takeF ts 1 8192 a) a1 b1 x1 y1 at hs
      change StIs (polSt ts a) a' b' x' y'
      unfold polSt
      rcases hk : takeF ts 1 8192 a with f | m
      · rw [hk] at hs
        rw [if_neg (fun z => hs.1 z.1)] at hn
        simp only [Prod.mk.injEq] at hn
        obtain ⟨rfl, rfl, rfl, rfl⟩ := hn
        exact hs
      · rw [hk] at hs
        obtain ⟨rfl, rfl, rfl, rfl⟩ := hs
        change StIs (if polF (txtAt ts a) = 0 then _ else _) a' b' x' y'
        rw [htx, ht]
        by_cases hz : polF (bytesOf t.text) = 0
        · rw [if_pos ⟨rfl, hz⟩] at hn
          rw [if_pos hz]
          simp only [Prod.mk.injEq] at hn
          exact ⟨by rw [hn.2.1]; decide, hn.2.1, hn.2.2.1, hn.2.2.2⟩
        · rw [if_neg (fun z => hz z.2)] at hn
          rw [if_neg hz]
          simp only [Prod.mk.injEq] at hn
          exact hn
end Go.Proofs.YtdncjhffniepbaaGreatDoor.Lx
/- (LxPrint1)
  The printer's small functions: decimal, policy, signal, slashed.
-/
namespace Go.Proofs.YtdncjhffniepbaaGreatDoor.Lx
open Go.RowKit

/-- Some string of at most so many bytes; nothing that was there is another. -/
def SomeS (M : Nat) (w : World) (e : Ending) (w' : World) : Prop := ∃ s : ByteArray, e = .returned (.string s) ∧ s.size ≤ M ∧ Below w.heap.size w w'
set_option maxRecDepth 100000 in
theorem decimal_low {n : Int} (h0 : 0 ≤ n) (h1 : n < 10) (w : World) : Calls Tryz.prog 99 #[.int .u64 n] w (SomeS 1 w) := by
  have hw1 : IntKind.u64.wrap (48 + n) = 48 + n := by rw [IntKind.wrap_u64]; omega
  have hw2 : IntKind.u8.wrap (48 + n) = 48 + n := by simp [IntKind.wrap, IntKind.bits, IntKind.signed]; omega
  have hy : By [48 + n] := fun z hz => by simp at hz; omega
  have cv := conv_lst (lst_row (k := .u8) [48 + n] (heap_alloc_new w (.cells #[.int .u8 (48 + n)] 5)) (by simp)) hy
  simp only [List.length_cons, List.length_nil, Nat.zero_add] at cv
  have HZ := Lib.hid (bytesOf_size [48 + n])
  clear hy
  go_enter Tryz.func99, Tryz.ntmps99
  go_wp2_with fail
  go_ret
  exact ⟨_, rfl, by rw [HZ.out]; simp, balloc w _⟩
set_option maxRecDepth 100000 in
theorem policy_any (n : Int) (w : World) : Calls Tryz.prog 98 #[.int .i64 n] w (SomeS 10 w) := by
  go_enter Tryz.func98, Tryz.ntmps98
  go_wp2_with fail
  all_goals go_ret
  all_goals exact ⟨_, rfl, by decide, Below.refl _ _⟩
theorem SomeS.mono {M M' : Nat} {w : World} {e : Ending} {w' : World} (h : SomeS M w e w') (hM : M ≤ M') : SomeS M' w e w' := by
  obtain ⟨s, h1, h2, h3⟩ := h; exact ⟨s, h1, by omega, h3⟩
set_option maxRecDepth 100000 in
theorem decimal_any : ∀ (k : Nat) (n : Int), k ≤ 30 → 0 ≤ n → n < 10 ^ (k + 1) → n ≤ 18446744073709551615 → ∀ w : World, Calls Tryz.prog 99 #[.int .u64 n] w (SomeS (k + 1) w)
  | 0, n, _, h0, h1, _, w => decimal_low h0 (by simpa using h1) w
  | k + 1, n, hk, h0, h1, h2, w => by
    by_cases hn : n < 10
    · exact (decimal_low h0 hn w).mono fun _ _ h => h.mono (by omega)
    · have hn10 : decide (n < 10) = false := decide_eq_false hn
      have hd1 : n / 10 < 10 ^ (k + 1) := by
        rw [Int.ediv_lt_iff_lt_mul (by omega)]
        rw [Int.pow_succ] at h1
        exact h1
      have HA := Lib.hid (fun W => decimal_any k (n / 10) (by omega) (by omega) hd1 (by omega) W)
      have HB := Lib.hid (fun W => decimal_low (n := n % 10) (by omega) (by omega) W)
      have HK := Lib.hid hk
      clear hd1 h1 hk
      go_enter Tryz.func99, Tryz.ntmps99
      go_wp2_with (first
        | (go_at_call 99; ((with_reducible refine (HA.out _).mono ?_); rintro e w1 ⟨s1, rfl, hs1, hb1⟩; have z1 : s1.size ≤ 40 := (by have := HK.out; omega); have S1 := Lib.hid hs1; have B1 := Lib.hid hb1; clear hb1 hs1))
        | (go_at_call 99; ((with_reducible refine (HB.out _).mono ?_); rintro e w2 ⟨s2, rfl, hs2, hb2⟩; have z2 : s2.size ≤ 40 := (by omega); have S2 := Lib.hid hs2; have B2 := Lib.hid (B1.out.trans (hb2.mono B1.out.size)); clear hb2 hs2)))
      go_ret
      exact ⟨_, rfl, by have := S1.out; have := S2.out; simp; omega, B2.out⟩

set_option maxRecDepth 100000 in
theorem psignal_any (n : Int) (w : World) : Calls Tryz.prog 100 #[.int .i64 n] w (SomeS 4 w) := by
  have T := Lib.hid (plst_lit w [⟨#[72, 85, 80]⟩, ⟨#[73, 78, 84]⟩, ⟨#[81, 85, 73, 84]⟩, ⟨#[85, 83, 82, 49]⟩, ⟨#[85, 83, 82, 50]⟩, ⟨#[84, 69, 82, 77]⟩] 9 (M := 4) (by simp) (by
    intro s hs
    simp only [List.mem_cons, List.not_mem_nil, or_false] at hs
    rcases hs with rfl | rfl | rfl | rfl | rfl | rfl <;> decide))
  have B0 := Lib.hid (balloc w (.cells ([⟨#[72, 85, 80]⟩, ⟨#[73, 78, 84]⟩, ⟨#[81, 85, 73, 84]⟩, ⟨#[85, 83, 82, 49]⟩, ⟨#[85, 83, 82, 50]⟩, ⟨#[84, 69, 82, 77]⟩].map Value.string).toArray 9))
  simp only [List.map_cons, List.map_nil, List.length_cons, List.length_nil, Nat.zero_add, Nat.reduceAdd] at T B0
  go_enter Tryz.func100, Tryz.ntmps100
  go_wp2_with fail
  generalize hw3 : w.alloc (.cells #[.string ⟨#[72, 85, 80]⟩, .string ⟨#[73, 78, 84]⟩, .string ⟨#[81, 85, 73, 84]⟩, .string ⟨#[85, 83, 82, 49]⟩, .string ⟨#[85, 83, 82, 50]⟩, .string ⟨#[84, 69, 82, 77]⟩] 9) = w3 at *
  clear hw3
  go_loopg [4] (6 + 1) (fun g' i wr => ∃ (k : Nat), i = .int .i64 k ∧ k ≤ 6 ∧ 6 - k + 1 ≤ g' ∧ Below w3.heap.size w3 wr)
  case atStart => exact ⟨0, rfl, by omega, by omega, Below.refl _ _⟩
  case round =>
    obtain ⟨k, rfl, hk, hg, hbw⟩ := hrel
    by_cases hkn : k < 6
    · have hki : (k : Int) < 6 := by omega
      obtain ⟨A5, c5, hv, ht, _⟩ := T.out.below hbw
      simp only [Value.slice.injEq, true_and] at hv
      obtain ⟨rfl, rfl⟩ := hv
      obtain ⟨g5, off5, hA5, hc⟩ := ht (by omega)
      simp only [Option.some.injEq, Addr.mk.injEq, and_true] at hA5
      obtain ⟨rfl, rfl⟩ := hA5
      obtain ⟨u, hu, t, rfl, htz⟩ := hc k 0 _ hkn rfl
      simp only [List.length_cons, List.length_nil, Nat.zero_add, Nat.mul_one, Nat.add_zero] at hu
      have HS := Lib.hid (fun W => signal_any t W)
      have BW := Lib.hid hbw
      have HZ := Lib.hid htz
      clear hc ht htz hbw
      go_wp2_with (go_at_call 29; ((with_reducible refine (HS.out _).mono ?_); rintro e w1 ⟨sg, rfl, hs0, hs1, hb⟩; have hu := (hb.cell (World.block_lt_of_cell? _ _ hu)).trans hu; have BW := Lib.hid (BW.out.trans (hb.mono BW.out.size)); clear hs0 hs1 hb))
      · go_ret
        exact ⟨t, rfl, HZ.out, B0.out.trans (BW.out.mono B0.out.size)⟩
      · go_roundg (6 - (k + 1) + 1)
        case measure => omega
        case rel => exact ⟨k + 1, by go_num, by omega, Nat.le_refl _, BW.out⟩
    · obtain rfl : k = 6 := by omega
      go_wp2_with fail
      go_ret
      exact ⟨_, rfl, by decide, B0.out.trans (hbw.mono B0.out.size)⟩

set_option maxRecDepth 100000 in
set_option maxHeartbeats 1000000 in
theorem slashed13_any {s : ByteArray} (hs : s.size ≤ 1000) (w : World) : Calls Tryz.prog 97 #[.string s] w (SomeS 2000 w) := by
  have HS := Lib.hid hs
  clear hs
  go_enter Tryz.func97, Tryz.ntmps97
  go_wp2_with fail
  go_loopg [3, 4] (s.size + 1) (fun g' ov i wr => ∃ (k : Nat) (l : List Int), i = .int .i64 k ∧ k ≤ s.size ∧ s.size - k + 1 ≤ g' ∧ Own 5 .u8 wr w.heap.size ov l ∧ By l ∧ l.length ≤ 2 * k ∧ Below w.heap.size w wr)
  case atStart => exact ⟨0, [], rfl, Nat.zero_le _, by omega, Own.nil _ _ _ _, By.nil, by simp, Below.refl _ _⟩
  case round =>
    obtain ⟨k, l1, rfl, hk, hg, hown, hby, hlen, hbel⟩ := hrel
    obtain ⟨wo, rfl⟩ : ∃ wo : World, wo = wr := ⟨_, rfl⟩
    have O1 := Lib.hid hown
    have Y1 := Lib.hid hby
    have BW1 := Lib.hid hbel
    obtain ⟨A1, c1, rfl⟩ := hown.form
    have cv1 := conv_lst hown.lst hby
    clear hown hby hbel
    by_cases hkn : k < s.size
    · have hki : (k : Int) < (s.size : Int) := by omega
      obtain ⟨y, hy⟩ : ∃ y : Int, ((s[k]'hkn).toNat : Int) = y := ⟨_, rfl⟩
      have hy0 : 0 ≤ y := by omega
      have hy1 : y ≤ 255 := by have := (s[k]'hkn).toNat_lt; omega
      clear cv1
      have h9 : l1.length ≤ 2000 := by have := HS.out; omega
      have hs3 : s.size ≤ 1000 := HS.out
      have n5 : IntKind.i64.wrap ((k : Int) + 1) = (k : Int) + 1 := by rw [IntKind.wrap_i64]; omega
      go_wp2_with (first
        | (at_builtin; refine wpList_app rfl _ _ rfl elByte rfl (O1.out.below (balloc _ _)) rfl (lst_one _ 92 5) (by simp; omega) (by have := BW1.out.size; simp; omega) ?_; intro v5 w5 hO hF; obtain ⟨A5, c5, hv5⟩ := own_snoc hO; subst hv5; have O1 := Lib.hid hO; have Y1 := Lib.hid (Y1.out.append (By.one (x := 92) (by omega))); have BW1 := Lib.hid ((BW1.out.alloc BW1.out.size _).trans hF.bel); clear hO hF)
        | (at_builtin; refine wpList_app rfl _ _ rfl elByte rfl (O1.out.below (balloc _ _)) rfl (lst_one _ y 5) (by simp; omega) (by have := BW1.out.size; simp; omega) ?_; intro v5 w5 hO hF; obtain ⟨A5, c5, hv5⟩ := own_snoc hO; subst hv5; have O1 := Lib.hid hO; have Y1 := Lib.hid (Y1.out.append (By.one (x := y) (by omega))); have BW1 := Lib.hid ((BW1.out.alloc BW1.out.size _).trans hF.bel); clear hO hF))
      all_goals go_roundg (s.size - (k + 1) + 1)
      case measure => omega
      case rel => exact ⟨k + 1, _, by go_num, by omega, Nat.le_refl _, by have := O1.out; simpa using this, Y1.out, by simp; omega, BW1.out⟩
      case measure => omega
      case rel => exact ⟨k + 1, _, by go_num, by omega, Nat.le_refl _, by have := O1.out; simpa using this, Y1.out, by simp; omega, BW1.out⟩
    · obtain rfl : k = s.size := by omega
      go_wp2_with fail
      go_ret
      exact ⟨_, rfl, by rw [bytesOf_size]; have := HS.out; omega, BW1.out⟩
end Go.Proofs.YtdncjhffniepbaaGreatDoor.Lx
/- (LxMill)
  Layer 5: the numbers that the statements draw from.
-/
namespace Go.Proofs.YtdncjhffniepbaaGreatDoor.Lx
open Go.RowKit

/-- A deck at block d: its numbers, and how many have been taken. -/
structure Deck (w : World) (d : Nat) (A : Option Addr) (n c : Nat) (zs : List Int) (k : Nat) : Prop where
  blk : w.heap[d]? = some (.cells #[.slice A n c, .int .i64 k] 52 (0, 0))
  le : k ≤ n
  bd : n ≤ 9223372036854775807
  wf : ∀ z ∈ zs, -9223372036854775808 ≤ z ∧ z ≤ 9223372036854775807
  len : zs.length = n
  rd : 0 < n → ∃ b off, A = some ⟨b, off, none⟩ ∧ b ≠ d ∧ b < w.heap.size ∧ ∀ i z, zs[i]? = some z → w.cell? ⟨b, off + i, none⟩ = some (.int .i64 z)

theorem left_any {w : World} {d n c k : Nat} {A : Option Addr} {zs : List Int} (h : Deck w d A n c zs k) :
    Calls Tryz.prog 24 #[.pointer (some ⟨d, 0, none⟩)] w fun e w' => e = .returned (.bool (decide (k < n))) ∧ ∃ m, w' = w.drewN m := by
  have c0 := cell_of_row w d 0 _ _ _ h.blk
  have c1 := cell_of_row w d 1 _ _ _ h.blk
  clear h
  go_enter Tryz.func24, Tryz.ntmps24
  go_wp2
  go_quiet (fail)
  go_wp2
  go_ret
  exact ⟨rfl, _, rfl⟩

/-- Behind a number taken. -/
def NextPost (w : World) (d : Nat) (A : Option Addr) (n c : Nat) (zs : List Int) (k : Nat) (m : Int) (e : Ending) (w' : World) : Prop :=
  ∃ (r : Int) (k' : Nat), e = .returned (.int .i64 r) ∧ 0 ≤ r ∧ r < m ∧ k ≤ k' ∧ (k < n → k' = k + 1) ∧ Deck w' d A n c zs k' ∧ w.grownBy w' (some d)

theorem next_end {w : World} {d n c k : Nat} {A : Option Addr} {zs : List Int} (h : Deck w d A n c zs k) (hk : ¬ k < n) (m : Int) (h0 : 1 ≤ m) :
    Calls Tryz.prog 25 #[.pointer (some ⟨d, 0, none⟩), .int .i64 m] w (NextPost w d A n c zs k m) := by
  have hL := left_any h
  rw [decide_eq_false hk] at hL
  have HL := Lib.hid hL
  have H := Lib.hid h
  clear h hL
  go_enter Tryz.func25, Tryz.ntmps25
  go_wp2_with (go_at_call 24; ((with_reducible refine HL.out.mono ?_); rintro e w' ⟨rfl, q, rfl⟩))
  go_ret
  exact ⟨0, k, rfl, by omega, by omega, Nat.le_refl _, fun h => absurd h hk, ⟨H.out.blk, H.out.le, H.out.bd, H.out.wf, H.out.len, H.out.rd⟩, ⟨rfl, rfl, rfl, Nat.le_refl _, fun _ _ _ => rfl⟩⟩

set_option maxHeartbeats 1000000 in
theorem next_more {w : World} {d n c k : Nat} {A : Option Addr} {zs : List Int} (h : Deck w d A n c zs k) (hk : k < n) (m : Int) (h0 : 1 ≤ m) (h1 : m ≤ 1000000) :
    Calls Tryz.prog 25 #[.pointer (some ⟨d, 0, none⟩), .int .i64 m] w (NextPost w d A n c zs k m) := by
  have hL := left_any h
  rw [decide_eq_true hk] at hL
  obtain ⟨b, off, rfl, hbd, hbw, hcells⟩ := h.rd (by omega)
  obtain ⟨x, hx⟩ : ∃ x, zs[k]? = some x := ⟨zs[k]'(by have := h.len; omega), List.getElem?_eq_getElem _⟩
  have hxc := hcells k x hx
  obtain ⟨x0, x1⟩ := h.wf x (List.mem_of_getElem? hx)
  have c0 := cell_of_row w d 0 _ _ _ h.blk
  have c1 := cell_of_row w d 1 _ _ _ h.blk
  have f1 : w.frozen? ⟨d, 1, none⟩ = false := by simp [World.frozen?, h.blk]
  have hkb : (k : Int) + 1 ≤ 9223372036854775807 := by have := h.bd; omega
  have hkn : (k : Int) < (n : Int) := by omega
  -- behind the count
  obtain ⟨W1, hW1⟩ : ∃ W1, W1 = w.setCell ⟨d, 1, none⟩ (.int .i64 ((k : Int) + 1)) := ⟨_, rfl⟩
  have hblk1 : W1.heap[d]? = some (.cells #[.slice (some ⟨b, off, none⟩) n c, .int .i64 ((k : Int) + 1)] 52 (0, 0)) := by
    rw [hW1]
    have := h.blk
    simp [World.setCell, Array.getElem?_modify, this]
  have hg1 : w.grownBy W1 (some d) := by rw [hW1]; exact grown_set w ⟨d, 1, none⟩ _
  have hD : Deck W1 d (some ⟨b, off, none⟩) n c zs (k + 1) := ⟨hblk1, by omega, h.bd, h.wf, h.len, fun _ => ⟨b, off, rfl, hbd, by have := hg1.size; omega, fun i z hz => (World.cell?_of_block (hg1.block b hbw (by simpa using hbd))).trans (hcells i z hz)⟩⟩
  have d0 := cell_of_row W1 d 0 _ _ _ hblk1
  have d1 := cell_of_row W1 d 1 _ _ _ hblk1
  have dx := (World.cell?_of_block (a := ⟨b, off + k, none⟩) (hg1.block b hbw (by simpa using hbd))).trans hxc
  have e0 := Int.emod_nonneg x (show m ≠ 0 by omega)
  have e1 := Int.emod_lt_of_pos x (show 0 < m by omega)
  have HM := Lib.hid (fun W => (mod_any x m h0 (by omega) x0 x1 W).mono fun _ _ ⟨he, hw⟩ => (⟨he, hw.symm⟩ : _ ∧ _ = W))
  have HL := Lib.hid hL
  have HW := Lib.hid hW1
  have HD := Lib.hid hD
  have HG := Lib.hid hg1
  have E0 := Lib.hid e0
  have E1 := Lib.hid e1
  clear h hL hcells hx hxc hW1 hblk1 hg1 hD e0 e1
  go_enter Tryz.func25, Tryz.ntmps25
  go_wp2_with (go_at_call 24; ((with_reducible refine HL.out.mono ?_); rintro e w' ⟨rfl, q, rfl⟩))
  have hWq : (w.drewN q).setCell ⟨d, 1, none⟩ (.int .i64 ((k : Int) + 1)) = W1.drewN q := by rw [HW.out]; rfl
  rw [hWq]
  have hD2 : Deck (W1.drewN q) d (some ⟨b, off, none⟩) n c zs (k + 1) := ⟨HD.out.blk, HD.out.le, HD.out.bd, HD.out.wf, HD.out.len, HD.out.rd⟩
  have hG2 : w.grownBy (W1.drewN q) (some d) := grown_trans HG.out (grown_drewN W1 q _)
  have d0' : (W1.drewN q).cell? ⟨d, 0, none⟩ = _ := d0
  have d1' : (W1.drewN q).cell? ⟨d, 1, none⟩ = _ := d1
  have dx' : (W1.drewN q).cell? ⟨b, off + k, none⟩ = _ := dx
  clear d0 d1 dx hWq HW HD HG c0 c1
  generalize W1.drewN q = W2 at *
  have HD := Lib.hid hD2
  have HG := Lib.hid hG2
  clear hD2 hG2
  go_quiet ((go_at_call 26; exact Calls.quiet_of_same (HM.out _)))
  go_wp2_with fail
  go_ret
  exact ⟨x % m, k + 1, rfl, E0.out, E1.out, by omega, fun _ => rfl, ⟨HD.out.blk, HD.out.le, HD.out.bd, HD.out.wf, HD.out.len, HD.out.rd⟩, grown_trans HG.out (grown_drewN W2 _ _)⟩

theorem next_any {w : World} {d n c k : Nat} {A : Option Addr} {zs : List Int} (h : Deck w d A n c zs k) (m : Int) (h0 : 1 ≤ m) (h1 : m ≤ 1000000) :
    Calls Tryz.prog 25 #[.pointer (some ⟨d, 0, none⟩), .int .i64 m] w (NextPost w d A n c zs k m) := by
  by_cases hk : k < n
  · exact next_more h hk m h0 h1
  · exact next_end h hk m h0

/-- Ints that came in. -/
structure IntsIn (w : World) (A : Option Addr) (n : Nat) (zs : List Int) : Prop where
  bd : n ≤ 9223372036854775807
  wf : ∀ z ∈ zs, -9223372036854775808 ≤ z ∧ z ≤ 9223372036854775807
  len : zs.length = n
  rd : 0 < n → ∃ b off, A = some ⟨b, off, none⟩ ∧ b < w.heap.size ∧ ∀ i z, zs[i]? = some z → w.cell? ⟨b, off + i, none⟩ = some (.int .i64 z)

theorem new_any {w : World} {A : Option Addr} {n c : Nat} {zs : List Int} (h : IntsIn w A n zs) :
    Calls Tryz.prog 13 #[.slice A n c] w fun e w' => e = .returned (.pointer (some ⟨w.heap.size, 0, none⟩)) ∧ Deck w' w.heap.size A n c zs 0 ∧ Below w.heap.size w w' ∧ w'.heap.size = w.heap.size + 1 := by
  have H := Lib.hid h
  clear h
  go_enter Tryz.func13, Tryz.ntmps13
  go_wp2
  go_ret
  refine ⟨rfl, ⟨heap_alloc_new w _, Nat.zero_le _, H.out.bd, H.out.wf, H.out.len, fun hn => ?_⟩, (Below.refl _ _).alloc (Nat.le_refl _) _, by simp⟩
  obtain ⟨b, off, hA, hb, hc⟩ := H.out.rd hn
  exact ⟨b, off, hA, by omega, by simp; omega, fun i z hz => (World.cell?_alloc_lt w _ _ hb).trans (hc i z hz)⟩
theorem Deck.keep {w w' : World} {d n c k : Nat} {A : Option Addr} {zs : List Int} (h : Deck w d A n c zs k) (hb : Below w.heap.size w w') : Deck w' d A n c zs k :=
  ⟨(hb.block d (heap_lt h.blk)).trans h.blk, h.le, h.bd, h.wf, h.len, fun hn => by
    obtain ⟨b, off, h1, h2, h3, h4⟩ := h.rd hn
    exact ⟨b, off, h1, h2, Nat.lt_of_lt_of_le h3 hb.size, fun i z hz => (hb.cell (p := ⟨b, off + i, none⟩) h3).trans (h4 i z hz)⟩⟩

/-- A number from low to high. -/
theorem range_any {w : World} {d n c k : Nat} {A : Option Addr} {zs : List Int} (h : Deck w d A n c zs k) (low high : Int) (h0 : low ≤ high) (h1 : -1000 ≤ low) (h2 : high ≤ 1000) :
    Calls Tryz.prog 46 #[.pointer (some ⟨d, 0, none⟩), .int .i64 low, .int .i64 high] w fun e w' => ∃ (r : Int) (k' : Nat), e = .returned (.int .i64 r) ∧ low ≤ r ∧ r ≤ high ∧ Deck w' d A n c zs k' ∧ w.grownBy w' (some d) := by
  have HN := Lib.hid (next_any h (high - low + 1) (by omega) (by omega))
  clear h
  go_enter Tryz.func46, Tryz.ntmps46
  go_wp2_with (go_at_call 25; ((with_reducible refine HN.out.mono ?_); rintro e w1 ⟨r, k1, rfl, hr0, hr1, _, _, hD, hG⟩; have hr2 : -1000 ≤ low + r := (by omega); have hr3 : low + r ≤ 1000 := (by omega); have D1 := Lib.hid hD; have G1 := Lib.hid hG; have R0 := Lib.hid hr0; have R1 := Lib.hid hr1; clear hD hG hr0 hr1))
  go_ret
  have q0 := R0.out
  have q1 := R1.out
  exact ⟨low + r, k1, rfl, by omega, by omega, D1.out, G1.out⟩
theorem patterns_any (w : World) : Calls Tryz.prog 71 #[] w fun e w' => ∃ v, e = .returned v ∧ PLst w' [isStr 20] v 7 ∧ Below w.heap.size w w' := by
  go_enter Tryz.func71, Tryz.ntmps71
  go_wp2_with fail
  go_ret
  exact ⟨_, rfl, plst_lit w [⟨#[111, 107]⟩, ⟨#[]⟩, ⟨#[114, 46, 42, 121, 36]⟩, ⟨#[94, 117, 112, 124, 103, 111, 43]⟩, ⟨#[91, 48, 45, 57, 93, 43, 120, 63]⟩, ⟨#[40, 97, 98, 41, 42, 99]⟩, ⟨#[94, 36]⟩] 9 (by simp) (by
    intro s hs
    simp only [List.mem_cons, List.not_mem_nil, or_false] at hs
    rcases hs with rfl | rfl | rfl | rfl | rfl | rfl | rfl <;> decide), balloc w _⟩
end Go.Proofs.YtdncjhffniepbaaGreatDoor.Lx
/- (LxJob)
  Jobs as values.
-/
namespace Go.Proofs.YtdncjhffniepbaaGreatDoor.Lx
open Go.RowKit

/-- A job as a value: strings of at most M bytes, lists of at most N elements. -/
structure JobV (w : World) (M N : Nat) (v : Value) : Prop where
  ex : ∃ (nm run rd : ByteArray) (env needs lad : Value) (ne nn nl : Nat) (hr : Bool) (rs base cap stb bur win line col : Int),
    v = .agg #[.string nm, .string run, env, needs, .bool hr, .string rd, .int .i64 rs, .int .u64 base, .int .u64 cap, .int .u64 stb, .int .i64 bur, .int .u64 win, lad, .int .i64 line, .int .i64 col] ∧
    nm.size ≤ M ∧ run.size ≤ M ∧ rd.size ≤ M ∧ ne ≤ N ∧ nn ≤ N ∧ nl ≤ N ∧
    PLst w [isStr M, isStr M] env ne ∧ PLst w [isStr M] needs nn ∧ PLst w [isI64, isU64] lad nl ∧
    (0 ≤ base ∧ base ≤ 18446744073709551615) ∧ (0 ≤ cap ∧ cap ≤ 18446744073709551615) ∧ (0 ≤ stb ∧ stb ≤ 18446744073709551615) ∧ (0 ≤ win ∧ win ≤ 18446744073709551615)
theorem JobV.below {w w' : World} {M N : Nat} {v : Value} (h : JobV w M N v) (hb : Below w.heap.size w w') : JobV w' M N v := by
  obtain ⟨nm, run, rd, env, needs, lad, ne, nn, nl, hr, rs, base, cap, stb, bur, win, line, col, h1, h2, h3, h4, h5, h6, h7, h8, h9, h10, h11⟩ := h.ex
  exact ⟨nm, run, rd, env, needs, lad, ne, nn, nl, hr, rs, base, cap, stb, bur, win, line, col, h1, h2, h3, h4, h5, h6, h7, h8.below hb, h9.below hb, h10.below hb, h11⟩
end Go.Proofs.YtdncjhffniepbaaGreatDoor.Lx
/- (LxJobRow)
  Jobs in a row of fifteen cells; a job that is returned.
-/
namespace Go.Proofs.YtdncjhffniepbaaGreatDoor.Lx
open Go.RowKit

/-- A job, cell for cell. -/
structure J15 where
  nm : ByteArray
  run : ByteArray
  env : Value
  needs : Value
  hr : Bool
  rd : ByteArray
  rs : Int
  base : Int
  cap : Int
  stb : Int
  bur : Int
  win : Int
  lad : Value
  line : Int
  col : Int
abbrev J15.arr (j : J15) : Array Value := #[.string j.nm, .string j.run, j.env, j.needs, .bool j.hr, .string j.rd, .int .i64 j.rs, .int .u64 j.base, .int .u64 j.cap, .int .u64 j.stb, .int .i64 j.bur, .int .u64 j.win, j.lad, .int .i64 j.line, .int .i64 j.col]
/-- Its lists, strings and numbers are in their bounds. -/
structure JOk (w : World) (M N : Nat) (j : J15) : Prop where
  nm : j.nm.size ≤ M
  run : j.run.size ≤ M
  rd : j.rd.size ≤ M
  env : ∃ n, n ≤ N ∧ PLst w [isStr M, isStr M] j.env n
  needs : ∃ n, n ≤ N ∧ PLst w [isStr M] j.needs n
  lad : ∃ n, n ≤ N ∧ PLst w [isI64, isU64] j.lad n
  base : 0 ≤ j.base ∧ j.base ≤ 18446744073709551615
  cap : 0 ≤ j.cap ∧ j.cap ≤ 18446744073709551615
  stb : 0 ≤ j.stb ∧ j.stb ≤ 18446744073709551615
  win : 0 ≤ j.win ∧ j.win ≤ 18446744073709551615
theorem JOk.below {w w' : World} {M N : Nat} {j : J15} (h : JOk w M N j) (hb : Below w.heap.size w w') : JOk w' M N j :=
  ⟨h.nm, h.run, h.rd, h.env.imp fun _ x => ⟨x.1, x.2.below hb⟩, h.needs.imp fun _ x => ⟨x.1, x.2.below hb⟩, h.lad.imp fun _ x => ⟨x.1, x.2.below hb⟩, h.base, h.cap, h.stb, h.win⟩
/-- All fifteen cells of a block. -/
abbrev put15 (W : World) (R : Nat) (a b c d e f g h i k l m n o q : Value) : World :=
  (((((((((((((((W.setCell ⟨R, 0, none⟩ a).setCell ⟨R, 1, none⟩ b).setCell ⟨R, 2, none⟩ c).setCell ⟨R, 3, none⟩ d).setCell ⟨R, 4, none⟩ e).setCell ⟨R, 5, none⟩ f).setCell ⟨R, 6, none⟩ g).setCell ⟨R, 7, none⟩ h).setCell ⟨R, 8, none⟩ i).setCell ⟨R, 9, none⟩ k).setCell ⟨R, 10, none⟩ l).setCell ⟨R, 11, none⟩ m).setCell ⟨R, 12, none⟩ n).setCell ⟨R, 13, none⟩ o).setCell ⟨R, 14, none⟩ q)
theorem put15_row {W : World} {R : Nat} {cs : Array Value} (hs : cs.size = 15) {t : TypeId} (hr : W.heap[R]? = some (.cells cs t (0, 0))) (a b c d e f g h i k l m n o q : Value) :
    (put15 W R a b c d e f g h i k l m n o q).heap[R]? = some (.cells #[a, b, c, d, e, f, g, h, i, k, l, m, n, o, q] t (0, 0)) := by
  obtain ⟨l0⟩ := cs
  match l0, hs with
  | [_, _, _, _, _, _, _, _, _, _, _, _, _, _, _], _ => simp [World.setCell, Array.getElem?_modify, hr]
theorem put15_other {W : World} {R K : Nat} (hne : K ≠ R) (a b c d e f g h i k l m n o q : Value) : (put15 W R a b c d e f g h i k l m n o q).heap[K]? = W.heap[K]? := by
  have hn : ∀ (X : World) (j : Nat) (u : Value), (X.setCell ⟨R, j, none⟩ u).heap[K]? = X.heap[K]? := fun X j u => Below.heap_setCell _ _ _ _ (by simpa using hne)
  simp only [hn]
theorem put15_grown {w0 W : World} {row : Option Nat} (hg : w0.grownBy W row) {R : Nat} (hR : w0.heap.size ≤ R) (a b c d e f g h i k l m n o q : Value) : w0.grownBy (put15 W R a b c d e f g h i k l m n o q) row := by
  repeat (refine grown_new ?_ hR _ _)
  exact hg
end Go.Proofs.YtdncjhffniepbaaGreatDoor.Lx
/- (GrA)
  Layer 6, the program: the parser's state; fail, follows, read.
-/
namespace Go.Proofs.YtdncjhffniepbaaGreatDoor.Lx
open Go.RowKit


/-- A fault as the value that a panic carries. -/
abbrev fauV (e x y : Int) : Value := .iface 32 (.agg #[.int .i64 e, .int .i64 x, .int .i64 y])
/-- The end of a call that a fault ends. -/
abbrev fauE (e x y : Int) : Ending := .panicked [{ v := fauV e x y, recovered := false }]
theorem gfail_ex (e tk tl tc : Int) (s : ByteArray) (w : World) :
    Calls Tryz.prog 61 #[.int .i64 e, .agg #[.int .i64 tk, .string s, .int .i64 tl, .int .i64 tc]] w fun en w' => en = fauE e tl tc ∧ Below w.heap.size w w' := by
  have k1 := heap_alloc_new w (.cells #[.int .i64 tk, .string s, .int .i64 tl, .int .i64 tc] 38)
  have t2 := cell_of_row _ _ 2 _ _ _ k1
  have t3 := cell_of_row _ _ 3 _ _ _ k1
  have B := Lib.hid (balloc w (.cells #[.int .i64 tk, .string s, .int .i64 tl, .int .i64 tc] 38))
  clear k1
  go_enter Tryz.func61, Tryz.ntmps61
  go_wp2_with fail
  exact ⟨rfl, rfl, B.out⟩
/-- The program's parser at block q: its tokens from the a-th one on. -/
structure GP (w : World) (q g off : Nat) (ts : List Tok) (a : Nat) : Prop where
  blk : ∃ c, w.heap[q]? = some (.cells #[.slice (some ⟨g, off + a * 4, none⟩) (ts.length - a) c] 76 (0, 0)) ∧ ts.length - a ≤ c ∧ c ≤ maxLen
  lt : a < ts.length
  fin : ∀ t, ts[ts.length - 1]? = some t → t.kind = 6
  len : ts.length ≤ 3000
  txt : ∀ t ∈ ts, t.text.length ≤ 10000
  ne : g ≠ q
  tok : ∀ k t, ts[k]? = some t →
    w.cell? ⟨g, off + k * 4, none⟩ = some (.int .i64 t.kind) ∧ w.cell? ⟨g, off + k * 4 + 1, none⟩ = some (.string (bytesOf t.text)) ∧ w.cell? ⟨g, off + k * 4 + 2, none⟩ = some (.int .i64 t.line) ∧ w.cell? ⟨g, off + k * 4 + 3, none⟩ = some (.int .i64 t.col)
theorem GP.qlt {w : World} {q g off : Nat} {ts : List Tok} {a : Nat} (h : GP w q g off ts a) : q < w.heap.size := by
  obtain ⟨c, h1, _⟩ := h.blk
  exact heap_lt h1
theorem GP.glt {w : World} {q g off : Nat} {ts : List Tok} {a : Nat} (h : GP w q g off ts a) : g < w.heap.size :=
  World.block_lt_of_cell? w _ (h.tok a _ (List.getElem?_eq_getElem h.lt)).1
theorem GP.now {w : World} {q g off : Nat} {ts : List Tok} {a : Nat} (h : GP w q g off ts a) : ∃ t, ts[a]? = some t ∧ t.text.length ≤ 10000 :=
  ⟨ts[a]'h.lt, List.getElem?_eq_getElem _, h.txt _ (List.getElem_mem _)⟩
/-- Behind a step that leaves the tokens, and the parser's block as it is known. -/
theorem GP.keep {w w' : World} {q g off : Nat} {ts : List Tok} {a a' : Nat} (h : GP w q g off ts a) (hg : w'.heap[g]? = w.heap[g]?) (hl : a' < ts.length)
    (hb : ∃ c, w'.heap[q]? = some (.cells #[.slice (some ⟨g, off + a' * 4, none⟩) (ts.length - a') c] 76 (0, 0)) ∧ ts.length - a' ≤ c ∧ c ≤ maxLen) : GP w' q g off ts a' := by
  refine ⟨hb, hl, h.fin, h.len, h.txt, h.ne, fun k t ht => ?_⟩
  obtain ⟨c1, c2, c3, c4⟩ := h.tok k t ht
  exact ⟨(World.cell?_of_block (a := ⟨g, _, none⟩) hg).trans c1, (World.cell?_of_block (a := ⟨g, _, none⟩) hg).trans c2, (World.cell?_of_block (a := ⟨g, _, none⟩) hg).trans c3, (World.cell?_of_block (a := ⟨g, _, none⟩) hg).trans c4⟩
/-- What a step leaves: all that was there, but for the blocks that P names. -/
structure GrP (P : Nat → Prop) (w w' : World) : Prop where
  os : w'.os = w.os
  tape : w'.tape = w.tape
  output : w'.output = w.output
  size : w.heap.size ≤ w'.heap.size
  block : ∀ k, k < w.heap.size → ¬ P k → w'.heap[k]? = w.heap[k]?
theorem GrP.refl (P : Nat → Prop) (w : World) : GrP P w w := ⟨rfl, rfl, rfl, Nat.le_refl _, fun _ _ _ => rfl⟩
theorem GrP.trans {P : Nat → Prop} {w0 w w' : World} (h : GrP P w0 w) (k : GrP P w w') : GrP P w0 w' :=
  ⟨k.os.trans h.os, k.tape.trans h.tape, k.output.trans h.output, Nat.le_trans h.size k.size, fun i hi hne => (k.block i (Nat.lt_of_lt_of_le hi h.size) hne).trans (h.block i hi hne)⟩
theorem GrP.of_below {P : Nat → Prop} {w w' : World} (h : Below w.heap.size w w') : GrP P w w' := ⟨h.os, h.tape, h.output, h.size, fun k hk _ => h.block k hk⟩
theorem GrP.mono {P Q : Nat → Prop} {w w' : World} (h : GrP P w w') (hpq : ∀ k, k < w.heap.size → P k → Q k) : GrP Q w w' := ⟨h.os, h.tape, h.output, h.size, fun k hk hn => h.block k hk (fun hp => hn (hpq k hk hp))⟩
theorem GrP.below {P : Nat → Prop} {B : Nat} {w w' : World} (h : GrP P w w') (hB : B ≤ w.heap.size) (hP : ∀ k, P k → B ≤ k) : Below B w w' :=
  ⟨h.os, h.tape, h.output, h.size, fun k hk => h.block k (by omega) (fun hp => by have := hP k hp; omega)⟩
/-- A write to a block that may be written or is new. -/
theorem GrP.set {P : Nat → Prop} {w0 w : World} (h : GrP P w0 w) {R : Nat} (hR : w0.heap.size ≤ R ∨ P R) (i : Nat) (u : Value) : GrP P w0 (w.setCell ⟨R, i, none⟩ u) :=
  ⟨h.os, h.tape, h.output, by simp; exact h.size, fun k hk hne => (Below.heap_setCell _ _ _ _ (by
    rcases hR with hR | hR
    · simp only [ne_eq]; omega
    · exact fun e => hne (by rw [e]; exact hR))).trans (h.block k hk hne)⟩
theorem GrP.grown {P : Nat → Prop} {w0 w w' : World} (h : GrP P w0 w) {row : Option Nat} (hg : w.grownBy w' row) (hr : ∀ g, row = some g → w0.heap.size ≤ g ∨ P g) : GrP P w0 w' :=
  ⟨hg.os.trans h.os, hg.tape.trans h.tape, hg.output.trans h.output, Nat.le_trans h.size hg.size, fun i hi hne => (hg.block i (Nat.lt_of_lt_of_le hi h.size) (fun e => by
    rcases hr _ e.symm with h1 | h1
    · omega
    · exact hne h1)).trans (h.block i hi hne)⟩
theorem GP.below {w w' : World} {q g off : Nat} {ts : List Tok} {a : Nat} (h : GP w q g off ts a) (hb : Below w.heap.size w w') : GP w' q g off ts a := by
  obtain ⟨c, h1, h2⟩ := h.blk
  exact h.keep (hb.block g h.glt) h.lt ⟨c, (hb.block q h.qlt).trans h1, h2⟩
/-- The parser at a place, or a fault. -/
def GPost (w : World) (q g off : Nat) (ts : List Tok) (st : Except (Int × Int × Int) Nat) (v : Value) (en : Ending) (w' : World) : Prop :=
  GrP (fun k => k = q) w w' ∧ match st with
  | .ok a' => en = .returned v ∧ GP w' q g off ts a'
  | .error f => en = fauE f.1 f.2.1 f.2.2
set_option maxRecDepth 100000 in
theorem gfollows_ex {w : World} {q g off : Nat} {ts : List Tok} {a : Nat} (h : GP w q g off ts a) (kd : Int) (z : ByteArray) :
    Calls Tryz.prog 88 #[.pointer (some ⟨q, 0, none⟩), .int .i64 kd, .string z] w fun en w' => ∃ r : Bool, en = .returned (.bool r) ∧ (r = true ↔ isF ts kd z a) ∧ Below w.heap.size w w' := by
  obtain ⟨t, ht, _⟩ := h.now
  obtain ⟨c, hq, hc1, hc2⟩ := h.blk
  obtain ⟨d0, d1, d2, d3⟩ := h.tok a t ht
  have hn : 1 ≤ ts.length - a := by have := h.lt; omega
  have hn2 : ts.length - a ≤ 3000 := by have := h.len; omega
  have e1 : isF ts kd z a ↔ (t.kind = kd ∧ bytesOf t.text = z) := by
    unfold isF; rw [ht]
    exact ⟨fun ⟨t', h1, h2⟩ => by injection h1 with h1; subst h1; exact h2, fun h2 => ⟨t, rfl, h2⟩⟩
  simp only [e1]
  clear h ht e1
  generalize off + a * 4 = o at *
  generalize ts.length - a = n at *
  obtain ⟨tk, tt, tl, tc⟩ := t
  simp only at d0 d1 d2 d3 ⊢
  generalize bytesOf tt = s at *
  have c0 := cell_of_row _ _ 0 _ _ _ hq
  have hpos : (0 : Int) < (n : Int) := by omega
  clear hq
  by_cases hk : tk = kd
  · subst hk
    go_enter Tryz.func88, Tryz.ntmps88
    go_wp2_with fail
    go_ret
    rw [str_eq]
    by_cases hs : s = z
    · exact .inr ⟨by rw [decide_eq_true hs]; rfl, hs, Below.refl _ _⟩
    · exact .inl ⟨by rw [decide_eq_false hs]; rfl, hs, Below.refl _ _⟩
  · have hkb : (tk == kd) = false := by simp [hk]
    go_enter Tryz.func88, Tryz.ntmps88
    go_wp2_with fail
    go_ret
    first | exact ⟨rfl, Below.refl _ _⟩ | exact ⟨false, rfl, by simp [hk], Below.refl _ _⟩
/-- What read does: the token's kind alone. -/
def readF (ts : List Tok) (kd : Int) (a : Nat) : St :=
  match ts[a]? with
  | none => .error (60, 0, 0)
  | some t => if t.kind = kd then .ok (a + 1) else tokFault 60 t
theorem cell4 {w : World} {g o : Nat} {a b c d : Value} (h0 : w.cell? ⟨g, o, none⟩ = some a) (h1 : w.cell? ⟨g, o + 1, none⟩ = some b) (h2 : w.cell? ⟨g, o + 2, none⟩ = some c) (h3 : w.cell? ⟨g, o + 3, none⟩ = some d) (w' : World) (hw : w'.heap[g]? = w.heap[g]?) :
    w'.cell? ⟨g, o, none⟩ = some a ∧ w'.cell? ⟨g, o + 1, none⟩ = some b ∧ w'.cell? ⟨g, o + 2, none⟩ = some c ∧ w'.cell? ⟨g, o + 3, none⟩ = some d :=
  ⟨(World.cell?_of_block (a := ⟨g, _, none⟩) hw).trans h0, (World.cell?_of_block (a := ⟨g, _, none⟩) hw).trans h1, (World.cell?_of_block (a := ⟨g, _, none⟩) hw).trans h2, (World.cell?_of_block (a := ⟨g, _, none⟩) hw).trans h3⟩
/-- Behind the writes of a result. -/
theorem GP.set {w : World} {q g off : Nat} {ts : List Tok} {a : Nat} (h : GP w q g off ts a) {R : Nat} (h1 : R ≠ q) (h2 : R ≠ g) (i : Nat) (u : Value) : GP (w.setCell ⟨R, i, none⟩ u) q g off ts a := by
  obtain ⟨c, h3, h4⟩ := h.blk
  exact h.keep (Below.heap_setCell _ _ _ _ (by simpa using h2.symm)) h.lt ⟨c, (Below.heap_setCell _ _ _ _ (by simpa using h1.symm)).trans h3, h4⟩
theorem GP.set4 {w : World} {q g off : Nat} {ts : List Tok} {a : Nat} (h : GP w q g off ts a) {R : Nat} (h1 : R ≠ q) (h2 : R ≠ g) (u0 u1 u2 u3 : Value) : GP (Lx.set4 w R u0 u1 u2 u3) q g off ts a := (((h.set h1 h2 0 u0).set h1 h2 1 u1).set h1 h2 2 u2).set h1 h2 3 u3
/-- What expect does: the token's kind and text. -/
def wordF (ts : List Tok) (kd : Int) (z : ByteArray) (a : Nat) : St :=
  match ts[a]? with
  | none => .error (60, 0, 0)
  | some t => if t.kind = kd ∧ bytesOf t.text = z then .ok (a + 1) else tokFault 60 t
theorem heap_alloc_old {w : World} (o : Obj) {k : Nat} {x : Obj} (h : w.heap[k]? = some x) : (w.alloc o).heap[k]? = some x := ((balloc w o).block k (heap_lt h)).trans h
theorem set_row1 {w : World} {q : Nat} {u : Value} {t : TypeId} (h : w.heap[q]? = some (.cells #[u] t (0, 0))) (v : Value) : (w.setCell ⟨q, 0, none⟩ v).heap[q]? = some (.cells #[v] t (0, 0)) := by
  simp [World.setCell, Array.getElem?_modify, h]
set_option maxHeartbeats 1000000 in
set_option maxRecDepth 100000 in
theorem gread_ex {w : World} {q g off : Nat} {ts : List Tok} {a : Nat} (h : GP w q g off ts a) {t : Tok} (ht : ts[a]? = some t) (kd : Int) (hk6 : kd ≠ 6) :
    Calls Tryz.prog 87 #[.pointer (some ⟨q, 0, none⟩), .int .i64 kd] w (GPost w q g off ts (readF ts kd a) t.val) := by
  have e1 : readF ts kd a = if t.kind = kd then .ok (a + 1) else tokFault 60 t := by unfold readF; rw [ht]
  rw [e1]
  have hmore : t.kind ≠ 6 → a + 1 < ts.length := fun h6 => by
    have h1 := h.lt
    rcases Nat.lt_or_ge (a + 1) ts.length with h2 | h2
    · exact h2
    · have h3 : a = ts.length - 1 := by omega
      rw [h3] at ht
      exact absurd (h.fin t ht) h6
  have HH := Lib.hid h
  obtain ⟨c, hq, hc1, hc2⟩ := h.blk
  have HQ := Lib.hid hq
  obtain ⟨d0, d1, d2, d3⟩ := h.tok a t ht
  have hqw := h.qlt
  have hgw := h.glt
  have hne := h.ne
  have hn : 1 ≤ ts.length - a := by have := h.lt; omega
  have hn2 : ts.length - a ≤ 3000 := by have := h.len; omega
  have B0 := Lib.hid (balloc w ZTok)
  obtain ⟨d0, d1, d2, d3⟩ := cell4 d0 d1 d2 d3 (w.alloc ZTok) (B0.out.block g hgw)
  have c0 := (cell_of_row _ _ 0 _ _ _ ((B0.out.block q hqw).trans hq))
  have fq := (frozen_of_row _ _ 0 _ _ ((B0.out.block q hqw).trans hq))
  have K0 := heap_alloc_new w ZTok
  have f0 := frozen_of_row _ _ 0 _ _ K0
  have f1 := frozen_of_row _ _ 1 _ _ K0
  have f2 := frozen_of_row _ _ 2 _ _ K0
  have f3 := frozen_of_row _ _ 3 _ _ K0
  clear h ht e1 hq K0
  obtain ⟨tk, tt, tl, tc⟩ := t
  simp only at d0 d1 d2 d3 hmore
  unfold tokFault
  change Calls _ _ _ _ (GPost w q g off ts (if tk = kd then .ok (a + 1) else .error (60, tl, tc)) (.agg #[.int .i64 tk, .string (bytesOf tt), .int .i64 tl, .int .i64 tc]))
  generalize bytesOf tt = s at *
  have hpos : (0 : Int) < ((ts.length - a : Nat) : Int) := by omega
  have q1 : ¬ w.heap.size = q := by omega
  have q2 : ¬ q = w.heap.size := by omega
  have q3 : ¬ w.heap.size = g := by omega
  have q4 : ¬ g = w.heap.size := by omega
  have q5 : ¬ q = g := fun e => hne e.symm
  by_cases hk : tk = kd
  · subst hk
    rw [if_pos rfl]
    have hm := hmore hk6
    go_enter Tryz.func87, Tryz.ntmps87
    go_wp2_with fail
    have g1 : GrP (fun k => k = q) w (w.setCell ⟨q, 0, none⟩ (.slice (some ⟨g, off + a * 4 + 4, none⟩) (ts.length - a - 1) (c - 1))) := (GrP.refl (fun k => k = q) w).set (R := q) (.inr rfl) 0 _
    have g2 := g1.trans (GrP.of_below (balloc _ (TokB tk s tl tc)))
    have g3 := g2.trans (GrP.of_below (balloc _ (TokB tk s tl tc)))
    have hb9 := heap_alloc_old (w := ((w.setCell ⟨q, 0, none⟩ (.slice (some ⟨g, off + a * 4 + 4, none⟩) (ts.length - a - 1) (c - 1))).alloc (TokB tk s tl tc))) (TokB tk s tl tc) (heap_alloc_new _ (TokB tk s tl tc))
    rw [show (w.setCell ⟨q, 0, none⟩ (.slice (some ⟨g, off + a * 4 + 4, none⟩) (ts.length - a - 1) (c - 1))).heap.size = w.heap.size by simp] at hb9
    refine bodyPost_ret (v := .agg #[.int .i64 tk, .string s, .int .i64 tl, .int .i64 tc]) (by simp [results, Tryz.results87, go_sem, cell_of_row _ w.heap.size 0 _ _ _ hb9, cell_of_row _ w.heap.size 1 _ _ _ hb9, cell_of_row _ w.heap.size 2 _ _ _ hb9, cell_of_row _ w.heap.size 3 _ _ _ hb9]) rfl ?_
    refine ⟨g3, rfl, HH.out.keep (g3.block g hgw hne) hm ⟨c - 1, ?_, by omega, by omega⟩⟩
    refine (heap_alloc_old _ (heap_alloc_old _ (set_row1 (HQ.out) _))).trans ?_
    rw [show off + (a + 1) * 4 = off + a * 4 + 4 by omega, Nat.sub_sub]
  · rw [if_neg hk]
    have hkb : (tk != kd) = true := by simp [hk]
    go_enter Tryz.func87, Tryz.ntmps87
    go_wp2_with (go_at_call 61; ((with_reducible refine (gfail_ex _ _ _ _ _ _).mono ?_); rintro e w1 ⟨rfl, hb1⟩; have B1 := Lib.hid hb1; clear hb1))
    exact ⟨rfl, ((GrP.of_below (balloc w ZTok)).trans (GrP.of_below (balloc _ _))).trans (GrP.of_below B1.out), rfl⟩
theorem readF_ok {ts : List Tok} {kd : Int} {a n : Nat} (h : readF ts kd a = .ok n) : n = a + 1 ∧ ∃ t, ts[a]? = some t ∧ t.kind = kd := by
  unfold readF at h
  split at h
  · cases h
  · rename_i t ht
    split at h
    · rename_i hk
      injection h with h
      exact ⟨h.symm, t, ht, hk⟩
    · cases h
set_option maxHeartbeats 1000000 in
set_option maxRecDepth 100000 in
theorem gexpect_ex {w : World} {q g off : Nat} {ts : List Tok} {a : Nat} (h : GP w q g off ts a) (z : ByteArray) (kd : Int) (hk6 : kd ≠ 6) :
    Calls Tryz.prog 59 #[.pointer (some ⟨q, 0, none⟩), .int .i64 kd, .string z] w (GPost w q g off ts (wordF ts kd z a) (.tuple #[])) := by
  obtain ⟨t, ht, _⟩ := h.now
  have e1 : wordF ts kd z a = if t.kind = kd ∧ bytesOf t.text = z then .ok (a + 1) else tokFault 60 t := by unfold wordF; rw [ht]
  have e2 : readF ts kd a = if t.kind = kd then .ok (a + 1) else tokFault 60 t := by unfold readF; rw [ht]
  have HR := Lib.hid (gread_ex h ht kd hk6)
  rw [e1]
  rw [e2] at HR
  clear e1 e2 h ht
  obtain ⟨tk, tt, tl, tc⟩ := t
  unfold tokFault at *
  change Hid (Calls _ _ _ _ (GPost w q g off ts (if tk = kd then .ok (a + 1) else .error (60, tl, tc)) (.agg #[.int .i64 tk, .string (bytesOf tt), .int .i64 tl, .int .i64 tc]))) at HR
  change Calls _ _ _ _ (GPost w q g off ts (if tk = kd ∧ bytesOf tt = z then .ok (a + 1) else .error (60, tl, tc)) _)
  generalize bytesOf tt = s at *
  by_cases hk : tk = kd
  · rw [if_pos hk] at HR
    by_cases hs : s = z
    · subst hs
      rw [if_pos ⟨hk, rfl⟩]
      have hsb : (s.toList != s.toList) = false := by simp
      go_enter Tryz.func59, Tryz.ntmps59
      go_wp2_with (go_at_call 87; ((with_reducible refine (HR.out).mono ?_); rintro e w1 ⟨hg1, rfl, hp1⟩; have G1 := Lib.hid hg1; have P1 := Lib.hid hp1; clear hg1 hp1))
      go_end0
      exact ⟨G1.out.trans (GrP.of_below (balloc _ _)), rfl, P1.out.below (balloc _ _)⟩
    · rw [if_neg (fun x => hs x.2)]
      have hsb : (!s.toList == z.toList) = true := by rw [str_eq, decide_eq_false hs]; rfl
      go_enter Tryz.func59, Tryz.ntmps59
      go_wp2_with (first
        | (go_at_call 87; ((with_reducible refine (HR.out).mono ?_); rintro e w1 ⟨hg1, rfl, hp1⟩; have G1 := Lib.hid hg1; clear hg1 hp1))
        | (go_at_call 61; ((with_reducible refine (gfail_ex _ _ _ _ _ _).mono ?_); rintro e w2 ⟨rfl, hb2⟩; have B2 := Lib.hid hb2; clear hb2)))
      exact ⟨rfl, (G1.out.trans (GrP.of_below (balloc _ _))).trans (GrP.of_below B2.out), rfl⟩
  · rw [if_neg hk] at HR
    rw [if_neg (fun x => hk x.1)]
    go_enter Tryz.func59, Tryz.ntmps59
    go_wp2_with (go_at_call 87; ((with_reducible refine (HR.out).mono ?_); rintro e w1 ⟨hg1, rfl⟩; have G1 := Lib.hid hg1; clear hg1))
    exact ⟨rfl, G1.out, rfl⟩
theorem takeF_read {ts : List Tok} {kd most : Int} {a : Nat} : takeF ts kd most a = (readF ts kd a).bind fun n => match ts[a]? with | none => .error (60, 0, 0) | some t => if most < (t.text.length : Int) then tokFault 1 t else .ok n := by
  unfold takeF readF
  cases ts[a]? with
  | none => rfl
  | some t =>
    simp only
    by_cases hk : t.kind = kd
    · rw [if_neg (by simpa using hk), if_pos hk]; rfl
    · rw [if_pos hk, if_neg hk]; rfl
set_option maxHeartbeats 1000000 in
set_option maxRecDepth 100000 in
theorem glimited_ex {w : World} {q g off : Nat} {ts : List Tok} {a : Nat} (h : GP w q g off ts a) {t : Tok} (ht : ts[a]? = some t) (kd most : Int) (hk6 : kd ≠ 6) :
    Calls Tryz.prog 60 #[.pointer (some ⟨q, 0, none⟩), .int .i64 kd, .int .i64 most] w (GPost w q g off ts (takeF ts kd most a) t.val) := by
  have e1 : takeF ts kd most a = if t.kind ≠ kd then tokFault 60 t else if most < (t.text.length : Int) then tokFault 1 t else .ok (a + 1) := by unfold takeF; rw [ht]
  have e2 : readF ts kd a = if t.kind = kd then .ok (a + 1) else tokFault 60 t := by unfold readF; rw [ht]
  have HR := Lib.hid (fun (W : World) (hW : GP W q g off ts a) => gread_ex hW ht kd hk6)
  have HH := Lib.hid (h.below (balloc w ZTok))
  have hqw := h.qlt
  have hgw : w.heap.size ≠ g := by have := h.glt; omega
  have htl := h.txt t (List.mem_of_getElem? ht)
  rw [e1]
  rw [e2] at HR
  rw [← bytesOf_size] at htl ⊢
  clear e1 e2 h ht
  obtain ⟨tk, tt, tl, tc⟩ := t
  unfold tokFault at *
  change Hid (∀ (W : World) (hW : GP W q g off ts a), Calls _ _ _ _ (GPost W q g off ts (if tk = kd then .ok (a + 1) else .error (60, tl, tc)) (.agg #[.int .i64 tk, .string (bytesOf tt), .int .i64 tl, .int .i64 tc]))) at HR
  change Calls _ _ _ _ (GPost w q g off ts (if tk ≠ kd then .error (60, tl, tc) else if most < ((bytesOf tt).size : Int) then .error (1, tl, tc) else .ok (a + 1)) (.agg #[.int .i64 tk, .string (bytesOf tt), .int .i64 tl, .int .i64 tc]))
  simp only at htl
  generalize bytesOf tt = s at *
  have B0 := Lib.hid (balloc w ZTok)
  have K0 := Lib.hid (heap_alloc_new w ZTok)
  have Qw := Lib.hid (show q ≠ w.heap.size by omega)
  have hsz : (s.size : Int) ≤ 10000 := by omega
  by_cases hk : tk = kd
  · subst hk
    rw [if_pos rfl] at HR
    rw [if_neg (by simp)]
    by_cases hs : most < (s.size : Int)
    · rw [if_pos hs]
      go_enter Tryz.func60, Tryz.ntmps60
      go_wp2_with (first
        | (go_at_call 87; ((with_reducible refine (HR.out _ HH.out).mono ?_); rintro e w1 ⟨hg1, rfl, hp1⟩; have G1 := Lib.hid hg1; have K1 := heap_alloc_new w1 (TokB tk s tl tc); have d0 := cell_of_row _ _ 0 _ _ _ K1; have d1 := cell_of_row _ _ 1 _ _ _ K1; have d2 := cell_of_row _ _ 2 _ _ _ K1; have d3 := cell_of_row _ _ 3 _ _ _ K1; clear hg1 hp1 K1))
        | (go_at_call 61; ((with_reducible refine (gfail_ex _ _ _ _ _ _).mono ?_); rintro e w2 ⟨rfl, hb2⟩; have B2 := Lib.hid hb2; clear hb2)))
      exact ⟨rfl, (((GrP.of_below B0.out).trans G1.out).trans (GrP.of_below (balloc _ _))).trans (GrP.of_below B2.out), rfl⟩
    · rw [if_neg hs]
      go_enter Tryz.func60, Tryz.ntmps60
      go_wp2_with (first
        | (go_at_call 87; ((with_reducible refine (HR.out _ HH.out).mono ?_); rintro e w1 ⟨hg1, rfl, hp1⟩; have G1 := Lib.hid hg1; have P1 := Lib.hid hp1; have K1 := heap_alloc_new w1 (TokB tk s tl tc); have d0 := cell_of_row _ _ 0 _ _ _ K1; have d1 := cell_of_row _ _ 1 _ _ _ K1; have d2 := cell_of_row _ _ 2 _ _ _ K1; have d3 := cell_of_row _ _ 3 _ _ _ K1; have r1 := heap_alloc_old (TokB tk s tl tc) ((hg1.block _ (heap_lt K0.out) (fun e => Qw.out e.symm)).trans K0.out); have R1 := Lib.hid r1; have e0 := cell_of_row _ _ 0 _ _ _ r1; have e1 := cell_of_row _ _ 1 _ _ _ r1; have e2 := cell_of_row _ _ 2 _ _ _ r1; have e3 := cell_of_row _ _ 3 _ _ _ r1; have f0 := frozen_of_row _ _ 0 _ _ r1; have f1 := frozen_of_row _ _ 1 _ _ r1; have f2 := frozen_of_row _ _ 2 _ _ r1; have f3 := frozen_of_row _ _ 3 _ _ r1; clear hg1 hp1 K1 r1)))
      have hb9 := res4 _ w.heap.size _ _ _ _ (.int .i64 tk) (.string s) (.int .i64 tl) (.int .i64 tc) _ R1.out
      refine bodyPost_ret (v := .agg #[.int .i64 tk, .string s, .int .i64 tl, .int .i64 tc]) (by simp [results, Tryz.results60, go_sem, cell_of_row _ w.heap.size 0 _ _ _ hb9, cell_of_row _ w.heap.size 1 _ _ _ hb9, cell_of_row _ w.heap.size 2 _ _ _ hb9, cell_of_row _ w.heap.size 3 _ _ _ hb9]) rfl ?_
      have g9 : GrP (fun k => k = q) w (set4 (w1.alloc (TokB tk s tl tc)) w.heap.size (.int .i64 tk) (.string s) (.int .i64 tl) (.int .i64 tc)) := (((((GrP.of_below B0.out).trans G1.out).trans (GrP.of_below (balloc _ _))).set (.inl (Nat.le_refl _)) _ _).set (.inl (Nat.le_refl _)) _ _).set (.inl (Nat.le_refl _)) _ _ |>.set (.inl (Nat.le_refl _)) _ _
      exact ⟨g9, rfl, (P1.out.below (balloc _ _)).set4 Qw.out.symm hgw _ _ _ _⟩
  · rw [if_neg hk] at HR
    rw [if_pos hk]
    go_enter Tryz.func60, Tryz.ntmps60
    go_wp2_with (go_at_call 87; ((with_reducible refine (HR.out _ HH.out).mono ?_); rintro e w1 ⟨hg1, rfl⟩; have G1 := Lib.hid hg1; clear hg1))
    exact ⟨rfl, (GrP.of_below B0.out).trans G1.out, rfl⟩
end Go.Proofs.YtdncjhffniepbaaGreatDoor.Lx
