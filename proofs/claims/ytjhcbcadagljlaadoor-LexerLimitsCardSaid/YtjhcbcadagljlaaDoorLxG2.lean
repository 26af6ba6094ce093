/-
  Layer 5, the program: bytes are gathered in a strings.Builder; the parts of patterns; leading bytes.
-/
import Derived.Test.YtjhcbcadagljlaaDoorLxG1
import Derived.Test.YtjhcbcadagljlaaDoorShelf
import Derived.Lib.FrozenHead2
namespace Go.Proofs.YtjhcbcadagljlaaDoor.Lx
open Go.RowKit

/-- A Builder in block b that holds l; its rows lie at B or above. -/
def Bld (w : World) (B b : Nat) (l : List Int) : Prop := Lib.IsBuilderF 55 5 B b (l.map (Value.int .u8)) w
theorem bld_new (w : World) : Bld (w.alloc (.cells #[.pointer none, .slice none 0 0] 55)) w.heap.size w.heap.size [] :=
  .inl ⟨Nat.le_refl _, _, heap_alloc_new w _, World.ownsRowF_of (World.ownsRow_nil _ _ _ _), by simp [Value.ownBlock]⟩
theorem builder_info : (Tryd.prog.info? 55).map (fun i => i.size) = some 2 := by kernel_rfl

set_option maxRecDepth 100000 in
set_option maxHeartbeats 1000000 in
theorem check_any {B b : Nat} {l : List Value} (w : World) (h : Lib.IsBuilderF 55 5 B b l w) : Calls Tryd.prog 32 #[.pointer (some ⟨b, 0, none⟩)] w fun e w' => e = .returned (.tuple #[]) ∧ (Lib.BuilderAtF 55 5 B b (.pointer (some ⟨b, 0, none⟩)) l w' ∧ Below B w w') := by
  obtain ⟨j, hj, hjs⟩ := Option.map_eq_some_iff.1 builder_info
  rcases h with h | h
  · have c0 := h.cell0
    have hsh := h.shape
    have hfz := h.frozen0
    have H := Lib.hid h
    clear h
    go_enter Tryd.func32, Tryd.ntmps32
    go_wp2
    rw [Lib.run_to_unsafe w ⟨b, 0, none⟩ Tryd.underlying53 Tryd.underlying67 hj (by rw [hjs]; decide) hsh (Nat.zero_lt_succ 1)]
    simp only [Result.andThen]
    rw [Oper.upon_value]
    go_wp2
    rw [run_callFunc_extern Tryd.func48 (by kernel_rfl) (by kernel_rfl) (by kernel_rfl) (e := Extern.AbiNoEscape.same) (by kernel_rfl), Lib.run_noEscape]
    simp only [Result.andThen]
    rw [Oper.upon_value]
    go_wp2
    rw [Lib.run_from_unsafe w ⟨b, 0, none⟩ Tryd.underlying67 Tryd.underlying53 hj hsh (by kernel_rfl)]
    simp only [Result.andThen]
    rw [Oper.upon_value]
    go_wp2
    go_end0
    exact ⟨rfl, H.out.used _, (Below.refl B w).setCell (p := ⟨b, 0, none⟩) H.out.1 _⟩
  · have c0 := h.cell0
    have H := Lib.hid h
    clear h
    go_enter Tryd.func32, Tryd.ntmps32
    go_wp2
    rw [Lib.run_neq_ptr_same w _ Tryd.underlying53 hj]
    go_wp2
    go_end0
    exact ⟨rfl, H.out, Below.refl B _⟩

theorem elByteInfo : ∃ i, Tryd.prog.info? 5 = some i ∧ i.zero = some (.int .u8 0) ∧ i.size = 1 ∧ i.bytes = 1 := by
  obtain ⟨i, h1, h2, h3, h4⟩ := info_parts Tryd.info5
  exact ⟨i, h1, h2, h3, h4⟩
set_option maxRecDepth 100000 in
set_option maxHeartbeats 2000000 in
/-- One byte more. -/
theorem bld_byte {B b : Nat} {l : List Int} {w : World} (c : Int) (h : Bld w B b l) (hl : l.length ≤ 1000000) (hB : B ≤ w.heap.size) :
    Calls Tryd.prog 18 #[.pointer (some ⟨b, 0, none⟩), .int .u8 c] w fun e w' => e = .returned .nilIface ∧ Bld w' B b (l ++ [c]) ∧ Below B w w' := by
  obtain ⟨i0, hi, hz0, hz1, hz2⟩ := elByteInfo
  have HC := Lib.hid (check_any w h)
  clear h
  go_enter Tryd.func18, Tryd.ntmps18
  go_wp2_with (go_at_call 32; refine HC.out.mono ?_)
  rintro e w1 ⟨rfl, h1, hb1⟩
  obtain ⟨hBb, v, hbk, hown, hne⟩ := h1
  have hlt := heap_lt hbk
  have c1 := cell_of_row _ _ 1 _ _ _ hbk
  go_wp2_with (at_builtin; refine wpList_append_ownF _ rfl _ _ 24 rfl B 5 i0 (.int .u8 0) 1 1 Tryd.underlying24 hi hz0 hz1 hz2 rfl (by decide) _ _ _ rfl (hown.alloc _) ⟨w1.heap.size, 0, none⟩ 1 1 [.int .u8 c] rfl rfl ?k1 ?k2 ?k3 ?k4 ?k5 ?_)
  case k1 =>
    intro j u hj
    match j, hj with
    | 0, hj => simp at hj; subst hj; simp [Addr.add]
  case k2 => intro u hu; simp at hu; subst hu; rfl
  case k3 => simp; unfold maxLen; omega
  case k4 => simp; omega
  case k5 => have := hb1.size; simp; omega
  intro v' w2 hown' hgrow _
  have hb2 : w2.heap[b]? = some (.cells #[.pointer (some ⟨b, 0, none⟩), v] 55 (0, 0)) := by
    rw [hgrow.block b (by simp; omega) (fun e => hne e.symm)]
    exact (Below.heap_alloc w1 _ _ hlt).trans hbk
  have d1 := cell_of_row _ _ 1 _ _ _ hb2
  have f1 : w2.frozen? ⟨b, 1, none⟩ = false := Lib.frozen_of_heap hb2 1
  obtain ⟨ao, n', cap, rfl⟩ : ∃ ao n' cap, v' = .slice ao n' cap := by
    rcases hown'.2 with ⟨hv, _⟩ | ⟨g, cap, cur, fz, hv, _⟩
    · exact ⟨_, _, _, hv⟩
    · exact ⟨_, _, _, hv⟩
  have HP : Hid (Lib.BuilderAtF 55 5 B b (.pointer (some ⟨b, 0, none⟩)) ((l ++ [c]).map (Value.int .u8)) (w2.setCell ⟨b, 1, none⟩ (.slice ao n' cap))) :=
    Lib.hid (Lib.BuilderAtF.put hBb hb2 (by simpa using hown') (by decide))
  have HB : Hid (Below B w (w2.setCell ⟨b, 1, none⟩ (.slice ao n' cap))) :=
    Lib.hid (((hb1.alloc (by have := hb1.size; omega) _).grown hgrow (by have := hb1.size; simp; omega) (fun k hk => (hown.lt k hk).1)).setCell (p := ⟨b, 1, none⟩) hBb _)
  clear hown hown' hgrow
  go_wp2
  go_ret
  exact ⟨rfl, .inr HP.out, HB.out⟩
set_option maxRecDepth 100000 in
set_option maxHeartbeats 2000000 in
/-- A string more. -/
theorem bld_str {B b : Nat} {l m : List Int} {w : World} {s : ByteArray} (hs : ch s = m) (h : Bld w B b l) (hl : l.length + m.length ≤ 1000000) (hB : B ≤ w.heap.size) :
    Calls Tryd.prog 19 #[.pointer (some ⟨b, 0, none⟩), .string s] w fun e w' => e = .returned (.tuple #[.int .i64 m.length, .nilIface]) ∧ Bld w' B b (l ++ m) ∧ Below B w w' := by
  obtain ⟨i0, hi, hz0, hz1, hz2⟩ := elByteInfo
  have hsz : s.size = m.length := by rw [← hs, ch_length]
  have hsc : Lib.strCells s = m.map (Value.int .u8) := by rw [← hs]; unfold Lib.strCells ch; simp
  have HC := Lib.hid (check_any w h)
  clear h hs
  go_enter Tryd.func19, Tryd.ntmps19
  go_wp2_with (go_at_call 32; refine HC.out.mono ?_)
  rintro e w1 ⟨rfl, h1, hb1⟩
  obtain ⟨hBb, v, hbk, hown, hne⟩ := h1
  have hlt := heap_lt hbk
  have c1 := cell_of_row _ _ 1 _ _ _ hbk
  go_wp2_with (at_builtin; refine Lib.wpList_append_own_stringF _ rfl _ _ 24 9 rfl B 5 i0 Tryd.underlying24 Tryd.underlying9 hi hz0 hz1 hz2 _ _ _ rfl hown s rfl ?k3 ?k4 ?k5 ?_)
  case k3 => simp; unfold maxLen; omega
  case k4 => simp; omega
  case k5 => have := hb1.size; omega
  intro v' w2 hown' hgrow _
  have hb2 : w2.heap[b]? = some (.cells #[.pointer (some ⟨b, 0, none⟩), v] 55 (0, 0)) := by
    rw [hgrow.block b hlt (fun e => hne e.symm)]
    exact hbk
  have d1 := cell_of_row _ _ 1 _ _ _ hb2
  have f1 : w2.frozen? ⟨b, 1, none⟩ = false := Lib.frozen_of_heap hb2 1
  obtain ⟨ao, n', cap, rfl⟩ : ∃ ao n' cap, v' = .slice ao n' cap := by
    rcases hown'.2 with ⟨hv, _⟩ | ⟨g, cap, cur, fz, hv, _⟩
    · exact ⟨_, _, _, hv⟩
    · exact ⟨_, _, _, hv⟩
  have HP : Hid (Lib.BuilderAtF 55 5 B b (.pointer (some ⟨b, 0, none⟩)) ((l ++ m).map (Value.int .u8)) (w2.setCell ⟨b, 1, none⟩ (.slice ao n' cap))) :=
    Lib.hid (Lib.BuilderAtF.put hBb hb2 (by simpa using hown') (by decide))
  have HB : Hid (Below B w (w2.setCell ⟨b, 1, none⟩ (.slice ao n' cap))) :=
    Lib.hid ((hb1.grown hgrow (by have := hb1.size; omega) (fun k hk => (hown.lt k hk).1)).setCell (p := ⟨b, 1, none⟩) hBb _)

  clear hown hown' hgrow
  go_wp2
  go_ret2
  exact ⟨rfl, .inr HP.out, HB.out⟩
/-- What has been gathered. -/
theorem bld_string {B b : Nat} {l : List Int} {w : World} (h : Bld w B b l) (hl : By l) (hB : B ≤ w.heap.size) :
    Calls Tryd.prog 20 #[.pointer (some ⟨b, 0, none⟩)] w fun e w' => e = .returned (.string (bytesOf l)) ∧ Below B w w' := by
  have e : l.map (Value.int .u8) = Lib.byteCells (l.map fun x => UInt8.ofNat x.toNat) := by
    unfold Lib.byteCells
    rw [List.map_map]
    refine List.map_congr_left fun x hx => ?_
    have := hl x hx
    simp
    omega
  unfold Bld at h
  rw [e] at h
  refine (Tryd.Builder_String_any_k B b _ w h hB).mono ?_
  rintro e w' ⟨rfl, _, hb, _⟩
  exact ⟨rfl, hb⟩
end Go.Proofs.YtjhcbcadagljlaaDoor.Lx
