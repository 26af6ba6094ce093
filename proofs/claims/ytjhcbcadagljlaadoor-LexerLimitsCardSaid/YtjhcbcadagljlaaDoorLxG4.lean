/-
  Layer 5, the program: strconv.ParseUint at two bytes, base 16.
-/
import Derived.Test.YtjhcbcadagljlaaDoorLxG3
namespace Go.Proofs.YtjhcbcadagljlaaDoor.Lx
open Go.RowKit

def low (c : Int) : Int := if c / 32 % 2 = 1 then c else c + 32
theorem low_all : ∀ n : Fin 256, bits .or .u8 (n.val : Int) 32 = low (n.val : Int) := by decide +kernel
theorem low_eq {c : Int} (h0 : 0 ≤ c) (h1 : c ≤ 255) : bits .or .u8 c 32 = low c := by
  have := low_all ⟨c.toNat, by omega⟩
  simp only at this
  rwa [Int.toNat_of_nonneg h0] at this
theorem glow_any {c : Int} (h0 : 0 ≤ c) (h1 : c ≤ 255) (w : World) : Calls Tryd.prog 60 #[.int .u8 c] w fun e w' => e = .returned (.int .u8 (low c)) ∧ w = w' := by
  refine (Tryd.internal_strconv_lower c w).mono ?_
  rintro e w' ⟨rfl, rfl⟩
  exact ⟨by rw [low_eq h0 h1], rfl⟩

def hex2 (x y : Int) : Option Int := match half x, half y with
  | some u, some v => some (16 * u + v)
  | _, _ => none
def HexAt (x y : Int) (k : Nat) (r : Int) : Prop := (k = 0 ∧ r = 0) ∨ (k = 1 ∧ half x = some r) ∨ (k = 2 ∧ hex2 x y = some r)
theorem HexAt.bd {x y : Int} {k : Nat} {r : Int} (h : HexAt x y k r) (hk : k < 2) : 0 ≤ r ∧ r ≤ 15 := by
  rcases h with ⟨_, rfl⟩ | ⟨_, h⟩ | ⟨h, _⟩
  · omega
  · exact half_bd h
  · omega
theorem HexAt.done {x y : Int} {r : Int} (h : HexAt x y 2 r) : hex2 x y = some r := by
  rcases h with ⟨h, _⟩ | ⟨h, _⟩ | ⟨_, h⟩
  · omega
  · omega
  · exact h
theorem HexAt.bad {x y : Int} {k : Nat} {r z : Int} (h : HexAt x y k r) (hz : [x, y][k]? = some z) (hh : half z = none) : hex2 x y = none := by
  match k, hz with
  | 0, hz => simp at hz; subst hz; unfold hex2; rw [hh]
  | 1, hz => simp at hz; subst hz; unfold hex2; rw [hh]; cases half x <;> rfl
theorem HexAt.more {x y : Int} {k : Nat} {r z d : Int} (h : HexAt x y k r) (hz : [x, y][k]? = some z) (hh : half z = some d) : HexAt x y (k + 1) (r * 16 + d) := by
  match k, hz with
  | 0, hz =>
    simp at hz; subst hz
    rcases h with ⟨_, rfl⟩ | ⟨h, _⟩ | ⟨h, _⟩
    · exact .inr (.inl ⟨rfl, by simpa using hh⟩)
    · omega
    · omega
  | 1, hz =>
    simp at hz; subst hz
    rcases h with ⟨h, _⟩ | ⟨_, h⟩ | ⟨h, _⟩
    · omega
    · refine .inr (.inr ⟨rfl, ?_⟩)
      unfold hex2
      rw [h, hh]
      simp only [Option.some.injEq]
      omega
    · omega
theorem half_dig {z : Int} (h0 : 48 ≤ z) (h1 : z ≤ 57) : half z = some (z - 48) := by unfold half; rw [if_pos ⟨h0, h1⟩]
theorem half_let {z : Int} (_h : z < 48 ∨ 57 < z) (h0 : 97 ≤ low z) (h1 : low z ≤ 102) : half z = some (low z - 87) := by
  unfold low at *
  unfold half
  rw [if_neg (by omega)]
  by_cases h2 : 97 ≤ z ∧ z ≤ 102
  · rw [if_pos h2]; congr 1; split <;> omega
  · rw [if_neg h2, if_pos (by split at h0 <;> omega)]; congr 1; split <;> omega
theorem half_not {z : Int} (_hb : 0 ≤ z ∧ z ≤ 255) (_h : z < 48 ∨ 57 < z) (h0 : low z < 97 ∨ 102 < low z) : half z = none := by
  unfold low at *
  unfold half
  rw [if_neg (by omega), if_neg (by split at h0 <;> omega), if_neg (by split at h0 <;> omega)]
def puV (x y : Int) : Value := match hex2 x y with
  | some v => .tuple #[.int .u64 v, .nilIface]
  | none => .tuple #[.int .u64 0, .iface 116 (.int .i64 2)]

theorem conv_two {s : ByteArray} {x y : Int} (hs : ch s = [x, y]) (w : World) : ∃ cap w', (convert 9 24 (.string s)).run Tryd.prog w = .ok (.slice (some ⟨w.heap.size, 0, none⟩) 2 cap) w' ∧ Below w.heap.size w w' ∧ w'.cell? ⟨w.heap.size, 0, none⟩ = some (.int .u8 x) ∧ w'.cell? ⟨w.heap.size, 1, none⟩ = some (.int .u8 y) := by
  have hsz : s.size = 2 := by rw [← ch_length, hs]; rfl
  have hsd : s.data.size = 2 := hsz
  have h := run_bytes_of_string (P := Tryd.prog) w 9 24 5 s Tryd.underlying9 Tryd.underlying24 Tryd.underlying5
  obtain ⟨h0, x0⟩ := ch_at (s := s) (k := 0) (x := x) (by rw [hs]; rfl)
  obtain ⟨h1, x1⟩ := ch_at (s := s) (k := 1) (x := y) (by rw [hs]; rfl)
  have r0 := bytesRow_at s (grownCap w s.size 0 5) 0 (by omega)
  have r1 := bytesRow_at s (grownCap w s.size 0 5) 1 (by omega)
  have q0 : ((s.data[0]'(by omega)).toNat : Int) = x := x0
  have q1 : ((s.data[1]'(by omega)).toNat : Int) = y := x1
  rw [q0] at r0
  rw [q1] at r1
  rw [hsz] at h r0 r1
  refine ⟨_, _, h, ((Below.refl _ _).drew).alloc (Nat.le_refl _) _, ?_, ?_⟩
  · exact (cell_of_row _ _ 0 _ _ _ (heap_alloc_new w.drew _)).trans r0
  · exact (cell_of_row _ _ 1 _ _ _ (heap_alloc_new w.drew _)).trans r1

set_option maxRecDepth 100000 in
set_option maxHeartbeats 4000000 in
theorem pu_any {s : ByteArray} {x y : Int} (hs : ch s = [x, y]) (w : World) : Calls Tryd.prog 54 #[.string s, .int .i64 16, .int .i64 8] w (VPost w (puV x y)) := by
  have HBY : Hid (By [x, y]) := Lib.hid (by rw [← hs]; exact ch_By s)
  have hsz : s.size = 2 := by rw [← ch_length, hs]; rfl
  have hse : s.toList.isEmpty = false := by
    rw [← decide_eq_emptyBytes]
    refine decide_eq_false fun e => ?_
    rw [e] at hsz
    simp at hsz
  obtain ⟨cap, w1, hcv, hb1, c0, c1⟩ := conv_two hs w
  have B1 := Lib.hid hb1
  have HCL : Hid (∀ (k : Nat) (z : Int), [x, y][k]? = some z → w1.cell? ⟨w.heap.size, k, none⟩ = some (.int .u8 z)) := by
    refine Lib.hid fun k z hz => ?_
    match k, hz with
    | 0, hz => simp at hz; subst hz; exact c0
    | 1, hz => simp at hz; subst hz; exact c1
  have HL := Lib.hid (fun (c : Int) (h0 : 0 ≤ c) (h1 : c ≤ 255) (W : World) => glow_any h0 h1 W)
  clear hs hb1 c0 c1
  go_enter Tryd.func54, Tryd.ntmps54
  go_wp2_with fail
  go_loopg [12, 13, 15, 16, 17, 101] (2 + 1) (fun g' un n _ _ _ i wr => ∃ (k : Nat) (r : Int), un = .bool false ∧ n = .int .u64 r ∧ i = .int .i64 k ∧ k ≤ 2 ∧ 2 - k + 1 ≤ g' ∧ HexAt x y k r ∧ wr = w1)
  case atStart => exact ⟨0, 0, rfl, rfl, rfl, by omega, by omega, .inl ⟨rfl, rfl⟩, rfl⟩
  case round =>
    obtain ⟨k, r, rfl, rfl, rfl, hk, hg, hx, rfl⟩ := hrel
    have HX := Lib.hid hx
    clear hx
    by_cases hk2 : k < 2
    · obtain ⟨z, hz⟩ : ∃ z, [x, y][k]? = some z := ⟨[x, y][k], List.getElem?_eq_getElem hk2⟩
      have HZ := Lib.hid hz
      obtain ⟨z0, z1⟩ := HBY.out z (List.mem_of_getElem? hz)
      have hcell := HCL.out k z hz
      obtain ⟨r0, r1⟩ := HX.out.bd hk2
      have hki : (k : Int) < 2 := by omega
      have HLz := Lib.hid (HL.out z z0 z1)
      clear hz
      by_cases hd : 48 ≤ z ∧ z ≤ 57
      · obtain ⟨d0, d1⟩ := hd
        have HM := Lib.hid (HX.out.more HZ.out (half_dig d0 d1))
        go_wp2_with (go_at_call 60; ((with_reducible refine (HLz.out _).mono ?_); rintro e w' ⟨rfl, rfl⟩))
        go_roundg (2 - (k + 1) + 1)
        case measure => omega
        case rel => exact ⟨k + 1, r * 16 + (z - 48), rfl, by go_num, by go_num, by omega, Nat.le_refl _, HM.out, rfl⟩
      · have hd' : z < 48 ∨ 57 < z := by omega
        by_cases h95 : z = 95
        · subst h95
          have HN : Hid (hex2 x y = none) := Lib.hid (HX.out.bad HZ.out (by decide))
          have E : Hid (puV x y = .tuple #[.int .u64 0, .iface 116 (.int .i64 2)]) := Lib.hid (by unfold puV; rw [HN.out])
          rw [show low 95 = 127 by decide] at HLz
          clear hd hd'
          go_wp2_with (go_at_call 60; ((with_reducible refine (HLz.out _).mono ?_); rintro e w' ⟨rfl, rfl⟩))
          go_ret2
          exact ⟨ret_t E.out.symm, B1.out⟩
        have q95 : (z == 95) = false := beq_eq_false_iff_ne.2 h95
        clear h95
        by_cases hl : 97 ≤ low z ∧ low z ≤ 102
        · obtain ⟨l0, l1⟩ := hl
          have HM := Lib.hid (HX.out.more HZ.out (half_let hd' l0 l1))
          generalize low z = lz at *
          rcases hd' with hd' | hd'
          · clear hd
            go_wp2_with (go_at_call 60; ((with_reducible refine (HLz.out _).mono ?_); rintro e w' ⟨rfl, rfl⟩))
            go_roundg (2 - (k + 1) + 1)
            case measure => omega
            case rel => exact ⟨k + 1, r * 16 + (lz - 87), rfl, by go_num, by go_num, by omega, Nat.le_refl _, HM.out, rfl⟩
          · clear hd
            go_wp2_with (go_at_call 60; ((with_reducible refine (HLz.out _).mono ?_); rintro e w' ⟨rfl, rfl⟩))
            go_roundg (2 - (k + 1) + 1)
            case measure => omega
            case rel => exact ⟨k + 1, r * 16 + (lz - 87), rfl, by go_num, by go_num, by omega, Nat.le_refl _, HM.out, rfl⟩
        · have HN : Hid (hex2 x y = none) := Lib.hid (HX.out.bad HZ.out (half_not ⟨z0, z1⟩ hd' (by omega)))
          have E : Hid (puV x y = .tuple #[.int .u64 0, .iface 116 (.int .i64 2)]) := Lib.hid (by unfold puV; rw [HN.out])
          have lb : 0 ≤ low z ∧ low z ≤ 287 := by unfold low; split <;> omega
          generalize low z = lz at *
          obtain ⟨lb0, lb1⟩ := lb
          have hl' : lz < 97 ∨ 102 < lz := by omega
          clear hl hd
          go_wp2_with (go_at_call 60; ((with_reducible refine (HLz.out _).mono ?_); rintro e w' ⟨rfl, rfl⟩))
          all_goals
            first
              | omega
              | (go_ret2; exact ⟨ret_t E.out.symm, B1.out⟩)
    · obtain rfl : k = 2 := by omega
      have E : Hid (puV x y = .tuple #[.int .u64 r, .nilIface]) := Lib.hid (by unfold puV; rw [HX.out.done])
      go_wp2_with fail
      go_ret2
      exact ⟨ret_t E.out.symm, B1.out⟩
end Go.Proofs.YtjhcbcadagljlaaDoor.Lx
