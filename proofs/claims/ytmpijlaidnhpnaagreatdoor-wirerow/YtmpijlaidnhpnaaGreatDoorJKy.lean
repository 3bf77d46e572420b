/- The walks of the functions that write a number's digits in base 10. The walks of Dec and Hex, of the document's own digits, and of the statement's own question whether anything answers. -/
import Derived.Test.YtmpijlaidnhpnaaGreatDoorJKw
import Derived.Lib.AppendIntMem
import Derived.Lib.ItoaMem
import Derived.Lib.Walk
import Derived.Laws.BitsAllLaws
namespace Go.Proofs.YtmpijlaidnhpnaaGreatDoor.Ck
set_option linter.unusedVariables false
set_option linter.unusedSimpArgs false
set_option maxRecDepth 100000
open Go.RowKit Go.Sort

/-- The table of bits.TrailingZeros64. -/
def deb : List Int := [0, 1, 56, 2, 57, 49, 28, 3, 61, 58, 42, 50, 38, 29, 17, 4, 62, 47, 59, 36, 45, 43, 51, 22, 53, 39, 33, 30, 24, 18, 12, 5, 63, 55, 48, 27, 60, 41, 37, 16, 46, 35, 44, 21, 52, 32, 23, 11, 54, 26, 40, 15, 34, 20, 31, 10, 25, 14, 19, 9, 13, 8, 7, 6]

/-- The library's two tables that these walks read hold what their initialisers lay. -/
structure Tabs (w : World) : Prop where
  bru : Lib.TabIs Tryz.prog w "math/bits.deBruijn64tab" .u8 deb

theorem Tabs.below {w w' : World} (h : Tabs w) (hb : Below w.heap.size w w') : Tabs w' :=
  ⟨Lib.tabBelow_of_tabIs h.bru w' hb⟩

theorem gBru : Tryz.prog.globalNamed "math/bits.deBruijn64tab" = some 3 := by kernel_rfl
theorem Tabs.four {w : World} (h : Tabs w) : w.cell? ⟨3, 15, none⟩ = some (.int .u8 4) := h.bru.cell gBru 15 (by decide)

set_option maxHeartbeats 400000 in
theorem tz16 (w : World) (ht : Tabs w) : Calls Tryz.prog 136 #[.int .u64 16] w fun e w' => e = .returned (.int .i64 4) ∧ w' = w := by
  have h4 := ht.four
  have e1 : IntKind.u64.wrap (-16) = 18446744073709551600 := by decide
  have e2 : bits BinOp.and IntKind.u64 16 18446744073709551600 = 16 := by rw [u64_and _ _ (by decide) (by decide) (by decide) (by decide)]; decide +kernel
  have e3 : IntKind.u64.wrap (16 * 285870213051353865) = 4573923408821661840 := by decide
  go_enter Tryz.func136, Tryz.ntmps136
  go_wp2
  go_ret
  exact ⟨rfl, rfl⟩

theorem mask16 (v : Nat) (h : v < 18446744073709551616) : bits BinOp.and IntKind.u64 (v : Int) 15 = ((v % 16 : Nat) : Int) := by
  have := u64_and_nat v 15 h (by decide)
  rw [show ((15 : Nat) : Int) = 15 from rfl] at this
  rw [this, show (15 : Nat) = 2 ^ 4 - 1 from rfl, Nat.and_two_pow_sub_one_eq_mod]

def zeros65 : Array Value := Array.replicate 65 (.int .u8 0)
theorem zeros65_at (i : Nat) (h : i < 65) : zeros65[i]? = some (.int .u8 0) := by
  unfold zeros65; rw [Array.getElem?_replicate, if_pos h]

set_option maxRecDepth 100000 in
theorem zero61 (W : World) : Sem.run Tryz.prog (zeroValue 153) W = .ok (.agg zeros65) W := by kernel_rfl

set_option maxHeartbeats 400000 in
theorem pow16 (w : World) : Calls Tryz.prog 135 #[.int .i64 16] w fun e w' => e = .returned (.bool true) ∧ w' = w := by
  have e1 : bits BinOp.and IntKind.i64 16 15 = 0 := by decide +kernel
  go_enter Tryz.func135, Tryz.ntmps135
  go_wp2
  go_ret
  exact ⟨rfl, rfl⟩

/-- The bytes l lie at the end of the 65 cells of block N; below N all is as it was. -/
structure HexAt (w : World) (wr : World) (l : List UInt8) : Prop where
  below : Below w.heap.size w wr
  whole : ∀ o, o < 65 → ∃ x : Value, wr.cell? ⟨w.heap.size, o, none⟩ = some x
  free : ∀ o, wr.frozen? ⟨w.heap.size, o, none⟩ = false
  room : l.length ≤ 65
  here : ∀ t (h : t < l.length), wr.cell? ⟨w.heap.size, 65 - l.length + t, none⟩ = some (.int .u8 (l[t].toNat : Int))

theorem HexAt.start (w : World) : HexAt w (w.alloc (.cells zeros65 153)) [] :=
  ⟨(Below.refl _ _).alloc (Nat.le_refl _) _, fun o ho => ⟨.int .u8 0, by rw [World.cell?_alloc_new]; exact zeros65_at o ho⟩, fun o => World.frozen?_alloc_new _ _ _ _, by simp, fun t h => by simp at h⟩

theorem HexAt.put {w wr : World} {l : List UInt8} (h : HexAt w wr l) (c : UInt8) (j : Nat) (hj : j + 1 + l.length = 65) : HexAt w (wr.setCell ⟨w.heap.size, j, none⟩ (.int .u8 (c.toNat : Int))) (c :: l) := by
  obtain ⟨x, hx⟩ := h.whole j (by omega)
  refine ⟨h.below.setCell (by simp) _, fun o ho => ?_, fun o => ?_, by simp only [List.length_cons]; omega, fun t ht => ?_⟩
  · by_cases e : o = j
    · subst e; exact ⟨_, World.cell?_setCell_same _ _ _ hx⟩
    · rw [World.cell?_setCell_other _ _ _ _ (by simp [e])]; exact h.whole o ho
  · rw [World.frozen?_setCell]; exact h.free o
  · have hl : (c :: l).length = l.length + 1 := rfl
    cases t with
    | zero =>
      rw [show 65 - (c :: l).length + 0 = j by rw [hl]; omega]
      exact World.cell?_setCell_same _ _ _ hx
    | succ t =>
      rw [World.cell?_setCell_other _ _ _ _ (by simp; try omega), show 65 - (c :: l).length + (t + 1) = 65 - l.length + t by rw [hl] at ht ⊢; omega]
      exact h.here t (by simpa using ht)

theorem d36_fin : ∀ i : Fin 16, (⟨List.toArray (48 :: 49 :: 50 :: 51 :: 52 :: 53 :: 54 :: 55 :: 56 :: 57 :: 97 :: 98 :: 99 :: 100 :: 101 :: 102 :: 103 :: 104 :: 105 :: 106 :: 107 :: 108 :: 109 :: 110 :: 111 :: 112 :: 113 :: 114 :: 115 :: 116 :: 117 :: 118 :: 119 :: 120 :: 121 :: 122 :: [])⟩ : ByteArray)[i.val]'(Nat.lt_trans i.isLt (by decide)) = hx i.val := by decide +kernel
theorem d36_at (i : Nat) (h : i < 16) : (⟨List.toArray (48 :: 49 :: 50 :: 51 :: 52 :: 53 :: 54 :: 55 :: 56 :: 57 :: 97 :: 98 :: 99 :: 100 :: 101 :: 102 :: 103 :: 104 :: 105 :: 106 :: 107 :: 108 :: 109 :: 110 :: 111 :: 112 :: 113 :: 114 :: 115 :: 116 :: 117 :: 118 :: 119 :: 120 :: 121 :: 122 :: [])⟩ : ByteArray)[i]'(Nat.lt_trans h (by decide)) = hx i := d36_fin ⟨i, h⟩

set_option maxHeartbeats 1000000 in
set_option maxRecDepth 100000 in
theorem fmtHex (u : Nat) (hu64 : u < 18446744073709551616) (w : World) (ht : Tabs w) :
    Calls Tryz.prog 112 #[.slice none 0 0, .int .u64 (u : Int), .int .i64 16, .bool false, .bool false] w fun e w' => e = .returned (.tuple #[.slice none 0 0, .string ⟨(dgs 16 (by omega) u).toArray⟩]) ∧ Below w.heap.size w w' := by
  have e1 : bits BinOp.and IntKind.i64 16 15 = 0 := by decide +kernel
  have hz := zero61
  go_enter Tryz.func112, Tryz.ntmps112
  go_wp2_with (first
    | (go_at_call 135; refine (pow16 _).mono ?_; rintro e w' ⟨rfl, rfl⟩)
    | (go_at_call 136; refine (tz16 _ (ht.below ((Below.refl _ _).alloc (Nat.le_refl _) _))).mono ?_; rintro e w' ⟨rfl, rfl⟩))
  go_loopw [1, 13] (fun n i wr => ∃ (v j : Nat) (l : List UInt8), n = .int .u64 v ∧ i = .int .i64 j ∧ j + l.length = 65 ∧ v ≤ u ∧ Hid (dgs 16 (by omega) u = dgs 16 (by omega) v ++ l) ∧ HexAt w wr l) (fun n _ _ => (intOf n).toNat)
  case atStart => exact ⟨u, 65, [], rfl, rfl, by simp, Nat.le_refl _, by simp [Hid], HexAt.start w⟩
  case round =>
    obtain ⟨v, j, l, rfl, rfl, hj, hv, HD, hX⟩ := hrel
    have hl16 : (dgs 16 (by omega) v).length + l.length ≤ 16 := by
      have h1 := dgs_length_lt (b := 16) (by omega) 15 u (by omega)
      rw [HD.out, List.length_append] at h1
      omega
    have hl1 : 1 ≤ (dgs 16 (by omega) v).length := by
      have := dgs_ne_nil (b := 16) (by omega) v
      cases h : dgs 16 (by omega) v with
      | nil => exact absurd h this
      | cons x y => simp
    by_cases hlt : v < 16
    · obtain ⟨k, rfl⟩ : ∃ k, j = k + 1 := ⟨j - 1, by omega⟩
      have hd36 := d36_at v hlt
      obtain ⟨x, hx0⟩ := hX.whole k (by omega)
      have hfr := hX.free k
      have hal : Tryz.prog.arrayLen 153 = 65 := by simp [Program.arrayLen, Tryz.underlying153]
      have hsl : ∀ W, (Instr.sliceAt 153 (.pointer (some ⟨w.heap.size, 0, none⟩)) (some (.int .i64 (k : Int))) none none).run Tryz.prog W = .ok (.slice (some ⟨w.heap.size, k, none⟩) (65 - k) (65 - k)) W := fun W => by
        rw [run_sliceAt_array_l W 153 ⟨w.heap.size, 0, none⟩ (by simp [Program.arrayLen, Program.elem, Tryz.underlying153]) .i64 (k : Int) (by omega) (by rw [hal]; omega)]
        go_simp
        omega
      have hY := hX.put (hx v) k (by omega)
      have hcv : (convert 90 9 (.slice (some ⟨w.heap.size, k, none⟩) (65 - k) (65 - k))).run Tryz.prog (wr.setCell ⟨w.heap.size, k, none⟩ (.int .u8 ((hx v).toNat : Int))) = .ok (.string ⟨(hx v :: l).toArray⟩) (wr.setCell ⟨w.heap.size, k, none⟩ (.int .u8 ((hx v).toNat : Int))) := by
        have h := run_convert_bytes_back (P := Tryz.prog) (wr.setCell ⟨w.heap.size, k, none⟩ (.int .u8 ((hx v).toNat : Int))) 90 9 5 ⟨w.heap.size, k, none⟩ (65 - k) (hx v :: l) Tryz.underlying90 Tryz.underlying5 Tryz.underlying9 (fun t ht => by
          rw [Lib.add_plain]
          have := hY.here t ht
          rw [show 65 - (hx v :: l).length + t = k + t by rw [List.length_cons]; omega] at this
          exact this)
        rw [show (hx v :: l).length = 65 - k by rw [List.length_cons]; omega] at h
        exact h
      have HY := Lib.hid hY.below
      clear hX hY hal
      go_wp2
      go_ret2
      refine ⟨?_, HY.out⟩
      rw [HD.out, dgs_small (b := 16) (by omega) hlt]
      rfl
    · have hm := mask16 v (by omega)
      have hmod : v % 16 < 16 := Nat.mod_lt _ (by omega)
      obtain ⟨x, hx0⟩ := hX.whole (j - 1) (by omega)
      have hfr := hX.free (j - 1)
      have HX := Lib.hid hX
      clear hX
      have hd36 := d36_at (v % 16) hmod
      go_wp2
      refine ⟨⟨v / 16, j - 1, hx (v % 16) :: l, ?_, ?_, ?_, ?_, ?_, HX.out.put (hx (v % 16)) (j - 1) (by omega)⟩, by simp [intOf]; omega⟩
      · exact congrArg (Value.int .u64) (by omega)
      · exact congrArg (Value.int .i64) (by omega)
      · rw [List.length_cons]; omega
      · omega
      · unfold Hid; rw [HD.out, dgs_big (b := 16) (by omega) hlt, List.append_assoc]; rfl

end Go.Proofs.YtmpijlaidnhpnaaGreatDoor.Ck

namespace Go.Proofs.YtmpijlaidnhpnaaGreatDoor.Ck
set_option linter.unusedVariables false
set_option linter.unusedSimpArgs false
set_option maxRecDepth 100000
open Go.RowKit Go.Sort

/-- The hexadecimal digits, as a string. -/
def hexS (u : Nat) : ByteArray := ⟨(dgs 16 (by omega) u).toArray⟩

theorem hexS_list (u : Nat) : (hexS u).data.toList = dgs 16 (by omega) u := by simp [hexS]
theorem hexS_size (u : Nat) : (hexS u).size = (dgs 16 (by omega) u).length := by rw [← hexS_list]; simp
theorem hexS_le (u : Nat) (h : u < 18446744073709551616) : (hexS u).size ≤ 16 := by rw [hexS_size]; exact dgs_length_lt _ 15 u (by omega)

set_option maxHeartbeats 400000 in
theorem fmt16 (u : Nat) (hu64 : u < 18446744073709551616) (w : World) (ht : Tabs w) :
    Calls Tryz.prog 89 #[.int .u64 (u : Int), .int .i64 16] w fun e w' => e = .returned (.string (hexS u)) ∧ Below w.heap.size w w' := by
  go_enter Tryz.func89, Tryz.ntmps89
  go_wp2_with fail
  refine (fmtHex u hu64 _ ht).mono ?_
  rintro e w1 ⟨rfl, hb⟩
  rw [show (⟨(dgs 16 (by omega) u).toArray⟩ : ByteArray) = hexS u from rfl]
  go_wp2_with fail
  go_ret
  exact ⟨rfl, hb⟩

set_option maxHeartbeats 400000 in
theorem hex_any (u : Nat) (hu64 : u < 18446744073709551616) (w : World) (ht : Tabs w) :
    Calls Tryz.prog 40 #[.int .u64 (u : Int)] w fun e w' => e = .returned (.string (hexS u)) ∧ Below w.heap.size w w' := by
  have h22 : Calls Tryz.prog 66 #[.int .u64 (u : Int), .int .i64 16] w fun e w' => e = .returned (.string (hexS u)) ∧ Below w.heap.size w w' := by
    go_enter Tryz.func66, Tryz.ntmps66
    go_wp2_with fail
    refine (fmt16 u hu64 _ ht).mono ?_
    rintro e w1 ⟨rfl, hb⟩
    go_wp2_with fail
    go_ret
    exact ⟨rfl, hb⟩
  go_enter Tryz.func40, Tryz.ntmps40
  go_wp2_with fail
  refine h22.mono ?_
  rintro e w1 ⟨rfl, hb⟩
  go_wp2_with fail
  go_ret
  exact ⟨rfl, hb⟩

end Go.Proofs.YtmpijlaidnhpnaaGreatDoor.Ck
