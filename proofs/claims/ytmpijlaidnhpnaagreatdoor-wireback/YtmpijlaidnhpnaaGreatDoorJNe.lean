/- The walks of the functions that write a number's digits in base 10. The walks of Dec and Hex, of the document's own digits, and of the statement's own question whether anything answers. -/
import Derived.Test.YtmpijlaidnhpnaaGreatDoorJNc
import Derived.Lib.AppendIntMem
import Derived.Lib.ItoaMem
import Derived.Lib.Walk
import Derived.Laws.BitsAllLaws
namespace Go.Proofs.YtmpijlaidnhpnaaGreatDoor
set_option linter.unusedVariables false
set_option linter.unusedSimpArgs false
set_option maxRecDepth 100000
open Go.RowKit Go.Sort


/-- The library's table that these walks read holds what its initialiser lays. -/
structure Tabs (w : World) : Prop where
  pow : Lib.TabIs Tryz.prog w "internal/strconv.uint64pow10" .u64 Lib.pow10Tab

theorem Tabs.below {w w' : World} (h : Tabs w) (hb : Below w.heap.size w w') : Tabs w' :=
  ⟨Lib.tabBelow_of_tabIs h.pow w' hb⟩

set_option maxHeartbeats 6400000 in
set_option maxRecDepth 100000 in
theorem fmt10 (u : Nat) (hu64 : u < 18446744073709551616) (w : World) (ht : Tabs w) :
    Calls Tryz.prog 89 #[.int .u64 (u : Int), .int .i64 10] w fun e w' => e = .returned (.string ⟨(Lib.decDigits u).toArray⟩) ∧ Below w.heap.size w w' := by
  by_cases hs : u < 100
  · go_enter Tryz.func89, Tryz.ntmps89
    go_wp2_with (go_at_call 109; refine (Tryz.internal_strconv_small u hs _).mono ?_; rintro e w' ⟨rfl, rfl⟩)
    go_ret
    exact ⟨rfl, Below.refl _ _⟩
  · have hu1 : 1 ≤ u := by omega
    have hnd20 : Lib.nDigits u ≤ 20 := by have := Lib.numDigits_eq u hu1 hu64; split at this <;> omega
    have hal : Tryz.prog.arrayLen 125 = 24 := by simp [Program.arrayLen, Tryz.underlying125]
    have hsl : ∀ W, (Instr.sliceAt 125 (.pointer (some ⟨w.heap.size, 0, none⟩)) none (some (.int .i64 (Lib.nDigits u : Int))) none).run Tryz.prog W = .ok (.slice (some ⟨w.heap.size, 0, none⟩) (Lib.nDigits u) 24) W := fun W => by
      rw [run_sliceAt_array_h W 125 ⟨w.heap.size, 0, none⟩ (by simp [Program.arrayLen, Program.elem, Tryz.underlying125]) .i64 (Lib.nDigits u : Int) (by omega) (by rw [hal]; omega)]
      go_simp
    have hH0 := Lib.holds_zero0 w 125 (Lib.nDigits u) (by omega)
    have hfmt := Tryz.internal_strconv_formatBase10 w.heap.size 0 24 u (Array.replicate (Lib.nDigits u) 0) (w.alloc (.cells Lib.zeros24 125)) hH0 (by rw [Array.size_replicate]; exact Lib.lt_pow_nDigits u) hu64 (by rw [Array.size_replicate]; omega)
    rw [Array.size_replicate] at hfmt
    have HH0 := Lib.hid hH0
    have htab := ht.pow
    clear hH0 hal
    go_enter Tryz.func89, Tryz.ntmps89
    go_wp2_with (first
      | (go_at_call 110; refine (Tryz.internal_strconv_numDigits u hu1 hu64 _ (Lib.tabIs_alloc htab _)).mono ?_; rintro e w' ⟨rfl, rfl⟩))
    go_at_call 111
    refine hfmt.mono ?_
    rintro e w' ⟨rfl, k, v', dk, rfl, hF⟩
    have hcv : (convert 90 9 (.slice (some ⟨w.heap.size, 0, none⟩) (Lib.nDigits u) 24)).run Tryz.prog ((putRow (fun (b : UInt8) => Value.int .u8 (b.toNat : Int)) (w.alloc (.cells Lib.zeros24 125)) w.heap.size 0 dk).drewN k) = .ok (.string ⟨(Lib.decDigits u).toArray⟩) ((putRow (fun (b : UInt8) => Value.int .u8 (b.toNat : Int)) (w.alloc (.cells Lib.zeros24 125)) w.heap.size 0 dk).drewN k) := by
      have h := run_convert_bytes_back (P := Tryz.prog) ((putRow (fun (b : UInt8) => Value.int .u8 (b.toNat : Int)) (w.alloc (.cells Lib.zeros24 125)) w.heap.size 0 dk).drewN k) 90 9 5 ⟨w.heap.size, 0, none⟩ 24 (Lib.decDigits u) Tryz.underlying90 Tryz.underlying5 Tryz.underlying9 (fun j hj => by
        rw [Lib.row_is_numeral hF j hj, Lib.add_plain, World.cell?_drewN]
        exact cell?_putRow (fun (b : UInt8) => Value.int .u8 (b.toNat : Int)) _ w.heap.size 0 _ dk HH0.out (by rw [hF.size, Array.size_replicate]) j (by rw [hF.size]; rw [Lib.decDigits_length] at hj; exact hj))
      rw [Lib.decDigits_length] at h
      exact h
    go_wp2
    go_ret
    obtain ⟨os, eo⟩ := Lib.fin_at w (.cells Lib.zeros24 125) dk k 0
    refine ⟨rfl, ?_⟩
    rw [eo]
    exact Lib.below_grow _ w (Nat.le_refl _) k os

end Go.Proofs.YtmpijlaidnhpnaaGreatDoor

namespace Go.Proofs.YtmpijlaidnhpnaaGreatDoor
set_option linter.unusedVariables false
set_option linter.unusedSimpArgs false
set_option maxRecDepth 100000
open Go.RowKit Go.Sort

/-- The decimal digits, as a string. -/
def decS (u : Nat) : ByteArray := ⟨(dgs 10 (by omega) u).toArray⟩
/-- The hexadecimal digits, as a string. -/
def hexS (u : Nat) : ByteArray := ⟨(dgs 16 (by omega) u).toArray⟩

theorem decS_list (u : Nat) : (decS u).data.toList = dgs 10 (by omega) u := by simp [decS]
theorem hexS_list (u : Nat) : (hexS u).data.toList = dgs 16 (by omega) u := by simp [hexS]
theorem decS_size (u : Nat) : (decS u).size = (dgs 10 (by omega) u).length := by rw [← decS_list]; simp
theorem hexS_size (u : Nat) : (hexS u).size = (dgs 16 (by omega) u).length := by rw [← hexS_list]; simp
theorem decS_le (u : Nat) (h : u < 18446744073709551616) : (decS u).size ≤ 20 := by rw [decS_size]; exact dgs_length_lt _ 19 u (by omega)
theorem hexS_le (u : Nat) (h : u < 18446744073709551616) : (hexS u).size ≤ 16 := by rw [hexS_size]; exact dgs_length_lt _ 15 u (by omega)

set_option maxHeartbeats 400000 in
theorem dec_any (u : Nat) (hu64 : u < 18446744073709551616) (w : World) (ht : Tabs w) :
    Calls Tryz.prog 62 #[.int .u64 (u : Int)] w fun e w' => e = .returned (.string (decS u)) ∧ Below w.heap.size w w' := by
  have h22 : Calls Tryz.prog 66 #[.int .u64 (u : Int), .int .i64 10] w fun e w' => e = .returned (.string (decS u)) ∧ Below w.heap.size w w' := by
    go_enter Tryz.func66, Tryz.ntmps66
    go_wp2_with fail
    refine (fmt10 u hu64 _ ht).mono ?_
    rintro e w1 ⟨rfl, hb⟩
    rw [show (⟨(Lib.decDigits u).toArray⟩ : ByteArray) = decS u by unfold decS; rw [dgs_dec]]
    go_wp2_with fail
    go_ret
    exact ⟨rfl, hb⟩
  go_enter Tryz.func62, Tryz.ntmps62
  go_wp2_with fail
  refine h22.mono ?_
  rintro e w1 ⟨rfl, hb⟩
  go_wp2_with fail
  go_ret
  exact ⟨rfl, hb⟩

/-- What the digits that were found, and the number that is left, come to. -/
def more (b : Nat) (hb : 2 ≤ b) (n : Nat) (o : List UInt8) : List UInt8 := if n = 0 ∧ o ≠ [] then o else dgs b hb n ++ o
def emptyOf : Value → Nat | .string s => if s.data.toList = [] then 1 else 0 | _ => 0

theorem more_step (b : Nat) (hb : 2 ≤ b) (n : Nat) (o : List UInt8) (h : ¬ (n = 0 ∧ o ≠ [])) : more b hb (n / b) (hx (n % b) :: o) = more b hb n o := by
  unfold more
  rw [if_neg h]
  by_cases hn : n < b
  · rw [Nat.div_eq_of_lt hn, if_pos (by simp), dgs_small hb hn, Nat.mod_eq_of_lt hn]; rfl
  · have : ¬ n / b = 0 := by
      have := Nat.div_pos (Nat.le_of_not_lt hn) (by omega)
      omega
    rw [if_neg (by simp [this]), dgs_big hb hn, List.append_assoc]; rfl

theorem d16_fin : ∀ i : Fin 16, (⟨List.toArray (48 :: 49 :: 50 :: 51 :: 52 :: 53 :: 54 :: 55 :: 56 :: 57 :: 97 :: 98 :: 99 :: 100 :: 101 :: 102 :: [])⟩ : ByteArray).extract i.val (i.val + 1) = ⟨#[hx i.val]⟩ := by decide +kernel
theorem d16_at (i : Nat) (h : i < 16) : (⟨List.toArray (48 :: 49 :: 50 :: 51 :: 52 :: 53 :: 54 :: 55 :: 56 :: 57 :: 97 :: 98 :: 99 :: 100 :: 101 :: 102 :: [])⟩ : ByteArray).extract i (i + 1) = ⟨#[hx i]⟩ := d16_fin ⟨i, h⟩
theorem ahead_list (c : UInt8) (s : ByteArray) : ((⟨#[c]⟩ : ByteArray) ++ s).data.toList = c :: s.data.toList := by simp
theorem more_len (b : Nat) (hb : 2 ≤ b) (n : Nat) (o : List UInt8) : o.length ≤ (more b hb n o).length := by
  unfold more; split
  · exact Nat.le_refl _
  · simp
theorem emptyOf_ahead (c : UInt8) (s : ByteArray) : emptyOf (.string ((⟨#[c]⟩ : ByteArray) ++ s)) = 0 := by
  simp only [emptyOf]; rw [ahead_list]; simp

set_option maxHeartbeats 1000000 in
theorem refDigits10 (u : Nat) (hu64 : u < 18446744073709551616) (w : World) :
    Calls Tryz.prog 48 #[.int .u64 (u : Int), .int .u64 10] w fun e w' => e = .returned (.string ⟨(dgs 10 (by omega) u).toArray⟩) ∧ ∃ n, w' = w.drewN n := by
  go_enter Tryz.func48, Tryz.ntmps48
  go_wp2
  go_loopw [0, 5] (fun n o wr => ∃ (v t : Nat) (s : ByteArray), n = .int .u64 v ∧ o = .string s ∧ v ≤ u ∧ s.size ≤ 20 ∧ Hid (more 10 (by omega) v s.data.toList = dgs 10 (by omega) u) ∧ wr = w.drewN t) (fun n o _ => (intOf n).toNat * 2 + emptyOf o)
  case atStart => exact ⟨u, 0, ⟨#[]⟩, rfl, rfl, Nat.le_refl _, by decide, by simp [Hid, more], by simp [World.drewN]⟩
  case round =>
    obtain ⟨v, t, s, rfl, rfl, hv, hs, HM, rfl⟩ := hrel
    by_cases hend : v = 0 ∧ s.data.toList ≠ []
    · obtain ⟨rfl, hne⟩ := hend
      have he := empty_not hne
      have HN : Hid (s.data.toList ≠ []) := hne
      clear hne
      go_wp2
      go_ret
      refine ⟨?_, t, rfl⟩
      have := HM.out
      rw [more, if_pos ⟨rfl, HN.out⟩] at this
      have hS : (⟨(dgs 10 (by omega) u).toArray⟩ : ByteArray) = s := by rw [← this]
      rw [hS]
      rfl
    · have hmod : v % 10 < 10 := Nat.mod_lt _ (by omega)
      have HE : Hid (¬ (v = 0 ∧ s.data.toList ≠ [])) := hend
      by_cases h0 : v = 0
      · have he := empty_of (s := s) (by
          by_cases e : s.data.toList = []
          · exact e
          · exact absurd ⟨h0, e⟩ hend)
        have HZ : Hid (s.data.toList = []) := by
          by_cases e : s.data.toList = []
          · exact e
          · exact absurd ⟨h0, e⟩ hend
        subst h0
        have HS : Hid (more 10 (by omega) 0 ((⟨#[hx 0]⟩ : ByteArray) ++ s).data.toList = dgs 10 (by omega) u) := by
          unfold Hid
          rw [ahead_list, ← HM.out, ← more_step 10 (by omega) 0 s.data.toList HE.out]
        clear hend hmod
        go_wp2
        go_quiet (fail)
        rw [d16_at 0 (by omega)]
        go_wp2
        refine ⟨⟨0, t + nq, ⟨#[hx 0]⟩ ++ s, rfl, rfl, by omega, ?_, ?_, rfl⟩, ?_⟩
        · have hlen := more_len 10 (by omega) 0 ((⟨#[hx 0]⟩ : ByteArray) ++ s).data.toList
          rw [HS.out] at hlen
          have h20 := dgs_length_lt (b := 10) (by omega) 19 u (by omega)
          simp only [Array.length_toList, ByteArray.size_data] at hlen
          omega
        · exact HS.out
        · rw [emptyOf_ahead]; simp [intOf, emptyOf, HZ.out]
      · have h1 : 0 < v := by omega
        have HS : Hid (more 10 (by omega) (v / 10) ((⟨#[hx (v % 10)]⟩ : ByteArray) ++ s).data.toList = dgs 10 (by omega) u) := by
          unfold Hid
          rw [ahead_list, ← HM.out, ← more_step 10 (by omega) v s.data.toList HE.out]
        clear hend h0
        go_wp2
        go_quiet (fail)
        rw [d16_at (v % 10) (by omega)]
        go_wp2
        refine ⟨⟨v / 10, t + nq, ⟨#[hx (v % 10)]⟩ ++ s, ?_, rfl, ?_, ?_, ?_, rfl⟩, ?_⟩
        · exact congrArg (Value.int .u64) (by omega)
        · omega
        · have hlen := more_len 10 (by omega) (v / 10) ((⟨#[hx (v % 10)]⟩ : ByteArray) ++ s).data.toList
          rw [HS.out] at hlen
          have h20 := dgs_length_lt (b := 10) (by omega) 19 u (by omega)
          simp only [Array.length_toList, ByteArray.size_data] at hlen
          omega
        · exact HS.out
        · rw [emptyOf_ahead]; simp only [intOf]; omega

end Go.Proofs.YtmpijlaidnhpnaaGreatDoor
