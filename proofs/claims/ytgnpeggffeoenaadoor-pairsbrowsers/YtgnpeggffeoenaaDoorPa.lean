/- The walks of what reads two digits of base sixteen. -/
import Derived.Test.YtgnpeggffeoenaaDoorCa
import Derived.Lib.ConvBytes
import Derived.Lib.ParseIntBMem
import Derived.Lib.Hide
import Derived.Laws.Strings3
import Derived.Laws.Closers25
import Derived.Laws.Closers25b
namespace Go.Proofs.YtgnpeggffeoenaaDoor
set_option linter.unusedVariables false
set_option linter.unusedSimpArgs false
open Go.RowKit

def pu16 : Nat → List UInt8 → Option Nat
  | acc, [] => some acc
  | acc, c :: r => if hxN c < 16 then pu16 (acc * 16 + hxN c) r else none
theorem pu_yes {acc : Nat} {c : UInt8} {r : List UInt8} (h : hxN c < 16) : pu16 acc (c :: r) = pu16 (acc * 16 + hxN c) r := by rw [pu16, if_pos h]
theorem pu_no {acc : Nat} {c : UInt8} {r : List UInt8} (h : ¬ hxN c < 16) : pu16 acc (c :: r) = none := by rw [pu16, if_neg h]
def puV (o : Option Nat) : Value := match o with
  | some v => .tuple #[.int .u64 (v : Int), .nilIface]
  | none => .tuple #[.int .u64 0, .iface 99 (.int .i64 2)]

/-- A byte, what it is in small letters, and its value as a digit. -/
theorem low_hex (c : UInt8) : (hxN c < 16 ∧ 48 ≤ c.toNat ∧ c.toNat ≤ 57 ∧ hxN c = c.toNat - 48) ∨ (hxN c < 16 ∧ ¬ (48 ≤ c.toNat ∧ c.toNat ≤ 57) ∧ bits .or .u8 (c.toNat : Int) 32 = (hxN c : Int) + 87 ∧ 10 ≤ hxN c) ∨
    (¬ hxN c < 16 ∧ ¬ (48 ≤ c.toNat ∧ c.toNat ≤ 57) ∧ (bits .or .u8 (c.toNat : Int) 32 < 97 ∨ 122 < bits .or .u8 (c.toNat : Int) 32 ∨ (103 ≤ bits .or .u8 (c.toNat : Int) 32 ∧ bits .or .u8 (c.toNat : Int) 32 ≤ 122))) := by
  have h := u8_all (fun c => (decide (hxN c < 16) && decide (48 ≤ c.toNat) && decide (c.toNat ≤ 57) && decide (hxN c = c.toNat - 48)) || (decide (hxN c < 16) && !(decide (48 ≤ c.toNat) && decide (c.toNat ≤ 57)) && decide (bits .or .u8 (c.toNat : Int) 32 = (hxN c : Int) + 87) && decide (10 ≤ hxN c)) ||
    (!decide (hxN c < 16) && !(decide (48 ≤ c.toNat) && decide (c.toNat ≤ 57)) && (decide (bits .or .u8 (c.toNat : Int) 32 < 97) || decide (122 < bits .or .u8 (c.toNat : Int) 32) || (decide (103 ≤ bits .or .u8 (c.toNat : Int) 32) && decide (bits .or .u8 (c.toNat : Int) 32 ≤ 122))))) (by decide +kernel) c
  simp only [Bool.or_eq_true, Bool.and_eq_true, decide_eq_true_eq, Bool.not_eq_true', Bool.and_eq_false_iff, decide_eq_false_iff_not] at h
  rcases h with (⟨⟨⟨h1, h2⟩, h3⟩, h4⟩ | ⟨⟨⟨h1, h2⟩, h3⟩, h4⟩) | ⟨⟨h1, h2⟩, h3⟩
  · exact .inl ⟨h1, h2, h3, h4⟩
  · exact .inr (.inl ⟨h1, by omega, h3, h4⟩)
  · refine .inr (.inr ⟨h1, by omega, ?_⟩)
    rcases h3 with (h3 | h3) | ⟨h3, h4⟩
    · exact .inl h3
    · exact .inr (.inl h3)
    · exact .inr (.inr ⟨h3, h4⟩)

set_option maxHeartbeats 8000000 in
set_option maxRecDepth 100000 in
theorem inner16_any (t : ByteArray) (ht : t.size = 2) (w : World) :
    Calls Tryd.prog 75 #[.string t, .int .i64 16, .int .i64 8] w fun e w' => e = .returned (puV (pu16 0 t.data.toList)) ∧ w' = Lib.bytesWorld w 5 t := by
  have hemp : t.toList.isEmpty = false := empty_not (fun e => by have := size_list t; rw [e] at this; simp at this; omega)
  have hcv := Lib.run_convert_string_bytes (P := Tryd.prog) w 9 39 5 t (u := .string) Tryd.underlying9 Tryd.underlying39 Tryd.underlying5
  have hB : ∀ j, j < t.size → (Lib.bytesWorld w 5 t).cell? ⟨w.heap.size, j, none⟩ = some (.int .u8 (t.data.toList.getD j 0).toNat) := fun j hj => Lib.bytesWorld_cell w 5 t j hj
  obtain ⟨W1, hW1⟩ : ∃ W1, W1 = Lib.bytesWorld w 5 t := ⟨_, rfl⟩
  rw [← hW1] at hcv hB ⊢
  clear hW1
  obtain ⟨bs, hL⟩ : ∃ bs, bs = t.data.toList := ⟨_, rfl⟩
  have hLn : Hid (bs.length = t.size) := by unfold Hid; rw [hL, size_list]
  rw [← hL] at hB ⊢
  clear hL
  have hmv : IntKind.u64.wrap (IntKind.u64.wrap 256 - 1) = 255 := by
    rw [IntKind.wrap_u64, IntKind.wrap_u64]
    decide
  obtain ⟨z, hz⟩ : ∃ z, t.size = z := ⟨_, rfl⟩
  have hz2 : (z : Int) = 2 := by omega
  go_enter Tryd.func75, Tryd.ntmps75
  go_wp2_with fail
  go_loop [12, 13, 101] (fun vu vn vi => ∃ (k acc : Nat) (a : Int), vu = .bool false ∧ vn = .int .u64 a ∧ vi = .int .i64 k ∧ k ≤ t.size ∧ Hid (a = (acc : Int) ∧ ((k = 0 ∧ acc = 0) ∨ (k = 1 ∧ acc < 16) ∨ (k = 2 ∧ acc < 256)) ∧ pu16 0 bs = pu16 acc (bs.drop k)))
    (fun _ _ vi => t.size - (intOf vi).toNat)
  case atStart => exact ⟨0, 0, 0, rfl, rfl, rfl, by omega, rfl, by omega, rfl⟩
  case round =>
    obtain ⟨k, acc, a, rfl, rfl, rfl, hk, hh⟩ := hrel
    obtain ⟨ha, hacc, hdec⟩ := hh.out
    clear hh
    have a0 : 0 ≤ a := by omega
    by_cases hkn : k < t.size
    · have a1 : a ≤ 15 := by omega
      have hcut : ¬ (1152921504606846976 : Int) ≤ a := by omega
      have hc := hB k hkn
      have hkl : k < bs.length := by rw [hLn.out]; exact hkn
      have hdrop : bs.drop k = bs[k]'(by omega) :: bs.drop (k + 1) := List.drop_eq_getElem_cons (by omega)
      have hget : bs.getD k 0 = bs[k]'(by omega) := by simp [List.getD, List.getElem?_eq_getElem hkl]
      rw [hdrop] at hdec
      rw [hget] at hc
      generalize bs[k]'(by omega) = c at hc hdec
      have hc256 : c.toNat < 256 := c.toNat_lt
      clear hB hdrop hget hkl
      rcases low_hex c with ⟨h16, hd0, hd1, hv⟩ | ⟨h16, hnd, hx, hv⟩ | ⟨h16, hnd, hx⟩
      · rw [pu_yes h16] at hdec
        obtain ⟨d, hd⟩ : ∃ d, hxN c = d := ⟨_, rfl⟩
        rw [hd] at hdec hv h16
        have HN : Hid (a * 16 + ((c.toNat : Int) - 48) = ((acc * 16 + d : Nat) : Int) ∧ ((k + 1 = 0 ∧ acc * 16 + d = 0) ∨ (k + 1 = 1 ∧ acc * 16 + d < 16) ∨ (k + 1 = 2 ∧ acc * 16 + d < 256)) ∧ pu16 0 bs = pu16 (acc * 16 + d) (bs.drop (k + 1))) := hide ⟨by omega, by omega, hdec⟩
        have b0 : (48 : Int) ≤ (c.toNat : Int) := by omega
        have b1 : (c.toNat : Int) ≤ 57 := by omega
        clear hdec hacc ha hv hd h16 hd0 hd1
        go_wp2_with fail
        refine ⟨⟨k + 1, acc * 16 + d, a * 16 + ((c.toNat : Int) - 48), rfl, (by first | rfl | (congr 1; omega)), (by first | rfl | (congr 1; omega)), by omega, HN⟩, by simp [intOf]; omega⟩
      · rw [pu_yes h16] at hdec
        obtain ⟨d, hd⟩ : ∃ d, hxN c = d := ⟨_, rfl⟩
        rw [hd] at hdec hv h16 hx
        have HL := hide (fun W => Tryd.internal_strconv_lower (c.toNat : Int) W)
        rw [hx] at HL
        have HN : Hid (a * 16 + (d : Int) = ((acc * 16 + d : Nat) : Int) ∧ ((k + 1 = 0 ∧ acc * 16 + d = 0) ∨ (k + 1 = 1 ∧ acc * 16 + d < 16) ∨ (k + 1 = 2 ∧ acc * 16 + d < 256)) ∧ pu16 0 bs = pu16 (acc * 16 + d) (bs.drop (k + 1))) := hide ⟨by omega, by omega, hdec⟩
        obtain ⟨x, hxx⟩ : ∃ x, (d : Int) + 87 = x := ⟨_, rfl⟩
        rw [hxx] at HL
        have b0 : (97 : Int) ≤ x := by omega
        have b1 : x ≤ 102 := by omega
        have b2 : ¬ (48 ≤ (c.toNat : Int) ∧ (c.toNat : Int) ≤ 57) := by omega
        have HD := hide hxx
        have h95 : ((c.toNat : Int) == 95) = false := by
          rw [beq_eq_false_iff_ne]
          intro e
          unfold hxN at hd
          rw [show c.toNat = 95 by omega] at hd
          simp at hd
          omega
        clear hdec hacc ha hv hd h16 hnd hx hxx
        go_wp2_with (go_at_call 86; refine (HL.out _).mono ?_; rintro e w' ⟨rfl, rfl⟩)
        all_goals refine ⟨⟨k + 1, acc * 16 + d, a * 16 + (d : Int), rfl, (by have := HD.out; congr 1; omega), (by first | rfl | (congr 1; omega)), by omega, HN⟩, by simp [intOf]; omega⟩
      · rw [pu_no h16] at hdec
        by_cases h95 : c.toNat = 95
        · have h95z : (c.toNat : Int) = 95 := by omega
          have HL := hide (fun W => Tryd.internal_strconv_lower 95 W)
          rw [show bits .or .u8 95 32 = 127 by decide] at HL
          have HDec := hide hdec
          clear hdec hacc ha h16 hnd hx h95
          rw [h95z] at hc
          clear h95z
          go_wp2_with (go_at_call 86; refine (HL.out _).mono ?_; rintro e w' ⟨rfl, rfl⟩)
          all_goals go_ret2
          all_goals exact ⟨by rw [HDec.out]; rfl, rfl⟩
        have h95b : ((c.toNat : Int) == 95) = false := by rw [beq_eq_false_iff_ne]; omega
        have HL := hide (fun W => Tryd.internal_strconv_lower (c.toNat : Int) W)
        obtain ⟨x, hxx⟩ : ∃ x, bits .or .u8 (c.toNat : Int) 32 = x := ⟨_, rfl⟩
        rw [hxx] at HL hx
        have HDec := hide hdec
        have b2 : ¬ (48 ≤ (c.toNat : Int) ∧ (c.toNat : Int) ≤ 57) := by omega
        have x0 : 0 ≤ x := by rw [← hxx]; exact bits_lo_u8 .or (c.toNat : Int) 32
        have x1 : x ≤ 255 := by rw [← hxx]; exact bits_hi_u8 .or (c.toNat : Int) 32
        clear hdec hacc ha h16 hnd hxx h95
        rcases hx with hx | hx | ⟨hx, hx'⟩
        all_goals go_wp2_with (go_at_call 86; refine (HL.out _).mono ?_; rintro e w' ⟨rfl, rfl⟩)
        all_goals go_ret2
        all_goals exact ⟨by rw [HDec.out]; rfl, rfl⟩
    · have hkk : k = t.size := by omega
      have hF : pu16 acc (bs.drop k) = some acc := by rw [List.drop_eq_nil_of_le (by rw [hLn.out]; omega)]; rfl
      rw [hF] at hdec
      have HR : Hid (puV (pu16 0 bs) = .tuple #[.int .u64 a, .nilIface]) := by unfold Hid; rw [hdec, ha]; rfl
      have hkd : decide ((k : Int) < (t.size : Int)) = false := decide_eq_false (by omega)
      clear hdec hF hacc ha hB
      go_wp2_with fail
      go_ret2
      exact ⟨by rw [HR.out]; rfl, rfl⟩
end Go.Proofs.YtgnpeggffeoenaaDoor
