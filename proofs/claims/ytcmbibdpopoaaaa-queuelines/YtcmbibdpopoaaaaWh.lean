/- The walk of the document's own Line. -/
import Derived.Test.YtcmbibdpopoaaaaWg
namespace Go.Proofs.Ytcmbibdpopoaaaa
set_option linter.unusedVariables false
set_option linter.unusedSimpArgs false
open Go.RowKit

theorem nl_none {b : ByteArray} (h : nl b < 0) (i : Nat) (hi : i < b.size) : b[i] ≠ 10 := by
  intro e
  have hg := Lib.indexByte_ge b.data.toList 10
  have h1 : Lib.indexByte b.data.toList 10 = -1 := by unfold nl at h; omega
  refine Lib.indexByte_none h1 i ?_
  rw [List.getElem?_eq_getElem (by simpa using hi)]
  exact congrArg some e

theorem nl_some {b : ByteArray} {n : Nat} (h : nl b = n) (hn : n < b.size) : b[n] = 10 ∧ ∀ i (hi : i < n), b[i]'(by omega) ≠ 10 := by
  obtain ⟨h1, h2⟩ := Lib.indexByte_some (l := b.data.toList) (c := 10) (o := n) h
  refine ⟨?_, fun i hi e => h2 i hi ?_⟩
  · rw [List.getElem?_eq_getElem (by simpa using hn)] at h1
    exact Option.some.inj h1
  · rw [List.getElem?_eq_getElem (by simp; omega)]
    exact congrArg some e

theorem endsCr_eq (s : ByteArray) (h : 0 < s.size) : endsCr s = (s[s.size - 1] == 13) := by
  have e : (s.extract (s.size - 1) s.size).toList = [s[s.size - 1]] := by
    rw [Lib.extract_toList]
    have : s.size - (s.size - 1) = 1 := by omega
    rw [this]
    have hl : s.data.toList.length = s.size := by rw [Array.length_toList]; rfl
    rw [List.drop_eq_getElem_cons (by omega)]
    simp
    rfl
  unfold endsCr
  rw [e]
  have : decide (1 ≤ s.size) = true := by simp; omega
  rw [this, Bool.true_and]
  cases hh : (s[s.size - 1] == 13)
  · simp at hh ⊢; exact hh
  · simp at hh ⊢; exact hh

theorem noCr_no (s : ByteArray) (j : Nat) (hj : j + 1 = s.size) (h : ((s[j].toNat : Int) == 13) = false) : noCr s = s := by
  have e : j = s.size - 1 := by omega
  subst e
  have h2 : endsCr s = false := by
    rw [endsCr_eq s (by omega)]
    simp at h ⊢
    intro e
    exact h (by rw [e]; rfl)
  simp [noCr, h2]

theorem noCr_yes (s : ByteArray) (j : Nat) (hj : j + 1 = s.size) (h : ((s[j].toNat : Int) == 13) = true) : noCr s = s.extract 0 j := by
  have e : j = s.size - 1 := by omega
  subst e
  have h2 : endsCr s = true := by
    rw [endsCr_eq s (by omega)]
    simp at h ⊢
    exact UInt8.toNat_inj.1 (by simp; omega)
  simp [noCr, h2]

theorem noCr_zero (s : ByteArray) (h : s.size = 0) : noCr s = s := by
  have h2 : endsCr s = false := by simp [endsCr, h]
  simp [noCr, h2]

set_option maxHeartbeats 400000 in
theorem refline_short (b : ByteArray) (c : Int) (w : World) (hb : b.size ≤ 65536) (hn : nl b < 0) :
    Calls Try.prog 18 #[.agg #[.string b, .int .i64 c]] w fun e w' => e = .returned (.tuple #[.agg #[.string b, .int .i64 c], .string ⟨#[]⟩, .bool false]) ∧ Below w.heap.size w w' := by
  have HN : Hid (nl b < 0) := hn
  clear hn
  go_enter Try.func18, Try.ntmps18
  go_wp2
  go_loop [5] (fun x => ∃ i : Nat, i ≤ b.size ∧ x = .int .i64 i) (fun x => b.size - (intOf x).toNat)
  case atStart => exact ⟨0, Nat.zero_le _, rfl⟩
  case round =>
    obtain ⟨i, hi, rfl⟩ := hrel
    by_cases hlt : (i : Int) < b.size
    · have hlt' : i < b.size := by omega
      have h10 := nl_none HN.out i hlt'
      have h11 : ((b[i].toNat : Int) == 10) = false := by
        simp
        intro e
        apply h10
        exact UInt8.toNat_inj.1 (by simp; omega)
      go_wp2
      go_round
      case rel => exact ⟨i + 1, by omega, by go_num⟩
      case measure => simp [intOf]; omega
    · go_wp2
      refine bodyPost_ret (v := .tuple #[.agg #[.string b, .int .i64 c], .string ⟨#[]⟩, .bool false]) (by simp [results, Try.results18, go_sem]) rfl ⟨rfl, ?_⟩
      exact ((Below.refl _ _).alloc (Nat.le_refl _) _).alloc (by simp) _

set_option maxHeartbeats 1000000 in
theorem refline_yes (b : ByteArray) (c : Int) (n : Nat) (w : World) (hb : b.size ≤ 65536) (hn : nl b = n) :
    Calls Try.prog 18 #[.agg #[.string b, .int .i64 c]] w fun e w' => e = .returned (.tuple #[.agg #[.string (b.extract (n + 1) b.size), .int .i64 c], .string (noCr (b.extract 0 n)), .bool true]) ∧ Below w.heap.size w w' := by
  have hlt : n < b.size := by have := nl_lt b; omega
  have HN : Hid (nl b = n) := hn
  clear hn
  have hsz : (b.extract 0 n).size = n := by simp; omega
  go_enter Try.func18, Try.ntmps18
  go_wp2
  go_loop [5] (fun x => ∃ i : Nat, i ≤ n ∧ x = .int .i64 i) (fun x => n - (intOf x).toNat)
  case atStart => exact ⟨0, Nat.zero_le _, rfl⟩
  case round =>
    obtain ⟨i, hi, rfl⟩ := hrel
    have hlt1 : (i : Int) < b.size := by omega
    by_cases hin : i < n
    · have hlt' : i < b.size := by omega
      have h10 := (nl_some HN.out hlt).2 i hin
      have h11 : ((b[i].toNat : Int) == 10) = false := by
        simp
        intro e
        apply h10
        exact UInt8.toNat_inj.1 (by simp; omega)
      go_wp2
      go_round
      case rel => exact ⟨i + 1, by omega, by go_num⟩
      case measure => simp [intOf]; omega
    · have hii : i = n := by omega
      subst hii
      have h10 := (nl_some HN.out hlt).1
      have h11 : ((b[i].toNat : Int) == 10) = true := by rw [h10]; rfl
      have hle : (i : Int) ≤ b.size := by omega
      have hle1 : (i : Int) + 1 ≤ b.size := by omega
      by_cases hi0 : (0 : Int) < i
      · have hi0' : 0 < i := by omega
        have hlast : i - 1 < (b.extract 0 i).size := by omega
        cases h13 : (((b.extract 0 i)[i - 1].toNat : Int) == 13)
        · have HNO : Hid (noCr (b.extract 0 i) = b.extract 0 i) := noCr_no _ (i - 1) (by omega) h13
          go_wp2
          go_region
          go_wp2
          refine bodyPost_ret (v := .tuple #[.agg #[.string (b.extract (i + 1) b.size), .int .i64 c], .string (b.extract 0 i), .bool true]) (by simp [results, Try.results18, go_sem]) rfl ⟨?_, ?_⟩
          · rw [HNO.out]
          · exact (((Below.refl _ _).alloc (Nat.le_refl _) _).alloc (by simp) _).drew
        · have HNO : Hid (noCr (b.extract 0 i) = (b.extract 0 i).extract 0 (i - 1)) := noCr_yes _ (i - 1) (by omega) h13
          go_wp2
          go_region
          go_wp2
          refine bodyPost_ret (v := .tuple #[.agg #[.string (b.extract (i + 1) b.size), .int .i64 c], .string ((b.extract 0 i).extract 0 (i - 1)), .bool true]) (by simp [results, Try.results18, go_sem]) rfl ⟨?_, ?_⟩
          · rw [HNO.out]
          · exact (((Below.refl _ _).alloc (Nat.le_refl _) _).alloc (by simp) _).drew
      · have HNO : Hid (noCr (b.extract 0 i) = b.extract 0 i) := noCr_zero _ (by omega)
        go_wp2
        go_region
        go_wp2
        refine bodyPost_ret (v := .tuple #[.agg #[.string (b.extract (i + 1) b.size), .int .i64 c], .string (b.extract 0 i), .bool true]) (by simp [results, Try.results18, go_sem]) rfl ⟨?_, ?_⟩
        · rw [HNO.out]
        · exact (((Below.refl _ _).alloc (Nat.le_refl _) _).alloc (by simp) _).drew

end Go.Proofs.Ytcmbibdpopoaaaa
