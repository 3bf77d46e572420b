/- The walks of what the laws share: the cut, the known field, rows that are the same, how a word is written, what a device can. -/
import Derived.Test.YtkakinakjnpbjaaDoorBd
namespace Go.Proofs.YtkakinakjnpbjaaDoor
set_option linter.unusedVariables false
set_option linter.unusedSimpArgs false
open Go.RowKit

set_option maxHeartbeats 1000000 in
theorem short_any (s : ByteArray) (w : World) (hs : s.size ≤ maxLen) :
    Calls Tryd.prog 7 #[.string s] w fun e w' => ∃ t : ByteArray, e = .returned (.string t) ∧ t.size ≤ 400 ∧ w' = w := by
  unfold maxLen at hs
  obtain ⟨m, hm, hm1, hm2⟩ : ∃ m : Nat, min (s.size : Int) 400 = (m : Int) ∧ m ≤ 400 ∧ m ≤ s.size := ⟨(min (s.size : Int) 400).toNat, by omega, by omega, by omega⟩
  go_enter Tryd.func7, Tryd.ntmps7
  go_wp2
  all_goals go_ret
  all_goals refine ⟨_, rfl, ?_, rfl⟩
  all_goals ((try rw [ByteArray.size_extract]); omega)

def knownS : ByteArray := ⟨#[109, 97, 120, 45, 97, 103, 101, 61, 54, 48, 44, 32, 99, 111, 110, 116, 101, 110, 116, 61, 34, 69, 83, 73, 47, 49, 46, 48, 34]⟩
theorem alive1 : askB ⟨#[109, 97, 120, 45, 97, 103, 101, 61, 54, 48, 44, 32, 99, 111, 110, 116, 101, 110, 116, 61, 34, 69, 83, 73, 47, 49, 46, 48, 34]⟩ ⟨#[97]⟩ = true := by
  unfold askB
  exact (by decide +kernel : askL [109, 97, 120, 45, 97, 103, 101, 61, 54, 48, 44, 32, 99, 111, 110, 116, 101, 110, 116, 61, 34, 69, 83, 73, 47, 49, 46, 48, 34] [97] = true)
theorem alive2 : askB ⟨#[99, 111, 110, 116, 101, 110, 116, 61, 120]⟩ ⟨#[97]⟩ = false := by
  unfold askB
  exact (by decide +kernel : askL [99, 111, 110, 116, 101, 110, 116, 61, 120] [97] = false)

set_option maxHeartbeats 1000000 in
theorem alive_any (w : World) : Calls Tryd.prog 10 #[] w fun e w' => e = .returned (.bool true) ∧ Below w.heap.size w w' := by
  go_enter Tryd.func10, Tryd.ntmps10
  go_wp2_with fail
  refine (asks_any _ ⟨#[97]⟩ w (by decide)).mono ?_
  rintro e w1 ⟨rfl, hb1⟩
  rw [alive1]
  go_wp2_with fail
  refine (asks_any _ ⟨#[97]⟩ w1 (by decide)).mono ?_
  rintro e w2 ⟨rfl, hb2⟩
  rw [alive2]
  go_wp2_with fail
  go_ret
  exact ⟨rfl, hb1.trans (hb2.mono hb1.size)⟩

set_option maxHeartbeats 2000000 in
theorem refsame_any (A : List Fd) (va vb : Value) (w : World) (ha : Row w va A) (hb : Row w vb A) (hl : A.length ≤ 1000000) :
    Calls Tryd.prog 11 #[va, vb] w fun e w' => e = .returned (.bool true) ∧ Below w.heap.size w w' := by
  obtain ⟨a, capa, rfl, hcapa, hRA⟩ := ha
  obtain ⟨b, capb, rfl, hcapb, hRB⟩ := hb
  have HA := hide hRA
  have HB := hide hRB
  clear hRA hRB
  go_enter Tryd.func11, Tryd.ntmps11
  go_wp2_with fail
  go_loopw [5, 13] (fun _ i wr => ∃ k : Nat, k ≤ A.length ∧ i = .int .i64 k ∧ Below w.heap.size w wr) (fun _ i _ => A.length - (intOf i).toNat)
  case atStart => exact ⟨0, Nat.zero_le _, rfl, Below.refl _ _⟩
  case round =>
    obtain ⟨k, hk, rfl, hbr⟩ := hrel
    by_cases hlt : k < A.length
    · have hltz : (k : Int) < A.length := by omega
      obtain ⟨g, off, rfl, hg, c0, c1, c2⟩ := HA.out k hlt
      obtain ⟨g', off', rfl, hg', d0, d1, d2⟩ := HB.out k hlt
      rw [← (stays hbr).1 _ _ hg] at c0 c1 c2
      rw [← (stays hbr).1 _ _ hg'] at d0 d1 d2
      obtain ⟨x, hx⟩ : ∃ x, A[k]'hlt = x := ⟨_, rfl⟩
      rw [hx] at c0 c1 c2 d0 d1 d2
      clear hx HA HB
      go_wp2_with fail
      go_quiet (fail)
      go_wp2_with fail
      exact ⟨⟨k + 1, by omega, by go_num, below_drewN hbr _⟩, by simp [intOf]; omega⟩
    · have hd : decide ((k : Int) < A.length) = false := decide_eq_false (by omega)
      go_wp2_with fail
      go_ret
      exact ⟨rfl, hbr⟩

end Go.Proofs.YtkakinakjnpbjaaDoor
