/- The walk of NumberDigits. -/
import Derived.Test.YtkefplnajcbffaaDoorWf
namespace Go.Proofs.YtkefplnajcbffaaDoor
set_option linter.unusedVariables false
set_option linter.unusedSimpArgs false
open Go.RowKit Go.Sort

theorem size_extract_le (s : ByteArray) (a b : Nat) : (s.extract a b).size ≤ s.size := by
  rw [ByteArray.size_extract]; omega

set_option maxHeartbeats 1000000 in
theorem digits_walk (n : Nat) (hn : n < 18446744073709551616) (s : ByteArray) (hs : s.size ≤ maxLen) (w : World) (ht : Tabs w) :
    Calls Tryd.prog 3 #[.int .u64 (n : Int), .string s] w fun e w' => e = .returned (.bool true) ∧ Below w.heap.size w w' := by
  have hm : s.size ≤ maxLen := hs
  unfold maxLen at hs
  go_enter Tryd.func3, Tryd.ntmps3
  go_wp2_with fail
  have hS : (s.extract 0 (min (s.size : Int) 60).toNat).size ≤ maxLen := Nat.le_trans (size_extract_le _ _ _) hm
  generalize s.extract 0 (min (s.size : Int) 60).toNat = S at hS ⊢
  refine (readDec_any S _ hS).mono ?_
  rintro e w1 ⟨rfl, hb1⟩
  have ht1 := ht.below hb1
  go_wp2_with fail
  refine (refRead10 S _ hS).mono ?_
  rintro e w1' ⟨rfl, rfl⟩
  go_wp2_with fail
  refine (readHex_any S _ hS).mono ?_
  rintro e w2 ⟨rfl, hb2⟩
  have ht2 := ht1.below hb2
  go_wp2_with fail
  refine (refRead16 S _ hS).mono ?_
  rintro e w2' ⟨rfl, rfl⟩
  go_wp2_with fail
  refine (signed_any S _ hS).mono ?_
  rintro e w3 ⟨rfl, hb3⟩
  have ht3 := ht2.below hb3
  go_wp2_with fail
  refine (refSigned_any S _ hS).mono ?_
  rintro e w3' ⟨rfl, rfl⟩
  go_wp2_with fail
  refine (alive_any _ ht3).mono ?_
  rintro e w4 ⟨rfl, hb4⟩
  have ht4 := ht3.below hb4
  go_wp2_with fail
  refine (dec_any n hn _ ht4).mono ?_
  rintro e w5 ⟨rfl, hb5⟩
  have ht5 := ht4.below hb5
  go_wp2_with fail
  refine (refDigits10 n hn _).mono ?_
  rintro e w6 ⟨rfl, t6, rfl⟩
  rw [show (⟨(dgs 10 (by omega) n).toArray⟩ : ByteArray) = decS n from rfl]
  have hb6 := below_drewN w5 t6
  have ht6 := ht5.below hb6
  go_wp2_with fail
  refine (hex_any n hn _ ht6).mono ?_
  rintro e w7 ⟨rfl, hb7⟩
  go_wp2_with fail
  refine (refDigits16 n hn _).mono ?_
  rintro e w8 ⟨rfl, t8, rfl⟩
  rw [show (⟨(dgs 16 (by omega) n).toArray⟩ : ByteArray) = hexS n from rfl]
  have hb8 := below_drewN w7 t8
  go_wp2_with fail
  go_ret
  refine ⟨rfl, ?_⟩
  have c2 := hb1.trans (hb2.mono hb1.size)
  have c3 := c2.trans (hb3.mono c2.size)
  have c4 := c3.trans (hb4.mono c3.size)
  have c5 := c4.trans (hb5.mono c4.size)
  have c6 := c5.trans (hb6.mono c5.size)
  have c7 := c6.trans (hb7.mono c6.size)
  exact c7.trans (hb8.mono c7.size)

end Go.Proofs.YtkefplnajcbffaaDoor
