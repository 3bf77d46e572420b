/- The walk of SurrogateReads. -/
import Derived.Test.YtkakinakjnpbjaaDoorBg
namespace Go.Proofs.YtkakinakjnpbjaaDoor
set_option linter.unusedVariables false
set_option linter.unusedSimpArgs false
open Go.RowKit

theorem rdF_len (s : ByteArray) : (rdF s).length ≤ s.size + 1 := by
  unfold rdF
  rcases h : rdL s.data.toList with _ | L
  · simp
  · have := rd_count h; rw [size_list] at this; simpa using this

set_option maxRecDepth 100000 in
set_option maxHeartbeats 2000000 in
theorem reads_walk (s0 d0 : ByteArray) (w : World) (hs0 : s0.size ≤ maxLen) (hd0 : d0.size ≤ maxLen) :
    Calls Tryd.prog 3 #[.string s0, .string d0] w fun e w' => e = .returned (.bool true) ∧ Below w.heap.size w w' := by
  go_enter Tryd.func3, Tryd.ntmps3
  go_wp2_with fail
  refine (short_any s0 w hs0).mono ?_
  rintro e w0 ⟨s, rfl, hs, rfl⟩
  go_wp2_with fail
  refine (short_any d0 _ hd0).mono ?_
  rintro e w0 ⟨d, rfl, hd, rfl⟩
  have HLN : Hid ((rdF s).length ≤ 1000000) := by unfold Hid; have := rdF_len s; omega
  go_wp2_with fail
  refine (read_any s _ (by omega)).mono ?_
  rintro e w1 ⟨v1, rfl, ho1, c1⟩
  go_wp2_with fail
  refine (refread_any s _ (by omega)).mono ?_
  rintro e w2 ⟨v2, rfl, ho2, hb2⟩
  have c2 := c1.trans (hb2.mono c1.size)
  have R1 := hide ((Own.row ho1).below hb2)
  have R2 := hide (Own.row ho2)
  clear ho1 ho2 hb2 c1
  go_wp2_with fail
  refine (alive_any w2).mono ?_
  rintro e w3 ⟨rfl, hb3⟩
  have c3 := c2.trans (hb3.mono c2.size)
  have R1 := hide (R1.out.below hb3)
  have R2 := hide (R2.out.below hb3)
  clear hb3 c2
  go_wp2_with fail
  refine (refsame_any (rdF s) v1 v2 w3 R1.out R2.out HLN.out).mono ?_
  rintro e w4 ⟨rfl, hb4⟩
  have c4 := c3.trans (hb4.mono c3.size)
  clear hb4 c3 R1 R2
  go_wp2_with fail
  refine (asks_any s d w4 (by omega)).mono ?_
  rintro e w5 ⟨rfl, hb5⟩
  have c5 := c4.trans (hb5.mono c4.size)
  clear hb5 c4
  go_wp2_with fail
  refine (refasks_any s d w5 (by omega)).mono ?_
  rintro e w6 ⟨rfl, hb6⟩
  have c6 := c5.trans (hb6.mono c5.size)
  clear hb6 c5
  go_wp2_with fail
  go_ret
  exact ⟨rfl, c6⟩

end Go.Proofs.YtkakinakjnpbjaaDoor
