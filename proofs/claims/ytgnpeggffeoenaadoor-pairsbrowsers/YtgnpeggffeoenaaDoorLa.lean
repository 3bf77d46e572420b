/- What the laws share, and the walk of PairsReads. -/
import Derived.Test.YtgnpeggffeoenaaDoorQd
namespace Go.Proofs.YtgnpeggffeoenaaDoor
set_option linter.unusedVariables false
set_option linter.unusedSimpArgs false
open Go.RowKit

set_option maxHeartbeats 1000000 in
theorem short_any (s : ByteArray) (w : World) (hs : s.size ≤ maxLen) :
    Calls Tryd.prog 8 #[.string s] w fun e w' => ∃ t : ByteArray, e = .returned (.string t) ∧ t.size ≤ 600 ∧ w' = w := by
  unfold maxLen at hs
  obtain ⟨m, hm, hm1, hm2⟩ : ∃ m : Nat, min (s.size : Int) 600 = (m : Int) ∧ m ≤ 600 ∧ m ≤ s.size := ⟨(min (s.size : Int) 600).toNat, by omega, by omega, by omega⟩
  go_enter Tryd.func8, Tryd.ntmps8
  go_wp2
  all_goals go_ret
  all_goals refine ⟨_, rfl, ?_, rfl⟩
  all_goals ((try rw [ByteArray.size_extract]); omega)

theorem alive_pairs : qF ⟨#[97, 61, 49, 38, 98, 61, 120, 37, 50, 66, 121, 43, 122]⟩ = [(⟨#[97]⟩, ⟨#[49]⟩), (⟨#[98]⟩, ⟨#[120, 43, 121, 32, 122]⟩)] := by
  have h : qL [97, 61, 49, 38, 98, 61, 120, 37, 50, 66, 121, 43, 122] = [([97], [49]), ([98], [120, 43, 121, 32, 122])] := by decide
  unfold qF
  rw [show (⟨#[97, 61, 49, 38, 98, 61, 120, 37, 50, 66, 121, 43, 122]⟩ : ByteArray).data.toList = [97, 61, 49, 38, 98, 61, 120, 37, 50, 66, 121, 43, 122] from rfl, h]; rfl

set_option maxHeartbeats 1000000 in
theorem alive_any (w : World) (hT : Tabs w) : Calls Tryd.prog 14 #[] w fun e w' => e = .returned (.bool true) ∧ Below w.heap.size w w' := by
  have hq := query_any ⟨#[97, 61, 49, 38, 98, 61, 120, 37, 50, 66, 121, 43, 122]⟩ w (by decide) hT
  rw [alive_pairs] at hq
  go_enter Tryd.func14, Tryd.ntmps14
  go_wp2_with fail
  refine hq.mono ?_
  rintro e w1 ⟨v, rfl, ho, hb1⟩
  obtain ⟨a, ca, rfl, hca, hA⟩ := Own.row ho
  obtain ⟨g, off, rfl, hg, c0, c1⟩ := hA 1 (by decide)
  have d0 : w1.cell? ⟨g, off + 2, none⟩ = some (.string ⟨#[98]⟩) := c0
  have d1 : w1.cell? ⟨g, off + 2 + 1, none⟩ = some (.string ⟨#[120, 43, 121, 32, 122]⟩) := c1
  clear hA ho c0 c1
  go_wp2_with fail
  go_ret
  exact ⟨rfl, hb1⟩

set_option maxRecDepth 100000 in
set_option maxHeartbeats 2000000 in
theorem reads_walk (s0 n : ByteArray) (w : World) (hs0 : s0.size ≤ maxLen) (hn : n.size ≤ maxLen) (hT : Tabs w) :
    Calls Tryd.prog 3 #[.string s0, .string n] w fun e w' => e = .returned (.bool true) ∧ Below w.heap.size w w' := by
  have HT := hide hT
  go_enter Tryd.func3, Tryd.ntmps3
  go_wp2_with fail
  refine (short_any s0 w hs0).mono ?_
  rintro e w0 ⟨s, rfl, hs, rfl⟩
  have hqs : (qF s).length ≤ 1000000 := by
    have := qL_len s.data.toList
    unfold qF; rw [List.length_map]; rw [size_list] at this; omega
  have hcs : (cF s).length ≤ 1000000 := by
    have := cL_len s.data.toList
    unfold cF; rw [List.length_map]; rw [size_list] at this; omega
  have HQL := hide hqs
  have HCL := hide hcs
  clear hqs hcs hT
  go_wp2_with fail
  refine (query_any s _ (by omega) HT.out).mono ?_
  rintro e w1 ⟨v1, rfl, ho1, c1⟩
  go_wp2_with fail
  refine (cookies_any s _ (by omega) (HT.out.below c1)).mono ?_
  rintro e w2 ⟨v2, rfl, ho2, hb2⟩
  have c2 := c1.trans (hb2.mono c1.size)
  have R1 := hide ((Own.row ho1).below hb2)
  have R2 := hide (Own.row ho2)
  clear ho1 ho2 hb2
  go_wp2_with fail
  refine (find_pair (cF s) v2 n w2 R2.out HCL.out).mono ?_
  rintro e w3 ⟨rfl, hb3⟩
  have c3 := c2.trans (hb3.mono c2.size)
  have R1 := hide (R1.out.below hb3)
  have R2 := hide (R2.out.below hb3)
  clear hb3
  go_wp2_with fail
  refine (refcookies_any s _ (by omega)).mono ?_
  rintro e w4 ⟨v4, rfl, ho4, hb4⟩
  have c4 := c3.trans (hb4.mono c3.size)
  have R1 := hide (R1.out.below hb4)
  have R2 := hide (R2.out.below hb4)
  have R4 := hide (Own.row ho4)
  clear hb4 ho4
  go_wp2_with fail
  refine (reffind_pair (cF s) v4 n w4 R4.out HCL.out).mono ?_
  rintro e w5 ⟨rfl, hb5⟩
  have c5 := c4.trans (hb5.mono c4.size)
  have R1 := hide (R1.out.below hb5)
  have R2 := hide (R2.out.below hb5)
  generalize (fdS n (cF s)).1 = x
  generalize (fdS n (cF s)).2 = y
  clear hb5 R4
  go_wp2_with fail
  refine (alive_any _ (HT.out.below c5)).mono ?_
  rintro e w6 ⟨rfl, hb6⟩
  have c6 := c5.trans (hb6.mono c5.size)
  have R1 := hide (R1.out.below hb6)
  have R2 := hide (R2.out.below hb6)
  clear hb6
  go_wp2_with fail
  refine (refquery_any s _ (by omega)).mono ?_
  rintro e w7 ⟨v7, rfl, ho7, hb7⟩
  have c7 := c6.trans (hb7.mono c6.size)
  have R1 := hide (R1.out.below hb7)
  have R2 := hide (R2.out.below hb7)
  have R7 := hide (Own.row ho7)
  clear hb7 ho7
  go_wp2_with fail
  refine (refsame2_any (qF s) v1 v7 w7 R1.out R7.out HQL.out).mono ?_
  rintro e w8 ⟨rfl, hb8⟩
  have c8 := c7.trans (hb8.mono c7.size)
  have R2 := hide (R2.out.below hb8)
  clear hb8 R7 R1
  go_wp2_with fail
  refine (refcookies_any s _ (by omega)).mono ?_
  rintro e w9 ⟨v9, rfl, ho9, hb9⟩
  have c9 := c8.trans (hb9.mono c8.size)
  have R2 := hide (R2.out.below hb9)
  have R9 := hide (Own.row ho9)
  clear hb9 ho9
  go_wp2_with fail
  refine (refsame2_any (cF s) v2 v9 w9 R2.out R9.out HCL.out).mono ?_
  rintro e w10 ⟨rfl, hb10⟩
  have c10 := c9.trans (hb10.mono c9.size)
  clear hb10 R2 R9
  go_wp2_with fail
  go_ret
  refine ⟨?_, c10⟩
  simp

end Go.Proofs.YtgnpeggffeoenaaDoor
