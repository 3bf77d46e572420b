/- The walk of the document's Agent, and of PairsBrowsers. -/
import Derived.Test.YtgnpeggffeoenaaDoorLa
import Derived.Test.YtgnpeggffeoenaaDoorQe
import Derived.Test.YtgnpeggffeoenaaDoorQf
import Derived.Test.YtgnpeggffeoenaaDoorSb
namespace Go.Proofs.YtgnpeggffeoenaaDoor
set_option linter.unusedVariables false
set_option linter.unusedSimpArgs false
open Go.RowKit

theorem at_cn (s : ByteArray) (t : List UInt8) : cn s t = decide (0 ≤ Lib.index s.data.toList t) := rfl

set_option maxHeartbeats 2000000 in
set_option maxRecDepth 100000 in
theorem refagent_any (s : ByteArray) (w : World) (hs : s.size ≤ 10000) :
    Calls Tryd.prog 18 #[.string s] w fun e w' => e = .returned (.tuple #[.string (brS s).1, .string (brS s).2, .string (syS s)]) ∧ w' = w := by
  have hW := refat_any s ⟨#[87, 105, 110, 100, 111, 119, 115]⟩ w hs (by decide) (by decide)
  have cW := at_cn s [87, 105, 110, 100, 111, 119, 115]
  change Calls _ _ _ _ (fun e w' => e = .returned (.int .i64 (Lib.index s.data.toList [87, 105, 110, 100, 111, 119, 115])) ∧ w' = w) at hW
  have hK := refat_any s ⟨#[77, 97, 99]⟩ w hs (by decide) (by decide)
  have cK := at_cn s [77, 97, 99]
  change Calls _ _ _ _ (fun e w' => e = .returned (.int .i64 (Lib.index s.data.toList [77, 97, 99])) ∧ w' = w) at hK
  have hX := refat_any s ⟨#[88, 49, 49]⟩ w hs (by decide) (by decide)
  have cX := at_cn s [88, 49, 49]
  change Calls _ _ _ _ (fun e w' => e = .returned (.int .i64 (Lib.index s.data.toList [88, 49, 49])) ∧ w' = w) at hX
  have hS := refat_any s ⟨#[77, 83, 73, 69]⟩ w hs (by decide) (by decide)
  have cS := at_cn s MSIE
  change Calls _ _ _ _ (fun e w' => e = .returned (.int .i64 (Lib.index s.data.toList MSIE)) ∧ w' = w) at hS
  have hZ := refat_any s ⟨#[77, 111, 122, 105, 108, 108, 97]⟩ w hs (by decide) (by decide)
  have cZ := at_cn s Mozi
  change Calls _ _ _ _ (fun e w' => e = .returned (.int .i64 (Lib.index s.data.toList Mozi)) ∧ w' = w) at hZ
  have v1 := refdigits_any s ⟨#[77, 83, 73, 69, 32]⟩ w hs (by decide) (by decide)
  have v2 := refdigits_any s ⟨#[77, 111, 122, 105, 108, 108, 97, 47]⟩ w hs (by decide) (by decide)
  change Calls _ _ _ _ (fun e w' => e = .returned (.string (bs (verS s.data.toList MSIEb))) ∧ w' = w) at v1
  change Calls _ _ _ _ (fun e w' => e = .returned (.string (bs (verS s.data.toList Mozs))) ∧ w' = w) at v2
  have HB : Hid (brS s = if cn s MSIE then (bs MSIE, bs (verS s.data.toList MSIEb)) else if cn s Mozi then (bs MOZI, bs (verS s.data.toList Mozs)) else (bs OTHE, bs [])) := rfl
  have HY : Hid (syS s = if cn s [87, 105, 110, 100, 111, 119, 115] then bs [87, 73, 78] else if cn s [77, 97, 99] then bs [77, 65, 67] else if cn s [88, 49, 49] then bs [85, 78, 73, 88] else bs OTHE) := rfl
  rw [cS, cZ] at HB
  rw [cW, cK, cX] at HY
  generalize bs (verS s.data.toList MSIEb) = y1 at *
  generalize bs (verS s.data.toList Mozs) = y2 at *
  generalize brS s = r at *
  generalize syS s = q at *
  clear cW cK cX cS cZ
  generalize Lib.index s.data.toList [87, 105, 110, 100, 111, 119, 115] = iW at *
  generalize Lib.index s.data.toList [77, 97, 99] = iK at *
  generalize Lib.index s.data.toList [88, 49, 49] = iX at *
  generalize Lib.index s.data.toList MSIE = iS at *
  generalize Lib.index s.data.toList Mozi = iZ at *
  by_cases pW : (0 : Int) ≤ iW
  · by_cases pS : (0 : Int) ≤ iS
    · have HY2 : Hid (q = bs [87, 73, 78]) := by unfold Hid; rw [HY.out]; simp [pW]
      have HB2 : Hid (r = (bs MSIE, y1)) := by unfold Hid; rw [HB.out]; simp [pS]
      clear HY HB
      go_enter Tryd.func18, Tryd.ntmps18
      go_wp2_with fail
      refine hW.mono ?_
      rintro e w1 ⟨rfl, rfl⟩
      go_wp2_with fail
      refine hS.mono ?_
      rintro e w1 ⟨rfl, rfl⟩
      go_wp2_with fail
      refine v1.mono ?_
      rintro e w1 ⟨rfl, rfl⟩
      go_wp2_with fail
      go_ret3
      exact ⟨by rw [HY2.out, HB2.out]; rfl, rfl⟩
    · by_cases pZ : (0 : Int) ≤ iZ
      · have HY2 : Hid (q = bs [87, 73, 78]) := by unfold Hid; rw [HY.out]; simp [pW]
        have HB2 : Hid (r = (bs MOZI, y2)) := by unfold Hid; rw [HB.out]; simp [pS, pZ]
        clear HY HB
        go_enter Tryd.func18, Tryd.ntmps18
        go_wp2_with fail
        refine hW.mono ?_
        rintro e w1 ⟨rfl, rfl⟩
        go_wp2_with fail
        refine hS.mono ?_
        rintro e w1 ⟨rfl, rfl⟩
        go_wp2_with fail
        refine hZ.mono ?_
        rintro e w1 ⟨rfl, rfl⟩
        go_wp2_with fail
        refine v2.mono ?_
        rintro e w1 ⟨rfl, rfl⟩
        go_wp2_with fail
        go_ret3
        exact ⟨by rw [HY2.out, HB2.out]; rfl, rfl⟩
      · have HY2 : Hid (q = bs [87, 73, 78]) := by unfold Hid; rw [HY.out]; simp [pW]
        have HB2 : Hid (r = (bs OTHE, bs [])) := by unfold Hid; rw [HB.out]; simp [pS, pZ]
        clear HY HB
        go_enter Tryd.func18, Tryd.ntmps18
        go_wp2_with fail
        refine hW.mono ?_
        rintro e w1 ⟨rfl, rfl⟩
        go_wp2_with fail
        refine hS.mono ?_
        rintro e w1 ⟨rfl, rfl⟩
        go_wp2_with fail
        refine hZ.mono ?_
        rintro e w1 ⟨rfl, rfl⟩
        go_wp2_with fail
        go_ret3
        exact ⟨by rw [HY2.out, HB2.out]; rfl, rfl⟩
  · by_cases pK : (0 : Int) ≤ iK
    · by_cases pS : (0 : Int) ≤ iS
      · have HY2 : Hid (q = bs [77, 65, 67]) := by unfold Hid; rw [HY.out]; simp [pW, pK]
        have HB2 : Hid (r = (bs MSIE, y1)) := by unfold Hid; rw [HB.out]; simp [pS]
        clear HY HB
        go_enter Tryd.func18, Tryd.ntmps18
        go_wp2_with fail
        refine hW.mono ?_
        rintro e w1 ⟨rfl, rfl⟩
        go_wp2_with fail
        refine hK.mono ?_
        rintro e w1 ⟨rfl, rfl⟩
        go_wp2_with fail
        refine hS.mono ?_
        rintro e w1 ⟨rfl, rfl⟩
        go_wp2_with fail
        refine v1.mono ?_
        rintro e w1 ⟨rfl, rfl⟩
        go_wp2_with fail
        go_ret3
        exact ⟨by rw [HY2.out, HB2.out]; rfl, rfl⟩
      · by_cases pZ : (0 : Int) ≤ iZ
        · have HY2 : Hid (q = bs [77, 65, 67]) := by unfold Hid; rw [HY.out]; simp [pW, pK]
          have HB2 : Hid (r = (bs MOZI, y2)) := by unfold Hid; rw [HB.out]; simp [pS, pZ]
          clear HY HB
          go_enter Tryd.func18, Tryd.ntmps18
          go_wp2_with fail
          refine hW.mono ?_
          rintro e w1 ⟨rfl, rfl⟩
          go_wp2_with fail
          refine hK.mono ?_
          rintro e w1 ⟨rfl, rfl⟩
          go_wp2_with fail
          refine hS.mono ?_
          rintro e w1 ⟨rfl, rfl⟩
          go_wp2_with fail
          refine hZ.mono ?_
          rintro e w1 ⟨rfl, rfl⟩
          go_wp2_with fail
          refine v2.mono ?_
          rintro e w1 ⟨rfl, rfl⟩
          go_wp2_with fail
          go_ret3
          exact ⟨by rw [HY2.out, HB2.out]; rfl, rfl⟩
        · have HY2 : Hid (q = bs [77, 65, 67]) := by unfold Hid; rw [HY.out]; simp [pW, pK]
          have HB2 : Hid (r = (bs OTHE, bs [])) := by unfold Hid; rw [HB.out]; simp [pS, pZ]
          clear HY HB
          go_enter Tryd.func18, Tryd.ntmps18
          go_wp2_with fail
          refine hW.mono ?_
          rintro e w1 ⟨rfl, rfl⟩
          go_wp2_with fail
          refine hK.mono ?_
          rintro e w1 ⟨rfl, rfl⟩
          go_wp2_with fail
          refine hS.mono ?_
          rintro e w1 ⟨rfl, rfl⟩
          go_wp2_with fail
          refine hZ.mono ?_
          rintro e w1 ⟨rfl, rfl⟩
          go_wp2_with fail
          go_ret3
          exact ⟨by rw [HY2.out, HB2.out]; rfl, rfl⟩
    · by_cases pX : (0 : Int) ≤ iX
      · by_cases pS : (0 : Int) ≤ iS
        · have HY2 : Hid (q = bs [85, 78, 73, 88]) := by unfold Hid; rw [HY.out]; simp [pW, pK, pX]
          have HB2 : Hid (r = (bs MSIE, y1)) := by unfold Hid; rw [HB.out]; simp [pS]
          clear HY HB
          go_enter Tryd.func18, Tryd.ntmps18
          go_wp2_with fail
          refine hW.mono ?_
          rintro e w1 ⟨rfl, rfl⟩
          go_wp2_with fail
          refine hK.mono ?_
          rintro e w1 ⟨rfl, rfl⟩
          go_wp2_with fail
          refine hX.mono ?_
          rintro e w1 ⟨rfl, rfl⟩
          go_wp2_with fail
          refine hS.mono ?_
          rintro e w1 ⟨rfl, rfl⟩
          go_wp2_with fail
          refine v1.mono ?_
          rintro e w1 ⟨rfl, rfl⟩
          go_wp2_with fail
          go_ret3
          exact ⟨by rw [HY2.out, HB2.out]; rfl, rfl⟩
        · by_cases pZ : (0 : Int) ≤ iZ
          · have HY2 : Hid (q = bs [85, 78, 73, 88]) := by unfold Hid; rw [HY.out]; simp [pW, pK, pX]
            have HB2 : Hid (r = (bs MOZI, y2)) := by unfold Hid; rw [HB.out]; simp [pS, pZ]
            clear HY HB
            go_enter Tryd.func18, Tryd.ntmps18
            go_wp2_with fail
            refine hW.mono ?_
            rintro e w1 ⟨rfl, rfl⟩
            go_wp2_with fail
            refine hK.mono ?_
            rintro e w1 ⟨rfl, rfl⟩
            go_wp2_with fail
            refine hX.mono ?_
            rintro e w1 ⟨rfl, rfl⟩
            go_wp2_with fail
            refine hS.mono ?_
            rintro e w1 ⟨rfl, rfl⟩
            go_wp2_with fail
            refine hZ.mono ?_
            rintro e w1 ⟨rfl, rfl⟩
            go_wp2_with fail
            refine v2.mono ?_
            rintro e w1 ⟨rfl, rfl⟩
            go_wp2_with fail
            go_ret3
            exact ⟨by rw [HY2.out, HB2.out]; rfl, rfl⟩
          · have HY2 : Hid (q = bs [85, 78, 73, 88]) := by unfold Hid; rw [HY.out]; simp [pW, pK, pX]
            have HB2 : Hid (r = (bs OTHE, bs [])) := by unfold Hid; rw [HB.out]; simp [pS, pZ]
            clear HY HB
            go_enter Tryd.func18, Tryd.ntmps18
            go_wp2_with fail
            refine hW.mono ?_
            rintro e w1 ⟨rfl, rfl⟩
            go_wp2_with fail
            refine hK.mono ?_
            rintro e w1 ⟨rfl, rfl⟩
            go_wp2_with fail
            refine hX.mono ?_
            rintro e w1 ⟨rfl, rfl⟩
            go_wp2_with fail
            refine hS.mono ?_
            rintro e w1 ⟨rfl, rfl⟩
            go_wp2_with fail
            refine hZ.mono ?_
            rintro e w1 ⟨rfl, rfl⟩
            go_wp2_with fail
            go_ret3
            exact ⟨by rw [HY2.out, HB2.out]; rfl, rfl⟩
      · by_cases pS : (0 : Int) ≤ iS
        · have HY2 : Hid (q = bs OTHE) := by unfold Hid; rw [HY.out]; simp [pW, pK, pX]
          have HB2 : Hid (r = (bs MSIE, y1)) := by unfold Hid; rw [HB.out]; simp [pS]
          clear HY HB
          go_enter Tryd.func18, Tryd.ntmps18
          go_wp2_with fail
          refine hW.mono ?_
          rintro e w1 ⟨rfl, rfl⟩
          go_wp2_with fail
          refine hK.mono ?_
          rintro e w1 ⟨rfl, rfl⟩
          go_wp2_with fail
          refine hX.mono ?_
          rintro e w1 ⟨rfl, rfl⟩
          go_wp2_with fail
          refine hS.mono ?_
          rintro e w1 ⟨rfl, rfl⟩
          go_wp2_with fail
          refine v1.mono ?_
          rintro e w1 ⟨rfl, rfl⟩
          go_wp2_with fail
          go_ret3
          exact ⟨by rw [HY2.out, HB2.out]; rfl, rfl⟩
        · by_cases pZ : (0 : Int) ≤ iZ
          · have HY2 : Hid (q = bs OTHE) := by unfold Hid; rw [HY.out]; simp [pW, pK, pX]
            have HB2 : Hid (r = (bs MOZI, y2)) := by unfold Hid; rw [HB.out]; simp [pS, pZ]
            clear HY HB
            go_enter Tryd.func18, Tryd.ntmps18
            go_wp2_with fail
            refine hW.mono ?_
            rintro e w1 ⟨rfl, rfl⟩
            go_wp2_with fail
            refine hK.mono ?_
            rintro e w1 ⟨rfl, rfl⟩
            go_wp2_with fail
            refine hX.mono ?_
            rintro e w1 ⟨rfl, rfl⟩
            go_wp2_with fail
            refine hS.mono ?_
            rintro e w1 ⟨rfl, rfl⟩
            go_wp2_with fail
            refine hZ.mono ?_
            rintro e w1 ⟨rfl, rfl⟩
            go_wp2_with fail
            refine v2.mono ?_
            rintro e w1 ⟨rfl, rfl⟩
            go_wp2_with fail
            go_ret3
            exact ⟨by rw [HY2.out, HB2.out]; rfl, rfl⟩
          · have HY2 : Hid (q = bs OTHE) := by unfold Hid; rw [HY.out]; simp [pW, pK, pX]
            have HB2 : Hid (r = (bs OTHE, bs [])) := by unfold Hid; rw [HB.out]; simp [pS, pZ]
            clear HY HB
            go_enter Tryd.func18, Tryd.ntmps18
            go_wp2_with fail
            refine hW.mono ?_
            rintro e w1 ⟨rfl, rfl⟩
            go_wp2_with fail
            refine hK.mono ?_
            rintro e w1 ⟨rfl, rfl⟩
            go_wp2_with fail
            refine hX.mono ?_
            rintro e w1 ⟨rfl, rfl⟩
            go_wp2_with fail
            refine hS.mono ?_
            rintro e w1 ⟨rfl, rfl⟩
            go_wp2_with fail
            refine hZ.mono ?_
            rintro e w1 ⟨rfl, rfl⟩
            go_wp2_with fail
            go_ret3
            exact ⟨by rw [HY2.out, HB2.out]; rfl, rfl⟩

set_option maxRecDepth 100000 in
set_option maxHeartbeats 2000000 in
theorem browsers_walk (s0 : ByteArray) (w : World) (hs0 : s0.size ≤ maxLen) (hT : Tabs w) :
    Calls Tryd.prog 4 #[.string s0] w fun e w' => e = .returned (.bool true) ∧ Below w.heap.size w w' := by
  have HT := hide hT
  clear hT
  go_enter Tryd.func4, Tryd.ntmps4
  go_wp2_with fail
  refine (short_any s0 w hs0).mono ?_
  rintro e w0 ⟨s, rfl, hs, rfl⟩
  have hl : (lgL s.data.toList).length ≤ 2000000 := by
    have h1 := fold_count (splB 44 s.data.toList) []
    have h2 := splB_len 44 s.data.toList
    rw [size_list] at h2
    simp at h1
    unfold lgL; omega
  go_wp2_with fail
  refine (agent_any s _ (by omega) HT.out).mono ?_
  rintro e w1 ⟨rfl, c1⟩
  have ha := refagent_any s w1 (by omega)
  generalize (brS s).1 = x at *
  generalize (brS s).2 = y at *
  generalize syS s = z at *
  go_wp2_with fail
  refine ha.mono ?_
  rintro e w2 ⟨rfl, rfl⟩
  clear ha
  go_wp2_with fail
  refine (alive_any _ (HT.out.below c1)).mono ?_
  rintro e w3 ⟨rfl, hb3⟩
  have c3 := c1.trans (hb3.mono c1.size)
  clear hb3
  go_wp2_with fail
  refine (languages_any s _ (by omega)).mono ?_
  rintro e w4 ⟨v4, rfl, ho4, hb4⟩
  have c4 := c3.trans (hb4.mono c3.size)
  have H4 := hide ho4
  clear hb4 ho4
  go_wp2_with fail
  refine (reflanguages_any s _ (by omega)).mono ?_
  rintro e w5 ⟨v5, rfl, ho5, hb5⟩
  have c5 := c4.trans (hb5.mono c4.size)
  have H5 := hide ho5
  have H4 := hide (owns_below H4.out hb5)
  clear hb5 ho5
  go_wp2_with fail
  refine (refsame_any (lgL s.data.toList) v4 v5 _ _ w5 H4.out H5.out hl).mono ?_
  rintro e w6 ⟨rfl, n6, rfl⟩
  have c6 := below_drewN c5 n6
  go_wp2_with fail
  go_ret
  refine ⟨?_, c6⟩
  simp

end Go.Proofs.YtgnpeggffeoenaaDoor
