/- The walk of SurrogateDevices. -/
import Derived.Test.YtkakinakjnpbjaaDoorLj
namespace Go.Proofs.YtkakinakjnpbjaaDoor
set_option linter.unusedVariables false
set_option linter.unusedSimpArgs false
open Go.RowKit

def moreS (s t : ByteArray) : ByteArray := s ++ ⟨#[44, 32]⟩ ++ t
theorem moreS_list (s t : ByteArray) : (moreS s t).data.toList = s.data.toList ++ [44, 32] ++ t.data.toList := by unfold moreS; rw [app_list, app_list]
theorem ask_more {s d : ByteArray} {v o : List UInt8} {L : List W3} (h : rdL s.data.toList = some L) (ho : okW (contL, v, o) = true) (h1 : o ≠ d.data.toList) (h2 : o ≠ []) :
    askB (moreS s (bs (wrL (contL, v, o)))) d = askB s d := by
  unfold askB
  rw [moreS_list, bs_list]
  have hr := rd_more h (rd_written ho)
  exact ask_other h hr h1 h2

set_option maxRecDepth 100000 in
set_option maxHeartbeats 8000000 in
theorem devices_walk (s0 d0 o0 v0 : ByteArray) (w : World) (hs0 : s0.size ≤ maxLen) (hd0 : d0.size ≤ maxLen) (ho0 : o0.size ≤ maxLen) (hv0 : v0.size ≤ maxLen) :
    Calls Tryd.prog 5 #[.string s0, .string d0, .string o0, .string v0] w fun e w' => e = .returned (.bool true) ∧ Below w.heap.size w w' := by
  go_enter Tryd.func5, Tryd.ntmps5
  go_wp2_with fail
  refine (short_any s0 w hs0).mono ?_
  rintro e w0 ⟨s, rfl, hs, rfl⟩
  go_wp2_with fail
  refine (short_any d0 _ hd0).mono ?_
  rintro e w0 ⟨d, rfl, hd, rfl⟩
  go_wp2_with fail
  refine (short_any o0 _ ho0).mono ?_
  rintro e w0 ⟨o, rfl, ho, rfl⟩
  have HCA := hide (can_any s d w0 (by omega) (by omega))
  cases ht : tokB d
  · rw [ht] at HCA
    have HCB : Hid (Calls Tryd.prog 16 #[.string s, .string d] w0 fun e w' => e = .returned (.tuple #[.string ⟨#[]⟩, .int .i64 11]) ∧ Below w0.heap.size w0 w') := HCA.out
    go_wp2_with fail
    refine HCB.out.mono ?_
    rintro e w1 ⟨rfl, c1⟩
    go_wp2_with fail
    refine (reftoken_any d w1 (by omega)).mono ?_
    rintro e w2 ⟨rfl, rfl⟩
    rw [ht]
    go_wp2_with fail
    refine (alive_any w2).mono ?_
    rintro e w3 ⟨rfl, hb3⟩
    have c3 := c1.trans (hb3.mono c1.size)
    go_wp2_with fail
    go_ret
    exact ⟨rfl, c3⟩
  · rw [ht] at HCA
    have HCB : Hid (Calls Tryd.prog 16 #[.string s, .string d] w0 fun e w' => e = .returned (.tuple #[.string (canS s d), .int .i64 0]) ∧ Below w0.heap.size w0 w') := HCA.out
    have hts := trimS_size s
    have HC : Hid (canS s d = if (trimS s).toList.isEmpty then oneS d else trimS s ++ ⟨#[44, 32]⟩ ++ oneS d) := rfl
    have HD : Hid (oneS d = d ++ ⟨#[61, 34, 69, 83, 73, 47, 49, 46, 48, 34]⟩) := rfl
    have HTS : Hid ((trimS s).size ≤ 400) := by unfold Hid; omega
    have hcs : Hid (canS s d = (if (trimS s).toList.isEmpty then d ++ ⟨#[61, 34, 69, 83, 73, 47, 49, 46, 48, 34]⟩ else trimS s ++ ⟨#[44, 32]⟩ ++ (d ++ ⟨#[61, 34, 69, 83, 73, 47, 49, 46, 48, 34]⟩))) := rfl
    clear HC HD
    go_wp2_with fail
    refine HCB.out.mono ?_
    rintro e w1 ⟨rfl, c1⟩
    clear HCB HCA
    go_wp2_with fail
    refine (reftoken_any d w1 (by omega)).mono ?_
    rintro e w2 ⟨rfl, rfl⟩
    rw [ht]
    go_wp2_with fail
    refine (reftrim_any s w2 (by omega)).mono ?_
    rintro e w3 ⟨rfl, rfl⟩
    have HRD : Hid (∀ W, Calls Tryd.prog 8 #[.string s] W fun e w' => ∃ v, e = .returned (.tuple #[v, .int .i64 (rdE s : Nat)]) ∧ Own w' W.heap.size v (rdF s) ∧ Below W.heap.size W w') := fun W => read_any s W (by omega)
    rw [hcs.out]
    generalize trimS s = tt at *
    cases he : tt.toList.isEmpty
    · simp only [Bool.false_eq_true, if_false]
      go_wp2_with fail
      refine (alive_any w3).mono ?_
      rintro e w4 ⟨rfl, hb4⟩
      have c4 := c1.trans (hb4.mono c1.size)
      clear hb4 c1
      go_wp2_with fail
      refine (short_any v0 _ hv0).mono ?_
      rintro e w5 ⟨v, rfl, hv, rfl⟩
      have hwa := write_any contL v.data.toList o.data.toList w5 (by decide) (by rw [size_list]; omega) (by rw [size_list]; omega)
      rw [bs_data, bs_data] at hwa
      have HWA : Hid (Calls Tryd.prog 14 #[.agg #[.string ⟨#[99, 111, 110, 116, 101, 110, 116]⟩, .string v, .string o]] w5 _) := hwa
      clear hwa
      go_wp2_with fail
      refine HWA.out.mono ?_
      rintro e w6 ⟨S, ok, rfl, hok, hS, hb6⟩
      have c6 := c4.trans (hb6.mono c4.size)
      have HOK := hide hok
      have HSS := hide hS
      clear hok hS
      clear HWA hb6 c4
      go_wp2_with fail
      refine (HRD.out w6).mono ?_
      rintro e w7 ⟨vr, rfl, hor, hb7⟩
      have c7 := c6.trans (hb7.mono c6.size)
      clear hor hb7 c6
      have HSL : Hid ((bs (wrL (contL, v.data.toList, o.data.toList))).size ≤ 2000) := by
        unfold Hid; rw [bs_size]; have := wr_len (contL, v.data.toList, o.data.toList)
        simp only [size_list] at this
        have h7 : contL.length = 7 := rfl
        omega
      rcases hR : rdL s.data.toList with _ | L
      · have HN := hide (rd_none hR).2
        rw [HN.out]
        clear hR
        go_wp2_with fail
        go_ret
        exact ⟨rfl, c7⟩
      · have HN := hide (rd_some hR).2
        rw [HN.out]
        have HR := hide hR
        clear hR
        cases ok
        · go_wp2_with fail
          go_ret
          exact ⟨rfl, c7⟩
        · obtain rfl := HSS.out rfl
          have HO := hide HOK.out.symm
          clear HSS HOK
          by_cases ho : o.toList = []
          · have ho2 : o.toList.isEmpty = true := by rw [ho]; rfl
            go_wp2_with fail
            go_ret
            exact ⟨rfl, c7⟩
          · have ho2 : o.toList.isEmpty = false := by simpa using ho
            have ho3 : o.data.toList ≠ [] := by rw [← ByteArray.toList_eq]; exact ho
            cases hod : (o.toList == d.toList)
            · have ho4 : o.data.toList ≠ d.data.toList := by rw [← ByteArray.toList_eq, ← ByteArray.toList_eq]; simpa using hod
              have HQ := hide (ask_more HR.out HO.out ho4 ho3)
              generalize bs (wrL (contL, v.data.toList, o.data.toList)) = S at *
              have HMZ : Hid ((moreS s S).size ≤ 10000) := by
                unfold Hid; rw [← size_list, moreS_list]; have := HSL.out; simp; omega
              have hSz := HSL.out
              clear HR HO ho3 ho4
              go_wp2_with fail
              refine (asks_any (moreS s S) d w7 HMZ.out).mono ?_
              rintro e w8 ⟨rfl, hb8⟩
              rw [HQ.out]
              have c8 := c7.trans (hb8.mono c7.size)
              go_wp2_with fail
              refine (asks_any s d w8 (by omega)).mono ?_
              rintro e w9 ⟨rfl, hb9⟩
              have c9 := c8.trans (hb9.mono c8.size)
              go_wp2_with fail
              go_ret
              exact ⟨rfl, c9⟩
            · go_wp2_with fail
              go_ret
              exact ⟨rfl, c7⟩
    · simp only [if_true]
      go_wp2_with fail
      refine (alive_any w3).mono ?_
      rintro e w4 ⟨rfl, hb4⟩
      have c4 := c1.trans (hb4.mono c1.size)
      clear hb4 c1
      go_wp2_with fail
      refine (short_any v0 _ hv0).mono ?_
      rintro e w5 ⟨v, rfl, hv, rfl⟩
      have hwa := write_any contL v.data.toList o.data.toList w5 (by decide) (by rw [size_list]; omega) (by rw [size_list]; omega)
      rw [bs_data, bs_data] at hwa
      have HWA : Hid (Calls Tryd.prog 14 #[.agg #[.string ⟨#[99, 111, 110, 116, 101, 110, 116]⟩, .string v, .string o]] w5 _) := hwa
      clear hwa
      go_wp2_with fail
      refine HWA.out.mono ?_
      rintro e w6 ⟨S, ok, rfl, hok, hS, hb6⟩
      have c6 := c4.trans (hb6.mono c4.size)
      have HOK := hide hok
      have HSS := hide hS
      clear hok hS
      clear HWA hb6 c4
      go_wp2_with fail
      refine (HRD.out w6).mono ?_
      rintro e w7 ⟨vr, rfl, hor, hb7⟩
      have c7 := c6.trans (hb7.mono c6.size)
      clear hor hb7 c6
      have HSL : Hid ((bs (wrL (contL, v.data.toList, o.data.toList))).size ≤ 2000) := by
        unfold Hid; rw [bs_size]; have := wr_len (contL, v.data.toList, o.data.toList)
        simp only [size_list] at this
        have h7 : contL.length = 7 := rfl
        omega
      rcases hR : rdL s.data.toList with _ | L
      · have HN := hide (rd_none hR).2
        rw [HN.out]
        clear hR
        go_wp2_with fail
        go_ret
        exact ⟨rfl, c7⟩
      · have HN := hide (rd_some hR).2
        rw [HN.out]
        have HR := hide hR
        clear hR
        cases ok
        · go_wp2_with fail
          go_ret
          exact ⟨rfl, c7⟩
        · obtain rfl := HSS.out rfl
          have HO := hide HOK.out.symm
          clear HSS HOK
          by_cases ho : o.toList = []
          · have ho2 : o.toList.isEmpty = true := by rw [ho]; rfl
            go_wp2_with fail
            go_ret
            exact ⟨rfl, c7⟩
          · have ho2 : o.toList.isEmpty = false := by simpa using ho
            have ho3 : o.data.toList ≠ [] := by rw [← ByteArray.toList_eq]; exact ho
            cases hod : (o.toList == d.toList)
            · have ho4 : o.data.toList ≠ d.data.toList := by rw [← ByteArray.toList_eq, ← ByteArray.toList_eq]; simpa using hod
              have HQ := hide (ask_more HR.out HO.out ho4 ho3)
              generalize bs (wrL (contL, v.data.toList, o.data.toList)) = S at *
              have HMZ : Hid ((moreS s S).size ≤ 10000) := by
                unfold Hid; rw [← size_list, moreS_list]; have := HSL.out; simp; omega
              have hSz := HSL.out
              clear HR HO ho3 ho4
              go_wp2_with fail
              refine (asks_any (moreS s S) d w7 HMZ.out).mono ?_
              rintro e w8 ⟨rfl, hb8⟩
              rw [HQ.out]
              have c8 := c7.trans (hb8.mono c7.size)
              go_wp2_with fail
              refine (asks_any s d w8 (by omega)).mono ?_
              rintro e w9 ⟨rfl, hb9⟩
              have c9 := c8.trans (hb9.mono c8.size)
              go_wp2_with fail
              go_ret
              exact ⟨rfl, c9⟩
            · go_wp2_with fail
              go_ret
              exact ⟨rfl, c7⟩

end Go.Proofs.YtkakinakjnpbjaaDoor
