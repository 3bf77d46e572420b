/- The walk of HopStays. -/
import Derived.Test.YtojoidhjlbcijaaDoorLa
namespace Go.Proofs.YtojoidhjlbcijaaDoor
set_option linter.unusedVariables false
set_option linter.unusedSimpArgs false
set_option maxRecDepth 100000
open Go.RowKit

theorem oth_at (ws : List (List UInt8)) (M : List Fd) (i : Nat) (hlt : i < M.length) (hp : aloneB ws M[i].1.data.toList = false) :
    ∃ h : (othF ws (M.take i)).length < (othF ws M).length, (othF ws M)[(othF ws (M.take i)).length]'h = M[i] := by
  have e : othF ws M = othF ws (M.take i) ++ M[i] :: othF ws (M.drop (i + 1)) := by
    conv => lhs; rw [← List.take_append_drop i M, List.drop_eq_getElem_cons hlt]
    unfold othF
    rw [List.filter_append, List.filter_cons_of_pos (by simp [hp])]
  refine ⟨by rw [e]; simp, ?_⟩
  simp [e]

set_option maxHeartbeats 16000000 in
theorem stays_walk (L : List Fd) (ad : Option Addr) (cap : Nat) (w : World) (hr : Row w (.slice ad L.length cap) L) (hcm : cap ≤ maxLen) (hs : ∀ f ∈ L, f.1.size ≤ maxLen ∧ f.2.size ≤ maxLen) :
    Calls Tryd.prog 4 #[.slice ad L.length cap] w fun e w' => e = .returned (.bool true) ∧ Below w.heap.size w w' := by
  have HR := hide hr
  have HS := hide hs
  clear hr hs
  go_enter Tryd.func4, Tryd.ntmps4
  go_wp2_with fail
  refine (few_any L ad cap w HR.out hcm HS.out).mono ?_
  rintro e w1 ⟨r, M, rfl, hrow, hlen, hsh, hb1⟩
  have hsm := few_sm hsh
  clear HR HS hsh
  have HST := hide (strip_any M r w1 hrow (by omega) hsm)
  cases hR : rightF M
  · rw [(str_no hR).1, (str_no hR).2] at HST
    go_wp2_with fail
    refine HST.out.mono ?_
    rintro e w2 ⟨r2, rfl, ho, hb2⟩
    have hB2 := hb1.trans (hb2.mono hb1.size)
    obtain ⟨a2, k2, rfl⟩ := own_nothing ho
    clear HST ho
    go_wp2_with fail
    refine (alive_any w2).mono ?_
    rintro e w3 ⟨rfl, hb3⟩
    go_wp2_with fail
    go_ret
    exact ⟨rfl, hB2.trans (hb3.mono hB2.size)⟩
  · rw [(str_yes hR).1, (str_yes hR).2] at HST
    have hAl := str_le M
    have hAs := str_sm hsm
    have hAR := str_right hR
    have hAA := str_str hR
    have hwl := wds_len hsm (by omega)
    have hj := hsm.join connS (by omega)
    have HO : Hid (strF M = othF (wds M) M) := rfl
    have HRO := hide hrow
    clear hrow
    go_wp2_with fail
    refine HST.out.mono ?_
    rintro e w2 ⟨r2, rfl, ho2, hb2⟩
    have hB2 := hb1.trans (hb2.mono hb1.size)
    have HST2 := hide (strip_any (strF M) r2 w2 ho2.row (by omega) hAs)
    rw [(str_yes hAR).1, (str_yes hAR).2, hAA] at HST2
    have HR2 := hide (HRO.out.below hb2)
    clear HST HRO hb1 hb2 hAR hAA
    obtain ⟨A, hA⟩ : ∃ A, strF M = A := ⟨_, rfl⟩
    rw [hA] at HST2 hAl ho2 hAs HO
    clear hA
    go_wp2_with fail
    refine HST2.out.mono ?_
    rintro e w3 ⟨r3, rfl, ho3, hb3⟩
    have hB3 := hB2.trans (hb3.mono hB2.size)
    have HR3 := hide (HR2.out.below hb3)
    have ho23 := ho2.below hb3
    clear HST2 HR2 hb3 hB2 ho2
    go_wp2_with fail
    refine (refwords_any M r w3 HR3.out (by omega) hsm.sh (by omega)).mono ?_
    rintro e w4 ⟨r4, rfl, ho4, hb4⟩
    have hB4 := hB3.trans (hb4.mono hB3.size)
    have HR4 := hide (HR3.out.below hb4)
    have HA4 := hide (ho23.below hb4).row
    have HB4 := hide (ho3.below hb4).row
    have HW4 := hide ho4.rowW
    clear HR3 hb4 hB3 ho3 ho23 ho4
    generalize wds M = ws at *
    have hRM := HR4.out
    obtain ⟨am, cm, rfl, hcm2, hMc⟩ := hRM
    have HMC := hide hMc
    have hRA := HA4.out
    obtain ⟨aa, ca, rfl, hca2, hAc⟩ := hRA
    have HAC := hide hAc
    clear hMc hAc HR4 hj
    go_wp2_with fail
    go_loopw [8, 10, 35] (fun kk _ i wr => ∃ j : Nat, j ≤ M.length ∧ i = .int .i64 j ∧ kk = .int .i64 ((othF ws (M.take j)).length : Nat) ∧ Below w4.heap.size w4 wr) (fun _ _ i _ => M.length - (intOf i).toNat)
    case atStart => exact ⟨0, Nat.zero_le _, rfl, by rw [List.take_zero]; rfl, Below.refl _ _⟩
    case round =>
      obtain ⟨j, hj, rfl, rfl, hbr⟩ := hrel
      by_cases hlt : j < M.length
      · have hltz : (j : Int) < M.length := by omega
        obtain ⟨g, off, rfl, hg, c0, c1⟩ := HMC.out j hlt
        rw [← (stays hbr).1 _ _ hg] at c0 c1
        have hnm := (hsm _ (List.getElem_mem hlt)).1
        have HT := hide (List.take_succ_eq_append_getElem hlt)
        have HAT := hide (oth_at ws M j hlt)
        obtain ⟨x, hx⟩ : ∃ x, M[j]'hlt = x := ⟨_, rfl⟩
        rw [hx] at c0 c1 hnm HT HAT
        have HX : Hid (othF ws (M.take (j + 1)) = othF ws (M.take j) ++ (if aloneB ws x.1.data.toList then [] else [x])) := by unfold Hid; rw [HT.out, oth_snoc]
        have HLE : Hid ((othF ws (M.take j)).length ≤ j) := by
          unfold Hid; refine Nat.le_trans (oth_le ws (M.take j)) ?_; rw [List.length_take]; omega
        clear hx HT HMC
        rw [← HO.out] at HAT
        obtain ⟨k, hk⟩ : ∃ k, (othF ws (M.take j)).length = k := ⟨_, rfl⟩
        have hbx := hbr.alloc hbr.size (.cells #[.string x.1, .string x.2] 39)
        have d0 : (wr.alloc (.cells #[.string x.1, .string x.2] 39)).cell? ⟨wr.heap.size, 0, none⟩ = some (.string x.1) := by go_simp
        have d1 : (wr.alloc (.cells #[.string x.1, .string x.2] 39)).cell? ⟨wr.heap.size, 1, none⟩ = some (.string x.2) := by go_simp
        have hxl : wr.heap.size < (wr.alloc (.cells #[.string x.1, .string x.2] 39)).heap.size := by simp
        have HXL := hide (congrArg List.length HX.out)
        rw [List.length_append] at HXL
        simp only [hk] at HAT HLE HXL ⊢
        clear HX
        go_wp2_with fail
        generalize (wr.alloc (.cells #[.string x.1, .string x.2] 39)) = wx at hbx d0 d1 hxl ⊢
        generalize wr.heap.size = X at d0 d1 hxl ⊢
        refine (refalone_any ws r4 x.1 wx (HW4.out.below hbx) (by omega) (by omega)).mono ?_
        rintro e w5 ⟨rfl, hb5⟩
        have hB5 := hbx.trans (hb5.mono hbx.size)
        have e0 := ((stays hb5).1 _ _ hxl).trans d0
        have e1 := ((stays hb5).1 _ _ hxl).trans d1
        clear hbx d0 d1 hb5 c0 c1 hbr
        cases hp : aloneB ws x.1.data.toList
        · rw [hp, if_neg (by decide)] at HXL
          obtain ⟨hkl, hAk⟩ := HAT.out hp
          obtain ⟨ga, offa, rfl, hga, a0, a1⟩ := HAC.out k hkl
          rw [hAk, ← (stays hB5).1 _ _ hga] at a0 a1
          have hge : decide ((A.length : Int) ≤ (k : Int)) = false := decide_eq_false (by omega)
          have hge2 : ¬ ((A.length : Int) ≤ (k : Int)) := by omega
          have hklz : (k : Int) < (A.length : Int) := by omega
          have hkj := HLE.out
          clear HAT HAC hAk
          go_wp2_with fail
          go_quiet (fail)
          go_wp2_with fail
          exact ⟨⟨j + 1, by omega, by go_num, by rw [HXL.out]; go_num, below_drewN hB5 _⟩, by simp [intOf]; omega⟩
        · rw [hp, if_pos rfl] at HXL
          go_wp2_with fail
          refine ⟨⟨j + 1, by omega, by go_num, by rw [HXL.out]; rfl, hB5⟩, by simp [intOf]; omega⟩
      · have hd : decide ((j : Int) < M.length) = false := decide_eq_false (by omega)
        have hkk : (othF ws (M.take j)).length = A.length := by rw [List.take_of_length_le (by omega), ← HO.out]
        rw [hkk]
        have HB5 := hide (HB4.out.below hbr)
        have HA5 := hide (HA4.out.below hbr)
        have hB5 := hB4.trans (hbr.mono hB4.size)
        clear HMC HAC HW4 hkk
        go_wp2_with fail
        refine (alive_any wr).mono ?_
        rintro e w5 ⟨rfl, hb5⟩
        have HB6 := hide (HB5.out.below hb5)
        have HA6 := hide (HA5.out.below hb5)
        have hB6 := hB5.trans (hb5.mono hB5.size)
        clear HB5 HA5 hb5 hB5
        go_wp2_with fail
        refine (like_same A _ _ w5 HA6.out HB6.out (by omega)).mono ?_
        rintro e w6 ⟨rfl, hb6⟩
        go_wp2_with fail
        go_ret
        exact ⟨rfl, hB6.trans (hb6.mono hB6.size)⟩

end Go.Proofs.YtojoidhjlbcijaaDoor
