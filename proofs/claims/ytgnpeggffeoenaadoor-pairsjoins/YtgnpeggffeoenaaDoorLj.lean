/- The walk of PairsJoins. -/
import Derived.Test.YtgnpeggffeoenaaDoorLa
namespace Go.Proofs.YtgnpeggffeoenaaDoor
set_option linter.unusedVariables false
set_option linter.unusedSimpArgs false
open Go.RowKit

theorem q_join (s t : ByteArray) : qF (s ++ ⟨#[38]⟩ ++ t) = qF s ++ qF t := by
  unfold qF
  rw [app_list, app_list, show (⟨#[38]⟩ : ByteArray).data.toList = [38] from rfl, List.append_assoc, List.singleton_append, qL_app, List.map_append]
theorem c_join (s t : ByteArray) : cF (s ++ ⟨#[59]⟩ ++ t) = cF s ++ cF t := by
  unfold cF
  rw [app_list, app_list, show (⟨#[59]⟩ : ByteArray).data.toList = [59] from rfl, List.append_assoc, List.singleton_append, cL_app, List.map_append]
theorem qF_len (s : ByteArray) : (qF s).length ≤ s.size + 1 := by
  have := qL_len s.data.toList
  unfold qF; rw [List.length_map]; rw [size_list] at this; exact this
theorem cF_len (s : ByteArray) : (cF s).length ≤ s.size + 1 := by
  have := cL_len s.data.toList
  unfold cF; rw [List.length_map]; rw [size_list] at this; exact this
theorem lit_own (w : World) : Own (w.alloc (.cells #[] 37)) w.heap.size (.slice (some ⟨w.heap.size, 0, none⟩) 0 0) [] := row_lit0 w w.heap.size (Nat.le_refl _)

set_option maxRecDepth 100000 in
set_option maxHeartbeats 4000000 in
theorem joins_walk (s0 t0 n : ByteArray) (w : World) (hs0 : s0.size ≤ maxLen) (ht0 : t0.size ≤ maxLen) (hn : n.size ≤ maxLen) (hT : Tabs w) :
    Calls Tryd.prog 7 #[.string s0, .string t0, .string n] w fun e w' => e = .returned (.bool true) ∧ Below w.heap.size w w' := by
  have HT := hide hT
  clear hT
  go_enter Tryd.func7, Tryd.ntmps7
  go_wp2_with fail
  refine (short_any s0 w hs0).mono ?_
  rintro e w0 ⟨s, rfl, hs, rfl⟩
  go_wp2_with fail
  refine (short_any t0 _ ht0).mono ?_
  rintro e w0 ⟨t, rfl, ht, rfl⟩
  have HXL : Hid ((qF s ++ qF t).length ≤ 1000000) := by unfold Hid; have h1 := qF_len s; have h2 := qF_len t; rw [List.length_append]; omega
  have HYL : Hid ((cF s ++ cF t).length ≤ 1000000) := by unfold Hid; have h1 := cF_len s; have h2 := cF_len t; rw [List.length_append]; omega
  have HQZ : Hid ((s ++ ⟨#[38]⟩ ++ t).size ≤ 10000) := by unfold Hid; rw [ByteArray.size_append, ByteArray.size_append]; show s.size + 1 + t.size ≤ 10000; omega
  have HCZ : Hid ((s ++ ⟨#[59]⟩ ++ t).size ≤ 10000) := by unfold Hid; rw [ByteArray.size_append, ByteArray.size_append]; show s.size + 1 + t.size ≤ 10000; omega
  go_wp2_with fail
  refine (query_any _ _ HQZ.out HT.out).mono ?_
  rintro e w1 ⟨v1, rfl, ho1, c1⟩
  rw [q_join] at ho1
  go_wp2_with fail
  refine (cookies_any _ _ HCZ.out (HT.out.below c1)).mono ?_
  rintro e w2 ⟨v2, rfl, ho2, hb2⟩
  rw [c_join] at ho2
  have C2 := hide (c1.trans (hb2.mono c1.size))
  have R1 := hide ((Own.row ho1).below hb2)
  have R2 := hide (Own.row ho2)
  have HT2 := hide (HT.out.below C2.out)
  clear ho1 ho2 hb2 c1 HQZ HCZ HT
  have HO0 := hide (lit_own w2)
  have D0 := hide (one_alloc w2 #[] 37)
  go_wp2_with fail
  refine (query_any s _ (by omega) (HT2.out.below D0.out)).mono ?_
  rintro e w3 ⟨v3, rfl, ho3, hb3⟩
  have D3 := hide (D0.out.trans (hb3.mono D0.out.size))
  have HO3 := hide (Own.below HO0.out hb3)
  have R3 := hide (Own.row ho3)
  clear HO0 D0 ho3 hb3
  go_wp2_with (at_builtin; refine wpList_append_Row rfl (.tmp 29) (.tmp 31) rfl w2.heap.size (.slice (some ⟨w2.heap.size, 0, none⟩) 0 0) v3 [] (qF s) rfl rfl HO3.out R3.out (by have := HXL.out; simp at this ⊢; omega) D3.out.size ?_; intro v4 w4 ho4 hg4)
  have D4 := hide (D3.out.grown hg4 D3.out.size (fun j hj => own_block HO3.out j hj))
  refine (query_any t _ (by omega) (HT2.out.below D4.out)).mono ?_
  rintro e w5 ⟨v5, rfl, ho5, hb5⟩
  have D5 := hide (D4.out.trans (hb5.mono D4.out.size))
  have HO5 := hide (Own.below ho4 hb5)
  have R5 := hide (Own.row ho5)
  clear ho4 ho5 hb5 hg4 D3 D4 HO3 R3
  go_wp2_with (at_builtin; refine wpList_append_Row rfl (.tmp 32) (.tmp 34) rfl w2.heap.size v4 v5 ([] ++ qF s) (qF t) rfl rfl HO5.out R5.out (by have := HXL.out; simp at this ⊢; omega) D5.out.size ?_; intro v6 w6 ho6 hg6)
  have D6 := hide (D5.out.grown hg6 D5.out.size (fun j hj => own_block HO5.out j hj))
  rw [List.nil_append] at ho6
  have RX := hide (Own.row ho6)
  have R1 := hide (R1.out.below D6.out)
  have R2 := hide (R2.out.below D6.out)
  have HT6 := hide (HT2.out.below D6.out)
  have C6 := hide (C2.out.trans (D6.out.mono C2.out.size))
  clear ho6 hg6 D5 HO5 R5 HT2 C2 D6
  have HO0 := hide (lit_own w6)
  have D0 := hide (one_alloc w6 #[] 37)
  refine (cookies_any s _ (by omega) (HT6.out.below D0.out)).mono ?_
  rintro e w7 ⟨v7, rfl, ho7, hb7⟩
  have D7 := hide (D0.out.trans (hb7.mono D0.out.size))
  have HO7 := hide (Own.below HO0.out hb7)
  have R7 := hide (Own.row ho7)
  clear HO0 D0 ho7 hb7
  go_wp2_with (at_builtin; refine wpList_append_Row rfl (.tmp 36) (.tmp 38) rfl w6.heap.size (.slice (some ⟨w6.heap.size, 0, none⟩) 0 0) v7 [] (cF s) rfl rfl HO7.out R7.out (by have := HYL.out; simp at this ⊢; omega) D7.out.size ?_; intro v8 w8 ho8 hg8)
  have D8 := hide (D7.out.grown hg8 D7.out.size (fun j hj => own_block HO7.out j hj))
  refine (cookies_any t _ (by omega) (HT6.out.below D8.out)).mono ?_
  rintro e w9 ⟨v9, rfl, ho9, hb9⟩
  have D9 := hide (D8.out.trans (hb9.mono D8.out.size))
  have HO9 := hide (Own.below ho8 hb9)
  have R9 := hide (Own.row ho9)
  clear ho8 ho9 hb9 hg8 D7 D8 HO7 R7
  go_wp2_with (at_builtin; refine wpList_append_Row rfl (.tmp 39) (.tmp 41) rfl w6.heap.size v8 v9 ([] ++ cF s) (cF t) rfl rfl HO9.out R9.out (by have := HYL.out; simp at this ⊢; omega) D9.out.size ?_; intro v10 wA hoA hgA)
  have DA := hide (D9.out.grown hgA D9.out.size (fun j hj => own_block HO9.out j hj))
  rw [List.nil_append] at hoA
  have RY := hide (Own.row hoA)
  have R1 := hide (R1.out.below DA.out)
  have R2 := hide (R2.out.below DA.out)
  have RX := hide (RX.out.below DA.out)
  have HTA := hide (HT6.out.below DA.out)
  have CA := hide (C6.out.trans (DA.out.mono C6.out.size))
  clear hoA hgA D9 HO9 R9 HT6 C6 DA
  obtain ⟨X, hX⟩ : ∃ X, qF s ++ qF t = X := ⟨_, rfl⟩
  obtain ⟨Y, hY⟩ : ∃ Y, cF s ++ cF t = Y := ⟨_, rfl⟩
  rw [hX] at R1 RX HXL
  rw [hY] at R2 RY HYL
  clear hX hY
  refine (find_pair X v6 n wA RX.out HXL.out).mono ?_
  rintro e wB ⟨rfl, hbB⟩
  have R1 := hide (R1.out.below hbB)
  have R2 := hide (R2.out.below hbB)
  have RX := hide (RX.out.below hbB)
  have RY := hide (RY.out.below hbB)
  have HTB := hide (HTA.out.below hbB)
  have CB := hide (CA.out.trans (hbB.mono CA.out.size))
  clear HTA CA hbB
  obtain ⟨fv, hfv⟩ : ∃ fv, (fdS n X).1 = fv := ⟨_, rfl⟩
  obtain ⟨fb, hfb⟩ : ∃ fb, (fdS n X).2 = fb := ⟨_, rfl⟩
  have HF : Hid (fdS n X = (fv, fb)) := by unfold Hid; rw [← hfv, ← hfb]
  rw [hfv, hfb]
  clear hfv hfb
  obtain ⟨ax, cx, rfl, hcx, hRX⟩ := RX.out
  have HRX := hide hRX
  have RXH : Hid (Row wB (.slice ax X.length cx) X) := ⟨ax, cx, rfl, hcx, hRX⟩
  have hxl : X.length ≤ 1000000 := HXL.out
  clear RX hRX hcx
  go_wp2_with fail
  go_loopw [14, 51] (fun _ i wr => ∃ k : Nat, k ≤ X.length ∧ i = .int .i64 k ∧ Below wB.heap.size wB wr ∧ Hid (∀ f ∈ X.take k, (pnm n) f = false)) (fun _ i _ => X.length - (intOf i).toNat)
  case atStart => exact ⟨0, Nat.zero_le _, rfl, Below.refl _ _, by simp [Hid]⟩
  case round =>
    obtain ⟨k, hk, rfl, hbr, hall⟩ := hrel
    have hsz := hbr.size
    by_cases hlt : k < X.length
    · have hltz : (k : Int) < X.length := by omega
      obtain ⟨g, off, rfl, hg, c0, c1⟩ := HRX.out k hlt
      rw [← (stays hbr).1 _ _ hg] at c0 c1
      have HIT := hide (fd_hit (n := n) hlt)
      have NXT := hide (take_next (p := fun f => (pnm n) f = false) hlt hall.out)
      have HALL := hide hall.out
      obtain ⟨x, hx⟩ : ∃ x, X[k]'hlt = x := ⟨_, rfl⟩
      rw [hx] at c0 c1 HIT NXT
      have hB1 := hbr.alloc hsz (.cells #[.string x.1, .string x.2] 37)
      clear hx hall HRX
      cases hp : (pnm n) x
      · have hq : (x.1.toList == n.toList) = _ := hp
        clear R1 R2 RY RXH HTB CB
        go_wp2_with fail
        exact ⟨⟨k + 1, by omega, by go_num, hB1, NXT.out hp⟩, by simp [intOf]; omega⟩
      · have hq : (x.1.toList == n.toList) = _ := hp
        have HF2 := HF.out
        rw [HIT.out hp HALL.out] at HF2
        obtain ⟨rfl, rfl⟩ := Prod.mk.inj HF2
        have z1 : (wr.alloc (.cells #[.string x.1, .string x.2] 37)).cell? ⟨wr.heap.size, 1, none⟩ = some (.string x.2) := by go_simp
        have hzl : wr.heap.size < (wr.alloc (.cells #[.string x.1, .string x.2] 37)).heap.size := by simp
        have Z1 := hide z1
        have ZL := hide hzl
        have B1 := hide hB1
        have R1 := hide (R1.out.below hB1)
        have R2 := hide (R2.out.below hB1)
        have RX := hide (RXH.out.below hB1)
        have RY := hide (RY.out.below hB1)
        have HTC := hide (HTB.out.below hB1)
        clear HIT NXT HALL HF HF2 hB1 z1 hzl RXH HTB hp
        go_wp2_with fail
        generalize wr.alloc (.cells #[.string x.1, .string x.2] 37) = wC at *
        refine (alive_any _ HTC.out).mono ?_
        rintro e wD ⟨rfl, hbD⟩
        have B2 := hide (B1.out.trans (hbD.mono B1.out.size))
        have R1 := hide (R1.out.below hbD)
        have R2 := hide (R2.out.below hbD)
        have RX := hide (RX.out.below hbD)
        have RY := hide (RY.out.below hbD)
        have Z2 := hide (((stays hbD).1 _ 1 ZL.out).trans Z1.out)
        have ZL := hide (Nat.lt_of_lt_of_le ZL.out hbD.size)
        clear hbD Z1 B1 HTC
        go_wp2_with fail
        refine (refsame2_any X v1 _ wD R1.out RX.out hxl).mono ?_
        rintro e wE ⟨rfl, hbE⟩
        have B3 := hide (B2.out.trans (hbE.mono B2.out.size))
        have R2 := hide (R2.out.below hbE)
        have RY := hide (RY.out.below hbE)
        have Z3 := hide (((stays hbE).1 _ 1 ZL.out).trans Z2.out)
        have ZL := hide (Nat.lt_of_lt_of_le ZL.out hbE.size)
        clear hbE Z2 B2 R1 RX
        go_wp2_with fail
        refine (refsame2_any Y v2 v10 wE R2.out RY.out HYL.out).mono ?_
        rintro e wF ⟨rfl, hbF⟩
        have B4 := hide (B3.out.trans (hbF.mono B3.out.size))
        have z4 := ((stays hbF).1 _ 1 ZL.out).trans Z3.out
        clear hbF Z3 B3 R2 RY
        go_wp2_with fail
        go_ret
        exact ⟨by simp, CB.out.trans (B4.out.mono CB.out.size)⟩
    · have hd : decide ((k : Int) < X.length) = false := decide_eq_false (by omega)
      rw [List.take_of_length_le (by omega)] at hall
      have HF2 := HF.out
      rw [fd_miss hall.out] at HF2
      obtain ⟨rfl, rfl⟩ := Prod.mk.inj HF2
      have R1 := hide (R1.out.below hbr)
      have R2 := hide (R2.out.below hbr)
      have RX := hide (RXH.out.below hbr)
      have RY := hide (RY.out.below hbr)
      have HTC := hide (HTB.out.below hbr)
      have B1 := hide hbr
      clear hall HF HF2 hbr RXH HTB HRX
      go_wp2_with fail
      refine (alive_any _ HTC.out).mono ?_
      rintro e wD ⟨rfl, hbD⟩
      have B2 := hide (B1.out.trans (hbD.mono B1.out.size))
      have R1 := hide (R1.out.below hbD)
      have R2 := hide (R2.out.below hbD)
      have RX := hide (RX.out.below hbD)
      have RY := hide (RY.out.below hbD)
      clear hbD B1 HTC
      go_wp2_with fail
      refine (refsame2_any X v1 _ wD R1.out RX.out hxl).mono ?_
      rintro e wE ⟨rfl, hbE⟩
      have B3 := hide (B2.out.trans (hbE.mono B2.out.size))
      have R2 := hide (R2.out.below hbE)
      have RY := hide (RY.out.below hbE)
      clear hbE B2 R1 RX
      go_wp2_with fail
      refine (refsame2_any Y v2 v10 wE R2.out RY.out HYL.out).mono ?_
      rintro e wF ⟨rfl, hbF⟩
      have B4 := hide (B3.out.trans (hbF.mono B3.out.size))
      clear hbF B3 R2 RY
      go_wp2_with fail
      go_ret
      exact ⟨by simp, CB.out.trans (B4.out.mono CB.out.size)⟩

end Go.Proofs.YtgnpeggffeoenaaDoor
