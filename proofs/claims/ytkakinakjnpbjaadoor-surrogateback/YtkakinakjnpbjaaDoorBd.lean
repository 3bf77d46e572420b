/- The walks of the document's own answer to whether a field asks a device. -/
import Derived.Test.YtkakinakjnpbjaaDoorBc
namespace Go.Proofs.YtkakinakjnpbjaaDoor
set_option linter.unusedVariables false
set_option linter.unusedSimpArgs false
open Go.RowKit

theorem bs_snoc {s : ByteArray} {k : Nat} (h : k < s.size) (a : List UInt8) : bs a ++ s.extract k (k + 1) = bs (a ++ [s[k]]) := byte_snoc (ext_one h)

set_option maxHeartbeats 1000000 in
theorem refhas_any (s : ByteArray) (w : World) (hs : s.size ≤ 10000) :
    Calls Tryd.prog 26 #[.string s, .string ⟨#[69, 83, 73, 47, 49, 46, 48]⟩] w fun e w' => e = .returned (.bool (hasW s.data.toList)) ∧ w' = w := by
  have HZ : Hid (s.data.toList.length = s.size) := size_list s
  have HE : Hid (∀ a, ((bs a).toList == (⟨#[69, 83, 73, 47, 49, 46, 48]⟩ : ByteArray).toList) = (a == esiL)) := by
    intro a; rw [bs_toList, ByteArray.toList_eq]; rfl
  obtain ⟨u, hu⟩ : ∃ u : ByteArray, (⟨#[69, 83, 73, 47, 49, 46, 48]⟩ : ByteArray) = u := ⟨_, rfl⟩
  rw [hu] at HE ⊢
  clear hu
  go_enter Tryd.func26, Tryd.ntmps26
  go_wp2_with fail
  go_loop [5, 6] (fun p i => ∃ (k : Nat) (a : List UInt8), k ≤ s.size ∧ i = .int .i64 k ∧ p = .string (bs a) ∧ a.length ≤ k ∧ Hid (hasA a (s.data.toList.drop k) = hasW s.data.toList)) (fun _ i => s.size - (intOf i).toNat)
  case atStart => exact ⟨0, [], Nat.zero_le _, rfl, rfl, Nat.le_refl _, by unfold Hid; rw [List.drop_zero, hasA_all]⟩
  case round =>
    obtain ⟨k, a, hk, rfl, rfl, ha, hin⟩ := hrel
    by_cases hlt : k < s.size
    · have hltz : (k : Int) < s.size := by omega
      have hkl : k < s.data.toList.length := by rw [HZ.out]; exact hlt
      have hin2 := hin.out
      rw [List.drop_eq_getElem_cons hkl, get_at s k hlt] at hin2
      have hX := bs_snoc hlt a
      have hasz : (bs a).size ≤ 10000 := by rw [bs_size]; omega
      have hE := HE.out a
      clear hkl hin
      by_cases hc : s[k]'hlt = 32
      · have hct : (((s[k]'hlt).toNat : Int) == 32) = true := by have := u8_beq (s[k]'hlt) 32; rw [decide_eq_true hc] at this; exact this
        rw [hc, hasA_blank] at hin2
        cases he : (a == esiL)
        · rw [he] at hE hin2
          have HN : Hid (hasA [] (s.data.toList.drop (k + 1)) = hasW s.data.toList) := by unfold Hid; rw [← hin2]; rfl
          generalize bs a = t at *
          clear hin2 hc hX he
          go_wp2_with fail
          exact ⟨⟨k + 1, [], by omega, by go_num, rfl, by simp, HN.out⟩, by simp [intOf]; omega⟩
        · rw [he] at hE hin2
          have HN : Hid (hasW s.data.toList = true) := by unfold Hid; rw [← hin2]; rfl
          generalize bs a = t at *
          clear hin2 hc hX he
          go_wp2_with fail
          go_ret
          exact ⟨by rw [HN.out]; rfl, rfl⟩
      · have hct : (((s[k]'hlt).toNat : Int) == 32) = false := by have := u8_beq (s[k]'hlt) 32; rw [decide_eq_false hc] at this; exact this
        rw [hasA_more hc] at hin2
        have HN := hide hin2
        have HX := hide hX
        obtain ⟨t, ht⟩ : ∃ t, bs a = t := ⟨_, rfl⟩
        rw [ht] at hasz hE HX ⊢
        clear hin2 hc hX ht
        go_wp2_with fail
        exact ⟨⟨k + 1, a ++ [s[k]], by omega, by go_num, by rw [HX.out], by simp; omega, HN.out⟩, by simp [intOf]; omega⟩
    · have hd : decide ((k : Int) < s.size) = false := decide_eq_false (by omega)
      have hin2 := hin.out
      rw [List.drop_eq_nil_of_le (by rw [HZ.out]; omega), hasA_nil, ← HE.out a] at hin2
      have HN := hide hin2
      clear hin2 hin
      generalize bs a = t at *
      go_wp2_with fail
      go_ret
      exact ⟨by rw [← HN.out]; rfl, rfl⟩

set_option maxHeartbeats 2000000 in
theorem refasks_any (s d : ByteArray) (w : World) (hs : s.size ≤ 10000) :
    Calls Tryd.prog 13 #[.string s, .string d] w fun e w' => e = .returned (.bool (askB s d)) ∧ Below w.heap.size w w' := by
  have hrd := refread_any s w hs
  rcases hR : rdL s.data.toList with _ | L
  · have HA : Hid (askB s d = false) := by unfold Hid askB askL; rw [hR]
    rw [(rd_none hR).1, (rd_none hR).2] at hrd
    clear hR
    go_enter Tryd.func13, Tryd.ntmps13
    go_wp2_with fail
    refine hrd.mono ?_
    rintro e w1 ⟨v, rfl, ho, hb1⟩
    go_wp2_with fail
    go_ret
    exact ⟨by rw [HA.out]; rfl, hb1⟩
  · rw [(rd_some hR).1, (rd_some hR).2] at hrd
    have hlen := rd_count hR
    rw [size_list] at hlen
    have HA : Hid (askB s d = (foldA d.data.toList L).2) := by unfold Hid askB askL; rw [hR]
    have HV : Hid (∀ x ∈ L, x.2.1.length ≤ 10000) := fun x hx => by have := rd_vals hR x hx; rw [size_list] at this; omega
    have HL : Hid (L.length ≤ 10001) := by unfold Hid; omega
    clear hR
    go_enter Tryd.func13, Tryd.ntmps13
    go_wp2_with fail
    refine hrd.mono ?_
    rintro e w1 ⟨v, rfl, ho, hb1⟩
    have hrow := ho.row
    obtain ⟨ad, cap, rfl, hcap, hRW⟩ := hrow
    have HR := hide hRW
    have hml : (L.map toF).length = L.length := by simp
    clear hrd ho hRW
    rw [hml]
    go_wp2_with fail
    go_loopw [7, 8, 20] (fun m i2 i wr => ∃ k : Nat, k ≤ L.length ∧ i = .int .i64 k ∧ m = .bool (foldA d.data.toList (L.take k)).1 ∧ i2 = .bool (foldA d.data.toList (L.take k)).2 ∧ Below w1.heap.size w1 wr) (fun _ _ i _ => L.length - (intOf i).toNat)
    case atStart => exact ⟨0, Nat.zero_le _, rfl, rfl, rfl, Below.refl _ _⟩
    case round =>
      obtain ⟨k, hk, rfl, rfl, rfl, hbr⟩ := hrel
      have hsz := hbr.size
      by_cases hlt : k < L.length
      · have hltz : (k : Int) < L.length := by omega
        have hkz : (k : Int) ≤ 10001 := by have := HL.out; omega
        obtain ⟨g, off, rfl, hg, r0, r1, r2⟩ := HR.out k (by rw [hml]; exact hlt)
        rw [List.getElem_map] at r0 r1 r2
        rw [← (stays hbr).1 _ _ hg] at r0 r1 r2
        have HST : Hid (foldA d.data.toList (L.take (k + 1)) = stepA d.data.toList (foldA d.data.toList (L.take k)) L[k]) := by unfold Hid; rw [List.take_succ_eq_append_getElem hlt, foldA_snoc]
        have hvl := HV.out L[k] (List.getElem_mem hlt)
        obtain ⟨x, hx⟩ : ∃ x, L[k]'hlt = x := ⟨_, rfl⟩
        rw [hx] at r0 r1 r2 HST hvl
        clear hx
        generalize foldA d.data.toList (L.take k) = q at *
        obtain ⟨m, a⟩ := q
        obtain ⟨n, v, e⟩ := x
        simp only [toF] at r0 r1 r2 hvl ⊢
        have HVS : Hid ((bs v).size ≤ 10000) := by unfold Hid; rw [bs_size]; exact hvl
        have hB2 := hbr.alloc hsz (.cells #[.string (bs n), .string (bs v), .string (bs e)] 31)
        have HHW : Hid (hasW (bs v).data.toList = hasW v) := by unfold Hid; rw [bs_list]
        have hbn := bs_toList n
        have hbe := bs_toList e
        by_cases hn : n = contL
        · have hn' : (bs n).toList = [99, 111, 110, 116, 101, 110, 116] := by rw [hbn, hn]; rfl
          cases h2 : (e == d.data.toList)
          · have h2' : ((bs e).toList == d.toList) = false := by rw [hbe, ByteArray.toList_eq]; exact h2
            by_cases he : e = []
            · have he' : (bs e).toList = [] := by rw [hbe, he]
              have hd3 : d.toList.isEmpty = false := by have h4 := h2'; rw [he'] at h4; rw [← h4]; cases d.toList <;> rfl
              cases m
              · have HS : Hid (foldA d.data.toList (L.take (k + 1)) = (false, hasW v)) := by
                  unfold Hid; rw [HST.out]; unfold stepA forB; simp only [h2]; rw [hn, he]; rfl
                clear HST hn h2 he hbn hbe
                go_wp2_with fail
                refine (refhas_any (bs v) _ HVS.out).mono ?_
                rintro e w3 ⟨rfl, rfl⟩
                rw [HHW.out]
                go_wp2_with fail
                exact ⟨⟨k + 1, by omega, by go_num, by rw [HS.out], by rw [HS.out], hB2⟩, by simp [intOf]; omega⟩
              · have HS : Hid (foldA d.data.toList (L.take (k + 1)) = (true, a)) := by
                  unfold Hid; rw [HST.out]; unfold stepA forB; simp only [h2]; rw [hn, he]; rfl
                clear HST hn h2 he hbn hbe
                go_wp2_with fail
                exact ⟨⟨k + 1, by omega, by go_num, by rw [HS.out], by rw [HS.out], hB2⟩, by simp [intOf]; omega⟩
            · have he' : ¬ (bs e).toList = [] := by rw [hbe]; exact he
              have he2 : (e == []) = false := by simpa using he
              have HS : Hid (foldA d.data.toList (L.take (k + 1)) = (m, a)) := by
                unfold Hid; rw [HST.out]; unfold stepA forB; simp only [h2, he2]; simp
              clear HST hn h2 he hbn hbe he2
              go_wp2_with fail
              exact ⟨⟨k + 1, by omega, by go_num, by rw [HS.out], by rw [HS.out], hB2⟩, by simp [intOf]; omega⟩
          · have h2' : ((bs e).toList == d.toList) = true := by rw [hbe, ByteArray.toList_eq]; exact h2
            have HS : Hid (foldA d.data.toList (L.take (k + 1)) = (true, hasW v)) := by
              unfold Hid; rw [HST.out]; unfold stepA forB; simp only [h2]; rw [hn]; rfl
            by_cases he : e = []
            · have he' : (bs e).toList = [] := by rw [hbe, he]
              have hd3 : d.toList.isEmpty = true := by have h4 := h2'; rw [he'] at h4; rw [← h4]; cases d.toList <;> rfl
              clear HST hn h2 he hbn hbe
              go_wp2_with fail
              refine (refhas_any (bs v) _ HVS.out).mono ?_
              rintro e w3 ⟨rfl, rfl⟩
              rw [HHW.out]
              go_wp2_with fail
              exact ⟨⟨k + 1, by omega, by go_num, by rw [HS.out], by rw [HS.out], hB2⟩, by simp [intOf]; omega⟩
            · have he' : ¬ (bs e).toList = [] := by rw [hbe]; exact he
              clear HST hn h2 he hbn hbe
              go_wp2_with fail
              refine (refhas_any (bs v) _ HVS.out).mono ?_
              rintro e w3 ⟨rfl, rfl⟩
              rw [HHW.out]
              go_wp2_with fail
              exact ⟨⟨k + 1, by omega, by go_num, by rw [HS.out], by rw [HS.out], hB2⟩, by simp [intOf]; omega⟩
        · have hn' : ¬ (bs n).toList = [99, 111, 110, 116, 101, 110, 116] := by rw [hbn]; exact hn
          have hn2 : (n == contL) = false := by simpa using hn
          have HS : Hid (foldA d.data.toList (L.take (k + 1)) = (m, a)) := by
            unfold Hid; rw [HST.out]; unfold stepA forB; simp only [hn2]; simp
          clear HST hn hn2 hbn hbe
          go_wp2_with fail
          exact ⟨⟨k + 1, by omega, by go_num, by rw [HS.out], by rw [HS.out], hB2⟩, by simp [intOf]; omega⟩
      · have hd : decide ((k : Int) < L.length) = false := decide_eq_false (by omega)
        rw [List.take_of_length_le (by omega)]
        rw [← HA.out]
        go_wp2_with fail
        go_ret
        exact ⟨rfl, hb1.trans (hbr.mono hb1.size)⟩

end Go.Proofs.YtkakinakjnpbjaaDoor
