/- The walk of the document's own Clean. -/
import Derived.Test.YtjegoceebdiaaaaDoorCc
namespace Go.Proofs.YtjegoceebdiaaaaDoor
set_option linter.unusedVariables false
set_option linter.unusedSimpArgs false
open Go.RowKit

theorem beg_any (s p : ByteArray) (b : Bool) (h : pre p.data.toList s.data.toList = b) (w : World) (hs : s.size ≤ 1000000) (hp : p.size ≤ 1000000) :
    Calls Tryd.prog 27 #[.string s, .string p] w fun e w' => e = .returned (.bool b) ∧ w' = w := by
  refine (begins_any s p w hs hp).mono ?_
  rintro e w1 ⟨rfl, rfl⟩
  exact ⟨by rw [← h], rfl⟩

theorem pre_cut {p l : List UInt8} (h : pre p l = true) : l = p ++ l.drop p.length := by
  obtain ⟨t, rfl⟩ := List.isPrefixOf_iff_prefix.1 h
  simp
theorem put_slash {L : ByteArray} {k : Nat} (h : L.data.toList.drop k = 47 :: L.data.toList.drop (k + 1)) : ((⟨#[47]⟩ : ByteArray) ++ L.extract (k + 1) L.size).data.toList = L.data.toList.drop k := by
  rw [app_list, ext_drop, h]; rfl
theorem slash_two {l : List UInt8} (h : pre [47, 46, 47] l = true) : l.drop 2 = 47 :: l.drop 3 := by
  have := pre_cut h
  rw [this]; rfl
theorem slash_three {l : List UInt8} (h : pre [47, 46, 46, 47] l = true) : l.drop 3 = 47 :: l.drop 4 := by
  have := pre_cut h
  rw [this]; rfl
theorem back_ext (o : ByteArray) : (o.extract 0 (max (laI 47 o.data.toList) 0).toNat).data.toList = backL o.data.toList := by
  rw [ext_take, (backL_len _).2.2]

theorem ext_none (b : ByteArray) : b.extract 0 0 = ByteArray.empty := by
  apply bytes_ext
  rw [ext_take]; rfl

set_option maxRecDepth 100000 in
set_option maxHeartbeats 4000000 in
theorem refclean_any (s : ByteArray) (w : World) (hs : s.size ≤ 100000) :
    Calls Tryd.prog 37 #[.string s] w fun e w' => e = .returned (.string (cleanS s)) ∧ w' = w := by
  go_enter Tryd.func37, Tryd.ntmps37
  go_wp2_with fail
  go_loop [0, 3] (fun l o => ∃ (ob L : ByteArray), o = .string ob ∧ l = .string L ∧ ob.size + L.size ≤ s.size ∧ Hid (cln ob.data.toList L.data.toList = cleanL s.data.toList)) (fun l _ => lenOf l)
  case atStart => exact ⟨⟨#[]⟩, s, rfl, rfl, by show 0 + s.size ≤ s.size; omega, rfl⟩
  case round =>
    obtain ⟨ob, L, rfl, rfl, hsz, HC⟩ := hrel
    by_cases h0 : L.data.toList = []
    · have he := empty_of h0
      have HE : Hid (cleanS s = ob) := by
        unfold Hid cleanS
        rw [← HC.out, cln_end (Or.inl h0)]
      clear HC
      go_wp2_with fail
      go_ret
      exact ⟨ret_str HE.out.symm, rfl⟩
    have he := empty_not h0
    have H0 := hide h0
    clear h0
    cases h1 : (L.toList == [46])
    rotate_left
    · have hl := eq_of_beq h1
      have hsl : L.size = 1 := by rw [← size_list, hl]; rfl
      have HN : Hid (cln ob.data.toList (⟨#[]⟩ : ByteArray).data.toList = cleanL s.data.toList) := by
        unfold Hid
        rw [← HC.out, hl, cln_end (Or.inr (Or.inl rfl))]; rfl
      have HF : Hid (pre [46, 46, 47] L.data.toList = false) := by unfold Hid; rw [hl]; rfl
      have HD : Hid (pre [46, 47] L.data.toList = false) := by unfold Hid; rw [hl]; rfl
      have HEE : Hid (pre [47, 46, 47] L.data.toList = false) := by unfold Hid; rw [hl]; rfl
      have HH : Hid (pre [47, 46, 46, 47] L.data.toList = false) := by unfold Hid; rw [hl]; rfl
      have h6 : (L.toList == [47, 46]) = false := by rw [ByteArray.toList_eq, hl]; rfl
      have h8 : (L.toList == [47, 46, 46]) = false := by rw [ByteArray.toList_eq, hl]; rfl
      clear hl HC
      go_wp2_with fail
      refine (beg_any L ⟨#[46, 46, 47]⟩ _ HF.out _ (by omega) (by decide)).mono ?_
      rintro e w1 ⟨rfl, hw1⟩
      subst hw1
      go_wp2_with fail
      refine (beg_any L ⟨#[46, 47]⟩ _ HD.out _ (by omega) (by decide)).mono ?_
      rintro e w1 ⟨rfl, hw1⟩
      subst hw1
      go_wp2_with fail
      refine (beg_any L ⟨#[47, 46, 47]⟩ _ HEE.out _ (by omega) (by decide)).mono ?_
      rintro e w1 ⟨rfl, hw1⟩
      subst hw1
      go_wp2_with fail
      refine (beg_any L ⟨#[47, 46, 46, 47]⟩ _ HH.out _ (by omega) (by decide)).mono ?_
      rintro e w1 ⟨rfl, hw1⟩
      subst hw1
      go_wp2_with fail
      refine ⟨⟨ob, _, rfl, rfl, ?_, HN⟩, ?_⟩
      · rw [show (⟨#[]⟩ : ByteArray).size = 0 from rfl]; omega
      · simp only [lenOf]; rw [show (⟨#[]⟩ : ByteArray).size = 0 from rfl]; omega
    have H1 := hide (ne_of_beq h1)
    cases h2 : (L.toList == [46, 46])
    rotate_left
    · have hl := eq_of_beq h2
      have hsl : L.size = 2 := by rw [← size_list, hl]; rfl
      have HN : Hid (cln ob.data.toList (⟨#[]⟩ : ByteArray).data.toList = cleanL s.data.toList) := by
        unfold Hid
        rw [← HC.out, hl, cln_end (Or.inr (Or.inr rfl))]; rfl
      have HF : Hid (pre [46, 46, 47] L.data.toList = false) := by unfold Hid; rw [hl]; rfl
      have HD : Hid (pre [46, 47] L.data.toList = false) := by unfold Hid; rw [hl]; rfl
      have HEE : Hid (pre [47, 46, 47] L.data.toList = false) := by unfold Hid; rw [hl]; rfl
      have HH : Hid (pre [47, 46, 46, 47] L.data.toList = false) := by unfold Hid; rw [hl]; rfl
      have h6 : (L.toList == [47, 46]) = false := by rw [ByteArray.toList_eq, hl]; rfl
      have h8 : (L.toList == [47, 46, 46]) = false := by rw [ByteArray.toList_eq, hl]; rfl
      clear hl HC
      go_wp2_with fail
      refine (beg_any L ⟨#[46, 46, 47]⟩ _ HF.out _ (by omega) (by decide)).mono ?_
      rintro e w1 ⟨rfl, hw1⟩
      subst hw1
      go_wp2_with fail
      refine (beg_any L ⟨#[46, 47]⟩ _ HD.out _ (by omega) (by decide)).mono ?_
      rintro e w1 ⟨rfl, hw1⟩
      subst hw1
      go_wp2_with fail
      refine (beg_any L ⟨#[47, 46, 47]⟩ _ HEE.out _ (by omega) (by decide)).mono ?_
      rintro e w1 ⟨rfl, hw1⟩
      subst hw1
      go_wp2_with fail
      refine (beg_any L ⟨#[47, 46, 46, 47]⟩ _ HH.out _ (by omega) (by decide)).mono ?_
      rintro e w1 ⟨rfl, hw1⟩
      subst hw1
      go_wp2_with fail
      refine ⟨⟨ob, _, rfl, rfl, ?_, HN⟩, ?_⟩
      · rw [show (⟨#[]⟩ : ByteArray).size = 0 from rfl]; omega
      · simp only [lenOf]; rw [show (⟨#[]⟩ : ByteArray).size = 0 from rfl]; omega
    have H2 := hide (ne_of_beq h2)
    cases hf : pre [46, 46, 47] L.data.toList
    rotate_left
    · have hlen := pre_len hf
      have hd : pre [46, 47] L.data.toList = false := by rw [pre_cut hf]; rfl
      have hee : pre [47, 46, 47] L.data.toList = false := by rw [pre_cut hf]; rfl
      have HN : Hid (cln ob.data.toList (L.extract 3 L.size).data.toList = cleanL s.data.toList) := by
        unfold Hid
        rw [ext_drop, ← HC.out, cln_three H0.out H1.out H2.out hd hee hf]
      have HF := hide hf
      clear hf HC hd hee
      simp only [List.length_cons, List.length_nil] at hlen
      go_wp2_with fail
      refine (beg_any L ⟨#[46, 46, 47]⟩ _ HF.out _ (by omega) (by decide)).mono ?_
      rintro e w1 ⟨rfl, hw1⟩
      subst hw1
      go_wp2_with fail
      refine ⟨⟨ob, _, rfl, rfl, ?_, HN⟩, ?_⟩
      · rw [ByteArray.size_extract]; omega
      · simp only [lenOf]; rw [ByteArray.size_extract]; omega
    have HF := hide hf
    clear hf
    cases hd : pre [46, 47] L.data.toList
    rotate_left
    · have hlen := pre_len hd
      have HN : Hid (cln ob.data.toList (L.extract 2 L.size).data.toList = cleanL s.data.toList) := by
        unfold Hid
        rw [ext_drop, ← HC.out, cln_two H0.out H1.out H2.out (Or.inl hd)]
      have HD := hide hd
      clear hd HC
      simp only [List.length_cons, List.length_nil] at hlen
      go_wp2_with fail
      refine (beg_any L ⟨#[46, 46, 47]⟩ _ HF.out _ (by omega) (by decide)).mono ?_
      rintro e w1 ⟨rfl, hw1⟩
      subst hw1
      go_wp2_with fail
      refine (beg_any L ⟨#[46, 47]⟩ _ HD.out _ (by omega) (by decide)).mono ?_
      rintro e w1 ⟨rfl, hw1⟩
      subst hw1
      go_wp2_with fail
      refine ⟨⟨ob, _, rfl, rfl, ?_, HN⟩, ?_⟩
      · rw [ByteArray.size_extract]; omega
      · simp only [lenOf]; rw [ByteArray.size_extract]; omega
    have HD := hide hd
    clear hd
    cases hee : pre [47, 46, 47] L.data.toList
    rotate_left
    · have hlen := pre_len hee
      have HN : Hid (cln ob.data.toList ((⟨#[47]⟩ : ByteArray) ++ L.extract 3 L.size).data.toList = cleanL s.data.toList) := by
        unfold Hid
        rw [put_slash (slash_two hee), ← HC.out, cln_two H0.out H1.out H2.out (Or.inr hee)]
      have HEE := hide hee
      clear hee HC
      simp only [List.length_cons, List.length_nil] at hlen
      go_wp2_with fail
      refine (beg_any L ⟨#[46, 46, 47]⟩ _ HF.out _ (by omega) (by decide)).mono ?_
      rintro e w1 ⟨rfl, hw1⟩
      subst hw1
      go_wp2_with fail
      refine (beg_any L ⟨#[46, 47]⟩ _ HD.out _ (by omega) (by decide)).mono ?_
      rintro e w1 ⟨rfl, hw1⟩
      subst hw1
      go_wp2_with fail
      refine (beg_any L ⟨#[47, 46, 47]⟩ _ HEE.out _ (by omega) (by decide)).mono ?_
      rintro e w1 ⟨rfl, hw1⟩
      subst hw1
      go_wp2_with fail
      refine ⟨⟨ob, _, rfl, rfl, ?_, HN⟩, ?_⟩
      · rw [ByteArray.size_append, show (⟨#[47]⟩ : ByteArray).size = 1 from rfl, ByteArray.size_extract]; omega
      · simp only [lenOf]; rw [ByteArray.size_append, show (⟨#[47]⟩ : ByteArray).size = 1 from rfl, ByteArray.size_extract]; omega
    have HEE := hide hee
    clear hee
    cases h6 : (L.toList == [47, 46])
    rotate_left
    · have HN : Hid (cln ob.data.toList (⟨#[47]⟩ : ByteArray).data.toList = cleanL s.data.toList) := by
        unfold Hid
        rw [← HC.out, cln_here (eq_of_beq h6)]
      have hsl : L.size = 2 := by rw [← size_list, eq_of_beq h6]; rfl
      clear HC
      go_wp2_with fail
      refine (beg_any L ⟨#[46, 46, 47]⟩ _ HF.out _ (by omega) (by decide)).mono ?_
      rintro e w1 ⟨rfl, hw1⟩
      subst hw1
      go_wp2_with fail
      refine (beg_any L ⟨#[46, 47]⟩ _ HD.out _ (by omega) (by decide)).mono ?_
      rintro e w1 ⟨rfl, hw1⟩
      subst hw1
      go_wp2_with fail
      refine (beg_any L ⟨#[47, 46, 47]⟩ _ HEE.out _ (by omega) (by decide)).mono ?_
      rintro e w1 ⟨rfl, hw1⟩
      subst hw1
      go_wp2_with fail
      refine ⟨⟨ob, _, rfl, rfl, ?_, HN⟩, ?_⟩
      · rw [show (⟨#[47]⟩ : ByteArray).size = 1 from rfl]; omega
      · simp only [lenOf]; rw [show (⟨#[47]⟩ : ByteArray).size = 1 from rfl]; omega
    have H6 := hide (ne_of_beq h6)
    have HBK := hide (back_ext ob)
    have hbl2 := (backL_len ob.data.toList).2.1
    rw [size_list] at hbl2
    have hge := laI_ge 47 ob.data.toList
    obtain ⟨kk, hkk⟩ : ∃ kk : Nat, kk = (max (laI 47 ob.data.toList) 0).toNat := ⟨_, rfl⟩
    rw [← hkk] at HBK hbl2
    cases hh : pre [47, 46, 46, 47] L.data.toList
    rotate_left
    · have hlen := pre_len hh
      have HN : Hid (cln (ob.extract 0 kk).data.toList ((⟨#[47]⟩ : ByteArray) ++ L.extract 4 L.size).data.toList = cleanL s.data.toList) := by
        unfold Hid
        rw [HBK.out, put_slash (slash_three hh), ← HC.out, cln_up H0.out H1.out H2.out HD.out HEE.out HF.out H6.out hh]
      have h8 : (L.toList == [47, 46, 46]) = false := by
        rw [ByteArray.toList_eq, beq_eq_false_iff_ne]
        intro e
        have := congrArg List.length e
        rw [size_list] at this
        simp at this hlen
        omega
      have HH := hide hh
      clear hh HC HBK
      simp only [List.length_cons, List.length_nil] at hlen
      by_cases hneg : laI 47 ob.data.toList < 0
      · have hm1 : laI 47 ob.data.toList = -1 := by omega
        have hk0 : kk = 0 := by rw [hkk, hm1]; rfl
        rw [hk0, ext_none] at HN
        have HM := hide hm1
        clear hm1 hneg hkk hk0 hge
        go_wp2_with fail
        refine (beg_any L ⟨#[46, 46, 47]⟩ _ HF.out _ (by omega) (by decide)).mono ?_
        rintro e w1 ⟨rfl, hw1⟩
        subst hw1
        go_wp2_with fail
        refine (beg_any L ⟨#[46, 47]⟩ _ HD.out _ (by omega) (by decide)).mono ?_
        rintro e w1 ⟨rfl, hw1⟩
        subst hw1
        go_wp2_with fail
        refine (beg_any L ⟨#[47, 46, 47]⟩ _ HEE.out _ (by omega) (by decide)).mono ?_
        rintro e w1 ⟨rfl, hw1⟩
        subst hw1
        go_wp2_with fail
        refine (beg_any L ⟨#[47, 46, 46, 47]⟩ _ HH.out _ (by omega) (by decide)).mono ?_
        rintro e w1 ⟨rfl, hw1⟩
        subst hw1
        go_wp2_with fail
        refine (last_any ob 47 _ (by omega)).mono ?_
        rintro e w1 ⟨rfl, hw1⟩
        subst hw1
        rw [HM.out]
        go_wp2_with fail
        refine ⟨⟨_, _, rfl, rfl, ?_, HN⟩, ?_⟩
        · rw [ByteArray.size_append, show (⟨#[47]⟩ : ByteArray).size = 1 from rfl, ByteArray.size_extract, show ByteArray.empty.size = 0 from rfl]; omega
        · simp only [lenOf]; rw [ByteArray.size_append, show (⟨#[47]⟩ : ByteArray).size = 1 from rfl, ByteArray.size_extract]; omega
      · have hm1 : laI 47 ob.data.toList = kk := by omega
        have HM := hide hm1
        clear hm1 hneg hkk hge
        go_wp2_with fail
        refine (beg_any L ⟨#[46, 46, 47]⟩ _ HF.out _ (by omega) (by decide)).mono ?_
        rintro e w1 ⟨rfl, hw1⟩
        subst hw1
        go_wp2_with fail
        refine (beg_any L ⟨#[46, 47]⟩ _ HD.out _ (by omega) (by decide)).mono ?_
        rintro e w1 ⟨rfl, hw1⟩
        subst hw1
        go_wp2_with fail
        refine (beg_any L ⟨#[47, 46, 47]⟩ _ HEE.out _ (by omega) (by decide)).mono ?_
        rintro e w1 ⟨rfl, hw1⟩
        subst hw1
        go_wp2_with fail
        refine (beg_any L ⟨#[47, 46, 46, 47]⟩ _ HH.out _ (by omega) (by decide)).mono ?_
        rintro e w1 ⟨rfl, hw1⟩
        subst hw1
        go_wp2_with fail
        refine (last_any ob 47 _ (by omega)).mono ?_
        rintro e w1 ⟨rfl, hw1⟩
        subst hw1
        rw [HM.out]
        go_wp2_with fail
        refine ⟨⟨_, _, rfl, rfl, ?_, HN⟩, ?_⟩
        · rw [ByteArray.size_append, show (⟨#[47]⟩ : ByteArray).size = 1 from rfl, ByteArray.size_extract, ByteArray.size_extract]; omega
        · simp only [lenOf]; rw [ByteArray.size_append, show (⟨#[47]⟩ : ByteArray).size = 1 from rfl, ByteArray.size_extract]; omega
    have HH := hide hh
    clear hh
    cases h8 : (L.toList == [47, 46, 46])
    rotate_left
    · have HN : Hid (cln (ob.extract 0 kk).data.toList (⟨#[47]⟩ : ByteArray).data.toList = cleanL s.data.toList) := by
        unfold Hid
        rw [HBK.out, ← HC.out, cln_upper (eq_of_beq h8)]
      have hsl : L.size = 3 := by rw [← size_list, eq_of_beq h8]; rfl
      clear HC HBK
      by_cases hneg : laI 47 ob.data.toList < 0
      · have hm1 : laI 47 ob.data.toList = -1 := by omega
        have hk0 : kk = 0 := by rw [hkk, hm1]; rfl
        rw [hk0, ext_none] at HN
        have HM := hide hm1
        clear hm1 hneg hkk hk0 hge
        go_wp2_with fail
        refine (beg_any L ⟨#[46, 46, 47]⟩ _ HF.out _ (by omega) (by decide)).mono ?_
        rintro e w1 ⟨rfl, hw1⟩
        subst hw1
        go_wp2_with fail
        refine (beg_any L ⟨#[46, 47]⟩ _ HD.out _ (by omega) (by decide)).mono ?_
        rintro e w1 ⟨rfl, hw1⟩
        subst hw1
        go_wp2_with fail
        refine (beg_any L ⟨#[47, 46, 47]⟩ _ HEE.out _ (by omega) (by decide)).mono ?_
        rintro e w1 ⟨rfl, hw1⟩
        subst hw1
        go_wp2_with fail
        refine (beg_any L ⟨#[47, 46, 46, 47]⟩ _ HH.out _ (by omega) (by decide)).mono ?_
        rintro e w1 ⟨rfl, hw1⟩
        subst hw1
        go_wp2_with fail
        refine (last_any ob 47 _ (by omega)).mono ?_
        rintro e w1 ⟨rfl, hw1⟩
        subst hw1
        rw [HM.out]
        go_wp2_with fail
        refine ⟨⟨_, _, rfl, rfl, ?_, HN⟩, ?_⟩
        · rw [show (⟨#[47]⟩ : ByteArray).size = 1 from rfl, show ByteArray.empty.size = 0 from rfl]; omega
        · simp only [lenOf]; rw [show (⟨#[47]⟩ : ByteArray).size = 1 from rfl]; omega
      · have hm1 : laI 47 ob.data.toList = kk := by omega
        have HM := hide hm1
        clear hm1 hneg hkk hge
        go_wp2_with fail
        refine (beg_any L ⟨#[46, 46, 47]⟩ _ HF.out _ (by omega) (by decide)).mono ?_
        rintro e w1 ⟨rfl, hw1⟩
        subst hw1
        go_wp2_with fail
        refine (beg_any L ⟨#[46, 47]⟩ _ HD.out _ (by omega) (by decide)).mono ?_
        rintro e w1 ⟨rfl, hw1⟩
        subst hw1
        go_wp2_with fail
        refine (beg_any L ⟨#[47, 46, 47]⟩ _ HEE.out _ (by omega) (by decide)).mono ?_
        rintro e w1 ⟨rfl, hw1⟩
        subst hw1
        go_wp2_with fail
        refine (beg_any L ⟨#[47, 46, 46, 47]⟩ _ HH.out _ (by omega) (by decide)).mono ?_
        rintro e w1 ⟨rfl, hw1⟩
        subst hw1
        go_wp2_with fail
        refine (last_any ob 47 _ (by omega)).mono ?_
        rintro e w1 ⟨rfl, hw1⟩
        subst hw1
        rw [HM.out]
        go_wp2_with fail
        refine ⟨⟨_, _, rfl, rfl, ?_, HN⟩, ?_⟩
        · rw [show (⟨#[47]⟩ : ByteArray).size = 1 from rfl, ByteArray.size_extract]; omega
        · simp only [lenOf]; rw [show (⟨#[47]⟩ : ByteArray).size = 1 from rfl]; omega
    have H8 := hide (ne_of_beq h8)
    clear HBK hbl2 hge hkk kk
    have hL1 : 1 ≤ L.size := by
      rw [← size_list]
      have := List.length_pos_iff.2 H0.out
      omega
    have HN : Hid (cln (ob ++ L.extract 0 (segN L.data.toList)).data.toList (L.extract (segN L.data.toList) L.size).data.toList = cleanL s.data.toList) := by
      unfold Hid
      rw [ext_drop, app_list, ext_take, ← HC.out, cln_move H0.out H1.out H2.out HD.out HEE.out HF.out H6.out HH.out H8.out]
    have hsg : segN L.data.toList ≤ L.size := by rw [← size_list]; exact segN_le H0.out
    have HSG : Hid (segN L.data.toList = 1 + ((L.data.toList.drop 1).takeWhile notS).length) := rfl
    clear HC
    go_wp2_with fail
    refine (beg_any L ⟨#[46, 46, 47]⟩ _ HF.out _ (by omega) (by decide)).mono ?_
    rintro e w1 ⟨rfl, hw1⟩
    subst hw1
    go_wp2_with fail
    refine (beg_any L ⟨#[46, 47]⟩ _ HD.out _ (by omega) (by decide)).mono ?_
    rintro e w1 ⟨rfl, hw1⟩
    subst hw1
    go_wp2_with fail
    refine (beg_any L ⟨#[47, 46, 47]⟩ _ HEE.out _ (by omega) (by decide)).mono ?_
    rintro e w1 ⟨rfl, hw1⟩
    subst hw1
    go_wp2_with fail
    refine (beg_any L ⟨#[47, 46, 46, 47]⟩ _ HH.out _ (by omega) (by decide)).mono ?_
    rintro e w1 ⟨rfl, hw1⟩
    subst hw1
    go_wp2_with fail
    go_loop [5] (fun i => ∃ k : Nat, k ≤ L.size ∧ 1 ≤ k ∧ i = .int .i64 k ∧ Hid (∀ x ∈ (L.data.toList.drop 1).take (k - 1), notS x = true)) (fun i => L.size - (intOf i).toNat)
    case atStart => exact ⟨1, hL1, by omega, rfl, by simp [Hid]⟩
    case round =>
      obtain ⟨k, hk, hk1, rfl, hall⟩ := hrel
      have hdl : (L.data.toList.drop 1).length = L.size - 1 := by rw [List.length_drop, size_list]
      by_cases hlt : k < L.size
      · have hltz : (k : Int) < L.size := by omega
        have hget : ∀ (hh : k - 1 < (L.data.toList.drop 1).length), (L.data.toList.drop 1)[k - 1] = L[k] := by
          intro hh
          rw [List.getElem_drop, ← get_at L k hlt]
          congr 1
          omega
        by_cases hb : L[k] = 47
        · have hbd : (((L[k]).toNat : Int) == 47) = true := by rw [hb]; rfl
          have HK : Hid (segN L.data.toList = k) := by
            have := takeWhile_at (p := notS) (l := L.data.toList.drop 1) (k := k - 1) (by rw [hdl]; omega) hall.out (by rw [hget, hb]; rfl)
            unfold Hid
            rw [HSG.out, this]
            omega
          rw [HK.out] at HN hsg
          clear hb hget hdl
          go_wp2_with fail
          refine ⟨⟨_, _, rfl, rfl, ?_, HN⟩, ?_⟩
          · rw [ByteArray.size_append, ByteArray.size_extract, ByteArray.size_extract]; omega
          · simp only [lenOf]; rw [ByteArray.size_extract]; omega
        · have hbd : (((L[k]).toNat : Int) == 47) = false := by
            rw [beq_eq_false_iff_ne]
            intro e
            have h47 : (47 : UInt8).toNat = 47 := rfl
            exact hb (UInt8.toNat_inj.1 (by omega))
          have HNX : Hid (∀ x ∈ (L.data.toList.drop 1).take (k + 1 - 1), notS x = true) := by
            unfold Hid
            rw [show k + 1 - 1 = (k - 1) + 1 by omega, take_snoc _ (k - 1) (by rw [hdl]; omega), hget]
            intro x hx
            rcases List.mem_append.1 hx with hx | hx
            · exact hall.out x hx
            · obtain rfl : x = L[k] := by simpa using hx
              simpa [notS] using hb
          clear hb hget hdl
          go_wp2_with fail
          exact ⟨⟨k + 1, by omega, by omega, by go_num, HNX⟩, by simp [intOf]; omega⟩
      · have hd : decide ((k : Int) < L.size) = false := decide_eq_false (by omega)
        have hkk : k = L.size := by omega
        have HK : Hid (segN L.data.toList = k) := by
          have h1 := hall.out
          rw [List.take_of_length_le (by rw [hdl]; omega)] at h1
          have := takeWhile_all h1
          unfold Hid
          rw [HSG.out, this, hdl]
          omega
        rw [HK.out] at HN hsg
        clear hdl hkk
        go_wp2_with fail
        refine ⟨⟨_, _, rfl, rfl, ?_, HN⟩, ?_⟩
        · rw [ByteArray.size_append, ByteArray.size_extract, ByteArray.size_extract]; omega
        · simp only [lenOf]; rw [ByteArray.size_extract]; omega

end Go.Proofs.YtjegoceebdiaaaaDoor
