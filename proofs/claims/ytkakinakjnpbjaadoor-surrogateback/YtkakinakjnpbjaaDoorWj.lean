/- The walks of the document's own quoting and unquoting. -/
import Derived.Test.YtkakinakjnpbjaaDoorWi
namespace Go.Proofs.YtkakinakjnpbjaaDoor
set_option linter.unusedVariables false
set_option maxRecDepth 100000
set_option linter.unusedSimpArgs false
open Go.RowKit

theorem ext_one {s : ByteArray} {k : Nat} (h : k < s.size) : (s.extract k (k + 1)).data.toList = [s[k]] := by
  rw [ByteArray.data_extract, Array.toList_extract, List.extract_eq_take_drop, show k + 1 - k = 1 by omega, List.drop_eq_getElem_cons (by rw [size_list]; exact h), get_at s k h]
  simp

def escT (s : ByteArray) (k : Nat) : ByteArray := ⟨(34 :: escL (s.data.toList.take k)).toArray⟩
theorem escT_list (s : ByteArray) (k : Nat) : (escT s k).data.toList = 34 :: escL (s.data.toList.take k) := by simp [escT]
theorem escT_zero (s : ByteArray) : escT s 0 = ⟨#[34]⟩ := by simp [escT, escL]
theorem escT_size (s : ByteArray) (k : Nat) : (escT s k).size ≤ 2 * k + 1 := by
  rw [← size_list, escT_list, List.length_cons]
  have := escL_le (s.data.toList.take k)
  rw [List.length_take] at this
  omega
theorem escL_snoc (l : List UInt8) (c : UInt8) : escL (l ++ [c]) = escL l ++ esc1 c := by simp [escL]
theorem escT_yes {s : ByteArray} {k : Nat} (h : k < s.size) (hb : escB s[k] = true) : escT s k ++ ⟨#[92]⟩ ++ s.extract k (k + 1) = escT s (k + 1) := by
  apply bytes_ext
  rw [app_list, app_list, escT_list, escT_list, ext_one h, take_snoc _ k (by rw [size_list]; exact h), get_at s k h, escL_snoc, esc1_yes hb]
  simp
theorem escT_no {s : ByteArray} {k : Nat} (h : k < s.size) (hb : escB s[k] = false) : escT s k ++ s.extract k (k + 1) = escT s (k + 1) := by
  apply bytes_ext
  rw [app_list, escT_list, escT_list, ext_one h, take_snoc _ k (by rw [size_list]; exact h), get_at s k h, escL_snoc, esc1_no hb]
  simp
theorem escT_all {s : ByteArray} {k : Nat} (h : s.size ≤ k) : escT s k ++ ⟨#[34]⟩ = ⟨(quoteL s.data.toList).toArray⟩ := by
  apply bytes_ext
  rw [app_list, escT_list, List.take_of_length_le (by rw [size_list]; exact h)]
  simp [quoteL]

theorem ctl_at {s : ByteArray} {k : Nat} (h : k < s.size) (hb : ctrlB s[k] = true) : ctlB s = true := by
  unfold ctlB
  rw [List.any_eq_true]
  exact ⟨s[k], by rw [← get_at s k h]; exact List.getElem_mem _, hb⟩
theorem ctl_none {s : ByteArray} (h : ∀ c ∈ s.data.toList, ctrlB c = false) : ctlB s = false := by
  unfold ctlB
  rw [List.any_eq_false]
  intro c hc
  rw [h c hc]; simp

set_option maxHeartbeats 2000000 in
theorem refquote_any (s : ByteArray) (w : World) (hs : s.size ≤ 100000) :
    Calls Tryd.prog 27 #[.string s] w fun e w' => e = .returned (.tuple #[.string (qS s), .int .i64 (qE s : Nat)]) ∧ w' = w := by
  have HZ : Hid (s.data.toList.length = s.size) := by unfold Hid; simp
  go_enter Tryd.func27, Tryd.ntmps27
  go_wp2_with fail
  go_loop [4, 5] (fun o i => ∃ k : Nat, k ≤ s.size ∧ i = .int .i64 k ∧ o = .string (escT s k) ∧ Hid (∀ c ∈ s.data.toList.take k, ctrlB c = false)) (fun _ i => s.size - (intOf i).toNat)
  case atStart => exact ⟨0, Nat.zero_le _, rfl, by rw [escT_zero], by simp [Hid]⟩
  case round =>
    obtain ⟨k, hk, rfl, rfl, hall⟩ := hrel
    have hts := escT_size s k
    by_cases hlt : k < s.size
    · have hltz : (k : Int) < s.size := by omega
      have HT : Hid (s.data.toList.take (k + 1) = s.data.toList.take k ++ [s[k]'hlt]) := by
        unfold Hid; rw [take_snoc _ k (by rw [HZ.out]; exact hlt), get_at s k hlt]
      have hes : (s.extract k (k + 1)).size = 1 := by rw [ByteArray.size_extract]; omega
      cases hc : ctrlB (s[k]'hlt)
      · have HA : Hid (∀ c ∈ s.data.toList.take (k + 1), ctrlB c = false) := by
          unfold Hid
          rw [HT.out]
          intro c hcc
          rcases List.mem_append.1 hcc with hcc | hcc
          · exact hall.out c hcc
          · obtain rfl : c = s[k]'hlt := by simpa using hcc
            exact hc
        by_cases h1 : s[k]'hlt = 34
        · have hb : (((s[k]'hlt).toNat : Int) == 34) = true := by have := u8_beq (s[k]'hlt) 34; rw [decide_eq_true h1] at this; exact this
          have HS := hide (escT_yes hlt (by rw [h1]; rfl))
          clear h1
          go_wp2_with (go_at_call 42; refine (control_any _ _).mono ?_; rintro e w' ⟨rfl, rfl⟩; rw [hc])
          refine ⟨⟨k + 1, by omega, by go_num, by rw [← HS.out], HA⟩, by simp [intOf]; omega⟩
        · have hb : (((s[k]'hlt).toNat : Int) == 34) = false := by have := u8_beq (s[k]'hlt) 34; rw [decide_eq_false h1] at this; exact this
          by_cases h2 : s[k]'hlt = 92
          · have hb2 : (((s[k]'hlt).toNat : Int) == 92) = true := by have := u8_beq (s[k]'hlt) 92; rw [decide_eq_true h2] at this; exact this
            have HS := hide (escT_yes hlt (by rw [h2]; rfl))
            clear h1 h2
            go_wp2_with (go_at_call 42; refine (control_any _ _).mono ?_; rintro e w' ⟨rfl, rfl⟩; rw [hc])
            refine ⟨⟨k + 1, by omega, by go_num, by rw [← HS.out], HA⟩, by simp [intOf]; omega⟩
          · have hb2 : (((s[k]'hlt).toNat : Int) == 92) = false := by have := u8_beq (s[k]'hlt) 92; rw [decide_eq_false h2] at this; exact this
            have HS := hide (escT_no hlt (by rw [escB_iff, decide_eq_false h1, decide_eq_false h2]; rfl))
            clear h1 h2
            go_wp2_with (go_at_call 42; refine (control_any _ _).mono ?_; rintro e w' ⟨rfl, rfl⟩; rw [hc])
            refine ⟨⟨k + 1, by omega, by go_num, by rw [← HS.out], HA⟩, by simp [intOf]; omega⟩
      · have HC := hide (ctl_at hlt hc)
        have HQ : Hid (qS s = ⟨#[]⟩ ∧ qE s = 11) := by unfold Hid qS qE; rw [HC.out]; simp
        go_wp2_with (go_at_call 42; refine (control_any _ _).mono ?_; rintro e w' ⟨rfl, rfl⟩; rw [hc])
        go_ret2
        exact ⟨ret_pair HQ.out.1.symm (by rw [HQ.out.2]; rfl), rfl⟩
    · have hd : decide ((k : Int) < s.size) = false := decide_eq_false (by omega)
      rw [List.take_of_length_le (by rw [HZ.out]; omega)] at hall
      have HC := hide (ctl_none hall.out)
      have HQ : Hid (qS s = ⟨(quoteL s.data.toList).toArray⟩ ∧ qE s = 0) := by unfold Hid qS qE; rw [HC.out]; simp
      have HP := hide (escT_all (s := s) (k := k) (by omega))
      go_wp2_with fail
      go_ret2
      exact ⟨ret_pair (by rw [HQ.out.1, HP.out]) (by rw [HQ.out.2]; rfl), rfl⟩

theorem en_eq {s : ByteArray} (h : 0 < s.size) : (enI s 0 != (s.size : Int)) = !decide (clS s 1 + 1 = s.size) := by
  unfold enI
  simp only [Nat.zero_add]
  by_cases h1 : clS s 1 < s.size
  · rw [if_pos h1]
    by_cases h2 : clS s 1 + 1 = s.size
    · rw [decide_eq_true h2, show (clS s 1 : Int) + 1 = s.size by omega]; simp
    · rw [decide_eq_false h2]
      have : ¬ ((clS s 1 : Int) + 1 = s.size) := by omega
      simp [this]
  · rw [if_neg h1, decide_eq_false (by have := clS_le s 1; omega)]
    have : ¬ ((-1 : Int) = s.size) := by omega
    simp [this]

theorem mid_len {s : ByteArray} (h2 : 2 ≤ s.size) : (midL s.data.toList).length = s.size - 2 := by
  unfold midL
  rw [List.length_take, List.length_drop, size_list]; omega

/-- The byte behind the first k + 1. -/
theorem mid_at {s : ByteArray} (h2 : 2 ≤ s.size) {k : Nat} (hk : k < (midL s.data.toList).length) (hs : k + 1 < s.size) : (midL s.data.toList)[k] = s[k + 1]'hs := by
  have hk2 : k < s.size - 2 := by rw [← mid_len h2]; exact hk
  apply Option.some.inj
  rw [← List.getElem?_eq_getElem hk]
  unfold midL
  rw [List.getElem?_take, if_pos (by rw [size_list]; exact hk2), List.getElem?_drop, ← get_at s (k + 1) hs, Nat.add_comm 1 k, List.getElem?_eq_getElem]

theorem byte_snoc {F : List UInt8} {x : ByteArray} {c : UInt8} (h : x.data.toList = [c]) : (⟨F.toArray⟩ : ByteArray) ++ x = ⟨(F ++ [c]).toArray⟩ := by
  apply bytes_ext
  rw [app_list, h]

theorem quo_any {s : ByteArray} (h : 0 < s.size) (g : s[0] = 34) (hc : clS s 1 + 1 = s.size) (he : s.data.toList = 34 :: (midL s.data.toList ++ [34])) : quoB s = !(midL s.data.toList).any ctrlB := by
  rw [quo_of h g, decide_eq_true hc, Bool.true_and]
  unfold ctlB
  rw [ctrl_mid he]

set_option maxHeartbeats 2000000 in
theorem refunquote_any (s : ByteArray) (w : World) (hs : s.size ≤ 1000000) :
    Calls Tryd.prog 38 #[.string s] w fun e w' => e = .returned (.tuple #[.string (uS s), .int .i64 (uE s : Nat)]) ∧ w' = w := by
  by_cases h0 : s.data.toList = []
  · have he := empty_of h0
    have hq := quo_empty h0
    have HU : Hid (uS s = ⟨#[]⟩ ∧ uE s = 11) := by unfold Hid uS uE; rw [hq]; simp
    clear h0 hq
    go_enter Tryd.func38, Tryd.ntmps38
    go_wp2_with fail
    go_ret2
    exact ⟨ret_pair HU.out.1.symm (by rw [HU.out.2]; rfl), rfl⟩
  · have he := empty_not h0
    have h1 : 0 < s.size := by rw [← size_list]; exact List.length_pos_iff.2 h0
    have h1z : (0 : Int) < s.size := by omega
    clear h0
    by_cases hq : s[0] = 34
    · have hb : (((s[0]).toNat : Int) != 34) = false := by have := u8_bne s[0] 34; rw [decide_eq_true hq] at this; exact this
      have hen := en_eq h1
      by_cases hd : clS s 1 + 1 = s.size
      · rw [decide_eq_true hd] at hen
        have hhd : s.data.toList.head? = some 34 := by rw [List.head?_eq_getElem?, List.getElem?_eq_getElem (by rw [size_list]; exact h1), get_at s 0 h1, hq]
        obtain ⟨h2, hql, hwh⟩ := quo_parts hhd hd
        have HQ := hide (quo_any h1 hq hd hwh)
        have HML := hide (mid_len h2)
        have HAT : Hid (∀ (k : Nat) (hk : k < (midL s.data.toList).length) (hs : k + 1 < s.size), (midL s.data.toList)[k] = s[k + 1]'hs) := fun k hk hs => mid_at h2 hk hs
        have HQL := hide hql
        clear hhd hwh hql hd hq
        obtain ⟨m, hm⟩ : ∃ m, midL s.data.toList = m := ⟨_, rfl⟩
        have HM := hide hm
        unfold Hid at HAT
        rw [hm] at HQ HML HAT HQL
        have HAT2 := hide HAT
        clear HAT hm
        go_enter Tryd.func38, Tryd.ntmps38
        go_wp2_with fail
        refine (end_any s 0 w hs h1).mono ?_
        rintro e w1 ⟨rfl, rfl⟩
        go_wp2_with fail
        go_loop [4, 5] (fun o i => ∃ (k : Nat) (F : List UInt8), k + 2 ≤ s.size ∧ i = .int .i64 (k + 1 : Nat) ∧ F.length ≤ k ∧ o = .string ⟨F.toArray⟩ ∧ Hid (unescL m = F ++ unescL (m.drop k)) ∧ Hid (qlen (m.drop k ++ [34]) = some (m.length - k)) ∧ Hid (m.any ctrlB = (m.drop k).any ctrlB)) (fun _ i => s.size - (intOf i).toNat)
        case atStart => exact ⟨0, [], by omega, rfl, Nat.le_refl _, rfl, by simp [Hid], by unfold Hid; simpa using HQL.out, by simp [Hid]⟩
        case round =>
          obtain ⟨k, F, hk, rfl, hF, rfl, hun, hqk, hct⟩ := hrel
          have hFs : (⟨F.toArray⟩ : ByteArray).size = F.length := by rw [← size_list]
          by_cases hlt : k + 2 < s.size
          · have HKL : Hid (k < m.length) := by unfold Hid; rw [HML.out]; omega
            have hk1 : k + 1 < s.size := by omega
            have hltz : ((k + 1 : Nat) : Int) < (s.size : Int) - 1 := by omega
            by_cases h92 : s[k + 1]'hk1 = 92
            · obtain ⟨hl1, hu1, hq1, hc1⟩ := st_back HKL.out (by rw [HAT2.out k HKL.out hk1]; exact h92) hqk.out
              have hk2 : k + 1 + 1 < s.size := by rw [HML.out] at hl1; omega
              rw [HAT2.out (k + 1) hl1 hk2] at hu1 hc1
              have HU1 := hide hu1
              have HQ1 := hide hq1
              have HC1 := hide hc1
              have hb92 : (((s[k + 1]'hk1).toNat : Int) == 92) = true := by have := u8_beq (s[k + 1]'hk1) 92; rw [decide_eq_true h92] at this; exact this
              have hl1s : k + 1 < m.length := hl1
              rw [HML.out] at hl1s
              have hes : (s.extract (k + 1 + 1) (k + 1 + 1 + 1)).size = 1 := by rw [ByteArray.size_extract]; omega
              have HEX := hide (ext_one hk2)
              clear hu1 hq1 hc1 h92 hl1
              cases hc : ctrlB (s[k + 1 + 1]'hk2)
              · go_wp2_with (go_at_call 42; refine (control_any _ _).mono ?_; rintro e w' ⟨rfl, rfl⟩; rw [hc])
                refine ⟨⟨k + 2, F ++ [s[k + 1 + 1]'hk2], by omega, by go_num, by simp; omega, ?_, ?_, HQ1, ?_⟩, by simp [intOf]; omega⟩
                · rw [byte_snoc HEX.out]
                · unfold Hid; rw [hun.out, HU1.out]; simp
                · unfold Hid; rw [hct.out, HC1.out, hc, Bool.false_or]
              · have HB : Hid (quoB s = false) := by unfold Hid; rw [HQ.out, hct.out, HC1.out, hc]; rfl
                have HU : Hid (uS s = ⟨#[]⟩ ∧ uE s = 11) := by unfold Hid uS uE; rw [HB.out]; simp
                go_wp2_with (go_at_call 42; refine (control_any _ _).mono ?_; rintro e w' ⟨rfl, rfl⟩; rw [hc])
                go_ret2
                exact ⟨ret_pair HU.out.1.symm (by rw [HU.out.2]; rfl), rfl⟩
            · obtain ⟨hu1, hq1, hc1⟩ := st_else HKL.out (by rw [HAT2.out k HKL.out hk1]; exact h92) hqk.out
              rw [HAT2.out k HKL.out hk1] at hu1 hc1
              have HU1 := hide hu1
              have HQ1 := hide hq1
              have HC1 := hide hc1
              have hb92 : (((s[k + 1]'hk1).toNat : Int) == 92) = false := by have := u8_beq (s[k + 1]'hk1) 92; rw [decide_eq_false h92] at this; exact this
              have hes : (s.extract (k + 1) (k + 1 + 1)).size = 1 := by rw [ByteArray.size_extract]; omega
              have HEX := hide (ext_one hk1)
              clear hu1 hq1 hc1 h92
              cases hc : ctrlB (s[k + 1]'hk1)
              · go_wp2_with (go_at_call 42; refine (control_any _ _).mono ?_; rintro e w' ⟨rfl, rfl⟩; rw [hc])
                refine ⟨⟨k + 1, F ++ [s[k + 1]'hk1], by omega, by go_num, by simp; omega, ?_, ?_, HQ1, ?_⟩, by simp [intOf]; omega⟩
                · rw [byte_snoc HEX.out]
                · unfold Hid; rw [hun.out, HU1.out]; simp
                · unfold Hid; rw [hct.out, HC1.out, hc, Bool.false_or]
              · have HB : Hid (quoB s = false) := by unfold Hid; rw [HQ.out, hct.out, HC1.out, hc]; rfl
                have HU : Hid (uS s = ⟨#[]⟩ ∧ uE s = 11) := by unfold Hid uS uE; rw [HB.out]; simp
                go_wp2_with (go_at_call 42; refine (control_any _ _).mono ?_; rintro e w' ⟨rfl, rfl⟩; rw [hc])
                go_ret2
                exact ⟨ret_pair HU.out.1.symm (by rw [HU.out.2]; rfl), rfl⟩
          · have hd : decide (((k + 1 : Nat) : Int) < (s.size : Int) - 1) = false := decide_eq_false (by omega)
            have hnil : m.drop k = [] := List.drop_eq_nil_of_le (by rw [HML.out]; omega)
            have HB : Hid (quoB s = true) := by unfold Hid; rw [HQ.out, hct.out, hnil]; rfl
            have HF : Hid (unescL m = F) := by unfold Hid; rw [hun.out, hnil, unescL_nil, List.append_nil]
            have HU : Hid (uS s = ⟨F.toArray⟩ ∧ uE s = 0) := by unfold Hid uS uE; rw [HB.out, HM.out, HF.out]; simp
            clear hnil
            go_wp2_with fail
            go_ret2
            exact ⟨ret_pair HU.out.1.symm (by rw [HU.out.2]; rfl), rfl⟩
      · rw [decide_eq_false hd] at hen
        have HQ : Hid (quoB s = false) := by unfold Hid; rw [quo_of h1 hq, decide_eq_false hd]; rfl
        have HU : Hid (uS s = ⟨#[]⟩ ∧ uE s = 11) := by unfold Hid uS uE; rw [HQ.out]; simp
        clear hq hd
        go_enter Tryd.func38, Tryd.ntmps38
        go_wp2_with fail
        refine (end_any s 0 w hs h1).mono ?_
        rintro e w1 ⟨rfl, rfl⟩
        go_wp2_with fail
        go_ret2
        exact ⟨ret_pair HU.out.1.symm (by rw [HU.out.2]; rfl), rfl⟩
    · have hb : (((s[0]).toNat : Int) != 34) = true := by have := u8_bne s[0] 34; rw [decide_eq_false hq] at this; exact this
      have HQ := hide (quo_head h1 hq)
      have HU : Hid (uS s = ⟨#[]⟩ ∧ uE s = 11) := by unfold Hid uS uE; rw [HQ.out]; simp
      clear hq
      go_enter Tryd.func38, Tryd.ntmps38
      go_wp2_with fail
      go_ret2
      exact ⟨ret_pair HU.out.1.symm (by rw [HU.out.2]; rfl), rfl⟩

end Go.Proofs.YtkakinakjnpbjaaDoor
