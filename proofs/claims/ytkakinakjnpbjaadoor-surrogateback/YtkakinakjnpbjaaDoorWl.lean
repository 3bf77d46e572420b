/- The walks of the document's own parting, of comparing rows, and of the known text. -/
import Derived.Test.YtkakinakjnpbjaaDoorWk
namespace Go.Proofs.YtkakinakjnpbjaaDoor
set_option linter.unusedVariables false
set_option maxRecDepth 100000
set_option linter.unusedSimpArgs false
open Go.RowKit

theorem acc_snoc {acc : List UInt8} {x : ByteArray} {l : List UInt8} (h : x.data.toList = l) : (⟨acc.toArray⟩ : ByteArray) ++ x = ⟨(acc ++ l).toArray⟩ := by
  apply bytes_ext
  rw [app_list, h]
theorem trim_acc (acc : List UInt8) : trimS ⟨acc.toArray⟩ = ⟨(trimL acc).toArray⟩ := rfl

set_option maxHeartbeats 4000000 in
theorem refsplit_any (s : ByteArray) (b : UInt8) (w : World) (hs : s.size ≤ 1000000) :
    Calls Tryd.prog 21 #[.string s, .int .u8 (b.toNat : Int)] w fun e w' => ∃ v, e = .returned (.tuple #[v, .int .i64 (spE b s : Nat)]) ∧ w'.ownsRow w.heap.size 9 1 v (spP b s).length (strs (spP b s)) ∧ Below w.heap.size w w' := by
  by_cases hb34 : b = 34
  · have hn : splitL b s.data.toList = none := by rw [splitL, if_pos (Or.inl hb34)]
    have HE := hide (sp_err hn)
    have hbb : ((b.toNat : Int) == 34) = true := by have := u8_beq b 34; rw [decide_eq_true hb34] at this; exact this
    clear hn hb34
    go_enter Tryd.func21, Tryd.ntmps21
    go_wp2_with fail
    go_ret2
    exact ⟨_, ret_row rfl (by rw [HE.out.2]; rfl), by rw [HE.out.1]; exact World.ownsRow_nil _ _ _ _, Below.refl _ _⟩
  by_cases hb92 : b = 92
  · have hn : splitL b s.data.toList = none := by rw [splitL, if_pos (Or.inr hb92)]
    have HE := hide (sp_err hn)
    have hbc : ((b.toNat : Int) == 34) = false := by have := u8_beq b 34; rw [decide_eq_false hb34] at this; exact this
    have hbb : ((b.toNat : Int) == 92) = true := by have := u8_beq b 92; rw [decide_eq_true hb92] at this; exact this
    clear hn hb34 hb92
    go_enter Tryd.func21, Tryd.ntmps21
    go_wp2_with fail
    go_ret2
    exact ⟨_, ret_row rfl (by rw [HE.out.2]; rfl), by rw [HE.out.1]; exact World.ownsRow_nil _ _ _ _, Below.refl _ _⟩
  have HSO : Hid (splitL b s.data.toList = sp b 0 [] s.data.toList) := split_of hb34 hb92
  have HB34 := hide hb34
  have hbc : ((b.toNat : Int) == 34) = false := by have := u8_beq b 34; rw [decide_eq_false hb34] at this; exact this
  have hbb : ((b.toNat : Int) == 92) = false := by have := u8_beq b 92; rw [decide_eq_false hb92] at this; exact this
  have HZ : Hid (s.data.toList.length = s.size) := by unfold Hid; simp
  clear hb34 hb92
  obtain ⟨i0, hi0, hz0, hz1, hz2⟩ := info_parts Tryd.info9
  go_enter Tryd.func21, Tryd.ntmps21
  go_wp2_with fail
  go_loopw [6, 7, 8] (fun v x i wr => ∃ (P : List (List UInt8)) (acc : List UInt8) (k : Nat), acc.length ≤ k ∧ k ≤ s.size ∧ P.length ≤ k ∧ x = .string ⟨acc.toArray⟩ ∧ i = .int .i64 k ∧ wr.ownsRow w.heap.size 9 1 v P.length (strs P) ∧ Below w.heap.size w wr ∧ Hid (Parts b s.data.toList P acc k)) (fun _ _ i _ => s.size - (intOf i).toNat)
  case atStart => exact ⟨[], [], 0, Nat.le_refl _, Nat.zero_le _, Nat.le_refl _, rfl, rfl, World.ownsRow_lit w #[] 0 (Nat.le_refl _) (by decide) rfl, one_alloc _ _ _, Parts.start b s.data.toList⟩
  case round =>
    obtain ⟨P, acc, k, hac, hk, hP, rfl, rfl, hown, hbr, hpa⟩ := hrel
    have hsz := hbr.size
    have hacs : (⟨acc.toArray⟩ : ByteArray).size = acc.length := by rw [← size_list]
    by_cases hlt : k < s.size
    · have hltz : (k : Int) < s.size := by omega
      have HKL : Hid (k < s.data.toList.length) := by unfold Hid; rw [HZ.out]; exact hlt
      have HAT := hide (get_at s k hlt)
      by_cases hb : s[k]'hlt = b
      · have hbt : (((s[k]'hlt).toNat : Int) == (b.toNat : Int)) = true := by rw [u8_beq, decide_eq_true hb]
        have hqf : (((s[k]'hlt).toNat : Int) == 34) = false := by have := u8_beq (s[k]'hlt) 34; rw [decide_eq_false (by rw [hb]; exact HB34.out)] at this; exact this
        have HPA : Hid (Parts b s.data.toList (P ++ [trimL acc]) [] (k + 1)) := hpa.out.cut HKL.out (by rw [HAT.out]; exact hb)
        clear hb
        go_wp2_with fail
        refine (reftrim_any _ _ (by rw [hacs]; omega)).mono ?_
        rintro e w1 ⟨rfl, rfl⟩
        rw [trim_acc]
        obtain ⟨T, hT⟩ : ∃ T, trimL acc = T := ⟨_, rfl⟩
        rw [hT] at HPA ⊢
        clear hT
        have hla := hbr.alloc hsz (.cells #[.string ⟨T.toArray⟩] 9)
        have hoa := hown.alloc (.cells #[.string ⟨T.toArray⟩] 9)
        have h63 : P.length + 1 ≤ maxLen := maxLen_of (by omega)
        have hby : (P.length + 1) * 16 ≤ 140737488355328 := by omega
        have hba : w.heap.size ≤ (w1.alloc (.cells #[.string ⟨T.toArray⟩] 9)).heap.size := by simp; omega
        have hce : ∀ j u, [Value.string ⟨T.toArray⟩][j]? = some u → (w1.alloc (.cells #[.string ⟨T.toArray⟩] 9)).cell? ((⟨w1.heap.size, 0, none⟩ : Addr).add j) = some u := by
          intro j u hj
          rw [add_none, Nat.zero_add, World.cell?_alloc_new]
          simpa using hj
        have HX := hide (And.intro h63 (And.intro hby (And.intro hba (And.intro hce (And.intro hla hoa)))))
        clear h63 hby hba hce hla hoa hown hbr
        go_wp2_with (at_builtin; refine wpList_append_own _ rfl (.tmp 37) (.tmp 40) 39 rfl w.heap.size 9 i0 (.string ⟨#[]⟩) 1 16 Tryd.underlying39 hi0 hz0 hz1 hz2 rfl (by decide) _ _ _ rfl HX.out.2.2.2.2.2 ⟨w1.heap.size, 0, none⟩ 1 1 [.string ⟨T.toArray⟩] rfl rfl HX.out.2.2.2.1 (by intro u hu; simp at hu; subst hu; rfl) HX.out.1 HX.out.2.1 HX.out.2.2.1 ?_; intro v' w2 ho2 hg2 _)
        have hl2 := HX.out.2.2.2.2.1.grown hg2 HX.out.2.2.1 (fun j hj => (HX.out.2.2.2.2.2.lt j hj).1)
        refine ⟨⟨P ++ [T], [], k + 1, by simp, by omega, by simp; omega, rfl, by go_num, ?_, hl2, HPA⟩, by simp [intOf]; omega⟩
        rw [List.length_append, strs_append]; exact ho2
      · have hbf : (((s[k]'hlt).toNat : Int) == (b.toNat : Int)) = false := by rw [u8_beq, decide_eq_false hb]
        by_cases hq : s[k]'hlt = 34
        · have hqt : (((s[k]'hlt).toNat : Int) == 34) = true := by have := u8_beq (s[k]'hlt) 34; rw [decide_eq_true hq] at this; exact this
          have hcl := clS_le s (k + 1)
          have hge : k + 1 ≤ clS s (k + 1) := cl_ge (by rw [HZ.out]; omega)
          have hEN : enI s k = if clS s (k + 1) < s.size then (clS s (k + 1) : Int) + 1 else -1 := rfl
          obtain ⟨m, hm⟩ : ∃ m, clS s (k + 1) = m := ⟨_, rfl⟩
          have HM := hide hm
          rw [hm] at hcl hge hEN
          clear hm
          by_cases hme : m < s.size
          · rw [if_pos hme] at hEN
            have HEN := hide hEN
            clear hEN
            have HPA : Hid (Parts b s.data.toList P (acc ++ (s.data.toList.take (m + 1)).drop k) (m + 1)) := by
              have h := hpa.out.quotes HKL.out (by rw [HAT.out]; exact hb) (by rw [HAT.out]; exact hq) (by show clS s (k + 1) < _; rw [HM.out, HZ.out]; exact hme)
              rw [show cl s.data.toList (k + 1) = m from HM.out] at h
              exact h
            have HAC := hide (acc_snoc (acc := acc) (cut_list s k (m + 1)))
            have hes : (s.extract k (m + 1)).size = m + 1 - k := by rw [ByteArray.size_extract]; omega
            clear hq hb
            go_wp2_with fail
            refine (end_any s k _ hs hlt).mono ?_
            rintro e w1 ⟨rfl, rfl⟩
            rw [HEN.out]
            go_wp2_with fail
            refine ⟨⟨P, acc ++ (s.data.toList.take (m + 1)).drop k, m + 1, ?_, by omega, by omega, ?_, by go_num, hown, hbr, HPA⟩, by simp [intOf]; omega⟩
            · rw [List.length_append, List.length_drop, List.length_take]; omega
            · rw [← HAC.out]
          · rw [if_neg hme] at hEN
            have HEN := hide hEN
            clear hEN
            have hn : splitL b s.data.toList = none := by
              rw [HSO.out]
              exact hpa.out.bad HKL.out (by rw [HAT.out]; exact hb) (by rw [HAT.out]; exact hq) (by show ¬ clS s (k + 1) < _; rw [HM.out, HZ.out]; exact hme)
            have HE := hide (sp_err hn)
            clear hn hq hb
            go_wp2_with fail
            refine (end_any s k _ hs hlt).mono ?_
            rintro e w1 ⟨rfl, rfl⟩
            rw [HEN.out]
            go_wp2_with fail
            go_ret2
            exact ⟨_, ret_row rfl (by rw [HE.out.2]; rfl), by rw [HE.out.1]; exact World.ownsRow_nil _ _ _ _, hbr⟩
        · have hqf : (((s[k]'hlt).toNat : Int) == 34) = false := by have := u8_beq (s[k]'hlt) 34; rw [decide_eq_false hq] at this; exact this
          have HPA : Hid (Parts b s.data.toList P (acc ++ [s[k]'hlt]) (k + 1)) := by
            have h := hpa.out.more HKL.out (by rw [HAT.out]; exact hb) (by rw [HAT.out]; exact hq)
            rw [HAT.out] at h
            exact h
          have HAC := hide (acc_snoc (acc := acc) (ext_one hlt))
          have hes : (s.extract k (k + 1)).size = 1 := by rw [ByteArray.size_extract]; omega
          clear hq hb
          go_wp2_with fail
          refine ⟨⟨P, acc ++ [s[k]'hlt], k + 1, by simp; omega, by omega, by omega, ?_, by go_num, hown, hbr, HPA⟩, by simp [intOf]; omega⟩
          rw [← HAC.out]
    · have hd : decide ((k : Int) < s.size) = false := decide_eq_false (by omega)
      have HPA := hide (hpa.out.done (by rw [HZ.out]; omega))
      go_wp2_with fail
      refine (reftrim_any _ _ (by rw [hacs]; omega)).mono ?_
      rintro e w1 ⟨rfl, rfl⟩
      rw [trim_acc]
      obtain ⟨T, hT⟩ : ∃ T, trimL acc = T := ⟨_, rfl⟩
      rw [hT] at HPA ⊢
      clear hT
      have HE := hide (sp_okay (HSO.out.trans HPA.out))
      have hla := hbr.alloc hsz (.cells #[.string ⟨T.toArray⟩] 9)
      have hoa := hown.alloc (.cells #[.string ⟨T.toArray⟩] 9)
      have h63 : P.length + 1 ≤ maxLen := maxLen_of (by omega)
      have hby : (P.length + 1) * 16 ≤ 140737488355328 := by omega
      have hba : w.heap.size ≤ (w1.alloc (.cells #[.string ⟨T.toArray⟩] 9)).heap.size := by simp; omega
      have hce : ∀ j u, [Value.string ⟨T.toArray⟩][j]? = some u → (w1.alloc (.cells #[.string ⟨T.toArray⟩] 9)).cell? ((⟨w1.heap.size, 0, none⟩ : Addr).add j) = some u := by
        intro j u hj
        rw [add_none, Nat.zero_add, World.cell?_alloc_new]
        simpa using hj
      have HX := hide (And.intro h63 (And.intro hby (And.intro hba (And.intro hce (And.intro hla hoa)))))
      clear h63 hby hba hce hla hoa hown hbr
      go_wp2_with (at_builtin; refine wpList_append_own _ rfl (.tmp 49) (.tmp 52) 39 rfl w.heap.size 9 i0 (.string ⟨#[]⟩) 1 16 Tryd.underlying39 hi0 hz0 hz1 hz2 rfl (by decide) _ _ _ rfl HX.out.2.2.2.2.2 ⟨w1.heap.size, 0, none⟩ 1 1 [.string ⟨T.toArray⟩] rfl rfl HX.out.2.2.2.1 (by intro u hu; simp at hu; subst hu; rfl) HX.out.1 HX.out.2.1 HX.out.2.2.1 ?_; intro v' w2 ho2 hg2 _)
      have hl2 := HX.out.2.2.2.2.1.grown hg2 HX.out.2.2.1 (fun j hj => (HX.out.2.2.2.2.2.lt j hj).1)
      go_ret2
      refine ⟨v', ret_row rfl (by rw [HE.out.2]; rfl), ?_, hl2⟩
      rw [HE.out.1, List.length_append, strs_append]; exact ho2

/-- A row's cell. -/
theorem row_shape {w : World} {base : Nat} {v : Value} {P : List (List UInt8)} (h : w.ownsRow base 9 1 v P.length (strs P)) : ∃ (a : Option Addr) (cap : Nat), v = .slice a P.length cap ∧ P.length ≤ cap ∧ ∀ k, k < P.length → ∃ g, a = some ⟨g, 0, none⟩ ∧ w.cell? ⟨g, k, none⟩ = some (.string ⟨(P.getD k []).toArray⟩) := by
  rcases h.2 with ⟨rfl, h0⟩ | ⟨g, cap, cur, rfl, h2, h3, h4, h5, h6, h7⟩
  · refine ⟨none, 0, by rw [h0], by omega, fun k hk => by omega⟩
  · refine ⟨some ⟨g, 0, none⟩, cap, rfl, h4, fun k hk => ⟨g, rfl, ?_⟩⟩
    rw [cell_of_row w g k cur 9 (0, 0) h3]
    have : (strs P)[k]? = some (.string ⟨(P.getD k []).toArray⟩) := by simp [strs, hk]
    rw [← h7, List.getElem?_take, if_pos (by omega)] at this
    simpa using this

theorem alive_parts : spP 44 ⟨#[97, 44, 32, 98]⟩ = [[97], [98]] ∧ spE 44 ⟨#[97, 44, 32, 98]⟩ = 0 := by decide

end Go.Proofs.YtkakinakjnpbjaaDoor
