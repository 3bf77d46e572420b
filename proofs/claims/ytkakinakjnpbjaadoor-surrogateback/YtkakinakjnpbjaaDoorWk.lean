/- The walk of what parts a text. -/
import Derived.Test.YtkakinakjnpbjaaDoorWj
namespace Go.Proofs.YtkakinakjnpbjaaDoor
set_option linter.unusedVariables false
set_option maxRecDepth 100000
set_option linter.unusedSimpArgs false
open Go.RowKit

/-- Texts as cells. -/
def strs (P : List (List UInt8)) : List Value := P.map fun p => .string ⟨p.toArray⟩
theorem strs_length (P : List (List UInt8)) : (strs P).length = P.length := by simp [strs]
theorem strs_append (P Q : List (List UInt8)) : strs (P ++ Q) = strs P ++ strs Q := by simp [strs]

def spE (b : UInt8) (s : ByteArray) : Nat := if (splitL b s.data.toList).isSome then 0 else 11
def spP (b : UInt8) (s : ByteArray) : List (List UInt8) := (splitL b s.data.toList).getD []
theorem sp_err {b : UInt8} {s : ByteArray} (h : splitL b s.data.toList = none) : spP b s = [] ∧ spE b s = 11 := by unfold spP spE; rw [h]; exact ⟨rfl, rfl⟩
theorem sp_okay {b : UInt8} {s : ByteArray} {P : List (List UInt8)} (h : splitL b s.data.toList = some P) : spP b s = P ∧ spE b s = 0 := by unfold spP spE; rw [h]; exact ⟨rfl, rfl⟩
theorem split_of {b : UInt8} {l : List UInt8} (h1 : b ≠ 34) (h2 : b ≠ 92) : splitL b l = sp b 0 [] l := by rw [splitL, if_neg (by simp [h1, h2])]

theorem cut_list (s : ByteArray) (f k : Nat) : (s.extract f k).data.toList = (s.data.toList.take k).drop f := by
  rw [ByteArray.data_extract, Array.toList_extract, List.extract_eq_take_drop, List.drop_take]
theorem trim_of (s : ByteArray) (f k : Nat) : trimS (s.extract f k) = ⟨(trimL ((s.data.toList.take k).drop f)).toArray⟩ := by rw [trimS, cut_list]

/-- What is gone over, and what is left. -/
def Parts (b : UInt8) (l : List UInt8) (P : List (List UInt8)) (acc : List UInt8) (k : Nat) : Prop := sp b 0 [] l = (sp b 0 acc (l.drop k)).map (P ++ ·)

theorem Parts.start (b : UInt8) (l : List UInt8) : Parts b l [] [] 0 := by unfold Parts; simp
theorem Parts.cut {b : UInt8} {l : List UInt8} {P : List (List UInt8)} {acc : List UInt8} {k : Nat} (h : Parts b l P acc k) (hk : k < l.length) (hb : l[k] = b) : Parts b l (P ++ [trimL acc]) [] (k + 1) := by
  unfold Parts at *
  rw [h, List.drop_eq_getElem_cons hk, hb, sp_by]
  cases sp b 0 [] (l.drop (k + 1)) <;> simp
theorem Parts.more {b : UInt8} {l : List UInt8} {P : List (List UInt8)} {acc : List UInt8} {k : Nat} (h : Parts b l P acc k) (hk : k < l.length) (h1 : l[k] ≠ b) (h2 : l[k] ≠ 34) : Parts b l P (acc ++ [l[k]]) (k + 1) := by
  unfold Parts at *
  rw [h, List.drop_eq_getElem_cons hk, sp_else _ _ h1 h2]
theorem Parts.quotes {b : UInt8} {l : List UInt8} {P : List (List UInt8)} {acc : List UInt8} {k : Nat} (h : Parts b l P acc k) (hk : k < l.length) (h1 : l[k] ≠ b) (h2 : l[k] = 34) (hc : cl l (k + 1) < l.length) :
    Parts b l P (acc ++ (l.take (cl l (k + 1) + 1)).drop k) (cl l (k + 1) + 1) := by
  unfold Parts at *
  rw [h, sp_quotes hk h2 (fun e => h1 (h2.trans e)), if_pos hc]
theorem Parts.bad {b : UInt8} {l : List UInt8} {P : List (List UInt8)} {acc : List UInt8} {k : Nat} (h : Parts b l P acc k) (hk : k < l.length) (h1 : l[k] ≠ b) (h2 : l[k] = 34) (hc : ¬ cl l (k + 1) < l.length) : sp b 0 [] l = none := by
  unfold Parts at *
  rw [h, sp_quotes hk h2 (fun e => h1 (h2.trans e)), if_neg hc]; rfl
theorem Parts.done {b : UInt8} {l : List UInt8} {P : List (List UInt8)} {acc : List UInt8} {k : Nat} (h : Parts b l P acc k) (hk : l.length ≤ k) : sp b 0 [] l = some (P ++ [trimL acc]) := by
  unfold Parts at *
  rw [h, List.drop_eq_nil_of_le hk, sp_nil]; rfl

theorem cut_next {l : List UInt8} {f k m : Nat} (hf : f ≤ k) (hk : k ≤ m) (hm : m ≤ l.length) : (l.take k).drop f ++ (l.take m).drop k = (l.take m).drop f := by
  have h1 : (l.take m).drop f = ((l.take m).take k).drop f ++ (l.take m).drop k := by
    conv => lhs; rw [← List.take_append_drop k (l.take m)]
    rw [List.drop_append_of_le_length (by rw [List.length_take, List.length_take]; omega)]
  rw [h1, List.take_take, Nat.min_eq_left hk]
theorem cut_one {l : List UInt8} {k : Nat} (hk : k < l.length) : (l.take (k + 1)).drop k = [l[k]] := by
  rw [List.drop_take, show k + 1 - k = 1 by omega, List.drop_eq_getElem_cons hk]; rfl
theorem cut_none (l : List UInt8) (k : Nat) : (l.take k).drop k = [] := by
  rw [List.drop_eq_nil_of_le (by rw [List.length_take]; omega)]

theorem ret_row {v v' : Value} {b d : Int} (h : v = v') (g : b = d) : Ending.returned (.tuple #[v, .int .i64 b]) = .returned (.tuple #[v', .int .i64 d]) := by rw [h, g]

set_option maxHeartbeats 4000000 in
theorem split_any (s : ByteArray) (b : UInt8) (w : World) (hs : s.size ≤ 1000000) :
    Calls Tryd.prog 19 #[.string s, .int .u8 (b.toNat : Int)] w fun e w' => ∃ v, e = .returned (.tuple #[v, .int .i64 (spE b s : Nat)]) ∧ w'.ownsRow w.heap.size 9 1 v (spP b s).length (strs (spP b s)) ∧ Below w.heap.size w w' := by
  by_cases hb34 : b = 34
  · have hn : splitL b s.data.toList = none := by rw [splitL, if_pos (Or.inl hb34)]
    have HE := hide (sp_err hn)
    have hbb : ((b.toNat : Int) == 34) = true := by have := u8_beq b 34; rw [decide_eq_true hb34] at this; exact this
    clear hn hb34
    go_enter Tryd.func19, Tryd.ntmps19
    go_wp2_with fail
    go_ret2
    exact ⟨_, ret_row rfl (by rw [HE.out.2]; rfl), by rw [HE.out.1]; exact World.ownsRow_nil _ _ _ _, Below.refl _ _⟩
  by_cases hb92 : b = 92
  · have hn : splitL b s.data.toList = none := by rw [splitL, if_pos (Or.inr hb92)]
    have HE := hide (sp_err hn)
    have hbc : ((b.toNat : Int) == 34) = false := by have := u8_beq b 34; rw [decide_eq_false hb34] at this; exact this
    have hbb : ((b.toNat : Int) == 92) = true := by have := u8_beq b 92; rw [decide_eq_true hb92] at this; exact this
    clear hn hb34 hb92
    go_enter Tryd.func19, Tryd.ntmps19
    go_wp2_with fail
    go_ret2
    exact ⟨_, ret_row rfl (by rw [HE.out.2]; rfl), by rw [HE.out.1]; exact World.ownsRow_nil _ _ _ _, Below.refl _ _⟩
  have HSO : Hid (splitL b s.data.toList = sp b 0 [] s.data.toList) := split_of hb34 hb92
  have hbc : ((b.toNat : Int) == 34) = false := by have := u8_beq b 34; rw [decide_eq_false hb34] at this; exact this
  have hbb : ((b.toNat : Int) == 92) = false := by have := u8_beq b 92; rw [decide_eq_false hb92] at this; exact this
  have HZ : Hid (s.data.toList.length = s.size) := by unfold Hid; simp
  clear hb34 hb92
  obtain ⟨i0, hi0, hz0, hz1, hz2⟩ := info_parts Tryd.info9
  go_enter Tryd.func19, Tryd.ntmps19
  go_wp2_with fail
  go_loopw [6, 7, 8] (fun v x i wr => ∃ (P : List (List UInt8)) (f k : Nat), f ≤ k ∧ k ≤ s.size ∧ P.length ≤ k ∧ x = .int .i64 f ∧ i = .int .i64 k ∧ wr.ownsRow w.heap.size 9 1 v P.length (strs P) ∧ Below w.heap.size w wr ∧ Hid (Parts b s.data.toList P ((s.data.toList.take k).drop f) k)) (fun _ _ i _ => s.size - (intOf i).toNat)
  case atStart => exact ⟨[], 0, 0, Nat.le_refl _, Nat.zero_le _, Nat.le_refl _, rfl, rfl, World.ownsRow_nil _ _ _ _, Below.refl _ _, by unfold Hid; simpa using Parts.start b s.data.toList⟩
  case round =>
    obtain ⟨P, f, k, hf, hk, hP, rfl, rfl, hown, hbr, hpa⟩ := hrel
    have hsz := hbr.size
    by_cases hlt : k < s.size
    · have hltz : (k : Int) < s.size := by omega
      have HKL : Hid (k < s.data.toList.length) := by unfold Hid; rw [HZ.out]; exact hlt
      have HAT := hide (get_at s k hlt)
      by_cases hb : s[k]'hlt = b
      · have hbt : (((s[k]'hlt).toNat : Int) == (b.toNat : Int)) = true := by rw [u8_beq, decide_eq_true hb]
        have HPA : Hid (Parts b s.data.toList (P ++ [trimL ((s.data.toList.take k).drop f)]) ((s.data.toList.take (k + 1)).drop (k + 1)) (k + 1)) := by
          unfold Hid; rw [cut_none]; exact hpa.out.cut HKL.out (by rw [HAT.out]; exact hb)
        have HTR := hide (trim_of s f k)
        have hes : (s.extract f k).size ≤ 1000000 := by rw [ByteArray.size_extract]; omega
        have HES := hide hes
        clear hb hes
        go_wp2_with fail
        refine (trim_any _ _ HES.out).mono ?_
        rintro e w1 ⟨rfl, hb1⟩
        rw [HTR.out]
        obtain ⟨T, hT⟩ : ∃ T, trimL ((s.data.toList.take k).drop f) = T := ⟨_, rfl⟩
        rw [hT] at HPA ⊢
        clear hT
        have hB1 := hbr.trans (hb1.mono hsz)
        have hs1 := hB1.size
        have hla := hB1.alloc hs1 (.cells #[.string ⟨T.toArray⟩] 9)
        have hoa := (owns_below hown hb1).alloc (.cells #[.string ⟨T.toArray⟩] 9)
        have h63 : P.length + 1 ≤ maxLen := maxLen_of (by omega)
        have hby : (P.length + 1) * 16 ≤ 140737488355328 := by omega
        have hba : w.heap.size ≤ (w1.alloc (.cells #[.string ⟨T.toArray⟩] 9)).heap.size := by simp; omega
        have hce : ∀ j u, [Value.string ⟨T.toArray⟩][j]? = some u → (w1.alloc (.cells #[.string ⟨T.toArray⟩] 9)).cell? ((⟨w1.heap.size, 0, none⟩ : Addr).add j) = some u := by
          intro j u hj
          rw [add_none, Nat.zero_add, World.cell?_alloc_new]
          simpa using hj
        have HX := hide (And.intro h63 (And.intro hby (And.intro hba (And.intro hce (And.intro hla hoa)))))
        clear h63 hby hba hce hla hoa hown hbr hb1 hB1
        go_wp2_with (at_builtin; refine wpList_append_own _ rfl (.tmp 27) (.tmp 33) 39 rfl w.heap.size 9 i0 (.string ⟨#[]⟩) 1 16 Tryd.underlying39 hi0 hz0 hz1 hz2 rfl (by decide) _ _ _ rfl HX.out.2.2.2.2.2 ⟨w1.heap.size, 0, none⟩ 1 1 [.string ⟨T.toArray⟩] rfl rfl HX.out.2.2.2.1 (by intro u hu; simp at hu; subst hu; rfl) HX.out.1 HX.out.2.1 HX.out.2.2.1 ?_; intro v' w2 ho2 hg2 _)
        have hl2 := HX.out.2.2.2.2.1.grown hg2 HX.out.2.2.1 (fun j hj => (HX.out.2.2.2.2.2.lt j hj).1)
        refine ⟨⟨P ++ [T], k + 1, k + 1, Nat.le_refl _, by omega, by simp; omega, by go_num, by go_num, ?_, hl2, HPA⟩, by simp [intOf]; omega⟩
        rw [List.length_append, strs_append]; exact ho2
      · have hbf : (((s[k]'hlt).toNat : Int) == (b.toNat : Int)) = false := by rw [u8_beq, decide_eq_false hb]
        by_cases hq : s[k]'hlt = 34
        · have hqt : (((s[k]'hlt).toNat : Int) == 34) = true := by have := u8_beq (s[k]'hlt) 34; rw [decide_eq_true hq] at this; exact this
          have hcl := clS_le s (k + 1)
          have hge : k + 1 ≤ clS s (k + 1) := cl_ge (by rw [HZ.out]; omega)
          obtain ⟨m, hm⟩ : ∃ m, clS s (k + 1) = m := ⟨_, rfl⟩
          have HM := hide hm
          rw [hm] at hcl hge
          clear hm
          by_cases hme : m < s.size
          · have hmb : ((m : Int) == (s.size : Int)) = false := by rw [beq_eq_false_iff_ne]; omega
            have HPA : Hid (Parts b s.data.toList P ((s.data.toList.take (m + 1)).drop f) (m + 1)) := by
              have h := hpa.out.quotes HKL.out (by rw [HAT.out]; exact hb) (by rw [HAT.out]; exact hq) (by show clS s (k + 1) < _; rw [HM.out, HZ.out]; exact hme)
              rw [show cl s.data.toList (k + 1) = m from HM.out] at h
              rw [cut_next hf (by omega) (by rw [HZ.out]; omega)] at h
              exact h
            clear hq hb
            go_wp2_with fail
            refine (closing_any s (k + 1) _ hs (by omega)).mono ?_
            rintro e w1 ⟨rfl, rfl⟩
            rw [HM.out]
            go_wp2_with fail
            refine ⟨⟨P, f, m + 1, by omega, by omega, by omega, rfl, by go_num, hown, hbr, HPA⟩, by simp [intOf]; omega⟩
          · have hmb : ((m : Int) == (s.size : Int)) = true := by rw [beq_iff_eq]; omega
            have hn : splitL b s.data.toList = none := by
              rw [HSO.out]
              exact hpa.out.bad HKL.out (by rw [HAT.out]; exact hb) (by rw [HAT.out]; exact hq) (by show ¬ clS s (k + 1) < _; rw [HM.out, HZ.out]; exact hme)
            have HE := hide (sp_err hn)
            clear hn hq hb
            go_wp2_with fail
            refine (closing_any s (k + 1) _ hs (by omega)).mono ?_
            rintro e w1 ⟨rfl, rfl⟩
            rw [HM.out]
            go_wp2_with fail
            go_ret2
            exact ⟨_, ret_row rfl (by rw [HE.out.2]; rfl), by rw [HE.out.1]; exact World.ownsRow_nil _ _ _ _, hbr⟩
        · have hqf : (((s[k]'hlt).toNat : Int) == 34) = false := by have := u8_beq (s[k]'hlt) 34; rw [decide_eq_false hq] at this; exact this
          have HPA : Hid (Parts b s.data.toList P ((s.data.toList.take (k + 1)).drop f) (k + 1)) := by
            have h := hpa.out.more HKL.out (by rw [HAT.out]; exact hb) (by rw [HAT.out]; exact hq)
            rw [← cut_one HKL.out, cut_next hf (by omega) HKL.out] at h
            exact h
          clear hq hb
          go_wp2_with fail
          refine ⟨⟨P, f, k + 1, by omega, by omega, by omega, rfl, by go_num, hown, hbr, HPA⟩, by simp [intOf]; omega⟩
    · have hd : decide ((k : Int) < s.size) = false := decide_eq_false (by omega)
      obtain rfl : k = s.size := by omega
      have hfi : (f : Int) ≤ s.size := by omega
      have HPA := hide (hpa.out.done (by rw [HZ.out]; exact Nat.le_refl _))
      have HTR := hide (trim_of s f s.size)
      have hes : (s.extract f s.size).size ≤ 1000000 := by rw [ByteArray.size_extract]; omega
      have HES := hide hes
      clear hes
      go_wp2_with fail
      refine (trim_any _ _ HES.out).mono ?_
      rintro e w1 ⟨rfl, hb1⟩
      rw [HTR.out]
      obtain ⟨T, hT⟩ : ∃ T, trimL ((s.data.toList.take s.size).drop f) = T := ⟨_, rfl⟩
      rw [hT] at HPA ⊢
      clear hT
      have HE := hide (sp_okay (HSO.out.trans HPA.out))
      have hB1 := hbr.trans (hb1.mono hsz)
      have hs1 := hB1.size
      have hla := hB1.alloc hs1 (.cells #[.string ⟨T.toArray⟩] 9)
      have hoa := (owns_below hown hb1).alloc (.cells #[.string ⟨T.toArray⟩] 9)
      have h63 : P.length + 1 ≤ maxLen := maxLen_of (by omega)
      have hby : (P.length + 1) * 16 ≤ 140737488355328 := by omega
      have hba : w.heap.size ≤ (w1.alloc (.cells #[.string ⟨T.toArray⟩] 9)).heap.size := by simp; omega
      have hce : ∀ j u, [Value.string ⟨T.toArray⟩][j]? = some u → (w1.alloc (.cells #[.string ⟨T.toArray⟩] 9)).cell? ((⟨w1.heap.size, 0, none⟩ : Addr).add j) = some u := by
        intro j u hj
        rw [add_none, Nat.zero_add, World.cell?_alloc_new]
        simpa using hj
      have HX := hide (And.intro h63 (And.intro hby (And.intro hba (And.intro hce (And.intro hla hoa)))))
      clear h63 hby hba hce hla hoa hown hbr hb1 hB1
      go_wp2_with (at_builtin; refine wpList_append_own _ rfl (.tmp 47) (.tmp 52) 39 rfl w.heap.size 9 i0 (.string ⟨#[]⟩) 1 16 Tryd.underlying39 hi0 hz0 hz1 hz2 rfl (by decide) _ _ _ rfl HX.out.2.2.2.2.2 ⟨w1.heap.size, 0, none⟩ 1 1 [.string ⟨T.toArray⟩] rfl rfl HX.out.2.2.2.1 (by intro u hu; simp at hu; subst hu; rfl) HX.out.1 HX.out.2.1 HX.out.2.2.1 ?_; intro v' w2 ho2 hg2 _)
      have hl2 := HX.out.2.2.2.2.1.grown hg2 HX.out.2.2.1 (fun j hj => (HX.out.2.2.2.2.2.lt j hj).1)
      go_ret2
      refine ⟨v', ret_row rfl (by rw [HE.out.2]; rfl), ?_, hl2⟩
      rw [HE.out.1, List.length_append, strs_append]; exact ho2

end Go.Proofs.YtkakinakjnpbjaaDoor
