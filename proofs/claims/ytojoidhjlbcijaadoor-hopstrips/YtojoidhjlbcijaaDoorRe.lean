/- The walks of the document's own words: what a row tells, whether a word is there, whether a name is for the next one alone. -/
import Derived.Test.YtojoidhjlbcijaaDoorCa
import Derived.Test.YtojoidhjlbcijaaDoorMw
import Derived.Maps.AppendAt
namespace Go.Proofs.YtojoidhjlbcijaaDoor
set_option linter.unusedVariables false
set_option linter.unusedSimpArgs false
set_option maxRecDepth 100000
open Go.RowKit

theorem ws_free {P : List UInt8} (h : ∀ d ∈ P, neB 44 d = true) : wsV P = [wdL P] := by unfold wsV; rw [splB_free h]; rfl
theorem ws_part {P : List UInt8} (h : ∀ d ∈ P, neB 44 d = true) (r : List UInt8) : wsV (P ++ 44 :: r) = wdL P :: wsV r := by
  rw [wsV_two, ws_free h]; rfl
theorem bs_snoc (P : List UInt8) (s : ByteArray) (k : Nat) (h : k < s.size) : bs P ++ s.extract k (k + 1) = bs (P ++ [s[k]]) := by
  apply bytes_ext
  rw [app_list, bs_list, bs_list]
  congr 1
  rw [ByteArray.data_extract, Array.toList_extract, List.extract_eq_take_drop, Nat.add_sub_cancel_left]
  rw [List.drop_eq_getElem_cons (by rw [size_list]; exact h), List.take_succ_cons, List.take_zero, get_at s k h]
theorem wd_bs (P : List UInt8) : lowS (trimS (bs P)) = bs (wdL P) := by rw [trim_bs, low_bs]; rfl

set_option maxHeartbeats 4000000 in
theorem refwords_any (L : List Fd) (v : Value) (w : World) (hr : Row w v L) (hl : L.length ≤ 50) (hs : Sh L) (hj : (joinS (allF connS L)).size ≤ 100000) :
    Calls Tryd.prog 20 #[v] w fun e w' => ∃ r, e = .returned r ∧ OwnS w' w.heap.size r ((wds L).map bs) ∧ Below w.heap.size w w' := by
  have HW : Hid (wds L = wsV (joinS (allF connS L)).data.toList) := rfl
  have hal := all_low low_conn L
  have hlen := all_le connS L
  have hsh := all_short (n := connS) hs
  go_enter Tryd.func20, Tryd.ntmps20
  go_wp2_with fail
  refine (refall_any L v connW w hr (by omega) hs (by decide)).mono ?_
  rintro e w1 ⟨r, rfl, ho1, hb1⟩
  rw [hal] at ho1
  obtain ⟨a, cap, rfl, hcap, hR⟩ := ho1.row
  go_wp2_with fail
  refine (refjoined_any (allF connS L) a cap w1 hcap (by omega) hsh hR).mono ?_
  rintro e w2 ⟨rfl, rfl⟩
  generalize joinS (allF connS L) = s at *
  clear hR ho1 hsh hlen hal hr hs
  obtain ⟨i0, hi0, hz0, hz1, hz2⟩ := info_parts Tryd.info9
  have hbn := hb1.alloc hb1.size (.cells #[] 9)
  have hon : OwnS (w2.alloc (.cells #[] 9)) w.heap.size (.slice (some ⟨w2.heap.size, 0, none⟩) 0 0) [] := World.ownsRow_lit w2 #[] 0 hb1.size (by decide) rfl
  go_wp2_with fail
  generalize (w2.alloc (.cells #[] 9)) = w3 at hbn hon ⊢
  generalize w2.heap.size = N3 at hon ⊢
  have HS : Hid (s.data.toList.length = s.size) := by unfold Hid; simp
  clear hb1
  go_loopw [4, 5, 6] (fun out now i wr => ∃ (k : Nat) (D : List (List UInt8)) (P : List UInt8), k ≤ s.size + 1 ∧ i = .int .i64 k ∧ now = .string (bs P) ∧ Below w.heap.size w wr ∧ OwnS wr w.heap.size out (D.map bs) ∧ D.length ≤ k ∧ P.length ≤ k ∧
    Hid ((k ≤ s.size → (∀ d ∈ P, neB 44 d = true) ∧ wsV s.data.toList = D ++ wsV (P ++ s.data.toList.drop k)) ∧ (¬ k ≤ s.size → D = wsV s.data.toList))) (fun _ _ i _ => s.size + 1 - (intOf i).toNat)
  case atStart => exact ⟨0, [], [], Nat.zero_le _, rfl, rfl, hbn, hon, Nat.zero_le _, Nat.zero_le _, fun _ => ⟨by simp, by simp⟩, fun h => absurd (Nat.zero_le _) h⟩
  case round =>
    obtain ⟨k, D, P, hk, rfl, rfl, hbr, hown, hD, hP, hst⟩ := hrel
    by_cases hle : k ≤ s.size
    · have hlez : (k : Int) ≤ s.size := by omega
      have hd : decide ((k : Int) ≤ s.size) = true := decide_eq_true hlez
      obtain ⟨hfree, hws⟩ := hst.out.1 hle
      have hwd := wd_bs P
      have ht := trimS_size (bs P)
      rw [bs_size] at ht
      have hbp := bs_size P
      by_cases heq : k = s.size
      · have heqz : (k : Int) = s.size := by omega
        have hde : decide ((k : Int) = s.size) = true := decide_eq_true heqz
        rw [List.drop_of_length_le (by rw [HS.out]; omega), List.append_nil, ws_free hfree] at hws
        clear hst
        have HWS := hide hws
        clear hws
        go_wp2_with fail
        refine (reftrim_any (bs P) wr (by omega)).mono ?_
        rintro e w4 ⟨rfl, rfl⟩
        go_wp2_with fail
        refine (reflower_any (trimS (bs P)) _ (by omega)).mono ?_
        rintro e w5 ⟨rfl, hb5⟩
        rw [hwd]
        have hB5 := hbr.trans (hb5.mono hbr.size)
        have ho5 := hown.below hb5
        have hla := hB5.alloc hB5.size (.cells #[.string (bs (wdL P))] 9)
        have hoa := ho5.alloc (.cells #[.string (bs (wdL P))] 9)
        have h63 : (D.map bs).length + 1 ≤ maxLen := maxLen_of (by rw [List.length_map]; omega)
        have hby : ((D.map bs).length + 1) * 16 ≤ 140737488355328 := by rw [List.length_map]; omega
        have hba : w.heap.size ≤ (w5.alloc (.cells #[.string (bs (wdL P))] 9)).heap.size := hla.size
        have hce := cell_one_new w5 (.string (bs (wdL P))) 9
        have HXX := hide (And.intro h63 (And.intro hby (And.intro hba (And.intro hce (And.intro hla hoa)))))
        clear h63 hby hba hce hla hoa ho5 hB5 hbr hown
        generalize hz : bs (wdL P) = z at *
        go_wp2_with (at_builtin; refine wpList_append_own _ rfl (.tmp 27) (.tmp 31) 36 rfl w.heap.size 9 i0 (.string ⟨#[]⟩) 1 16 Tryd.underlying36 hi0 hz0 hz1 hz2 rfl (by decide) _ _ _ rfl HXX.out.2.2.2.2.2 _ 1 1 [.string z] rfl rfl HXX.out.2.2.2.1 (by intro u hu; simp at hu; subst hu; rfl) HXX.out.1 HXX.out.2.1 HXX.out.2.2.1 ?_; intro v' w6 ho6 hg6 _)
        have hl2 := HXX.out.2.2.2.2.1.grown hg6 HXX.out.2.2.1 (fun j hj => (HXX.out.2.2.2.2.2.lt j hj).1)
        refine ⟨⟨k + 1, D ++ [wdL P], [], by omega, by go_num, rfl, hl2, ?_, by simp; omega, Nat.zero_le _, ?_⟩, by simp [intOf]; omega⟩
        · unfold OwnS
          rw [List.map_append, List.length_append, scells_append, List.map_cons, List.map_nil, hz]
          exact ho6
        · exact ⟨fun h => by omega, fun _ => HWS.out.symm⟩
      · have hnz : ¬ (k : Int) = s.size := by omega
        have hde : decide ((k : Int) = s.size) = false := decide_eq_false hnz
        have hlt : k < s.size := by omega
        have hltz : (k : Int) < s.size := by omega
        have hdr : s.data.toList.drop k = s[k] :: s.data.toList.drop (k + 1) := by
          rw [List.drop_eq_getElem_cons (by rw [HS.out]; exact hlt), get_at s k hlt]
        have hsn := bs_snoc P s k hlt
        rw [hdr] at hws
        have hcl := (s[k]'hlt).toNat_lt
        have hc44 : (s[k]'hlt).toNat = 44 ↔ s[k]'hlt = 44 := by
          rw [← UInt8.toNat_inj]; rfl
        clear hdr
        obtain ⟨c, hcq⟩ : ∃ c, s[k]'hlt = c := ⟨_, rfl⟩
        rw [hcq] at hsn hws hcl hc44
        by_cases hc : c = 44
        · have hcn : (c.toNat : Int) = 44 := by have := hc44.2 hc; omega
          rw [hc, ws_part hfree] at hws
          clear hst hsn
          have HWS := hide hws
          clear hws
          go_wp2_with fail
          refine (reftrim_any (bs P) wr (by omega)).mono ?_
          rintro e w4 ⟨rfl, rfl⟩
          go_wp2_with fail
          refine (reflower_any (trimS (bs P)) _ (by omega)).mono ?_
          rintro e w5 ⟨rfl, hb5⟩
          rw [hwd]
          have hB5 := hbr.trans (hb5.mono hbr.size)
          have ho5 := hown.below hb5
          have hla := hB5.alloc hB5.size (.cells #[.string (bs (wdL P))] 9)
          have hoa := ho5.alloc (.cells #[.string (bs (wdL P))] 9)
          have h63 : (D.map bs).length + 1 ≤ maxLen := maxLen_of (by rw [List.length_map]; omega)
          have hby : ((D.map bs).length + 1) * 16 ≤ 140737488355328 := by rw [List.length_map]; omega
          have hba : w.heap.size ≤ (w5.alloc (.cells #[.string (bs (wdL P))] 9)).heap.size := hla.size
          have hce := cell_one_new w5 (.string (bs (wdL P))) 9
          have HXX := hide (And.intro h63 (And.intro hby (And.intro hba (And.intro hce (And.intro hla hoa)))))
          clear h63 hby hba hce hla hoa ho5 hB5 hbr hown
          generalize hz : bs (wdL P) = z at *
          go_wp2_with (at_builtin; refine wpList_append_own _ rfl (.tmp 27) (.tmp 31) 36 rfl w.heap.size 9 i0 (.string ⟨#[]⟩) 1 16 Tryd.underlying36 hi0 hz0 hz1 hz2 rfl (by decide) _ _ _ rfl HXX.out.2.2.2.2.2 _ 1 1 [.string z] rfl rfl HXX.out.2.2.2.1 (by intro u hu; simp at hu; subst hu; rfl) HXX.out.1 HXX.out.2.1 HXX.out.2.2.1 ?_; intro v' w6 ho6 hg6 _)
          have hl2 := HXX.out.2.2.2.2.1.grown hg6 HXX.out.2.2.1 (fun j hj => (HXX.out.2.2.2.2.2.lt j hj).1)
          refine ⟨⟨k + 1, D ++ [wdL P], [], by omega, by go_num, rfl, hl2, ?_, by simp; omega, Nat.zero_le _, ?_⟩, by simp [intOf]; omega⟩
          · unfold OwnS
            rw [List.map_append, List.length_append, scells_append, List.map_cons, List.map_nil, hz]
            exact ho6
          · exact ⟨fun _ => ⟨by simp, by rw [HWS.out]; simp⟩, fun h => by omega⟩
        · have hcn : ¬ (c.toNat : Int) = 44 := by
            intro e
            exact hc (hc44.1 (by omega))
          have hcb : (((k : Int) == (s.size : Int)) || ((c.toNat : Int) == 44)) = false := by
            rw [beq_eq_false_iff_ne.2 hnz, beq_eq_false_iff_ne.2 hcn]; rfl
          have HWS := hide hws
          have HF := hide hfree
          clear hst hws hfree
          go_wp2_with fail
          refine ⟨⟨k + 1, D, P ++ [c], by omega, by go_num, by rw [← hsn], hbr, hown, by omega, by simp; omega, ?_⟩, by simp [intOf]; try omega⟩
          refine ⟨fun _ => ⟨?_, by rw [HWS.out]; try simp⟩, fun h => by omega⟩
          intro d hd
          rcases List.mem_append.1 hd with hd | hd
          · exact HF.out d hd
          · obtain rfl : d = c := by simpa using hd
            simpa [neB] using hc
    · have hd : decide ((k : Int) ≤ s.size) = false := decide_eq_false (by omega)
      have hDw := hst.out.2 hle
      rw [hDw] at hown
      go_wp2_with fail
      go_ret
      exact ⟨_, rfl, by rw [HW.out]; exact hown, hbr⟩

end Go.Proofs.YtojoidhjlbcijaaDoor
