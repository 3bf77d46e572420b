/- The walks of the document's place of a text, its digits, its Agent. -/
import Derived.Test.YtgnpeggffeoenaaDoorAg
import Derived.Test.YtgnpeggffeoenaaDoorWk
namespace Go.Proofs.YtgnpeggffeoenaaDoor
set_option linter.unusedVariables false
set_option linter.unusedSimpArgs false
open Go.RowKit

theorem occ_ext {s t : ByteArray} {i : Nat} (h : i + t.size ≤ s.size) : ((s.extract i (i + t.size)).toList == t.toList) = Lib.occAt s.data.toList t.data.toList i := by
  rw [ByteArray.toList_eq, ByteArray.toList_eq]
  have he : (s.extract i (i + t.size)).data.toList = (s.data.toList.drop i).take t.data.toList.length := by
    rw [cut_list, size_list, List.drop_take]; congr 1; omega
  rw [he, Lib.occAt, Bool.eq_iff_iff, beq_iff_eq, List.isPrefixOf_iff_prefix, List.prefix_iff_eq_take]
  exact ⟨fun h => h.symm, fun h => h.symm⟩

set_option maxHeartbeats 1000000 in
set_option maxRecDepth 100000 in
theorem refat_any (s t : ByteArray) (w : World) (hs : s.size ≤ 10000) (ht : t.size ≤ 1000) (ht0 : t.data.toList ≠ []) :
    Calls Tryd.prog 41 #[.string s, .string t] w fun e w' => e = .returned (.int .i64 (Lib.index s.data.toList t.data.toList)) ∧ w' = w := by
  have HT0 := hide ht0
  clear ht0
  go_enter Tryd.func41, Tryd.ntmps41
  go_wp2_with fail
  go_loop [5] (fun i => ∃ k : Nat, k ≤ s.size + 1 ∧ i = .int .i64 k ∧ Hid (Lib.NoOcc s.data.toList t.data.toList k)) (fun i => s.size + 1 - (intOf i).toNat)
  case atStart => exact ⟨0, Nat.zero_le _, rfl, Lib.NoOcc.zero _ _⟩
  case round =>
    obtain ⟨k, hk, rfl, hno⟩ := hrel
    by_cases hlt : k + t.size ≤ s.size
    · have hltz : (k : Int) + (t.size : Int) ≤ s.size := by omega
      have HO := hide (occ_ext hlt)
      obtain ⟨x, hx⟩ : ∃ x, s.extract k (k + t.size) = x := ⟨_, rfl⟩
      rw [hx] at HO
      cases ho : Lib.occAt s.data.toList t.data.toList k with
      | true =>
        have hb : (x.toList == t.toList) = true := by rw [HO.out, ho]
        have HI := hide (Lib.index_hit hno.out (by rw [size_list]; omega) ho)
        clear ho HO
        go_wp2_with fail
        go_ret
        exact ⟨by rw [HI.out]; rfl, rfl⟩
      | false =>
        have hb : (x.toList == t.toList) = false := by rw [HO.out, ho]
        have HI := hide (hno.out.succ ho)
        clear ho HO
        go_wp2_with fail
        refine ⟨⟨k + 1, by omega, by go_num, HI⟩, by simp [intOf]; omega⟩
    · have hd : decide ((k : Int) + (t.size : Int) ≤ s.size) = false := decide_eq_false (by omega)
      have HI := hide (Lib.index_past HT0.out hno.out (by rw [size_list, size_list]; omega))
      go_wp2_with fail
      go_ret
      exact ⟨by rw [HI.out]; rfl, rfl⟩

set_option maxHeartbeats 1000000 in
set_option maxRecDepth 100000 in
theorem refdigits_any (s t : ByteArray) (w : World) (hs : s.size ≤ 10000) (ht : t.size ≤ 1000) (ht0 : t.data.toList ≠ []) :
    Calls Tryd.prog 42 #[.string s, .string t] w fun e w' => e = .returned (.string (bs (verS s.data.toList t.data.toList))) ∧ w' = w := by
  have ha := refat_any s t w hs ht ht0
  rcases Lib.index_spec s.data.toList t.data.toList with ⟨h1, -⟩ | ⟨i, h1, -, -, -⟩
  · have HV : Hid (verS s.data.toList t.data.toList = []) := by unfold Hid verS; rw [h1]; rfl
    rw [h1] at ha
    clear h1
    go_enter Tryd.func42, Tryd.ntmps42
    go_wp2_with fail
    refine ha.mono ?_
    rintro e w1 ⟨rfl, rfl⟩
    go_wp2_with fail
    go_ret
    exact ⟨by rw [HV.out]; rfl, rfl⟩
  · have hr := Lib.index_room s.data.toList t.data.toList (by omega)
    rw [h1, size_list, size_list] at hr
    obtain ⟨f, hf⟩ : ∃ f, i + t.size = f := ⟨_, rfl⟩
    have hfs : f ≤ s.size := by omega
    have hfz : (i : Int) + (t.size : Int) = (f : Int) := by omega
    have HV : Hid (verS s.data.toList t.data.toList = (s.data.toList.drop f).takeWhile isD) := by
      unfold Hid verS
      rw [h1, if_pos (by omega), size_list, Int.toNat_natCast, hf]
    rw [h1] at ha
    clear h1 hr hf
    go_enter Tryd.func42, Tryd.ntmps42
    go_wp2_with fail
    refine ha.mono ?_
    rintro e w1 ⟨rfl, rfl⟩
    go_wp2_with fail
    go_loop [7] (fun i => ∃ k : Nat, f ≤ k ∧ k ≤ s.size ∧ i = .int .i64 k ∧ Hid (∀ c ∈ (s.data.toList.take k).drop f, isD c = true)) (fun i => s.size - (intOf i).toNat)
    case atStart => exact ⟨f, Nat.le_refl _, hfs, rfl, by unfold Hid; rw [cut_none]; simp⟩
    case round =>
      obtain ⟨k, hfk, hk, rfl, hall⟩ := hrel
      have hfkz : (f : Int) ≤ (k : Int) := by omega
      have hkz : (k : Int) ≤ s.size := by omega
      by_cases hlt : k < s.size
      · have hltz : (k : Int) < s.size := by omega
        have HT : Hid ((s.data.toList.take (k + 1)).drop f = (s.data.toList.take k).drop f ++ [s[k]'hlt]) := by
          unfold Hid
          rw [take_snoc _ k (by rw [size_list]; exact hlt), get_at s k hlt, List.drop_append_of_le_length (by rw [List.length_take, size_list]; omega)]
        have HG : Hid (isD (s[k]'hlt) = false → (s.data.toList.drop f).takeWhile isD = (s.data.toList.take k).drop f) := by
          intro hc
          have h1 : (s.data.toList.drop f).takeWhile isD = (s.data.toList.drop f).take (k - f) := by
            have h2 : ((s.data.toList.drop f).takeWhile isD).length = k - f := by
              refine takeWhile_at (by rw [List.length_drop, size_list]; omega) ?_ ?_
              · rw [← List.drop_take]; exact hall.out
              · rw [List.getElem_drop, ← hc]; congr 1; rw [← get_at s k hlt]; congr 1; omega
            rw [← h2]; exact (List.prefix_iff_eq_take.1 (List.takeWhile_prefix isD))
          rw [h1, List.drop_take]
        obtain ⟨c, hc⟩ : ∃ c, s[k]'hlt = c := ⟨_, rfl⟩
        rw [hc] at HT HG
        have hcl := c.toNat_lt
        have HB := hide (isD_int c)
        obtain ⟨x, hx⟩ : ∃ x, s.extract f k = x := ⟨_, rfl⟩
        have HX : Hid (isD c = false → bs (verS s.data.toList t.data.toList) = x) := by
          intro h
          apply bytes_ext
          rw [bs_list, HV.out, HG.out h, ← hx, cut_list]
        have NX : Hid (isD c = true → ∀ d ∈ (s.data.toList.take (k + 1)).drop f, isD d = true) := by
          intro h d hd
          rw [HT.out] at hd
          rcases List.mem_append.1 hd with hd | hd
          · exact hall.out d hd
          · obtain rfl : d = c := by simpa using hd
            exact h
        clear HT HG hall
        go_wp2_with fail
        all_goals first
          | (refine ⟨⟨k + 1, by omega, by omega, by go_num, NX.out (by rw [HB.out]; simp_all <;> omega)⟩, by simp [intOf]; omega⟩)
          | (go_ret; refine ⟨?_, rfl⟩; rw [HX.out (by rw [HB.out]; simp_all <;> omega)]; rfl)
      · have hd : decide ((k : Int) < s.size) = false := decide_eq_false (by omega)
        obtain ⟨x, hx⟩ : ∃ x, s.extract f k = x := ⟨_, rfl⟩
        have HX : Hid (bs (verS s.data.toList t.data.toList) = x) := by
          apply bytes_ext
          rw [bs_list, HV.out, ← hx, cut_list]
          have h1 := hall.out
          rw [List.take_of_length_le (by rw [size_list]; omega)] at h1 ⊢
          have h2 := takeWhile_all h1
          have h3 := List.prefix_iff_eq_take.1 (List.takeWhile_prefix (l := s.data.toList.drop f) isD)
          rw [h2, List.take_length] at h3
          exact h3
        clear hall
        go_wp2_with fail
        go_ret
        exact ⟨by rw [HX.out]; rfl, rfl⟩

end Go.Proofs.YtgnpeggffeoenaaDoor
