/- The walks of what removes a name's fields, and of what gives a name's values: the program's and the document's own. -/
import Derived.Test.YtojoidhjlbcijaaDoorWm
import Derived.Laws.EntriesVeiled
namespace Go.Proofs.YtojoidhjlbcijaaDoor
set_option linter.unusedVariables false
set_option linter.unusedSimpArgs false
set_option maxRecDepth 100000
open Go.RowKit


set_option maxHeartbeats 2000000 in
theorem remove_any (L : List Fd) (v : Value) (n : ByteArray) (w : World) (hr : Row w v L) (hl : L.length ≤ 1000000) (hs : Sh L) (hn : n.size ≤ 1000000) :
    Calls Tryd.prog 29 #[v, .string n] w fun e w' => ∃ r, e = .returned r ∧ Own w' w.heap.size r (delF n L) ∧ Below w.heap.size w w' := by
  have hbA : Below w.heap.size w ((w.alloc (.cells #[.string n] 9)).alloc (.cells #[.func (.func 63) #[] #[.pointer (some ⟨w.heap.size, 0, none⟩)]] 52)) := (one_alloc _ _ _).alloc (by simp) _
  have hr1 := hr.below hbA
  have n0 : ((w.alloc (.cells #[.string n] 9)).alloc (.cells #[.func (.func 63) #[] #[.pointer (some ⟨w.heap.size, 0, none⟩)]] 52)).cell? ⟨w.heap.size, 0, none⟩ = some (.string n) := by go_simp
  have s0 : ((w.alloc (.cells #[.string n] 9)).alloc (.cells #[.func (.func 63) #[] #[.pointer (some ⟨w.heap.size, 0, none⟩)]] 52)).cell? ⟨w.heap.size + 1, 0, none⟩ = some (.func (.func 63) #[] #[.pointer (some ⟨w.heap.size, 0, none⟩)]) := by go_simp
  have HX := hide (And.intro hr1 (And.intro n0 (And.intro s0 (And.intro hbA hs))))
  clear hbA hr1 n0 s0 hr hs
  go_enter Tryd.func29, Tryd.ntmps29
  go_wp2_with fail
  refine (named_any n _).mono ?_
  rintro e w1 ⟨rfl, rfl⟩
  go_wp2_with fail
  refine (chosen_field L v n w.heap.size (w.heap.size + 1) _ HX.out.1 hl HX.out.2.2.2.2 hn HX.out.2.1 HX.out.2.2.1).mono ?_
  rintro e w2 ⟨r, rfl, ho, hb⟩
  go_wp2_with fail
  go_ret
  exact ⟨_, rfl, ho.mono HX.out.2.2.2.1.size, HX.out.2.2.2.1.trans (hb.mono HX.out.2.2.2.1.size)⟩

set_option maxHeartbeats 2000000 in
theorem values_any (L : List Fd) (v : Value) (n : ByteArray) (w : World) (hr : Row w v L) (hl : L.length ≤ 1000000) (hs : Sh L) (hn : n.size ≤ 1000000) :
    Calls Tryd.prog 47 #[v, .string n] w fun e w' => ∃ r, e = .returned r ∧ OwnS w' w.heap.size r (allF n L) ∧ Below w.heap.size w w' := by
  have hbA : Below w.heap.size w ((w.alloc (.cells #[.string n] 9)).alloc (.cells #[.func (.func 63) #[] #[.pointer (some ⟨w.heap.size, 0, none⟩)]] 52)) := (one_alloc _ _ _).alloc (by simp) _
  have hr1 := hr.below hbA
  have n0 : ((w.alloc (.cells #[.string n] 9)).alloc (.cells #[.func (.func 63) #[] #[.pointer (some ⟨w.heap.size, 0, none⟩)]] 52)).cell? ⟨w.heap.size, 0, none⟩ = some (.string n) := by go_simp
  have s0 : ((w.alloc (.cells #[.string n] 9)).alloc (.cells #[.func (.func 63) #[] #[.pointer (some ⟨w.heap.size, 0, none⟩)]] 52)).cell? ⟨w.heap.size + 1, 0, none⟩ = some (.func (.func 63) #[] #[.pointer (some ⟨w.heap.size, 0, none⟩)]) := by go_simp
  have HX := hide (And.intro hr1 (And.intro n0 (And.intro s0 (And.intro hbA hs))))
  clear hbA hr1 n0 s0 hr hs
  go_enter Tryd.func47, Tryd.ntmps47
  go_wp2_with fail
  refine (named_any n _).mono ?_
  rintro e w1 ⟨rfl, rfl⟩
  go_wp2_with fail
  refine (chosen_text L v n w.heap.size (w.heap.size + 1) _ HX.out.1 hl HX.out.2.2.2.2 hn HX.out.2.1 HX.out.2.2.1).mono ?_
  rintro e w2 ⟨r, rfl, ho, hb⟩
  go_wp2_with fail
  go_ret
  exact ⟨_, rfl, ho.mono HX.out.2.2.2.1.size, HX.out.2.2.2.1.trans (hb.mono HX.out.2.2.2.1.size)⟩

set_option maxHeartbeats 4000000 in
theorem refremove_any (L : List Fd) (v : Value) (n : ByteArray) (w : World) (hr : Row w v L) (hl : L.length ≤ 1000000) (hs : Sh L) (hn : n.size ≤ 1000000) :
    Calls Tryd.prog 19 #[v, .string n] w fun e w' => ∃ r, e = .returned r ∧ Own w' w.heap.size r (delF n L) ∧ Below w.heap.size w w' := by
  obtain ⟨a, cap, rfl, hcap, hR⟩ := hr
  have HR := hide hR
  have HS := hide hs
  clear hR hs
  obtain ⟨i0, hi0, hz0, hz1, hz2⟩ := info_parts Tryd.info25
  go_enter Tryd.func19, Tryd.ntmps19
  go_wp2_with fail
  go_loopw [5, 7, 11] (fun v _ i wr => ∃ k : Nat, k ≤ L.length ∧ i = .int .i64 k ∧ Below w.heap.size w wr ∧ Own wr w.heap.size v (delF n (L.take k))) (fun _ _ i _ => L.length - (intOf i).toNat)
  case atStart => exact ⟨0, Nat.zero_le _, rfl, one_alloc _ _ _, by rw [List.take_zero]; exact World.ownsRow_lit w #[] 0 (Nat.le_refl _) (by decide) rfl⟩
  case round =>
    obtain ⟨k, hk, rfl, hbr, hown⟩ := hrel
    have hsz := hbr.size
    by_cases hlt : k < L.length
    · have hltz : (k : Int) < L.length := by omega
      obtain ⟨g, off, rfl, hg, c0, c1⟩ := HR.out k hlt
      rw [← (stays hbr).1 _ _ hg] at c0 c1
      have hsh := HS.out _ (List.getElem_mem hlt)
      have HT := hide (List.take_succ_eq_append_getElem hlt)
      have HLE : Hid ((delF n (L.take k)).length ≤ k) := by
        unfold Hid; refine Nat.le_trans (del_le n (L.take k)) ?_; rw [List.length_take]; omega
      obtain ⟨x, hx⟩ : ∃ x, L[k]'hlt = x := ⟨_, rfl⟩
      rw [hx] at c0 c1 hsh HT
      have HX : Hid (delF n (L.take (k + 1)) = delF n (L.take k) ++ (if nm n x then [] else [x])) := by unfold Hid; rw [HT.out, del_snoc]
      obtain ⟨D, hD⟩ : ∃ D, delF n (L.take k) = D := ⟨_, rfl⟩
      rw [hD] at hown HLE HX
      clear hx hD HR HT
      go_wp2_with fail
      refine (refsame_any x.1 n _ (by omega) hn).mono ?_
      rintro e w1 ⟨rfl, hb1⟩
      have hB1 := (hbr.alloc hsz (.cells #[.string x.1, .string x.2] 39)).trans (hb1.mono (by simp; omega))
      have hs1 := hB1.size
      have ho1 := (hown.alloc (.cells #[.string x.1, .string x.2] 39)).below hb1
      have d0 : w1.cell? ⟨wr.heap.size, 0, none⟩ = some (.string x.1) := by rw [(stays hb1).1 _ _ (by simp)]; go_simp
      have d1 : w1.cell? ⟨wr.heap.size, 1, none⟩ = some (.string x.2) := by rw [(stays hb1).1 _ _ (by simp)]; go_simp
      have hwl : wr.heap.size < w1.heap.size := by have := hb1.size; simp at this; omega
      clear hb1 hown hbr c0 c1
      have hq : sameB x.1 n = nm n x := rfl
      rw [hq]
      clear hq
      cases hp : nm n x
      · rw [hp] at HX
        try unfold fv
        try rw [hp]
        have hBx := hB1
        have hsx := hs1
        have hox := ho1
        have hla := hBx.alloc hsx (.cells #[.string x.1, .string x.2] 39)
        have hoa := hox.alloc (.cells #[.string x.1, .string x.2] 39)
        have h63 : D.length + 1 ≤ maxLen := maxLen_of (by have := HLE.out; omega)
        have hby : (D.length + 1) * 32 ≤ 140737488355328 := by have := HLE.out; omega
        have hba : w.heap.size ≤ (w1.alloc (.cells #[.string x.1, .string x.2] 39)).heap.size := by simp at hsx ⊢; omega
        have hce := two_new w1 (.string x.1) (.string x.2) 39
        have HXX := hide (And.intro h63 (And.intro hby (And.intro hba (And.intro hce (And.intro hla hoa)))))
        clear h63 hby hba hce hla hoa hBx hox ho1 hB1
        go_wp2_with (at_builtin; refine wpList_append_own _ rfl (.tmp 20) (.tmp 22) 24 rfl w.heap.size 39 i0 (.agg #[.string ⟨#[]⟩, .string ⟨#[]⟩]) 2 32 Tryd.underlying24 hi0 hz0 hz1 hz2 rfl (by decide) _ _ _ rfl HXX.out.2.2.2.2.2 _ 1 1 [.string x.1, .string x.2] rfl rfl HXX.out.2.2.2.1 (fst_one x) HXX.out.1 HXX.out.2.1 HXX.out.2.2.1 ?_; intro v' w2 ho2 hg2 _)
        have hl2 := HXX.out.2.2.2.2.1.grown hg2 HXX.out.2.2.1 (fun j hj => (HXX.out.2.2.2.2.2.lt j hj).1)
        refine ⟨⟨k + 1, by omega, by go_num, hl2, ?_⟩, by simp [intOf]; omega⟩
        rw [HX.out, if_neg (by simp)]
        unfold Own
        rw [List.length_append, fcells_append]
        exact ho2
      · rw [hp] at HX
        try rw [hp]
        go_wp2_with fail
        refine ⟨⟨k + 1, by omega, by go_num, hB1, ?_⟩, by simp [intOf]; omega⟩
        rw [HX.out, if_pos (by simp), List.append_nil]
        exact ho1

    · have hd : decide ((k : Int) < L.length) = false := decide_eq_false (by omega)
      rw [List.take_of_length_le (by omega)] at hown
      go_wp2_with fail
      go_ret
      exact ⟨_, rfl, hown, hbr⟩

set_option maxHeartbeats 4000000 in
theorem refall_any (L : List Fd) (v : Value) (n : ByteArray) (w : World) (hr : Row w v L) (hl : L.length ≤ 1000000) (hs : Sh L) (hn : n.size ≤ 1000000) :
    Calls Tryd.prog 22 #[v, .string n] w fun e w' => ∃ r, e = .returned r ∧ OwnS w' w.heap.size r (allF n L) ∧ Below w.heap.size w w' := by
  obtain ⟨a, cap, rfl, hcap, hR⟩ := hr
  have HR := hide hR
  have HS := hide hs
  clear hR hs
  obtain ⟨i0, hi0, hz0, hz1, hz2⟩ := info_parts Tryd.info9
  go_enter Tryd.func22, Tryd.ntmps22
  go_wp2_with fail
  go_loopw [5, 7, 11] (fun v _ i wr => ∃ k : Nat, k ≤ L.length ∧ i = .int .i64 k ∧ Below w.heap.size w wr ∧ OwnS wr w.heap.size v (allF n (L.take k))) (fun _ _ i _ => L.length - (intOf i).toNat)
  case atStart => exact ⟨0, Nat.zero_le _, rfl, one_alloc _ _ _, by rw [List.take_zero]; exact World.ownsRow_lit w #[] 0 (Nat.le_refl _) (by decide) rfl⟩
  case round =>
    obtain ⟨k, hk, rfl, hbr, hown⟩ := hrel
    have hsz := hbr.size
    by_cases hlt : k < L.length
    · have hltz : (k : Int) < L.length := by omega
      obtain ⟨g, off, rfl, hg, c0, c1⟩ := HR.out k hlt
      rw [← (stays hbr).1 _ _ hg] at c0 c1
      have hsh := HS.out _ (List.getElem_mem hlt)
      have HT := hide (List.take_succ_eq_append_getElem hlt)
      have HLE : Hid ((allF n (L.take k)).length ≤ k) := by
        unfold Hid; refine Nat.le_trans (all_le n (L.take k)) ?_; rw [List.length_take]; omega
      obtain ⟨x, hx⟩ : ∃ x, L[k]'hlt = x := ⟨_, rfl⟩
      rw [hx] at c0 c1 hsh HT
      have HX : Hid (allF n (L.take (k + 1)) = allF n (L.take k) ++ (if nm n x then [x.2] else [])) := by unfold Hid; rw [HT.out, all_snoc]
      obtain ⟨D, hD⟩ : ∃ D, allF n (L.take k) = D := ⟨_, rfl⟩
      rw [hD] at hown HLE HX
      clear hx hD HR HT
      go_wp2_with fail
      refine (refsame_any x.1 n _ (by omega) hn).mono ?_
      rintro e w1 ⟨rfl, hb1⟩
      have hB1 := (hbr.alloc hsz (.cells #[.string x.1, .string x.2] 39)).trans (hb1.mono (by simp; omega))
      have hs1 := hB1.size
      have ho1 := (hown.alloc (.cells #[.string x.1, .string x.2] 39)).below hb1
      have d0 : w1.cell? ⟨wr.heap.size, 0, none⟩ = some (.string x.1) := by rw [(stays hb1).1 _ _ (by simp)]; go_simp
      have d1 : w1.cell? ⟨wr.heap.size, 1, none⟩ = some (.string x.2) := by rw [(stays hb1).1 _ _ (by simp)]; go_simp
      have hwl : wr.heap.size < w1.heap.size := by have := hb1.size; simp at this; omega
      clear hb1 hown hbr c0 c1
      have hq : sameB x.1 n = nm n x := rfl
      rw [hq]
      clear hq
      cases hp : nm n x
      · rw [hp] at HX
        try rw [hp]
        go_wp2_with fail
        refine ⟨⟨k + 1, by omega, by go_num, hB1, ?_⟩, by simp [intOf]; omega⟩
        rw [HX.out, if_neg (by simp), List.append_nil]
        exact ho1
      · rw [hp] at HX
        try unfold fv
        try rw [hp]
        have hBx := hB1
        have hsx := hs1
        have hox := ho1
        have hla := hBx.alloc hsx (.cells #[.string x.2] 9)
        have hoa := hox.alloc (.cells #[.string x.2] 9)
        have h63 : D.length + 1 ≤ maxLen := maxLen_of (by have := HLE.out; omega)
        have hby : (D.length + 1) * 16 ≤ 140737488355328 := by have := HLE.out; omega
        have hba : w.heap.size ≤ (w1.alloc (.cells #[.string x.2] 9)).heap.size := by simp at hsx ⊢; omega
        have hce := cell_one_new w1 (.string x.2) 9
        have HXX := hide (And.intro h63 (And.intro hby (And.intro hba (And.intro hce (And.intro hla hoa)))))
        clear h63 hby hba hce hla hoa hBx hox ho1 hB1
        go_wp2_with (at_builtin; refine wpList_append_own _ rfl (.tmp 19) (.tmp 22) 36 rfl w.heap.size 9 i0 (.string ⟨#[]⟩) 1 16 Tryd.underlying36 hi0 hz0 hz1 hz2 rfl (by decide) _ _ _ rfl HXX.out.2.2.2.2.2 _ 1 1 [.string x.2] rfl rfl HXX.out.2.2.2.1 (by intro u hu; simp at hu; subst hu; rfl) HXX.out.1 HXX.out.2.1 HXX.out.2.2.1 ?_; intro v' w2 ho2 hg2 _)
        have hl2 := HXX.out.2.2.2.2.1.grown hg2 HXX.out.2.2.1 (fun j hj => (HXX.out.2.2.2.2.2.lt j hj).1)
        refine ⟨⟨k + 1, by omega, by go_num, hl2, ?_⟩, by simp [intOf]; omega⟩
        rw [HX.out, if_pos (by simp)]
        unfold OwnS
        rw [List.length_append, scells_append]
        exact ho2

    · have hd : decide ((k : Int) < L.length) = false := decide_eq_false (by omega)
      rw [List.take_of_length_le (by omega)] at hown
      go_wp2_with fail
      go_ret
      exact ⟨_, rfl, hown, hbr⟩

end Go.Proofs.YtojoidhjlbcijaaDoor
