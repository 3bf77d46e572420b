/- The walks of the document's Query and Cookies. -/
import Derived.Test.YtgnpeggffeoenaaDoorQc
namespace Go.Proofs.YtgnpeggffeoenaaDoor
set_option linter.unusedVariables false
set_option linter.unusedSimpArgs false
open Go.RowKit

theorem fm_next {P : List (List UInt8)} {k : Nat} (h : k < P.length) (f : List UInt8 → Option PB) : ((P.take (k + 1)).filterMap f).map toF = ((P.take k).filterMap f).map toF ++ (match f P[k] with | some p => [toF p] | none => []) := by
  rw [List.take_succ_eq_append_getElem h, List.filterMap_append, List.map_append]
  cases hf : f P[k] <;> simp [hf]
theorem fm_count (f : List UInt8 → Option PB) (P : List (List UInt8)) (k : Nat) : (((P.take k).filterMap f).map toF).length ≤ k := by
  rw [List.length_map]
  have := List.length_filterMap_le f (P.take k)
  rw [List.length_take] at this; omega
theorem row_lit0 (w : World) (B : Nat) (h : B ≤ w.heap.size) : (w.alloc (.cells #[] 37)).ownsRow B 37 2 (.slice (some ⟨w.heap.size, 0, none⟩) 0 0) 0 (fcells []) :=
  World.ownsRow_lit w #[] 0 h (by decide) rfl
theorem row_new {w : World} (f : Fd) : Row (w.alloc (.cells #[.string f.1, .string f.2] 37)) (.slice (some ⟨w.heap.size, 0, none⟩) 1 1) [f] :=
  row_one (by go_simp) (by go_simp)

set_option maxHeartbeats 4000000 in
theorem refquery_any (s : ByteArray) (w : World) (hs : s.size ≤ 10000) :
    Calls Tryd.prog 16 #[.string s] w fun e w' => ∃ v, e = .returned v ∧ Own w' w.heap.size v (qF s) ∧ Below w.heap.size w w' := by
  have hb0 := one_alloc w #[] 37
  have ho0 := row_lit0 w w.heap.size (Nat.le_refl _)
  have hc := refsplit_any s 38 (w.alloc (.cells #[] 37)) (by omega)
  have HQ : Hid (qF s = ((splB 38 s.data.toList).filterMap qP).map toF) := rfl
  have hlen := splB_len 38 s.data.toList
  rw [size_list] at hlen
  have HPT := hide (splB_part 38 s.data.toList)
  rw [size_list] at HPT
  generalize splB 38 s.data.toList = P at hc HQ hlen HPT
  go_enter Tryd.func16, Tryd.ntmps16
  go_wp2_with fail
  refine hc.mono ?_
  rintro e w1 ⟨vS, rfl, hS, hb1⟩
  have hrs := RowS.of hS
  obtain ⟨aS, cS, rfl, hcS, hRS⟩ := hrs
  have HRS : Hid (RowS w1 (.slice aS P.length cS) P) := ⟨aS, cS, rfl, hcS, hRS⟩
  have ho1 := owns_below ho0 hb1
  have hB1 := hb0.trans (hb1.mono hb0.size)
  clear hS hRS hc ho0 hb0 hb1
  go_wp2_with fail
  go_loopw [3, 5, 6, 7, 8, 13] (fun vo _ _ _ _ i wr => ∃ k : Nat, k ≤ P.length ∧ i = .int .i64 k ∧ Own wr w.heap.size vo (((P.take k).filterMap qP).map toF) ∧ Below w.heap.size w wr ∧ Hid (RowS wr (.slice aS P.length cS) P)) (fun _ _ _ _ _ i _ => P.length - (intOf i).toNat)
  case atStart => exact ⟨0, Nat.zero_le _, rfl, ho1, hB1, HRS⟩
  case round =>
    obtain ⟨k, hk, rfl, hown, hbr, hrs⟩ := hrel
    have hsz := hbr.size
    by_cases hlt : k < P.length
    · have hltz : (k : Int) < P.length := by omega
      obtain ⟨a', cap', he, hc', hR'⟩ := hrs.out
      cases he
      obtain ⟨g, rfl, -, hcell⟩ := hR' k hlt
      have HN := hide (fm_next hlt qP)
      have HCT := hide (fm_count qP P k)
      have hxl := HPT.out _ (List.getElem_mem hlt)
      obtain ⟨D, hD⟩ : ∃ D, ((P.take k).filterMap qP).map toF = D := ⟨_, rfl⟩
      rw [hD] at hown HN HCT
      generalize P[k] = x at hcell HN hxl
      clear hR' hD
      by_cases hx : x = []
      · subst hx
        have HN2 : Hid (((P.take (k + 1)).filterMap qP).map toF = D) := by unfold Hid; rw [HN.out]; simp [qP]
        clear HN
        have hemp : (bs []).toList.isEmpty = true := by rw [bs_empty]; rfl
        go_wp2_with fail
        refine ⟨⟨k + 1, by omega, by go_num, by rw [HN2.out]; exact hown, hbr, hrs⟩, by simp [intOf]; omega⟩
      · have hne : (bs x).toList.isEmpty = false := by rw [bs_empty]; simpa using hx
        have HN2 : Hid (((P.take (k + 1)).filterMap qP).map toF = D ++ [rvQ x]) := by unfold Hid; rw [HN.out]; unfold qP; rw [if_neg hx]; rfl
        have hcu := refcut_any (bs x) 61 wr (by rw [bs_size]; omega)
        rw [bef_bs, aft_bs, has_bs] at hcu
        have h1 := bf_le 61 x
        have h2 := af_le 61 x
        have hp1 := fun W => refplain_any (bs (bfL 61 x)) W (by rw [bs_size]; omega)
        have hp2 := fun W => refplain_any (bs (afL 61 x)) W (by rw [bs_size]; omega)
        rw [bs_list] at hp1 hp2
        have HF : Hid (rvQ x = (⟨(decL (bfL 61 x)).toArray⟩, ⟨(decL (afL 61 x)).toArray⟩)) := rfl
        have HP1 := hide hp1
        have HP2 := hide hp2
        clear hp1 hp2 h1 h2 hx HN
        generalize rvQ x = f at HN2 HF
        generalize bs (bfL 61 x) = y1 at *
        generalize bs (afL 61 x) = y2 at *
        generalize (⟨(decL (bfL 61 x)).toArray⟩ : ByteArray) = z1 at *
        generalize (⟨(decL (afL 61 x)).toArray⟩ : ByteArray) = z2 at *
        have hdl : D.length ≤ 10001 := by have := HCT.out; omega
        go_wp2_with fail
        refine hcu.mono ?_
        rintro e w2 ⟨rfl, n2, rfl⟩
        go_wp2_with fail
        refine (HP1.out _).mono ?_
        rintro e w3 ⟨rfl, hb3⟩
        go_wp2_with fail
        refine (HP2.out _).mono ?_
        rintro e w4 ⟨rfl, hb4⟩
        have hb34 : Below wr.heap.size wr w4 := by
          have h := (below_drewN (Below.refl wr.heap.size wr) n2).trans (hb3.mono (Nat.le_refl _))
          exact h.trans (hb4.mono h.size)
        have hown4 := Own.below hown hb34
        have hB4 := hbr.trans (hb34.mono hbr.size)
        have hrs4 := RowS.below hrs.out hb34
        have HR4 := hide hrs4
        have HX := hide (And.intro (Own.below hown4 (one_alloc w4 #[.string z1, .string z2] 37)) (And.intro (row_new (w := w4) (z1, z2)) (And.intro (hB4.alloc hB4.size (.cells #[.string z1, .string z2] 37)) (RowS.below hrs4 (one_alloc w4 #[.string z1, .string z2] 37)))))
        clear hown hown4 hrs hrs4 hb3 hb4 hb34 hcu HP1 HP2 HR4 HRS
        go_wp2_with (at_builtin; refine wpList_append_Row rfl (.tmp 25) (.tmp 31) rfl w.heap.size _ (.slice (some ⟨w4.heap.size, 0, none⟩) 1 1) D [(z1, z2)] rfl rfl HX.out.1 HX.out.2.1 (by simp; omega) HX.out.2.2.1.size ?_; intro v' w5 ho5 hg5)
        have hl5 := HX.out.2.2.1.grown hg5 HX.out.2.2.1.size (fun j hj => own_block HX.out.1 j hj)
        refine ⟨⟨k + 1, by omega, by go_num, by rw [HN2.out, HF.out]; exact ho5, hl5, RowS.grown HX.out.2.2.2 HX.out.1 hg5⟩, by simp [intOf]; omega⟩
    · have hd : decide ((k : Int) < P.length) = false := decide_eq_false (by omega)
      rw [List.take_of_length_le (by omega)] at hown
      go_wp2_with fail
      go_ret
      exact ⟨_, rfl, by rw [HQ.out]; exact hown, hbr⟩


set_option maxRecDepth 100000 in
set_option maxHeartbeats 4000000 in
theorem refcookies_any (s : ByteArray) (w : World) (hs : s.size ≤ 10000) :
    Calls Tryd.prog 13 #[.string s] w fun e w' => ∃ v, e = .returned v ∧ Own w' w.heap.size v (cF s) ∧ Below w.heap.size w w' := by
  have hb0 := one_alloc w #[] 37
  have ho0 := row_lit0 w w.heap.size (Nat.le_refl _)
  have hc := refsplit_any s 59 (w.alloc (.cells #[] 37)) (by omega)
  have HQ : Hid (cF s = ((splB 59 s.data.toList).filterMap cP).map toF) := rfl
  have hlen := splB_len 59 s.data.toList
  rw [size_list] at hlen
  have HPT := hide (splB_part 59 s.data.toList)
  rw [size_list] at HPT
  generalize splB 59 s.data.toList = P at hc HQ hlen HPT
  go_enter Tryd.func13, Tryd.ntmps13
  go_wp2_with fail
  refine hc.mono ?_
  rintro e w1 ⟨vS, rfl, hS, hb1⟩
  have hrs := RowS.of hS
  obtain ⟨aS, cS, rfl, hcS, hRS⟩ := hrs
  have HRS : Hid (RowS w1 (.slice aS P.length cS) P) := ⟨aS, cS, rfl, hcS, hRS⟩
  have ho1 := owns_below ho0 hb1
  have hB1 := hb0.trans (hb1.mono hb0.size)
  clear hS hRS hc ho0 hb0 hb1
  go_wp2_with fail
  go_loopw [3, 5, 6, 7, 8, 9, 10, 11, 12, 17] (fun vo _ _ _ _ _ _ _ _ i wr => ∃ k : Nat, k ≤ P.length ∧ i = .int .i64 k ∧ Own wr w.heap.size vo (((P.take k).filterMap cP).map toF) ∧ Below w.heap.size w wr ∧ Hid (RowS wr (.slice aS P.length cS) P)) (fun _ _ _ _ _ _ _ _ _ i _ => P.length - (intOf i).toNat)
  case atStart => exact ⟨0, Nat.zero_le _, rfl, ho1, hB1, HRS⟩
  case round =>
    obtain ⟨k, hk, rfl, hown, hbr, hrs⟩ := hrel
    have hsz := hbr.size
    by_cases hlt : k < P.length
    · have hltz : (k : Int) < P.length := by omega
      obtain ⟨a', cap', he, hc', hR'⟩ := hrs.out
      cases he
      obtain ⟨g, rfl, -, hcell⟩ := hR' k hlt
      have HN := hide (fm_next hlt cP)
      have HCT := hide (fm_count cP P k)
      have hxl := HPT.out _ (List.getElem_mem hlt)
      obtain ⟨D, hD⟩ : ∃ D, ((P.take k).filterMap cP).map toF = D := ⟨_, rfl⟩
      rw [hD] at hown HN HCT
      generalize P[k] = x at hcell HN hxl
      clear hR' hD
      have hcu := refcut_any (bs x) 61 wr (by rw [bs_size]; omega)
      rw [bef_bs, aft_bs, has_bs] at hcu
      have h1 := bf_le 61 x
      have h2 := af_le 61 x
      have h3 := trimL_le (afL 61 x)
      have hp1 := fun W => reftrim_any (bs (bfL 61 x)) W (by rw [bs_size]; omega)
      have hp2 := fun W => reftrim_any (bs (afL 61 x)) W (by rw [bs_size]; omega)
      have hp3 := fun W => refunquote_any (bs (trimL (afL 61 x))) W (by rw [bs_size]; omega)
      rw [trim_bs] at hp1 hp2
      have HE : Hid ((quoB (bs (trimL (afL 61 x))) = true ∧ uS (bs (trimL (afL 61 x))) = bs (unqV (trimL (afL 61 x))) ∧ uE (bs (trimL (afL 61 x))) = 0) ∨ (quoB (bs (trimL (afL 61 x))) = false ∧ bs (unqV (trimL (afL 61 x))) = bs (trimL (afL 61 x)) ∧ uE (bs (trimL (afL 61 x))) = 11)) := by
        cases hq : quoB (bs (trimL (afL 61 x))) with
        | true => exact .inl ⟨rfl, unq_of hq⟩
        | false => exact .inr ⟨rfl, by rw [(unq_not hq).1], (unq_not hq).2⟩
      have HF : Hid ((roC x = true → ((P.take (k + 1)).filterMap cP).map toF = D ++ [(bs (trimL (bfL 61 x)), bs (unqV (trimL (afL 61 x))))]) ∧ (roC x = false → ((P.take (k + 1)).filterMap cP).map toF = D)) := by
        constructor
        · intro h
          rw [HN.out]
          unfold roC at h
          rw [Bool.and_eq_true, Bool.not_eq_true', List.isEmpty_eq_false_iff] at h
          unfold cP
          rw [if_pos h]; rfl
        · intro h
          rw [HN.out]
          unfold roC at h
          unfold cP
          rw [if_neg]
          · simp
          · rintro ⟨g1, g2⟩
            rw [g1, Bool.true_and, Bool.not_eq_false', List.isEmpty_iff] at h
            exact g2 h
      have HO : Hid (roC x = (hvL 61 x && !(bs (trimL (bfL 61 x))).toList.isEmpty)) := by unfold Hid roC; rw [bs_empty]
      have HP1 := hide hp1
      have HP2 := hide hp2
      have HP3 := hide hp3
      clear hp1 hp2 hp3 h1 h2 h3 HN
      generalize roC x = ok at HF HO
      generalize uS (bs (trimL (afL 61 x))) = qs at *
      generalize uE (bs (trimL (afL 61 x))) = qe at *
      generalize bs (unqV (trimL (afL 61 x))) = z2 at *
      generalize bs (trimL (afL 61 x)) = y3 at *
      generalize bs (trimL (bfL 61 x)) = z1 at *
      generalize bs (bfL 61 x) = y1 at *
      generalize bs (afL 61 x) = y2 at *
      generalize hvL 61 x = h at *
      have hdl : D.length ≤ 10001 := by have := HCT.out; omega
      go_wp2_with fail
      refine hcu.mono ?_
      rintro e w2 ⟨rfl, n2, rfl⟩
      have hb34 : Below wr.heap.size wr (wr.drewN n2) := below_drewN (Below.refl wr.heap.size wr) n2
      generalize wr.drewN n2 = w4 at hb34 ⊢
      have hown4 := Own.below hown hb34
      have hB4 := hbr.trans (hb34.mono hbr.size)
      have hrs4 := RowS.below hrs.out hb34
      have HR4 := hide hrs4
      clear hown hrs hb34 hcu HRS hrs4
      go_wp2_with fail
      refine (HP1.out _).mono ?_
      rintro e w3 ⟨rfl, rfl⟩
      go_wp2_with fail
      refine (HP2.out _).mono ?_
      rintro e w3 ⟨rfl, rfl⟩
      go_wp2_with fail
      refine (HP3.out _).mono ?_
      rintro e w3 ⟨rfl, rfl⟩
      rcases HE.out with ⟨hq1, rfl, rfl⟩ | ⟨hq1, rfl, rfl⟩
      · clear HE hq1
        have HX := hide (And.intro (Own.below hown4 (one_alloc _ #[.string z1, .string qs] 37)) (And.intro (row_new (w := w3) (z1, qs)) (And.intro (hB4.alloc hB4.size (.cells #[.string z1, .string qs] 37)) (RowS.below HR4.out (one_alloc _ #[.string z1, .string qs] 37)))))
        cases h with
        | false =>
          have HK := hide (HF.out.2 (by rw [HO.out]; rfl))
          clear HF HO HX
          go_wp2_with fail
          refine ⟨⟨k + 1, by omega, by go_num, by rw [HK.out]; exact hown4, hB4, HR4⟩, by simp [intOf]; omega⟩
        | true =>
          cases hz1 : z1.toList.isEmpty with
          | true =>
            have HK := hide (HF.out.2 (by rw [HO.out, hz1]; rfl))
            clear HF HO HX
            go_wp2_with fail
            refine ⟨⟨k + 1, by omega, by go_num, by rw [HK.out]; exact hown4, hB4, HR4⟩, by simp [intOf]; omega⟩
          | false =>
            have HK := hide (HF.out.1 (by rw [HO.out, hz1]; rfl))
            clear HF HO hown4 HR4
            go_wp2_with (at_builtin; refine wpList_append_Row rfl (.tmp 44) (.tmp 48) rfl w.heap.size _ (.slice (some ⟨w3.heap.size, 0, none⟩) 1 1) D [(z1, qs)] rfl rfl HX.out.1 HX.out.2.1 (by simp; omega) HX.out.2.2.1.size ?_; intro v' w5 ho5 hg5)
            have hl5 := HX.out.2.2.1.grown hg5 HX.out.2.2.1.size (fun j hj => own_block HX.out.1 j hj)
            refine ⟨⟨k + 1, by omega, by go_num, by rw [HK.out]; exact ho5, hl5, RowS.grown HX.out.2.2.2 HX.out.1 hg5⟩, by simp [intOf]; omega⟩
      · clear HE hq1
        have HX := hide (And.intro (Own.below hown4 (one_alloc _ #[.string z1, .string z2] 37)) (And.intro (row_new (w := w3) (z1, z2)) (And.intro (hB4.alloc hB4.size (.cells #[.string z1, .string z2] 37)) (RowS.below HR4.out (one_alloc _ #[.string z1, .string z2] 37)))))
        cases h with
        | false =>
          have HK := hide (HF.out.2 (by rw [HO.out]; rfl))
          clear HF HO HX
          go_wp2_with fail
          refine ⟨⟨k + 1, by omega, by go_num, by rw [HK.out]; exact hown4, hB4, HR4⟩, by simp [intOf]; omega⟩
        | true =>
          cases hz1 : z1.toList.isEmpty with
          | true =>
            have HK := hide (HF.out.2 (by rw [HO.out, hz1]; rfl))
            clear HF HO HX
            go_wp2_with fail
            refine ⟨⟨k + 1, by omega, by go_num, by rw [HK.out]; exact hown4, hB4, HR4⟩, by simp [intOf]; omega⟩
          | false =>
            have HK := hide (HF.out.1 (by rw [HO.out, hz1]; rfl))
            clear HF HO hown4 HR4
            go_wp2_with (at_builtin; refine wpList_append_Row rfl (.tmp 44) (.tmp 48) rfl w.heap.size _ (.slice (some ⟨w3.heap.size, 0, none⟩) 1 1) D [(z1, z2)] rfl rfl HX.out.1 HX.out.2.1 (by simp; omega) HX.out.2.2.1.size ?_; intro v' w5 ho5 hg5)
            have hl5 := HX.out.2.2.1.grown hg5 HX.out.2.2.1.size (fun j hj => own_block HX.out.1 j hj)
            refine ⟨⟨k + 1, by omega, by go_num, by rw [HK.out]; exact ho5, hl5, RowS.grown HX.out.2.2.2 HX.out.1 hg5⟩, by simp [intOf]; omega⟩
    · have hd : decide ((k : Int) < P.length) = false := decide_eq_false (by omega)
      rw [List.take_of_length_le (by omega)] at hown
      go_wp2_with fail
      go_ret
      exact ⟨_, rfl, by rw [HQ.out]; exact hown, hbr⟩

end Go.Proofs.YtgnpeggffeoenaaDoor
