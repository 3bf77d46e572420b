/- The walk of HeadJoins. -/
import Derived.Test.YteeipaijdoneeaaAl
namespace Go.Proofs.Yteeipaijdoneeaa
set_option linter.unusedVariables false
set_option linter.unusedSimpArgs false
open Go.RowKit

/-- Two heads, one behind the other, are the fields of both, and so are they where the first one's lines are ended by 10 alone. -/
theorem jo_two {M N : List Fd} {t u : ByteArray} (h : prE M = 0) (g : prE N = 0) (ht : prS M = t) (hu : prS N = u) (hn : M.length + N.length ≤ 40) (hl : t.size + u.size ≤ 4000) :
    psU (t ++ u).data.toList = (M ++ N, 0) ∧ psU (bs (t.data.toList.filter (neB 13)) ++ u).data.toList = (M ++ N, 0) := by
  obtain ⟨h1, h2, h3⟩ := pr_ok h
  obtain ⟨g1, g2, g3⟩ := pr_ok g
  have htl : t.data.toList = wrL M := by rw [← ht, h3, bs_list]
  have hul : u.data.toList = wrL N := by rw [← hu, g3, bs_list]
  have hlen : (wrL M).length + (wrL N).length ≤ 4000 := by rw [← htl, ← hul, size_list, size_list]; exact hl
  refine ⟨?_, ?_⟩
  · rw [app_list, htl, hul]; exact ps_two h1 g1 hn hlen
  · rw [app_list, bs_list, htl, hul, bar_filter (right_parts h1).2]; exact ps_bar h1 g1 hn hlen
theorem bare_snoc (o t : ByteArray) (k : Nat) (hk : k < t.size) (l : List UInt8) (ho : o = bs l) : o ++ t.extract k (k + 1) = bs (l ++ [t[k]]) := by
  apply bytes_ext
  rw [app_list, ho, bs_list, bs_list]
  congr 1
  have h : (t.extract k (k + 1)).data.toList = (t.data.toList.drop k).take 1 := by simp [ByteArray.data_extract, List.extract_eq_take_drop]
  rw [h, List.drop_eq_getElem_cons (by rw [size_list]; exact hk), get_at t k hk]
  rfl

set_option maxRecDepth 100000 in
set_option maxHeartbeats 8000000 in
theorem joins_walk (L : List Fd) (ad : Option Addr) (cap : Nat) (L' : List Fd) (ad' : Option Addr) (cap' : Nat) (w : World) (hr : Row w (.slice ad L.length cap) L) (hcm : cap ≤ maxLen) (hs : ∀ f ∈ L, f.1.size ≤ maxLen ∧ f.2.size ≤ maxLen) (hr' : Row w (.slice ad' L'.length cap') L') (hcm' : cap' ≤ maxLen) (hs' : ∀ f ∈ L', f.1.size ≤ maxLen ∧ f.2.size ≤ maxLen) :
    Calls Try.prog 6 #[.slice ad L.length cap, .slice ad' L'.length cap'] w fun e w' => e = .returned (.bool true) ∧ Below w.heap.size w w' := by
  have HR := hide hr
  have HS := hide hs
  have HR' := hide hr'
  have HS' := hide hs'
  clear hr hs hr' hs'
  go_enter Try.func6, Try.ntmps6
  go_wp2_with fail
  refine (few_any L ad cap _ HR.out hcm HS.out).mono ?_
  rintro e w1 ⟨r, M, rfl, hrow, hlen, hsh, hb1⟩
  obtain ⟨am, cm, rfl⟩ := hrow.slice
  have HM1 := hide hrow
  have HSM := hide (short_ok hsh)
  clear hrow hsh
  go_wp2_with fail
  refine (few_any L' ad' cap' _ (HR'.out.below hb1) hcm' HS'.out).mono ?_
  rintro e w2 ⟨r, N, rfl, hrow, hlenN, hsh, hb2⟩
  obtain ⟨an, cn, rfl⟩ := hrow.slice
  have hB2 := hb1.trans (hb2.mono hb1.size)
  have HM2 := hide (And.intro (HM1.out.below hb2) hrow)
  have HSN := hide (short_ok hsh)
  clear hrow hsh HR HS HR' HS' HM1 hb1 hb2
  go_wp2_with fail
  refine (print_any M _ w2 HM2.out.1 (by omega) HSM.out).mono ?_
  rintro e w3 ⟨rfl, hb3⟩
  have hB3 := hB2.trans (hb3.mono hB2.size)
  have HM3 := hide (And.intro (HM2.out.1.below hb3) (HM2.out.2.below hb3))
  clear hb3 hB2 HM2
  obtain ⟨c, hc⟩ : ∃ c, prE M = c := ⟨_, rfl⟩
  obtain ⟨t, ht⟩ : ∃ t, prS M = t := ⟨_, rfl⟩
  have hts := prS_size M
  rw [ht] at hts
  rw [hc, ht]
  have HC := hide hc
  have HT := hide ht
  clear hc ht
  go_wp2_with fail
  refine (print_any N _ w3 HM3.out.2 (by omega) HSN.out).mono ?_
  rintro e w4 ⟨rfl, hb4⟩
  have hB4 := hB3.trans (hb4.mono hB3.size)
  have HM4 := hide (And.intro (HM3.out.1.below hb4) (HM3.out.2.below hb4))
  clear hb4 hB3 HM3
  obtain ⟨d, hd⟩ : ∃ d, prE N = d := ⟨_, rfl⟩
  obtain ⟨u, hu⟩ : ∃ u, prS N = u := ⟨_, rfl⟩
  have hus := prS_size N
  rw [hu] at hus
  rw [hd, hu]
  have HD := hide hd
  have HU := hide hu
  clear hd hu
  by_cases hc : c = 0
  · subst hc
    by_cases hd : d = 0
    · subst hd
      have hwl : IntKind.i64.wrap ((M.length : Int) + (N.length : Int)) = (M.length : Int) + (N.length : Int) := i64_wrap_id _ (by omega) (by omega)
      by_cases h40 : 40 < M.length + N.length
      · have h40z : (40 : Int) < (M.length : Int) + (N.length : Int) := by omega
        go_wp2_with fail
        refine (alive_any _).mono ?_
        rintro e w5 ⟨rfl, hb5⟩
        go_wp2_with fail
        go_ret
        exact ⟨rfl, hB4.trans (hb5.mono hB4.size)⟩
      · have h40z : decide ((40 : Int) < (M.length : Int) + (N.length : Int)) = false := decide_eq_false (by omega)
        have hwt : IntKind.i64.wrap ((t.size : Int) + (u.size : Int)) = (t.size : Int) + (u.size : Int) := i64_wrap_id _ (by omega) (by omega)
        by_cases h4 : 4000 < t.size + u.size
        · have h4z : (4000 : Int) < (t.size : Int) + (u.size : Int) := by omega
          go_wp2_with fail
          refine (alive_any _).mono ?_
          rintro e w5 ⟨rfl, hb5⟩
          go_wp2_with fail
          go_ret
          exact ⟨rfl, hB4.trans (hb5.mono hB4.size)⟩
        · have h4z : decide ((4000 : Int) < (t.size : Int) + (u.size : Int)) = false := decide_eq_false (by omega)
          have hj := jo_two HC.out HD.out HT.out HU.out (by omega) (by omega)
          have HDL : Hid ((M ++ N).length ≤ 1000000) := by unfold Hid; rw [List.length_append]; omega
          obtain ⟨D, hD⟩ : ∃ D, M ++ N = D := ⟨_, rfl⟩
          rw [hD] at hj HDL
          have HDD := hide hD
          clear hD
          have H1 := hide (parse_any (t ++ u))
          rw [hj.1] at H1
          have H2 := hide (parse_any (bs (t.data.toList.filter (neB 13)) ++ u))
          rw [hj.2] at H2
          have hfl : (t.data.toList.filter (neB 13)).length ≤ t.size := by rw [← size_list]; exact List.length_filter_le _ _
          have HZ1 : Hid ((t ++ u).size ≤ 10000) := by unfold Hid; rw [ByteArray.size_append]; omega
          have HZ2 : Hid ((bs (t.data.toList.filter (neB 13)) ++ u).size ≤ 10000) := by unfold Hid; rw [ByteArray.size_append, bs_size]; omega
          clear hj HC HD HT HU hfl
          go_wp2_with fail
          refine (H1.out _ HZ1.out).mono ?_
          rintro e w5 ⟨v5, rfl, hr5, hb5⟩
          obtain ⟨a5, c5, rfl⟩ := hr5.slice
          have hB5 := hB4.trans (hb5.mono hB4.size)
          have HM5 := hide (And.intro (HM4.out.1.below hb5) (And.intro (HM4.out.2.below hb5) hr5))
          clear hb5 hr5 hB4 HM4 H1 HZ1
          go_wp2_with fail
          go_loop [11, 12, 62] (fun b _ i => ∃ k : Nat, k ≤ t.size ∧ i = .int .i64 k ∧ b = .string (bs ((t.data.toList.take k).filter (neB 13)))) (fun _ _ i => t.size - (intOf i).toNat)
          case atStart => exact ⟨0, Nat.zero_le _, rfl, rfl⟩
          case round =>
            obtain ⟨k, hk, rfl, rfl⟩ := hrel
            by_cases hlt : k < t.size
            · have hltz : (k : Int) < t.size := by omega
              have HT : Hid (t.data.toList.take (k + 1) = t.data.toList.take k ++ [t[k]]) := by
                unfold Hid; rw [take_snoc _ k (by rw [size_list]; exact hlt), get_at t k hlt]
              have hol : ((t.data.toList.take k).filter (neB 13)).length ≤ 4000 := by
                have := List.length_filter_le (neB 13) (t.data.toList.take k)
                rw [List.length_take] at this
                omega
              obtain ⟨o, ho⟩ : ∃ o, bs ((t.data.toList.take k).filter (neB 13)) = o := ⟨_, rfl⟩
              have hos : o.size ≤ 4000 := by rw [← ho, bs_size]; exact hol
              have HSN := hide (bare_snoc o t k hlt _ ho.symm)
              have HO := hide ho
              rw [ho]
              clear ho hol
              by_cases hb : t[k] = 13
              · have hbd : (((t[k]).toNat : Int) != 13) = false := by rw [hb]; rfl
                have HF : Hid (o = bs ((t.data.toList.take (k + 1)).filter (neB 13))) := by
                  unfold Hid; rw [HT.out, List.filter_append, ← HO.out, hb]
                  have : List.filter (neB 13) [13] = [] := by decide
                  rw [this, List.append_nil]
                clear hb HSN
                go_wp2_with fail
                exact ⟨⟨k + 1, by omega, by go_num, by rw [← HF.out]⟩, by simp [intOf]; omega⟩
              · have hbd : (((t[k]).toNat : Int) != 13) = true := by
                  rw [bne_iff_ne]
                  intro e
                  exact hb (UInt8.toNat_inj.1 (by rw [show (13 : UInt8).toNat = 13 from rfl]; omega))
                have HF : Hid (o ++ t.extract k (k + 1) = bs ((t.data.toList.take (k + 1)).filter (neB 13))) := by
                  unfold Hid; rw [HSN.out, HT.out, List.filter_append]
                  have : List.filter (neB 13) [t[k]] = [t[k]] := by simp [neB, hb]
                  rw [this]
                clear hb HSN
                go_wp2_with fail
                exact ⟨⟨k + 1, by omega, by go_num, by rw [← HF.out]⟩, by simp [intOf]; omega⟩
            · have hd : decide ((k : Int) < t.size) = false := decide_eq_false (by omega)
              rw [List.take_of_length_le (by rw [size_list]; omega)]
              generalize hbe : bs (t.data.toList.filter (neB 13)) = b at H2 HZ2 ⊢
              have hbs : b.size ≤ 4000 := by
                rw [← hbe, bs_size]
                have := List.length_filter_le (neB 13) t.data.toList
                rw [size_list] at this
                omega
              clear hbe
              go_wp2_with fail
              refine (H2.out _ HZ2.out).mono ?_
              rintro e w6 ⟨v6, rfl, hr6, hb6⟩
              obtain ⟨a6, c6, rfl⟩ := hr6.slice
              have hB6 := hB5.trans (hb6.mono hB5.size)
              have HM6 := hide (And.intro (HM5.out.1.below hb6) (And.intro (HM5.out.2.1.below hb6) (And.intro (HM5.out.2.2.below hb6) hr6)))
              clear hb6 hr6 hB5 HM5 H2 HZ2
              have hb7 := one_alloc w6 #[] 38
              have HX := hide (And.intro (show Own (w6.alloc (.cells #[] 38)) w6.heap.size (.slice (some ⟨w6.heap.size, 0, none⟩) 0 0) [] from World.ownsRow_lit w6 #[] 0 (Nat.le_refl _) (by decide) rfl) (And.intro (HM6.out.1.below hb7) hb7))
              clear hb7
              go_wp2_with (first
                | (at_builtin; refine wpList_append_Row rfl (.tmp 84) (.tmp 85) rfl w6.heap.size (.slice (some ⟨w6.heap.size, 0, none⟩) 0 0) (.slice am M.length cm) [] M rfl rfl HX.out.1 HX.out.2.1 (by simp; omega) HX.out.2.2.size ?_; intro v8 w8 ho8 hg8; rw [List.nil_append] at ho8; have hb8 := HX.out.2.2.grown hg8 HX.out.2.2.size (own_block HX.out.1))
                | (at_builtin; refine wpList_append_Row rfl (.tmp 86) (.tmp 87) rfl w6.heap.size v8 (.slice an N.length cn) M N rfl rfl ho8 (HM6.out.2.1.below hb8) (by omega) hb8.size ?_; intro v9 w9 ho9 hg9; have hb9 := hb8.grown hg9 hb8.size (own_block ho8)))
              rw [HDD.out] at ho9
              have hB9 := hB6.trans (hb9.mono hB6.size)
              have HM9 := hide (And.intro ho9.row (And.intro (HM6.out.2.2.1.below hb9) (HM6.out.2.2.2.below hb9)))
              clear HX HM6 hB6 hb8 hb9 ho8 hg8 hg9
              obtain ⟨a9, c9, rfl⟩ := ho9.row.slice
              clear ho9
              refine (alive_any _).mono ?_
              rintro e w10 ⟨rfl, hb10⟩
              have hB10 := hB9.trans (hb10.mono hB9.size)
              have HM10 := hide (And.intro (HM9.out.1.below hb10) (And.intro (HM9.out.2.1.below hb10) (HM9.out.2.2.below hb10)))
              clear hb10 hB9 HM9
              go_wp2_with fail
              refine (like_same D _ _ w10 HM10.out.2.1 HM10.out.1 HDL.out).mono ?_
              rintro e w11 ⟨rfl, hb11⟩
              have hB11 := hB10.trans (hb11.mono hB10.size)
              have HM11 := hide (And.intro (HM10.out.1.below hb11) (HM10.out.2.2.below hb11))
              clear hb11 hB10 HM10
              go_wp2_with fail
              refine (like_same D _ _ w11 HM11.out.2 HM11.out.1 HDL.out).mono ?_
              rintro e w12 ⟨rfl, hb12⟩
              go_wp2_with fail
              go_ret
              exact ⟨rfl, hB11.trans (hb12.mono hB11.size)⟩
    · have hdz : (d != 0) = true := by simpa using hd
      go_wp2_with fail
      refine (alive_any _).mono ?_
      rintro e w5 ⟨rfl, hb5⟩
      go_wp2_with fail
      go_ret
      exact ⟨rfl, hB4.trans (hb5.mono hB4.size)⟩
  · have hcz : (c != 0) = true := by simpa using hc
    go_wp2_with fail
    refine (alive_any _).mono ?_
    rintro e w5 ⟨rfl, hb5⟩
    go_wp2_with fail
    go_ret
    exact ⟨rfl, hB4.trans (hb5.mono hB4.size)⟩

end Go.Proofs.Yteeipaijdoneeaa
