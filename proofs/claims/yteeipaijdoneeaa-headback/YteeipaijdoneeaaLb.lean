/- The walk of HeadBack. -/
import Derived.Test.YteeipaijdoneeaaAl
namespace Go.Proofs.Yteeipaijdoneeaa
set_option linter.unusedVariables false
set_option linter.unusedSimpArgs false
open Go.RowKit

set_option maxRecDepth 100000 in
set_option maxHeartbeats 8000000 in
theorem back_walk (L : List Fd) (ad : Option Addr) (cap : Nat) (s : ByteArray) (w : World) (hr : Row w (.slice ad L.length cap) L) (hcm : cap ≤ maxLen) (hs : ∀ f ∈ L, f.1.size ≤ maxLen ∧ f.2.size ≤ maxLen) (hws : s.size ≤ maxLen) :
    Calls Try.prog 4 #[.slice ad L.length cap, .string s] w fun e w' => e = .returned (.bool true) ∧ Below w.heap.size w w' := by
  have HR := hide (show Row w.drew (.slice ad L.length cap) L from hr)
  have HS := hide hs
  clear hr hs
  obtain ⟨p, hp⟩ : ∃ p : Nat, p = min s.size 5000 := ⟨_, rfl⟩
  have hp1 : p ≤ s.size := by omega
  have hp2 : p ≤ 5000 := by omega
  have HP := hide hp
  clear hp
  go_enter Try.func4, Try.ntmps4
  go_wp2_with fail
  go_cut [0, 1] (fun s0 s1 wc => ∃ (ar : Option Addr) (cr : Nat) (M : List Fd) (x : ByteArray), s0 = .slice ar M.length cr ∧ s1 = .string x ∧ x.size ≤ 5000 ∧ Row wc (.slice ar M.length cr) M ∧ M.length ≤ 45 ∧ Sh M ∧ Below w.heap.size w wc)
  case first =>
    refine wp_region_held_drew (S := (fun _ => True)) (by kernel_rfl) (trivial) (fun hHeld => ?_)
    refine wpAnyH_take (i := 0) (oi := _) (v := .slice ad L.length cap) rfl (by kernel_rfl) (by kernel_rfl) (by kernel_rfl) (fun _ _ _ h => h) (Or.inl ⟨by rfl, fun wS hSw => by go_simp⟩) (by first | trivial | assumption) ?_
    simp only [Act.put, List.setIfInBounds_toArray, List.set_cons_zero, List.set_cons_succ]
    refine wpAnyH_take (i := 2) (oi := _) (v := .string s) rfl (by kernel_rfl) (by kernel_rfl) (by kernel_rfl) (fun _ _ _ h => h) (Or.inl ⟨by rfl, fun wS hSw => by go_simp⟩) (by first | trivial | assumption) ?_
    simp only [Act.put, List.setIfInBounds_toArray, List.set_cons_zero, List.set_cons_succ]
    refine wpAnyH_take (i := 3) (oi := _) (v := .string s) rfl (by kernel_rfl) (by kernel_rfl) (by kernel_rfl) (fun _ _ _ h => h) (Or.inl ⟨by rfl, fun wS hSw => by go_simp⟩) (by first | trivial | assumption) ?_
    simp only [Act.put, List.setIfInBounds_toArray, List.set_cons_zero, List.set_cons_succ]
    refine wpAnyH_take (i := 4) (oi := _) (v := .int .i64 s.size) rfl (by kernel_rfl) (by kernel_rfl) (by kernel_rfl) (fun _ _ _ h => h) (Or.inl ⟨by rfl, fun wS hSw => by go_simp⟩) (by first | trivial | assumption) ?_
    simp only [Act.put, List.setIfInBounds_toArray, List.set_cons_zero, List.set_cons_succ]
    refine wpAnyH_take (i := 5) (oi := _) (v := .int .i64 p) rfl (by kernel_rfl) (by kernel_rfl) (by kernel_rfl) (fun _ _ _ h => h) (Or.inl ⟨by rfl, fun wS hSw => by go_simp; have := HP.out; omega⟩) (by first | trivial | assumption) ?_
    simp only [Act.put, List.setIfInBounds_toArray, List.set_cons_zero, List.set_cons_succ]
    refine wpAnyH_take (i := 6) (oi := _) (v := .string (s.extract 0 p)) rfl (by kernel_rfl) (by kernel_rfl) (by kernel_rfl) (fun _ _ _ h => h) (Or.inl ⟨by rfl, fun wS hSw => by go_simp⟩) (by first | trivial | assumption) ?_
    simp only [Act.put, List.setIfInBounds_toArray, List.set_cons_zero, List.set_cons_succ]
    refine wpAnyH_ready (rs := [1]) (by kernel_rfl) (by simp) ?_
    refine AllReadyH.cons (o := _) rfl (fun K hK => ?_) AllReadyH.nil
    go_simp
    refine (few_any L ad cap _ HR.out hcm HS.out).mono ?_
    rintro e w1 ⟨r, M, rfl, hrow, hlen, hsh, hb1⟩
    refine hK.out _ _ (trivial) (fun hHeld => ?_)
    clear hK K
    refine wpAnyH_ready (rs := [7]) (by kernel_rfl) (by simp) ?_
    refine AllReadyH.cons (o := _) rfl (fun K hK => ?_) AllReadyH.nil
    go_simp
    refine hK.out _ _ (trivial) (fun hHeld => ?_)
    clear hK K
    refine wpAnyH_ready (rs := [8]) (by kernel_rfl) (by simp) ?_
    refine AllReadyH.cons (o := _) rfl (fun K hK => ?_) AllReadyH.nil
    go_simp
    refine hK.out _ _ (trivial) (fun hHeld => ?_)
    clear hK K
    refine wpAnyH_done (by kernel_rfl) ?_ _
    have hsx : (s.extract 0 p).size ≤ 5000 := by rw [ByteArray.size_extract]; omega
    obtain ⟨ar, cr, rfl⟩ := hrow.slice
    go_wp2_with fail
    go_meet
    exact ⟨ar, cr, M, _, rfl, rfl, hsx, hrow, hlen, short_ok hsh, below_start hb1⟩
  case rest =>
  obtain ⟨ar, cr, M, x, rfl, rfl, hsx, hrow, hlen, hsh, hB1⟩ := hcut
  have HROW := hide hrow
  have HSH := hide hsh
  clear hrow hsh HR HS HP hp1 hp2
  go_wp2_with fail
  refine (print_any M _ wc HROW.out (by omega) HSH.out).mono ?_
  rintro e w2 ⟨rfl, hb2⟩
  have hB2 := hB1.trans (hb2.mono hB1.size)
  have HR2 := hide (HROW.out.below hb2)
  have hts := prS_size M
  have HPP := hide (@ps_pr M)
  clear hb2 hB1 HROW HSH
  generalize prS M = t at hts HPP ⊢
  generalize prE M = c at HPP ⊢
  go_upto_if 28 with fail
  go_cut [5, 6, 7, 8] (fun _ _ _ _ wd => Below w.heap.size w wd)
  case first =>
    by_cases hc : c = 0
    · subst hc
      have H1 := hide (parse_any t)
      rw [HPP.out rfl] at H1
      go_wp2_with fail
      refine (H1.out _ (by omega)).mono ?_
      rintro e w3 ⟨v3, rfl, hr3, hb3⟩
      have hB3 := hB2.trans (hb3.mono hB2.size)
      obtain ⟨a3, c3, rfl⟩ := hr3.slice
      have HR3 := hide (And.intro (HR2.out.below hb3) hr3)
      clear hb3 hr3
      go_wp2_with fail
      refine (like_same M _ _ w3 HR3.out.1 HR3.out.2 (by omega)).mono ?_
      rintro e w4 ⟨rfl, hb4⟩
      go_wp2_with fail
      go_meet
      exact hB3.trans (hb4.mono hB3.size)
    · have hcz : (c == 0) = false := by simpa using hc
      go_wp2_with fail
      go_meet
      exact hB2
  case rest =>
    clear hB2 HR2 HPP hts
    have hB1 := hcut
    clear hcut
    have H1 := hide (parse_any x)
    have hN40 := (ps_all x.data.toList).2.1
    have HN0 := hide (ps_all x.data.toList).2.2.1
    have HNS := hide (ps_sh x.data.toList)
    have HNR := hide (ps_right x.data.toList)
    generalize psU x.data.toList = X at H1 hN40 HN0 HNS HNR
    obtain ⟨N, c⟩ := X
    simp only at H1 hN40 HN0 HNS HNR
    go_wp2_with fail
    refine (H1.out _ (by omega)).mono ?_
    rintro e w2 ⟨v2, rfl, hr2, hb2⟩
    have hB2 := hB1.trans (hb2.mono hB1.size)
    obtain ⟨a2, c2, rfl⟩ := hr2.slice
    have HR2 := hide hr2
    clear hb2 hB1 hr2 H1
    by_cases hc : c = 0
    · subst hc
      go_wp2_with fail
      refine (print_any N _ w2 HR2.out (by omega) HNS.out).mono ?_
      rintro e w3 ⟨rfl, hb3⟩
      have hB3 := hB2.trans (hb3.mono hB2.size)
      have HR3 := hide (HR2.out.below hb3)
      have hts := prS_size N
      have HPP := hide (@ps_pr N)
      have hcs : prE N = 0 ∨ prE N = 2 := by
        rcases pr_codes N with h | h | h
        · exact Or.inl h
        · unfold prE at h; rw [HNR.out] at h; simp only [if_true] at h; split at h <;> cases h
        · exact Or.inr h
      clear hb3 hB2 HR2
      generalize prS N = t at hts HPP ⊢
      generalize prE N = c at HPP hcs ⊢
      rcases hcs with rfl | rfl
      · have H2 := hide (parse_any t)
        rw [HPP.out rfl] at H2
        go_wp2_with fail
        refine (H2.out _ (by omega)).mono ?_
        rintro e w4 ⟨v4, rfl, hr4, hb4⟩
        have hB4 := hB3.trans (hb4.mono hB3.size)
        obtain ⟨a4, c4, rfl⟩ := hr4.slice
        have HR4 := hide (And.intro (HR3.out.below hb4) hr4)
        clear hb4 hr4 hB3 HR3
        go_wp2_with fail
        refine (alive_any _).mono ?_
        rintro e w5 ⟨rfl, hb5⟩
        have hB5 := hB4.trans (hb5.mono hB4.size)
        have HR5 := hide (And.intro (HR4.out.1.below hb5) (HR4.out.2.below hb5))
        clear hb5 hB4 HR4
        go_wp2_with fail
        refine (like_same N _ _ w5 HR5.out.1 HR5.out.2 (by omega)).mono ?_
        rintro e w6 ⟨rfl, hb6⟩
        go_wp2_with fail
        go_ret
        exact ⟨rfl, hB5.trans (hb6.mono hB5.size)⟩
      · go_wp2_with fail
        refine (alive_any _).mono ?_
        rintro e w4 ⟨rfl, hb4⟩
        go_wp2_with fail
        go_ret
        exact ⟨rfl, hB3.trans (hb4.mono hB3.size)⟩
    · have hcz : (c != 0) = true := by simpa using hc
      have hN : N = [] := HN0.out hc
      subst hN
      simp only [List.length_nil]
      go_wp2_with fail
      refine (alive_any _).mono ?_
      rintro e w4 ⟨rfl, hb4⟩
      go_wp2_with fail
      go_ret
      exact ⟨rfl, hB2.trans (hb4.mono hB2.size)⟩

end Go.Proofs.Yteeipaijdoneeaa
