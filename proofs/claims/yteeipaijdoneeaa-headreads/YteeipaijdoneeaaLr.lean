/- The walk of HeadReads. -/
import Derived.Test.YteeipaijdoneeaaAl
import Derived.Test.YteeipaijdoneeaaRe
namespace Go.Proofs.Yteeipaijdoneeaa
set_option linter.unusedVariables false
set_option linter.unusedSimpArgs false
open Go.RowKit

set_option maxRecDepth 100000 in
set_option maxHeartbeats 8000000 in
theorem reads_walk (s : ByteArray) (L : List Fd) (ad : Option Addr) (cap : Nat) (w : World) (hws : s.size ≤ maxLen) (hr : Row w (.slice ad L.length cap) L) (hcm : cap ≤ maxLen) (hs : ∀ f ∈ L, f.1.size ≤ maxLen ∧ f.2.size ≤ maxLen) :
    Calls Try.prog 3 #[.string s, .slice ad L.length cap] w fun e w' => e = .returned (.bool true) ∧ Below w.heap.size w w' := by
  have HR := hide (show Row w.drew (.slice ad L.length cap) L from hr)
  have HS := hide hs
  clear hr hs
  obtain ⟨p, hp⟩ : ∃ p : Nat, p = min s.size 5000 := ⟨_, rfl⟩
  have hp1 : p ≤ s.size := by omega
  have hp2 : p ≤ 5000 := by omega
  have HP := hide hp
  clear hp
  go_enter Try.func3, Try.ntmps3
  go_wp2_with fail
  refine wp_region_held_drew (S := (fun _ => True)) (by kernel_rfl) (trivial) (fun hHeld => ?_)
  refine wpAnyH_take (i := 0) (oi := _) (v := .string s) rfl (by kernel_rfl) (by kernel_rfl) (by kernel_rfl) (fun _ _ _ h => h) (Or.inl ⟨by rfl, fun wS hSw => by go_simp⟩) (by first | trivial | assumption) ?_
  simp only [Act.put, List.setIfInBounds_toArray, List.set_cons_zero, List.set_cons_succ]
  refine wpAnyH_take (i := 1) (oi := _) (v := .string s) rfl (by kernel_rfl) (by kernel_rfl) (by kernel_rfl) (fun _ _ _ h => h) (Or.inl ⟨by rfl, fun wS hSw => by go_simp⟩) (by first | trivial | assumption) ?_
  simp only [Act.put, List.setIfInBounds_toArray, List.set_cons_zero, List.set_cons_succ]
  refine wpAnyH_take (i := 2) (oi := _) (v := .int .i64 s.size) rfl (by kernel_rfl) (by kernel_rfl) (by kernel_rfl) (fun _ _ _ h => h) (Or.inl ⟨by rfl, fun wS hSw => by go_simp⟩) (by first | trivial | assumption) ?_
  simp only [Act.put, List.setIfInBounds_toArray, List.set_cons_zero, List.set_cons_succ]
  refine wpAnyH_take (i := 3) (oi := _) (v := .int .i64 p) rfl (by kernel_rfl) (by kernel_rfl) (by kernel_rfl) (fun _ _ _ h => h) (Or.inl ⟨by rfl, fun wS hSw => by go_simp; have := HP.out; omega⟩) (by first | trivial | assumption) ?_
  simp only [Act.put, List.setIfInBounds_toArray, List.set_cons_zero, List.set_cons_succ]
  refine wpAnyH_take (i := 4) (oi := _) (v := .string (s.extract 0 p)) rfl (by kernel_rfl) (by kernel_rfl) (by kernel_rfl) (fun _ _ _ h => h) (Or.inl ⟨by rfl, fun wS hSw => by go_simp⟩) (by first | trivial | assumption) ?_
  simp only [Act.put, List.setIfInBounds_toArray, List.set_cons_zero, List.set_cons_succ]
  refine wpAnyH_take (i := 5) (oi := _) (v := .slice ad L.length cap) rfl (by kernel_rfl) (by kernel_rfl) (by kernel_rfl) (fun _ _ _ h => h) (Or.inl ⟨by rfl, fun wS hSw => by go_simp⟩) (by first | trivial | assumption) ?_
  simp only [Act.put, List.setIfInBounds_toArray, List.set_cons_zero, List.set_cons_succ]
  refine wpAnyH_ready (rs := [6]) (by kernel_rfl) (by simp) ?_
  refine AllReadyH.cons (o := _) rfl (fun K hK => ?_) AllReadyH.nil
  go_simp
  refine (few_any L ad cap _ HR.out hcm HS.out).mono ?_
  rintro e w1 ⟨r, M, rfl, hrow, hlen, hsh, hb1⟩
  refine hK.out _ _ (trivial) (fun hHeld => ?_)
  clear hK K
  refine wpAnyH_ready (rs := [7]) (by kernel_rfl) (by simp) ?_
  refine AllReadyH.cons (o := _) rfl (fun K hK => ?_) AllReadyH.nil
  go_simp
  refine hK.out _ _ (trivial) (fun hHeld => ?_)
  clear hK K
  refine wpAnyH_ready (rs := [8]) (by kernel_rfl) (by simp) ?_
  refine AllReadyH.cons (o := _) rfl (fun K hK => ?_) AllReadyH.nil
  go_simp
  refine hK.out _ _ (trivial) (fun hHeld => ?_)
  clear hK K
  refine wpAnyH_done (by kernel_rfl) ?_ _
  have hsx : (s.extract 0 p).size ≤ 5000 := by rw [ByteArray.size_extract]; omega
  generalize s.extract 0 p = x at hsx ⊢
  have hB1 := below_start hb1
  obtain ⟨ar, cr, rfl⟩ := hrow.slice
  have HR1 := hide hrow
  have HSH := hide (short_ok hsh)
  clear hrow hsh hb1 HR HS HP hp1 hp2
  have H1 := hide (parse_any x)
  have H2 := hide (refparse_any x)
  have hN40 := (ps_all x.data.toList).2.1
  generalize psU x.data.toList = X at H1 H2 hN40
  obtain ⟨N, c⟩ := X
  simp only at H1 H2 hN40
  have H3 := hide (end_any x)
  have H4 := hide (refend_any x)
  generalize enU x.data.toList = Y at H3 H4
  obtain ⟨y, d⟩ := Y
  simp only at H3 H4
  go_wp2_with fail
  refine (H1.out _ (by omega)).mono ?_
  rintro e w2 ⟨v2, rfl, hr2, hb2⟩
  obtain ⟨a2, c2, rfl⟩ := hr2.slice
  have hB2 := hB1.trans (hb2.mono hB1.size)
  have HR2 := hide (And.intro (HR1.out.below hb2) hr2)
  clear hr2 hb2 hB1 HR1 H1
  go_wp2_with fail
  refine (H2.out _ (by omega)).mono ?_
  rintro e w3 ⟨v3, rfl, hr3, hb3⟩
  obtain ⟨a3, c3, rfl⟩ := hr3.slice
  have hB3 := hB2.trans (hb3.mono hB2.size)
  have HR3 := hide (And.intro (HR2.out.1.below hb3) (And.intro (HR2.out.2.below hb3) hr3))
  clear hr3 hb3 hB2 HR2 H2
  go_wp2_with fail
  refine (H3.out _ (by omega)).mono ?_
  rintro e w4 ⟨rfl, hb4⟩
  have hB4 := hB3.trans (hb4.mono hB3.size)
  have HR4 := hide (And.intro (HR3.out.1.below hb4) (And.intro (HR3.out.2.1.below hb4) (HR3.out.2.2.below hb4)))
  clear hb4 hB3 HR3 H3
  go_wp2_with fail
  refine (H4.out _ (by omega)).mono ?_
  rintro e w5 ⟨rfl, rfl⟩
  clear H4
  go_wp2_with fail
  refine (print_any M _ w5 HR4.out.1 (by omega) HSH.out).mono ?_
  rintro e w6 ⟨rfl, hb6⟩
  have hB6 := hB4.trans (hb6.mono hB4.size)
  have HR6 := hide (And.intro (HR4.out.1.below hb6) (And.intro (HR4.out.2.1.below hb6) (HR4.out.2.2.below hb6)))
  clear hb6 hB4 HR4
  have HPN := hide (@pr_not M)
  have HPL := hide (@pr_long M)
  have HPY := hide (@pr_yes M)
  have hts := prS_size M
  generalize prS M = t at HPN HPL HPY hts ⊢
  generalize prE M = q at HPN HPL HPY ⊢
  go_wp2_with fail
  refine (like_same N _ _ w6 HR6.out.2.1 HR6.out.2.2 (by omega)).mono ?_
  rintro e w7 ⟨rfl, hb7⟩
  have hB7 := hB6.trans (hb7.mono hB6.size)
  have HR7 := hide (HR6.out.1.below hb7)
  clear hb7 hB6 HR6
  have hcc : (c != c) = false := by simp
  have hyy : (y != y) = false := by simp
  have hdd : (d != d) = false := by simp
  go_wp2_with fail
  refine (alive_any _).mono ?_
  rintro e w8 ⟨rfl, hb8⟩
  have hB8 := hB7.trans (hb8.mono hB7.size)
  have HR8 := hide (HR7.out.below hb8)
  clear hb8 hB7 HR7
  go_wp2_with fail
  refine (refwrite_any M _ w8 HR8.out (by omega) HSH.out).mono ?_
  rintro e w9 ⟨rfl, hb9⟩
  have hB9 := hB8.trans (hb9.mono hB8.size)
  have HR9 := hide (HR8.out.below hb9)
  clear hb9 hB8 HR8
  have hbw := bs_size (wrL M)
  have HBW : Hid (∀ z, z = (wrL M).length → z = (bs (wrL M)).size) := by intro z hz; rw [hz, hbw]
  go_wp2_with fail
  refine (refright_any M _ w9 HR9.out (by omega) HSH.out).mono ?_
  rintro e w10 ⟨rfl, hb10⟩
  have hB10 := hB9.trans (hb10.mono hB9.size)
  clear hb10 hB9 HR9
  cases hrt : rightF M
  · obtain ⟨rfl, rfl⟩ := HPN.out hrt
    go_wp2_with fail
    go_ret
    exact ⟨rfl, hB10⟩
  · by_cases h4 : 4000 < (wrL M).length
    · obtain ⟨rfl, rfl⟩ := HPL.out hrt h4
      have h4z : (4000 : Int) < ((bs (wrL M)).size : Int) := by omega
      clear HBW
      generalize bs (wrL M) = u at h4z hbw ⊢
      clear hbw
      go_wp2_with fail
      go_ret
      exact ⟨rfl, hB10⟩
    · obtain ⟨rfl, rfl⟩ := HPY.out hrt h4
      have h4z : decide ((4000 : Int) < ((bs (wrL M)).size : Int)) = false := decide_eq_false (by omega)
      clear HPN HPL HPY HBW
      generalize bs (wrL M) = u at h4z hbw hts ⊢
      clear hbw
      go_wp2_with fail
      go_ret
      exact ⟨rfl, hB10⟩

end Go.Proofs.Yteeipaijdoneeaa
