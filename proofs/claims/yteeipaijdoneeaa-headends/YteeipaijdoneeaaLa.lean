/- The walk of HeadEnds. -/
import Derived.Test.YteeipaijdoneeaaAl
namespace Go.Proofs.Yteeipaijdoneeaa
set_option linter.unusedVariables false
set_option linter.unusedSimpArgs false
open Go.RowKit

theorem en_crlf {M : List Fd} {t : ByteArray} (h : rightF M = true) (ht : t.data.toList = wrL M) (hl : t.size ≤ 3900) (x : ByteArray) : enU (t ++ ⟨#[13, 10]⟩ ++ x).data.toList = ((t.size : Int) + 2, 0) := by
  have := en_two h (by rw [← ht, size_list]; exact hl) x.data.toList
  rw [← ht, size_list] at this
  rw [← this]
  congr 1
  simp
theorem en_lf {M : List Fd} {t : ByteArray} (h : rightF M = true) (ht : t.data.toList = wrL M) (hl : t.size ≤ 3900) (x : ByteArray) : enU (t ++ ⟨#[10]⟩ ++ x).data.toList = ((t.size : Int) + 1, 0) := by
  have := en_one h (by rw [← ht, size_list]; exact hl) x.data.toList
  rw [← ht, size_list] at this
  rw [← this]
  congr 1
  simp
theorem en_bare {M : List Fd} {t : ByteArray} (h : rightF M = true) (ht : t.data.toList = wrL M) (hl : t.size ≤ 3900) : enU t.data.toList = (0, 3) := by
  rw [ht]
  exact en_none h (by rw [← ht, size_list]; exact hl)

set_option maxRecDepth 100000 in
set_option maxHeartbeats 8000000 in
theorem ends_walk (L : List Fd) (ad : Option Addr) (cap : Nat) (s : ByteArray) (w : World) (hr : Row w (.slice ad L.length cap) L) (hcm : cap ≤ maxLen) (hs : ∀ f ∈ L, f.1.size ≤ maxLen ∧ f.2.size ≤ maxLen) (hws : s.size ≤ maxLen) :
    Calls Try.prog 5 #[.slice ad L.length cap, .string s] w fun e w' => e = .returned (.bool true) ∧ Below w.heap.size w w' := by
  have HR := hide (show Row w.drew (.slice ad L.length cap) L from hr)
  have HS := hide hs
  clear hr hs
  obtain ⟨p, hp⟩ : ∃ p : Nat, p = min s.size 500 := ⟨_, rfl⟩
  have hp1 : p ≤ s.size := by omega
  have hp2 : p ≤ 500 := by omega
  have HP := hide hp
  clear hp
  go_enter Try.func5, Try.ntmps5
  go_wp2_with fail
  refine wp_region_held_drew (S := (fun _ => True)) (by kernel_rfl) (trivial) (fun hHeld => ?_)
  refine wpAnyH_take (i := 0) (oi := _) (v := .slice ad L.length cap) rfl (by kernel_rfl) (by kernel_rfl) (by kernel_rfl) (fun _ _ _ h => h) (Or.inl ⟨by rfl, fun wS hSw => by go_simp⟩) (by first | trivial | assumption) ?_
  simp only [Act.put, List.setIfInBounds_toArray, List.set_cons_zero, List.set_cons_succ]
  refine wpAnyH_take (i := 2) (oi := _) (v := .string s) rfl (by kernel_rfl) (by kernel_rfl) (by kernel_rfl) (fun _ _ _ h => h) (Or.inl ⟨by rfl, fun wS hSw => by go_simp⟩) (by first | trivial | assumption) ?_
  simp only [Act.put, List.setIfInBounds_toArray, List.set_cons_zero, List.set_cons_succ]
  refine wpAnyH_take (i := 3) (oi := _) (v := .string s) rfl (by kernel_rfl) (by kernel_rfl) (by kernel_rfl) (fun _ _ _ h => h) (Or.inl ⟨by rfl, fun wS hSw => by go_simp⟩) (by first | trivial | assumption) ?_
  simp only [Act.put, List.setIfInBounds_toArray, List.set_cons_zero, List.set_cons_succ]
  refine wpAnyH_take (i := 4) (oi := _) (v := .int .i64 s.size) rfl (by kernel_rfl) (by kernel_rfl) (by kernel_rfl) (fun _ _ _ h => h) (Or.inl ⟨by rfl, fun wS hSw => by go_simp⟩) (by first | trivial | assumption) ?_
  simp only [Act.put, List.setIfInBounds_toArray, List.set_cons_zero, List.set_cons_succ]
  refine wpAnyH_take (i := 5) (oi := _) (v := .int .i64 p) rfl (by kernel_rfl) (by kernel_rfl) (by kernel_rfl) (fun _ _ _ h => h) (Or.inl ⟨by rfl, fun wS hSw => by go_simp; have := HP.out; omega⟩) (by first | trivial | assumption) ?_
  simp only [Act.put, List.setIfInBounds_toArray, List.set_cons_zero, List.set_cons_succ]
  refine wpAnyH_take (i := 6) (oi := _) (v := .string (s.extract 0 p)) rfl (by kernel_rfl) (by kernel_rfl) (by kernel_rfl) (fun _ _ _ h => h) (Or.inl ⟨by rfl, fun wS hSw => by go_simp⟩) (by first | trivial | assumption) ?_
  simp only [Act.put, List.setIfInBounds_toArray, List.set_cons_zero, List.set_cons_succ]
  refine wpAnyH_ready (rs := [1]) (by kernel_rfl) (by simp) ?_
  refine AllReadyH.cons (o := _) rfl (fun K hK => ?_) AllReadyH.nil
  go_simp
  refine (few_any L ad cap _ HR.out hcm HS.out).mono ?_
  rintro e w1 ⟨r, M, rfl, hrow, hlen, hsh, hb1⟩
  refine hK.out _ _ (trivial) (fun hHeld => ?_)
  clear hK K
  refine wpAnyH_ready (rs := [7]) (by kernel_rfl) (by simp) ?_
  refine AllReadyH.cons (o := _) rfl (fun K hK => ?_) AllReadyH.nil
  go_simp
  refine hK.out _ _ (trivial) (fun hHeld => ?_)
  clear hK K
  refine wpAnyH_ready (rs := [8]) (by kernel_rfl) (by simp) ?_
  refine AllReadyH.cons (o := _) rfl (fun K hK => ?_) AllReadyH.nil
  go_simp
  refine hK.out _ _ (trivial) (fun hHeld => ?_)
  clear hK K
  refine wpAnyH_done (by kernel_rfl) ?_ _
  have hsx : (s.extract 0 p).size ≤ 500 := by rw [ByteArray.size_extract]; omega
  generalize s.extract 0 p = x at hsx ⊢
  have hB1 := below_start hb1
  obtain ⟨ar, cr, rfl⟩ := hrow.slice
  have HROW := hide hrow
  have HSH := hide (short_ok hsh)
  clear hrow hsh hb1 HR HS HP hp1 hp2
  go_wp2_with fail
  refine (print_any M _ w1 HROW.out (by omega) HSH.out).mono ?_
  rintro e w2 ⟨rfl, hb2⟩
  have hB2 := hB1.trans (hb2.mono hB1.size)
  have hts := prS_size M
  have HOK := hide (@pr_ok M)
  clear hb2 hB1
  generalize prS M = t at hts HOK ⊢
  generalize prE M = c at HOK ⊢
  by_cases hc : c = 0
  · subst hc
    by_cases h39 : 3900 < t.size
    · have h39z : (3900 : Int) < (t.size : Int) := by omega
      go_wp2_with fail
      refine (alive_any _).mono ?_
      rintro e w3 ⟨rfl, hb3⟩
      go_wp2_with fail
      go_ret
      exact ⟨rfl, hB2.trans (hb3.mono hB2.size)⟩
    · have h39z : decide ((3900 : Int) < (t.size : Int)) = false := decide_eq_false (by omega)
      obtain ⟨hrt, hwl, hps⟩ := HOK.out rfl
      have htl : t.data.toList = wrL M := by rw [hps, bs_list]
      have H1 := hide (end_any (t ++ ⟨#[13, 10]⟩ ++ x))
      rw [en_crlf hrt htl (by omega)] at H1
      have H2 := hide (end_any (t ++ ⟨#[10]⟩ ++ x))
      rw [en_lf hrt htl (by omega)] at H2
      have H3 := hide (end_any t)
      rw [en_bare hrt htl (by omega)] at H3
      have hz1 : (t ++ ⟨#[13, 10]⟩ ++ x).size ≤ 10000 := by rw [ByteArray.size_append, ByteArray.size_append]; have : (⟨#[13, 10]⟩ : ByteArray).size = 2 := rfl; omega
      have hz2 : (t ++ ⟨#[10]⟩ ++ x).size ≤ 10000 := by rw [ByteArray.size_append, ByteArray.size_append]; have : (⟨#[10]⟩ : ByteArray).size = 1 := rfl; omega
      have HZ1 := hide hz1
      have HZ2 := hide hz2
      have hw2 : IntKind.i64.wrap ((t.size : Int) + 2) = (t.size : Int) + 2 := i64_wrap_id _ (by omega) (by omega)
      have hw1 : IntKind.i64.wrap ((t.size : Int) + 1) = (t.size : Int) + 1 := i64_wrap_id _ (by omega) (by omega)
      clear hrt hwl hps htl HOK HROW HSH hz1 hz2
      go_wp2_with fail
      refine (H1.out _ HZ1.out).mono ?_
      rintro e w3 ⟨rfl, hb3⟩
      have hB3 := hB2.trans (hb3.mono hB2.size)
      go_wp2_with fail
      refine (H2.out _ HZ2.out).mono ?_
      rintro e w4 ⟨rfl, hb4⟩
      have hB4 := hB3.trans (hb4.mono hB3.size)
      go_wp2_with fail
      refine (H3.out _ (by omega)).mono ?_
      rintro e w5 ⟨rfl, hb5⟩
      have hB5 := hB4.trans (hb5.mono hB4.size)
      clear hb3 hb4 hb5 hB2 hB3 hB4 H1 H2 H3 HZ1 HZ2
      go_wp2_with fail
      refine (alive_any _).mono ?_
      rintro e w6 ⟨rfl, hb6⟩
      go_wp2_with fail
      go_ret
      exact ⟨rfl, hB5.trans (hb6.mono hB5.size)⟩
  · have hcz : (c != 0) = true := by simpa using hc
    go_wp2_with fail
    refine (alive_any _).mono ?_
    rintro e w3 ⟨rfl, hb3⟩
    go_wp2_with fail
    go_ret
    exact ⟨rfl, hB2.trans (hb3.mono hB2.size)⟩

end Go.Proofs.Yteeipaijdoneeaa
