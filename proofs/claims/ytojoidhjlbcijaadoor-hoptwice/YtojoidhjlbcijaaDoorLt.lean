/- The walk of HopTwice. -/
import Derived.Test.YtojoidhjlbcijaaDoorLa
namespace Go.Proofs.YtojoidhjlbcijaaDoor
set_option linter.unusedVariables false
set_option linter.unusedSimpArgs false
set_option maxRecDepth 100000
open Go.RowKit

def oneD : ByteArray := ⟨#[111, 110, 101]⟩
def twoD : ByteArray := ⟨#[116, 119, 111]⟩
theorem two_tok : tokB twoD = true := by decide +kernel
theorem two_end (v : ByteArray) : v ++ ⟨#[44, 32]⟩ ++ oneS twoD = v ++ ⟨#[44, 32, 116, 119, 111, 61, 34, 69, 83, 73, 47, 49, 46, 48, 34]⟩ := by
  apply bytes_ext; unfold oneS twoD; simp only [app_list, List.append_assoc]; rfl

set_option maxHeartbeats 16000000 in
theorem twice_walk (L : List Fd) (ad : Option Addr) (cap : Nat) (s : ByteArray) (w : World) (hr : Row w (.slice ad L.length cap) L) (hcm : cap ≤ maxLen) (hs : ∀ f ∈ L, f.1.size ≤ maxLen ∧ f.2.size ≤ maxLen) (hws : s.size ≤ maxLen) :
    Calls Tryd.prog 7 #[.slice ad L.length cap, .string s] w fun e w' => e = .returned (.bool true) ∧ Below w.heap.size w w' := by
  have HR := hide hr
  have HS := hide hs
  clear hr hs
  obtain ⟨p, hp⟩ : ∃ p : Nat, p = min s.size 200 := ⟨_, rfl⟩
  have hp1 : p ≤ s.size := by omega
  have hp2 : p ≤ 200 := by omega
  have HP := hide hp
  clear hp
  go_enter Tryd.func7, Tryd.ntmps7
  go_wp2_with fail
  refine wp_region_held_drew (S := (fun _ => True)) (by kernel_rfl) (trivial) (fun hHeld => ?_)
  refine wpAnyH_take (i := 0) (oi := _) (v := .slice ad L.length cap) rfl (by kernel_rfl) (by kernel_rfl) (by kernel_rfl) (fun _ _ _ h => h) (Or.inl ⟨by rfl, fun wS hSw => by go_simp⟩) (by first | trivial | assumption) ?_
  simp only [Act.put, List.getElem_toArray, List.getElem_cons_zero, List.getElem_cons_succ, List.setIfInBounds_toArray, List.set_cons_zero, List.set_cons_succ]
  refine wpAnyH_take (i := 2) (oi := _) (v := .string s) rfl (by kernel_rfl) (by kernel_rfl) (by kernel_rfl) (fun _ _ _ h => h) (Or.inl ⟨by rfl, fun wS hSw => by go_simp⟩) (by first | trivial | assumption) ?_
  simp only [Act.put, List.getElem_toArray, List.getElem_cons_zero, List.getElem_cons_succ, List.setIfInBounds_toArray, List.set_cons_zero, List.set_cons_succ]
  refine wpAnyH_take (i := 3) (oi := _) (v := .string s) rfl (by kernel_rfl) (by kernel_rfl) (by kernel_rfl) (fun _ _ _ h => h) (Or.inl ⟨by rfl, fun wS hSw => by go_simp⟩) (by first | trivial | assumption) ?_
  simp only [Act.put, List.getElem_toArray, List.getElem_cons_zero, List.getElem_cons_succ, List.setIfInBounds_toArray, List.set_cons_zero, List.set_cons_succ]
  refine wpAnyH_take (i := 4) (oi := _) (v := .int .i64 s.size) rfl (by kernel_rfl) (by kernel_rfl) (by kernel_rfl) (fun _ _ _ h => h) (Or.inl ⟨by rfl, fun wS hSw => by go_simp⟩) (by first | trivial | assumption) ?_
  simp only [Act.put, List.getElem_toArray, List.getElem_cons_zero, List.getElem_cons_succ, List.setIfInBounds_toArray, List.set_cons_zero, List.set_cons_succ]
  refine wpAnyH_take (i := 5) (oi := _) (v := .int .i64 p) rfl (by kernel_rfl) (by kernel_rfl) (by kernel_rfl) (fun _ _ _ h => h) (Or.inl ⟨by rfl, fun wS hSw => by go_simp; have := HP.out; omega⟩) (by first | trivial | assumption) ?_
  simp only [Act.put, List.getElem_toArray, List.getElem_cons_zero, List.getElem_cons_succ, List.setIfInBounds_toArray, List.set_cons_zero, List.set_cons_succ]
  refine wpAnyH_take (i := 6) (oi := _) (v := .string (s.extract 0 p)) rfl (by kernel_rfl) (by kernel_rfl) (by kernel_rfl) (fun _ _ _ h => h) (Or.inl ⟨by rfl, fun wS hSw => by go_simp⟩) (by first | trivial | assumption) ?_
  simp only [Act.put, List.getElem_toArray, List.getElem_cons_zero, List.getElem_cons_succ, List.setIfInBounds_toArray, List.set_cons_zero, List.set_cons_succ]
  refine wpAnyH_ready (rs := [1]) (by kernel_rfl) (by simp) ?_
  refine AllReadyH.cons (o := _) rfl (fun K hK => ?_) AllReadyH.nil
  go_simp
  refine (few_any L ad cap w.drew HR.out hcm HS.out).mono ?_
  rintro e w1 ⟨r, M, rfl, hrow, hlen, hsh, hb1⟩
  refine hK.out _ _ (trivial) (fun hHeld => ?_)
  clear hK K
  refine wpAnyH_ready (rs := [7]) (by kernel_rfl) (by simp) ?_
  refine AllReadyH.cons (o := _) rfl (fun K hK => ?_) AllReadyH.nil
  go_simp
  refine hK.out _ _ (trivial) (fun hHeld => ?_)
  clear hK K
  refine wpAnyH_ready (rs := [8]) (by kernel_rfl) (by simp) ?_
  refine AllReadyH.cons (o := _) rfl (fun K hK => ?_) AllReadyH.nil
  go_simp
  refine hK.out _ _ (trivial) (fun hHeld => ?_)
  clear hK K
  refine wpAnyH_done (by kernel_rfl) ?_ _
  have hxs : (s.extract 0 p).size ≤ 1010 := by rw [ByteArray.size_extract]; omega
  generalize s.extract 0 p = x at hxs ⊢
  have hb2 : Below w.heap.size w w1 := (Below.refl _ _).drew.trans hb1
  have hsm := few_sm hsh
  clear HP HR HS hsh
  have HUP := hide (up_any M r x oneD w1 hrow (by omega) hsm hxs (by decide))
  have HUS := fun hz => up_sm (d := oneD) hsm hxs hz
  have HUF := hide (fun hz => up_facts (L := M) (h := x) (d := oneD) hz)
  have HUB := hide (fun hz => up_bad (L := M) (h := x) (d := oneD) hz)
  have HUT := hide (fun hz => up_twice (L := M) (h := x) (d := oneD) twoD hz two_tok)
  go_wp2_with fail
  refine HUP.out.mono ?_
  rintro e w2 ⟨r2, rfl, ho, hb3⟩
  have hB2 := hb2.trans (hb3.mono hb2.size)
  clear HUP hb2 hb3
  by_cases hz : upE M x oneD = 0
  · obtain ⟨hfs, hfl⟩ := HUS hz
    have hfa := HUF.out hz
    have hft := HUT.out hz
    have hcz := up_cv hz
    have hcz2 : (canV (upM M x) oneD).size ≤ 9223372036854775792 := by omega
    rw [hz]
    clear HUB HUS HUF hz HUT
    generalize upR M x oneD = R at *
    generalize canV (upM M x) oneD = cv at *
    rw [two_end] at hft
    have HF := hide hfa.2.1
    have HT := hide hft.2
    have hE2 := hft.1
    clear hfa hft
    have HUP := hide (up_any R r2 x twoD w2 ho.row (by omega) hfs hxs (by decide))
    have HUB := hide (fun hz => up_bad (L := R) (h := x) (d := twoD) hz)
    have HUS := fun hz => up_sm (d := twoD) hfs hxs hz
    go_wp2_with fail
    refine HUP.out.mono ?_
    rintro e w3 ⟨r3, rfl, ho3, hb3⟩
    have hB3 := hB2.trans (hb3.mono hB2.size)
    have hoR := ho.below hb3
    clear HUP ho
    rcases hE2 with hz2 | hz2
    · obtain ⟨hfs2, hfl2⟩ := HUS hz2
      have hft2 := HT.out hz2
      rw [hz2]
      clear HUB HUS HT hz2
      generalize upR R x twoD = R2 at *
      have HT := hide hft2
      clear hft2
      go_wp2_with fail
      refine (refall_any R r2 capW w3 hoR.row (by omega) hfs.sh (by decide)).mono ?_
      rintro e w4 ⟨r4, rfl, ho4, hb4⟩
      rw [all_low low_cap, HF.out] at ho4
      have hB4 := hB3.trans (hb4.mono hB3.size)
      have hoR4 := hoR.below hb4
      have hoS4 := ho3.below hb4
      obtain ⟨g3, cap3, rfl, hg3, c3⟩ := own_one ho4
      clear ho4 hoR ho3 hb3 hb4 hB3
      go_wp2_with fail
      refine (refall_any R2 r3 capW w4 hoS4.row (by omega) hfs2.sh (by decide)).mono ?_
      rintro e w5 ⟨r5, rfl, ho5, hb5⟩
      rw [all_low low_cap, HT.out.1] at ho5
      have hB5 := hB4.trans (hb5.mono hB4.size)
      have hoR5 := hoR4.below hb5
      have hoS5 := hoS4.below hb5
      have c3' := ((stays hb5).1 _ _ hg3).trans c3
      have hg3' := Nat.lt_of_lt_of_le hg3 hb5.size
      obtain ⟨g4, cap4, rfl, hg4, c4⟩ := own_one ho5
      clear ho5 hoR4 hoS4 hb5 hB4 c3 hg3
      go_wp2_with fail
      refine (refremove_any R r2 capW w5 hoR5.row (by omega) hfs.sh (by decide)).mono ?_
      rintro e w6 ⟨r6, rfl, ho6, hb6⟩
      rw [del_low low_cap] at ho6
      have hB6 := hB5.trans (hb6.mono hB5.size)
      have hoS6 := hoS5.below hb6
      have c36 := ((stays hb6).1 _ _ hg3').trans c3'
      have c46 := ((stays hb6).1 _ _ hg4).trans c4
      have hg36 := Nat.lt_of_lt_of_le hg3' hb6.size
      have hg46 := Nat.lt_of_lt_of_le hg4 hb6.size
      clear hoR5 hoS5 hb6 hB5 c3' c4 hg3' hg4
      go_wp2_with fail
      refine (refremove_any R2 r3 capW w6 hoS6.row (by omega) hfs2.sh (by decide)).mono ?_
      rintro e w7 ⟨r7, rfl, ho7, hb7⟩
      rw [del_low low_cap, HT.out.2] at ho7
      have hB7 := hB6.trans (hb7.mono hB6.size)
      have ho67 := ho6.below hb7
      have c37 := ((stays hb7).1 _ _ hg36).trans c36
      have c47 := ((stays hb7).1 _ _ hg46).trans c46
      have hg37 := Nat.lt_of_lt_of_le hg36 hb7.size
      have hg47 := Nat.lt_of_lt_of_le hg46 hb7.size
      have hdl := del_le capS R
      clear hoS6 hb7 hB6 c36 c46 hg36 hg46 ho6
      go_wp2_with fail
      refine (like_same (delF capS R) r6 r7 w7 ho67.row ho7.row (by omega)).mono ?_
      rintro e w8 ⟨rfl, hb8⟩
      have hB8 := hB7.trans (hb8.mono hB7.size)
      have c38 := ((stays hb8).1 _ _ hg37).trans c37
      have c48 := ((stays hb8).1 _ _ hg47).trans c47
      have hg38 := Nat.lt_of_lt_of_le hg37 hb8.size
      have hg48 := Nat.lt_of_lt_of_le hg47 hb8.size
      clear ho7 ho67 hb8 hB7 c37 c47 hg37 hg47 HT HF
      go_wp2_with fail
      refine wp_region_held_drew (S := (fun w' => Below w8.heap.size w8 w' ∧ w'.cell? ⟨g3, 0, none⟩ = some (.string cv) ∧ w'.cell? ⟨g4, 0, none⟩ = some (.string (cv ++ ⟨#[44, 32, 116, 119, 111, 61, 34, 69, 83, 73, 47, 49, 46, 48, 34]⟩)))) (by kernel_rfl) (⟨(Below.refl _ _).drew, c38, c48⟩) (fun hHeld => ?_)
      refine wpAnyH_ready (rs := [0]) (by kernel_rfl) (by simp) ?_
      refine AllReadyH.cons (o := _) rfl (fun K hK => ?_) AllReadyH.nil
      go_simp
      refine (alive_any w8.drew).mono ?_
      rintro e w9 ⟨rfl, hb9⟩
      have hB9 : Below w8.heap.size w8 w9 := (Below.refl _ _).drew.trans hb9
      have hS9 : Below w8.heap.size w8 w9 ∧ w9.cell? ⟨g3, 0, none⟩ = some (.string cv) ∧ w9.cell? ⟨g4, 0, none⟩ = some (.string (cv ++ ⟨#[44, 32, 116, 119, 111, 61, 34, 69, 83, 73, 47, 49, 46, 48, 34]⟩)) := ⟨hB9, ((stays hB9).1 _ _ hg38).trans c38, ((stays hB9).1 _ _ hg48).trans c48⟩
      refine hK.out _ _ (hS9) (fun hHeld => ?_)
      clear hK K
      refine wpAnyH_take (i := 1) (oi := _) (v := .bool true) rfl (by kernel_rfl) (by kernel_rfl) (by kernel_rfl) (fun _ _ _ h => h) (Or.inl ⟨by kernel_rfl, fun wS hSw => by skip; go_simp⟩) (by first | trivial | assumption) ?_
      simp only [Act.put, List.getElem_toArray, List.getElem_cons_zero, List.getElem_cons_succ, List.setIfInBounds_toArray, List.set_cons_zero, List.set_cons_succ]
      refine wpAnyH_take (i := 2) (oi := _) (v := .bool true) rfl (by kernel_rfl) (by kernel_rfl) (by kernel_rfl) (fun _ _ _ h => h) (Or.inl ⟨by kernel_rfl, fun wS hSw => by skip; go_simp⟩) (by first | trivial | assumption) ?_
      simp only [Act.put, List.getElem_toArray, List.getElem_cons_zero, List.getElem_cons_succ, List.setIfInBounds_toArray, List.set_cons_zero, List.set_cons_succ]
      refine wpAnyH_take (i := 3) (oi := _) (v := .bool true) rfl (by kernel_rfl) (by kernel_rfl) (by kernel_rfl) (fun _ _ _ h => h) (Or.inl ⟨by kernel_rfl, fun wS hSw => by skip; go_simp⟩) (by first | trivial | assumption) ?_
      simp only [Act.put, List.getElem_toArray, List.getElem_cons_zero, List.getElem_cons_succ, List.setIfInBounds_toArray, List.set_cons_zero, List.set_cons_succ]
      refine wpAnyH_take (i := 4) (oi := _) (v := .bool true) rfl (by kernel_rfl) (by kernel_rfl) (by kernel_rfl) (fun _ _ _ h => h) (Or.inl ⟨by kernel_rfl, fun wS hSw => by skip; go_simp⟩) (by first | trivial | assumption) ?_
      simp only [Act.put, List.getElem_toArray, List.getElem_cons_zero, List.getElem_cons_succ, List.setIfInBounds_toArray, List.set_cons_zero, List.set_cons_succ]
      refine wpAnyH_take (i := 5) (oi := _) (v := .slice (some ⟨g3, 0, none⟩) 1 cap3) rfl (by kernel_rfl) (by kernel_rfl) (by kernel_rfl) (fun _ _ _ h => h) (Or.inl ⟨by kernel_rfl, fun wS hSw => by skip; go_simp⟩) (by first | trivial | assumption) ?_
      simp only [Act.put, List.getElem_toArray, List.getElem_cons_zero, List.getElem_cons_succ, List.setIfInBounds_toArray, List.set_cons_zero, List.set_cons_succ]
      refine wpAnyH_take (i := 6) (oi := _) (v := .int .i64 1) rfl (by kernel_rfl) (by kernel_rfl) (by kernel_rfl) (fun _ _ _ h => h) (Or.inl ⟨by kernel_rfl, fun wS hSw => by skip; go_simp⟩) (by first | trivial | assumption) ?_
      simp only [Act.put, List.getElem_toArray, List.getElem_cons_zero, List.getElem_cons_succ, List.setIfInBounds_toArray, List.set_cons_zero, List.set_cons_succ]
      refine wpAnyH_take (i := 7) (oi := _) (v := .bool true) rfl (by kernel_rfl) (by kernel_rfl) (by kernel_rfl) (fun _ _ _ h => h) (Or.inl ⟨by kernel_rfl, fun wS hSw => by skip; go_simp⟩) (by first | trivial | assumption) ?_
      simp only [Act.put, List.getElem_toArray, List.getElem_cons_zero, List.getElem_cons_succ, List.setIfInBounds_toArray, List.set_cons_zero, List.set_cons_succ]
      refine wpAnyH_take (i := 8) (oi := _) (v := .bool true) rfl (by kernel_rfl) (by kernel_rfl) (by kernel_rfl) (fun _ _ _ h => h) (Or.inl ⟨by kernel_rfl, fun wS hSw => by skip; go_simp⟩) (by first | trivial | assumption) ?_
      simp only [Act.put, List.getElem_toArray, List.getElem_cons_zero, List.getElem_cons_succ, List.setIfInBounds_toArray, List.set_cons_zero, List.set_cons_succ]
      refine wpAnyH_take (i := 9) (oi := _) (v := .bool true) rfl (by kernel_rfl) (by kernel_rfl) (by kernel_rfl) (fun _ _ _ h => h) (Or.inl ⟨by kernel_rfl, fun wS hSw => by skip; go_simp⟩) (by first | trivial | assumption) ?_
      simp only [Act.put, List.getElem_toArray, List.getElem_cons_zero, List.getElem_cons_succ, List.setIfInBounds_toArray, List.set_cons_zero, List.set_cons_succ]
      refine wpAnyH_take (i := 10) (oi := _) (v := .slice (some ⟨g4, 0, none⟩) 1 cap4) rfl (by kernel_rfl) (by kernel_rfl) (by kernel_rfl) (fun _ _ _ h => h) (Or.inl ⟨by kernel_rfl, fun wS hSw => by skip; go_simp⟩) (by first | trivial | assumption) ?_
      simp only [Act.put, List.getElem_toArray, List.getElem_cons_zero, List.getElem_cons_succ, List.setIfInBounds_toArray, List.set_cons_zero, List.set_cons_succ]
      refine wpAnyH_take (i := 11) (oi := _) (v := .int .i64 1) rfl (by kernel_rfl) (by kernel_rfl) (by kernel_rfl) (fun _ _ _ h => h) (Or.inl ⟨by kernel_rfl, fun wS hSw => by skip; go_simp⟩) (by first | trivial | assumption) ?_
      simp only [Act.put, List.getElem_toArray, List.getElem_cons_zero, List.getElem_cons_succ, List.setIfInBounds_toArray, List.set_cons_zero, List.set_cons_succ]
      refine wpAnyH_take (i := 12) (oi := _) (v := .bool true) rfl (by kernel_rfl) (by kernel_rfl) (by kernel_rfl) (fun _ _ _ h => h) (Or.inl ⟨by kernel_rfl, fun wS hSw => by skip; go_simp⟩) (by first | trivial | assumption) ?_
      simp only [Act.put, List.getElem_toArray, List.getElem_cons_zero, List.getElem_cons_succ, List.setIfInBounds_toArray, List.set_cons_zero, List.set_cons_succ]
      refine wpAnyH_take (i := 13) (oi := _) (v := .bool true) rfl (by kernel_rfl) (by kernel_rfl) (by kernel_rfl) (fun _ _ _ h => h) (Or.inl ⟨by kernel_rfl, fun wS hSw => by skip; go_simp⟩) (by first | trivial | assumption) ?_
      simp only [Act.put, List.getElem_toArray, List.getElem_cons_zero, List.getElem_cons_succ, List.setIfInBounds_toArray, List.set_cons_zero, List.set_cons_succ]
      refine wpAnyH_take (i := 14) (oi := _) (v := .bool true) rfl (by kernel_rfl) (by kernel_rfl) (by kernel_rfl) (fun _ _ _ h => h) (Or.inl ⟨by kernel_rfl, fun wS hSw => by skip; go_simp⟩) (by first | trivial | assumption) ?_
      simp only [Act.put, List.getElem_toArray, List.getElem_cons_zero, List.getElem_cons_succ, List.setIfInBounds_toArray, List.set_cons_zero, List.set_cons_succ]
      refine wpAnyH_take (i := 15) (oi := _) (v := .slice (some ⟨g4, 0, none⟩) 1 cap4) rfl (by kernel_rfl) (by kernel_rfl) (by kernel_rfl) (fun _ _ _ h => h) (Or.inl ⟨by kernel_rfl, fun wS hSw => by skip; go_simp⟩) (by first | trivial | assumption) ?_
      simp only [Act.put, List.getElem_toArray, List.getElem_cons_zero, List.getElem_cons_succ, List.setIfInBounds_toArray, List.set_cons_zero, List.set_cons_succ]
      refine wpAnyH_take (i := 16) (oi := _) (v := .pointer (some ⟨g4, 0, none⟩)) rfl (by kernel_rfl) (by kernel_rfl) (by kernel_rfl) (fun _ _ _ h => h) (Or.inl ⟨by kernel_rfl, fun wS hSw => by skip; go_simp⟩) (by first | trivial | assumption) ?_
      simp only [Act.put, List.getElem_toArray, List.getElem_cons_zero, List.getElem_cons_succ, List.setIfInBounds_toArray, List.set_cons_zero, List.set_cons_succ]
      refine wpAnyH_take (i := 17) (oi := _) (v := .string (cv ++ ⟨#[44, 32, 116, 119, 111, 61, 34, 69, 83, 73, 47, 49, 46, 48, 34]⟩)) rfl (by kernel_rfl) (by kernel_rfl) (by kernel_rfl) (fun _ _ _ h => h) (Or.inl ⟨by kernel_rfl, fun wS hSw => by obtain ⟨_, h3, h4⟩ := hSw; go_simp⟩) (by first | trivial | assumption) ?_
      simp only [Act.put, List.getElem_toArray, List.getElem_cons_zero, List.getElem_cons_succ, List.setIfInBounds_toArray, List.set_cons_zero, List.set_cons_succ]
      refine wpAnyH_take (i := 18) (oi := _) (v := .slice (some ⟨g3, 0, none⟩) 1 cap3) rfl (by kernel_rfl) (by kernel_rfl) (by kernel_rfl) (fun _ _ _ h => h) (Or.inl ⟨by kernel_rfl, fun wS hSw => by skip; go_simp⟩) (by first | trivial | assumption) ?_
      simp only [Act.put, List.getElem_toArray, List.getElem_cons_zero, List.getElem_cons_succ, List.setIfInBounds_toArray, List.set_cons_zero, List.set_cons_succ]
      refine wpAnyH_take (i := 19) (oi := _) (v := .pointer (some ⟨g3, 0, none⟩)) rfl (by kernel_rfl) (by kernel_rfl) (by kernel_rfl) (fun _ _ _ h => h) (Or.inl ⟨by kernel_rfl, fun wS hSw => by skip; go_simp⟩) (by first | trivial | assumption) ?_
      simp only [Act.put, List.getElem_toArray, List.getElem_cons_zero, List.getElem_cons_succ, List.setIfInBounds_toArray, List.set_cons_zero, List.set_cons_succ]
      refine wpAnyH_take (i := 20) (oi := _) (v := .string cv) rfl (by kernel_rfl) (by kernel_rfl) (by kernel_rfl) (fun _ _ _ h => h) (Or.inl ⟨by kernel_rfl, fun wS hSw => by obtain ⟨_, h3, h4⟩ := hSw; go_simp⟩) (by first | trivial | assumption) ?_
      simp only [Act.put, List.getElem_toArray, List.getElem_cons_zero, List.getElem_cons_succ, List.setIfInBounds_toArray, List.set_cons_zero, List.set_cons_succ]
      refine wpAnyH_take (i := 21) (oi := _) (v := .string (cv ++ ⟨#[44, 32, 116, 119, 111, 61, 34, 69, 83, 73, 47, 49, 46, 48, 34]⟩)) rfl (by kernel_rfl) (by kernel_rfl) (by kernel_rfl) (fun _ _ _ h => h) (Or.inl ⟨by kernel_rfl, fun wS hSw => by skip; go_simp⟩) (by first | trivial | assumption) ?_
      simp only [Act.put, List.getElem_toArray, List.getElem_cons_zero, List.getElem_cons_succ, List.setIfInBounds_toArray, List.set_cons_zero, List.set_cons_succ]
      refine wpAnyH_take (i := 22) (oi := _) (v := .bool true) rfl (by kernel_rfl) (by kernel_rfl) (by kernel_rfl) (fun _ _ _ h => h) (Or.inl ⟨by kernel_rfl, fun wS hSw => by skip; go_simp⟩) (by first | trivial | assumption) ?_
      simp only [Act.put, List.getElem_toArray, List.getElem_cons_zero, List.getElem_cons_succ, List.setIfInBounds_toArray, List.set_cons_zero, List.set_cons_succ]
      refine wpAnyH_take (i := 23) (oi := _) (v := .bool true) rfl (by kernel_rfl) (by kernel_rfl) (by kernel_rfl) (fun _ _ _ h => h) (Or.inl ⟨by kernel_rfl, fun wS hSw => by skip; go_simp⟩) (by first | trivial | assumption) ?_
      simp only [Act.put, List.getElem_toArray, List.getElem_cons_zero, List.getElem_cons_succ, List.setIfInBounds_toArray, List.set_cons_zero, List.set_cons_succ]
      refine wpAnyH_ready (rs := [24]) (by kernel_rfl) (by simp) ?_
      refine AllReadyH.cons (o := _) rfl (fun K hK => ?_) AllReadyH.nil
      go_simp
      refine hK.out _ _ (hS9) (fun hHeld => ?_)
      clear hK K
      refine wpAnyH_done (by kernel_rfl) ?_ _
      go_wp2_with fail
      go_ret
      exact ⟨rfl, hB8.trans (hB9.mono hB8.size)⟩
    · have hno := HUB.out (by omega)
      rw [hno] at ho3
      rw [hz2]
      obtain ⟨a2, k2, rfl⟩ := own_nothing ho3
      clear HUB HUS HT hno ho3
      go_wp2_with fail
      refine (alive_any w3).mono ?_
      rintro e w4 ⟨rfl, hb4⟩
      go_wp2_with fail
      go_ret
      exact ⟨rfl, hB3.trans (hb4.mono hB3.size)⟩
  · have hno := HUB.out hz
    rw [hno] at ho
    have hne : (((upE M x oneD : Nat) : Int) == 0) = false := beq_eq_false_iff_ne.2 (by omega)
    generalize upE M x oneD = E at *
    obtain ⟨a2, k2, rfl⟩ := own_nothing ho
    clear HUF HUB HUS hno ho HUT
    go_wp2_with fail
    refine (alive_any w2).mono ?_
    rintro e w3 ⟨rfl, hb3⟩
    go_wp2_with fail
    go_ret
    exact ⟨rfl, hB2.trans (hb3.mono hB2.size)⟩

end Go.Proofs.YtojoidhjlbcijaaDoor
