/- The walk of TableSets. -/
import Derived.Test.YtcikaehcmlbgfaaCa
namespace Go.Proofs.Ytcikaehcmlbgfaa
set_option linter.unusedVariables false
set_option linter.unusedSimpArgs false
open Go.RowKit

theorem nm_self (f : Fd) : nm f.1 f = true := by unfold nm sameB; simp
theorem nm_excl {n o : ByteArray} {x : Fd} (h : nm n x = true) (g : sameB o n = false) : nm o x = false := by
  unfold nm sameB at *
  rw [beq_iff_eq] at h
  rw [beq_eq_false_iff_ne] at g ⊢
  rw [h]
  exact fun e => g e.symm
theorem all_append (n : ByteArray) (P S : List Fd) : allF n (P ++ S) = allF n P ++ allF n S := by simp [allF]
theorem all_none {n : ByteArray} {P : List Fd} (h : ∀ x ∈ P, nm n x = false) : allF n P = [] := by
  unfold allF
  rw [List.filter_eq_nil_iff.2 (fun x hx => by rw [h x hx]; decide)]; rfl
theorem all_del (n : ByteArray) (L : List Fd) : allF n (delF n L) = [] := all_none fun x hx => by
  have := (List.mem_filter.1 hx).2
  simpa using this
theorem all_del_other {n o : ByteArray} (g : sameB o n = false) (L : List Fd) : allF o (delF n L) = allF o L := by
  unfold allF delF
  rw [List.filter_filter]
  congr 1
  apply List.filter_congr
  intro x _
  cases h : nm n x
  · simp
  · rw [nm_excl h g]; rfl
theorem del_del (n : ByteArray) (L : List Fd) : delF n (delF n L) = delF n L := by
  unfold delF; rw [List.filter_filter]; simp

/-- What is set is there once, and all others stay. -/
theorem set_facts (f : Fd) (L : List Fd) : allF f.1 (setL f L) = [f.2] ∧ delF f.1 (setL f L) = delF f.1 L ∧ ∀ o, sameB o f.1 = false → allF o (setL f L) = allF o L := by
  have hf := nm_self f
  have hone : allF f.1 [f] = [f.2] := by simp [allF, hf]
  have hdel : delF f.1 [f] = [] := by simp [delF, hf]
  have hoth : ∀ o, sameB o f.1 = false → allF o [f] = [] := fun o g => all_none fun x hx => by
    obtain rfl : x = f := by simpa using hx
    exact nm_excl hf g
  cases h : L.any (nm f.1)
  · have hse := (set_miss h).2
    have hp : ∀ x ∈ L, nm f.1 x = false := fun x hx => by
      have := (List.any_eq_false.1 h) x hx
      simpa using this
    rw [hse, del_none hp]
    refine ⟨by rw [all_append, all_none hp, hone]; rfl, by rw [del_append, del_none hp, hdel, List.append_nil], fun o g => by rw [all_append, hoth o g, List.append_nil]⟩
  · obtain ⟨P, x, S, rfl, hp, hx, hi⟩ := first_parts h
    have hA : setL f (P ++ x :: S) = P ++ ([f] ++ delF f.1 S) := by
      have h1 : setS f ([] ++ P, false) x = (P ++ [f], true) := by unfold setS; rw [if_pos hx]; simp
      unfold setL setP
      rw [List.foldl_append, fold_none hp, List.foldl_cons, h1, fold_done]
      simp
    have hd : delF f.1 (P ++ x :: S) = P ++ delF f.1 S := by
      rw [del_append, del_none hp]; simp [delF, hx]
    rw [hA, hd]
    refine ⟨by rw [all_append, all_append, all_none hp, hone, all_del]; rfl, by rw [del_append, del_append, del_none hp, hdel, del_del]; rfl, fun o g => ?_⟩
    have hox : nm o x = false := nm_excl hx g
    rw [all_append, all_append, hoth o g, all_del_other g, all_append]
    simp [allF, hox]
theorem set_short {f : Fd} {L : List Fd} (h : Sh L) (h1 : f.1.size ≤ 10000) (h2 : f.2.size ≤ 10000) : Sh (setL f L) := by
  have hf : ∀ x ∈ setL f L, x = f ∨ x ∈ L := by
    intro x hx
    cases ha : L.any (nm f.1)
    · rw [(set_miss ha).2] at hx
      rcases List.mem_append.1 hx with hx | hx
      · exact Or.inr (List.mem_filter.1 hx).1
      · exact Or.inl (by simpa using hx)
    · obtain ⟨i, -, -, hse⟩ := set_hit ha
      rw [hse, insF] at hx
      rcases List.mem_append.1 hx with hx | hx
      · exact Or.inr (List.mem_filter.1 (List.mem_of_mem_take hx)).1
      · rcases List.mem_cons.1 hx with hx | hx
        · exact Or.inl hx
        · exact Or.inr (List.mem_filter.1 (List.mem_of_mem_drop hx)).1
  intro x hx
  rcases hf x hx with rfl | hx
  · exact ⟨h1, h2⟩
  · exact h x hx
theorem setL_le (f : Fd) (L : List Fd) : (setL f L).length ≤ L.length + 1 := by
  have := setP_le f L
  unfold setL
  split
  · omega
  · simp; omega

set_option maxHeartbeats 16000000 in
theorem sets_walk (L : List Fd) (ad : Option Addr) (cap : Nat) (s t u : ByteArray) (w : World) (hr : Row w (.slice ad L.length cap) L) (hcm : cap ≤ maxLen) (hs : ∀ f ∈ L, f.1.size ≤ maxLen ∧ f.2.size ≤ maxLen) (hws : s.size ≤ maxLen) (hwt : t.size ≤ maxLen) (hwu : u.size ≤ maxLen) :
    Calls Try.prog 4 #[.slice ad L.length cap, .string s, .string t, .string u] w fun e w' => e = .returned (.bool true) ∧ Below w.heap.size w w' := by
  have HR := hide hr
  have HS := hide hs
  clear hr hs
  go_enter Try.func4, Try.ntmps4
  go_wp2_with fail
  refine (few_any L ad cap w HR.out hcm HS.out).mono ?_
  rintro e w1 ⟨r, M, rfl, hrow, hlen, hsh, hb1⟩
  clear HR HS
  obtain ⟨ar, cr, rfl⟩ := hrow.slice
  have HROW := hide hrow
  have HSH := hide (short_ok hsh)
  clear hrow hsh
  obtain ⟨p, hp⟩ : ∃ p : Nat, p = min s.size 60 := ⟨_, rfl⟩
  obtain ⟨q, hq⟩ : ∃ q : Nat, q = min t.size 1010 := ⟨_, rfl⟩
  obtain ⟨o, ho⟩ : ∃ o : Nat, o = min u.size 60 := ⟨_, rfl⟩
  have hp1 : p ≤ s.size := by omega
  have hq1 : q ≤ t.size := by omega
  have ho1 : o ≤ u.size := by omega
  have hp2 : p ≤ 60 := by omega
  have hq2 : q ≤ 1010 := by omega
  have ho2 : o ≤ 60 := by omega
  have HP := hide hp
  have HQ := hide hq
  have HO := hide ho
  clear hp hq ho
  go_wp2_with fail
  refine wp_region_held_drew (S := (fun _ => True)) (by kernel_rfl) (trivial) (fun hHeld => ?_)
  refine wpAnyH_take (i := 0) (oi := _) (v := .string s) rfl (by kernel_rfl) (by kernel_rfl) (by kernel_rfl) (fun _ _ _ h => h) (Or.inl ⟨by rfl, fun wS hSw => by go_simp⟩) (by first | trivial | assumption) ?_
  simp only [Act.put, List.setIfInBounds_toArray, List.set_cons_zero, List.set_cons_succ]
  refine wpAnyH_take (i := 1) (oi := _) (v := .string s) rfl (by kernel_rfl) (by kernel_rfl) (by kernel_rfl) (fun _ _ _ h => h) (Or.inl ⟨by rfl, fun wS hSw => by go_simp⟩) (by first | trivial | assumption) ?_
  simp only [Act.put, List.setIfInBounds_toArray, List.set_cons_zero, List.set_cons_succ]
  refine wpAnyH_take (i := 2) (oi := _) (v := .int .i64 s.size) rfl (by kernel_rfl) (by kernel_rfl) (by kernel_rfl) (fun _ _ _ h => h) (Or.inl ⟨by rfl, fun wS hSw => by go_simp⟩) (by first | trivial | assumption) ?_
  simp only [Act.put, List.setIfInBounds_toArray, List.set_cons_zero, List.set_cons_succ]
  refine wpAnyH_take (i := 3) (oi := _) (v := .int .i64 p) rfl (by kernel_rfl) (by kernel_rfl) (by kernel_rfl) (fun _ _ _ h => h) (Or.inl ⟨by rfl, fun wS hSw => by go_simp; have := HP.out; omega⟩) (by first | trivial | assumption) ?_
  simp only [Act.put, List.setIfInBounds_toArray, List.set_cons_zero, List.set_cons_succ]
  refine wpAnyH_take (i := 4) (oi := _) (v := .string (s.extract 0 p)) rfl (by kernel_rfl) (by kernel_rfl) (by kernel_rfl) (fun _ _ _ h => h) (Or.inl ⟨by rfl, fun wS hSw => by go_simp⟩) (by first | trivial | assumption) ?_
  simp only [Act.put, List.setIfInBounds_toArray, List.set_cons_zero, List.set_cons_succ]
  refine wpAnyH_take (i := 5) (oi := _) (v := .string t) rfl (by kernel_rfl) (by kernel_rfl) (by kernel_rfl) (fun _ _ _ h => h) (Or.inl ⟨by rfl, fun wS hSw => by go_simp⟩) (by first | trivial | assumption) ?_
  simp only [Act.put, List.setIfInBounds_toArray, List.set_cons_zero, List.set_cons_succ]
  refine wpAnyH_take (i := 6) (oi := _) (v := .string t) rfl (by kernel_rfl) (by kernel_rfl) (by kernel_rfl) (fun _ _ _ h => h) (Or.inl ⟨by rfl, fun wS hSw => by go_simp⟩) (by first | trivial | assumption) ?_
  simp only [Act.put, List.setIfInBounds_toArray, List.set_cons_zero, List.set_cons_succ]
  refine wpAnyH_take (i := 7) (oi := _) (v := .int .i64 t.size) rfl (by kernel_rfl) (by kernel_rfl) (by kernel_rfl) (fun _ _ _ h => h) (Or.inl ⟨by rfl, fun wS hSw => by go_simp⟩) (by first | trivial | assumption) ?_
  simp only [Act.put, List.setIfInBounds_toArray, List.set_cons_zero, List.set_cons_succ]
  refine wpAnyH_take (i := 8) (oi := _) (v := .int .i64 q) rfl (by kernel_rfl) (by kernel_rfl) (by kernel_rfl) (fun _ _ _ h => h) (Or.inl ⟨by rfl, fun wS hSw => by go_simp; have := HQ.out; omega⟩) (by first | trivial | assumption) ?_
  simp only [Act.put, List.setIfInBounds_toArray, List.set_cons_zero, List.set_cons_succ]
  refine wpAnyH_take (i := 9) (oi := _) (v := .string (t.extract 0 q)) rfl (by kernel_rfl) (by kernel_rfl) (by kernel_rfl) (fun _ _ _ h => h) (Or.inl ⟨by rfl, fun wS hSw => by go_simp⟩) (by first | trivial | assumption) ?_
  simp only [Act.put, List.setIfInBounds_toArray, List.set_cons_zero, List.set_cons_succ]
  refine wpAnyH_take (i := 10) (oi := _) (v := .string u) rfl (by kernel_rfl) (by kernel_rfl) (by kernel_rfl) (fun _ _ _ h => h) (Or.inl ⟨by rfl, fun wS hSw => by go_simp⟩) (by first | trivial | assumption) ?_
  simp only [Act.put, List.setIfInBounds_toArray, List.set_cons_zero, List.set_cons_succ]
  refine wpAnyH_take (i := 11) (oi := _) (v := .string u) rfl (by kernel_rfl) (by kernel_rfl) (by kernel_rfl) (fun _ _ _ h => h) (Or.inl ⟨by rfl, fun wS hSw => by go_simp⟩) (by first | trivial | assumption) ?_
  simp only [Act.put, List.setIfInBounds_toArray, List.set_cons_zero, List.set_cons_succ]
  refine wpAnyH_take (i := 12) (oi := _) (v := .int .i64 u.size) rfl (by kernel_rfl) (by kernel_rfl) (by kernel_rfl) (fun _ _ _ h => h) (Or.inl ⟨by rfl, fun wS hSw => by go_simp⟩) (by first | trivial | assumption) ?_
  simp only [Act.put, List.setIfInBounds_toArray, List.set_cons_zero, List.set_cons_succ]
  refine wpAnyH_take (i := 13) (oi := _) (v := .int .i64 o) rfl (by kernel_rfl) (by kernel_rfl) (by kernel_rfl) (fun _ _ _ h => h) (Or.inl ⟨by rfl, fun wS hSw => by go_simp; have := HO.out; omega⟩) (by first | trivial | assumption) ?_
  simp only [Act.put, List.setIfInBounds_toArray, List.set_cons_zero, List.set_cons_succ]
  refine wpAnyH_take (i := 14) (oi := _) (v := .string (u.extract 0 o)) rfl (by kernel_rfl) (by kernel_rfl) (by kernel_rfl) (fun _ _ _ h => h) (Or.inl ⟨by rfl, fun wS hSw => by go_simp⟩) (by first | trivial | assumption) ?_
  simp only [Act.put, List.setIfInBounds_toArray, List.set_cons_zero, List.set_cons_succ]
  refine wpAnyH_ready (rs := [15]) (by kernel_rfl) (by simp) ?_
  refine AllReadyH.cons (o := _) rfl (fun K hK => ?_) AllReadyH.nil
  go_simp
  refine hK.out _ _ (trivial) (fun hHeld => ?_)
  clear hK K
  refine wpAnyH_ready (rs := [16]) (by kernel_rfl) (by simp) ?_
  refine AllReadyH.cons (o := _) rfl (fun K hK => ?_) AllReadyH.nil
  go_simp
  refine hK.out _ _ (trivial) (fun hHeld => ?_)
  clear hK K
  refine wpAnyH_ready (rs := [17]) (by kernel_rfl) (by simp) ?_
  refine AllReadyH.cons (o := _) rfl (fun K hK => ?_) AllReadyH.nil
  go_simp
  refine hK.out _ _ (trivial) (fun hHeld => ?_)
  clear hK K
  refine wpAnyH_done (by kernel_rfl) ?_ _
  have hxs : (s.extract 0 p).size ≤ 60 := by rw [ByteArray.size_extract]; omega
  have hys : (t.extract 0 q).size ≤ 1010 := by rw [ByteArray.size_extract]; omega
  have hzs : (u.extract 0 o).size ≤ 60 := by rw [ByteArray.size_extract]; omega
  generalize s.extract 0 p = x at hxs ⊢
  generalize t.extract 0 q = y at hys ⊢
  generalize u.extract 0 o = z at hzs ⊢
  have HROW := hide (show Row w1.drew (.slice ar M.length cr) M from HROW.out)
  have hb2 : Below w.heap.size w w1.drew := hb1.drew
  clear hb1 HP HQ HO
  go_wp2_with fail
  generalize w1.drew = w2 at *
  have HML : Hid (M.length ≤ 900) := by unfold Hid; omega
  refine (set_any M _ (x, y) w2 HROW.out HML.out HSH.out (by show x.size ≤ _; omega) (by show y.size ≤ _; omega)).mono ?_
  rintro e w3 ⟨r3, rfl, ho3, hb3⟩
  have hB3 := hb2.trans (hb3.mono hb2.size)
  have HR3 := hide (HROW.out.below hb3)
  clear hb3 hb2 HROW
  by_cases hok : (rightF M && mayF (x, y)) = true ∧ (delF x M).length ≠ 40
  · have hE := set_okay hok.1 hok.2
    rw [hE.1]
    rw [hE.2] at ho3
    have hF := set_facts (x, y) M
    have HF := hide hF
    have HSA := hide (set_short (f := (x, y)) HSH.out (by show x.size ≤ _; omega) (by show y.size ≤ _; omega))
    have hAl := setL_le (x, y) M
    clear hE hok hF
    generalize setL (x, y) M = A at ho3 HF HSA hAl
    obtain ⟨a3, c3, hr3⟩ := ho3.row.slice
    subst hr3
    have HO3 := hide ho3
    have HAL : Hid (A.length ≤ 1000000) := by unfold Hid; omega
    clear ho3
    go_wp2_with fail
    refine (values_any A _ x w3 HO3.out.row HAL.out HSA.out (by omega)).mono ?_
    rintro e w4 ⟨r4, rfl, ho4, hb4⟩
    have hB4 := hB3.trans (hb4.mono hB3.size)
    have HR4 := hide (HR3.out.below hb4)
    have HO4 := hide (HO3.out.below hb4)
    rw [show allF x A = [y] from HF.out.1] at ho4
    obtain ⟨a4, c4, hr4, hc4, hcell4⟩ := ho4.row
    subst hr4
    obtain ⟨g4, rfl, hg4, hv4⟩ := hcell4 0 (by simp)
    simp only [List.getElem_cons_zero] at hv4
    have HV4 := hide hv4
    have hc4' : 1 ≤ c4 := hc4
    have hlen4 : [y].length = 1 := rfl
    rw [hlen4]
    clear hb4 hB3 HR3 HO3 hcell4 hv4 ho4 hc4 hlen4
    go_wp2_with fail
    refine (get_any A _ x w4 HO4.out.row HAL.out HSA.out (by omega)).mono ?_
    rintro e w5 ⟨rfl, hb5⟩
    have hB5 := hB4.trans (hb5.mono hB4.size)
    have HR5 := hide (HR4.out.below hb5)
    have HO5 := hide (HO4.out.below hb5)
    have HV5 := hide (((stays hb5).1 _ _ hg4).trans HV4.out)
    have hg5 : g4 < w5.heap.size := Nat.lt_of_lt_of_le hg4 hb5.size
    have hgs : getS x A = y := by unfold getS; rw [show allF x A = [y] from HF.out.1]; rfl
    have hgb : hasB x A = true := by unfold hasB; rw [show allF x A = [y] from HF.out.1]; rfl
    rw [hgs, hgb]
    clear hb5 hB4 HR4 HO4 hgs hgb HV4 hg4
    go_wp2_with fail
    refine (remove_any A _ x w5 HO5.out.row HAL.out HSA.out (by omega)).mono ?_
    rintro e w6 ⟨r6, rfl, ho6, hb6⟩
    have hB6 := hB5.trans (hb6.mono hB5.size)
    have HR6 := hide (HR5.out.below hb6)
    have HO6 := hide (HO5.out.below hb6)
    have HV6 := hide (((stays hb6).1 _ _ hg5).trans HV5.out)
    have hg6 : g4 < w6.heap.size := Nat.lt_of_lt_of_le hg5 hb6.size
    rw [show delF x A = delF x M from HF.out.2.1] at ho6
    have HG6 := hide ho6
    obtain ⟨a6, c6, hr6⟩ := ho6.row.slice
    subst hr6
    have HDL : Hid ((delF x M).length ≤ 1000000) := Nat.le_trans (del_le _ _) (by have := HML.out; omega)
    clear hb6 hB5 HR5 HO5 ho6 HV5 hg5
    go_wp2_with fail
    refine (get_any (delF x M) _ x w6 HG6.out.row HDL.out (del_short HSH.out) (by omega)).mono ?_
    rintro e w7 ⟨rfl, hb7⟩
    have hB7 := hB6.trans (hb7.mono hB6.size)
    have HR7 := hide (HR6.out.below hb7)
    have HO7 := hide (HO6.out.below hb7)
    have HG7 := hide (HG6.out.below hb7)
    have hv7 := ((stays hb7).1 _ _ hg6).trans HV6.out
    have hgb : hasB x (delF x M) = false := by unfold hasB; rw [all_del]; rfl
    have hgs : getS x (delF x M) = ⟨#[]⟩ := by unfold getS; rw [all_del]; rfl
    rw [hgb, hgs]
    clear hb7 hB6 HR6 HO6 HG6 hgb hgs HV6 hg6
    go_wp2_with fail
    refine (remove_any M _ x w7 HR7.out (by have := HML.out; omega) HSH.out (by omega)).mono ?_
    rintro e w8 ⟨r8, rfl, ho8, hb8⟩
    have hB8 := hB7.trans (hb8.mono hB7.size)
    have HR8 := hide (HR7.out.below hb8)
    have HO8 := hide (HO7.out.below hb8)
    have HG8 := hide (And.intro (HG7.out.below hb8) ho8)
    clear hb8 hB7 HR7 HO7 HG7 ho8 hv7
    go_wp2_with fail
    refine (like_same (delF x M) _ _ w8 HG8.out.1.row HG8.out.2.row HDL.out).mono ?_
    rintro e w9 ⟨rfl, hb9⟩
    have hB9 := hB8.trans (hb9.mono hB8.size)
    have HR9 := hide (HR8.out.below hb9)
    have HO9 := hide (HO8.out.below hb9)
    clear hb9 hB8 HR8 HO8 HG8
    go_wp2_with fail
    refine (alive_any w9).mono ?_
    rintro e w10 ⟨rfl, hb10⟩
    have hB10 := hB9.trans (hb10.mono hB9.size)
    have HR10 := hide (HR9.out.below hb10)
    have HO10 := hide (HO9.out.below hb10)
    clear hb10 hB9 HR9 HO9
    go_wp2_with fail
    refine (joined_any A _ z w10 HO10.out.row HAL.out HSA.out (by omega)).mono ?_
    rintro e w11 ⟨rfl, hb11⟩
    have hB11 := hB10.trans (hb11.mono hB10.size)
    have HR11 := hide (HR10.out.below hb11)
    clear hb11 hB10 HR10 HO10
    obtain ⟨j1, hj1⟩ : ∃ j1, joinS (allF z A) = j1 := ⟨_, rfl⟩
    obtain ⟨b1, hbb1⟩ : ∃ b1, hasB z A = b1 := ⟨_, rfl⟩
    rw [hj1, hbb1]
    have HJ1 := hide (And.intro hj1 hbb1)
    clear hj1 hbb1
    go_wp2_with fail
    refine (joined_any M _ z w11 HR11.out (by have := HML.out; omega) HSH.out (by omega)).mono ?_
    rintro e w12 ⟨rfl, hb12⟩
    have hB12 := hB11.trans (hb12.mono hB11.size)
    clear hb12 hB11 HR11
    obtain ⟨j2, hj2⟩ : ∃ j2, joinS (allF z M) = j2 := ⟨_, rfl⟩
    obtain ⟨b2, hbb2⟩ : ∃ b2, hasB z M = b2 := ⟨_, rfl⟩
    rw [hj2, hbb2]
    have HJ2 := hide (And.intro hj2 hbb2)
    clear hj2 hbb2
    have hB13 := hB12.alloc hB12.size (.cells #[.string z, .string ⟨#[]⟩] 25)
    have HR13 := hide (row_one w12 (z, ⟨#[]⟩))
    go_wp2_with fail
    refine (refremove_any [(z, ⟨#[]⟩)] _ x _ HR13.out (by simp) (by intro f hf; simp at hf; subst hf; exact ⟨by show z.size ≤ _; omega, by show (⟨#[]⟩ : ByteArray).size ≤ 10000; decide⟩) (by omega)).mono ?_
    rintro e w14 ⟨r14, rfl, ho14, hb14⟩
    have hB14 := hB13.trans (hb14.mono hB13.size)
    clear hb14 hB13 hB12 HR13
    cases hsm : sameB z x
    · have hdz : delF x [(z, ⟨#[]⟩)] = [(z, ⟨#[]⟩)] := by unfold delF nm; simp [hsm]
      rw [hdz] at ho14
      have HO14 := hide ho14
      have hall := HF.out.2.2 z hsm
      have hjj : j1 = j2 := by rw [← HJ1.out.1, ← HJ2.out.1, hall]
      have hbb : b1 = b2 := by rw [← HJ1.out.2, ← HJ2.out.2]; unfold hasB; rw [hall]
      subst hjj hbb
      clear ho14 hdz hall hsm
      go_wp2_with fail
      refine (like_more _ _ w14 HO14.out.row (by simp) (by simp)).mono ?_
      rintro e w15 ⟨rfl, hb15⟩
      go_wp2_with fail
      go_ret
      exact ⟨rfl, hB14.trans (hb15.mono hB14.size)⟩
    · have hdz : delF x [(z, ⟨#[]⟩)] = [] := by unfold delF nm; simp [hsm]
      rw [hdz] at ho14
      have HO14 := hide ho14
      clear ho14 hdz hsm
      go_wp2_with fail
      refine (like_same [] _ _ w14 HO14.out.row (Row.nil _) (by simp)).mono ?_
      rintro e w15 ⟨rfl, hb15⟩
      go_wp2_with fail
      go_ret
      exact ⟨rfl, hB14.trans (hb15.mono hB14.size)⟩
  · have hE : setR M (x, y) = [] ∧ (setE M (x, y) = 1 ∨ setE M (x, y) = 4) := by
      cases hb : (rightF M && mayF (x, y))
      · exact ⟨(set_arg hb).2, Or.inl (set_arg hb).1⟩
      · by_cases h40 : (delF x M).length = 40
        · exact ⟨(set_many hb h40).2, Or.inr (set_many hb h40).1⟩
        · exact absurd ⟨hb, h40⟩ hok
    rw [hE.1] at ho3
    obtain ⟨a3, c3, hr3⟩ := ho3.row.slice
    subst hr3
    clear hok ho3
    rcases hE.2 with hE | hE
    · rw [hE]
      clear hE
      go_wp2_with fail
      refine (alive_any w3).mono ?_
      rintro e w4 ⟨rfl, hb4⟩
      go_wp2_with fail
      go_ret
      exact ⟨rfl, hB3.trans (hb4.mono hB3.size)⟩
    · rw [hE]
      clear hE
      go_wp2_with fail
      refine (alive_any w3).mono ?_
      rintro e w4 ⟨rfl, hb4⟩
      go_wp2_with fail
      go_ret
      exact ⟨rfl, hB3.trans (hb4.mono hB3.size)⟩

end Go.Proofs.Ytcikaehcmlbgfaa
