/- The walk of TableCases. -/
import Derived.Test.YtcikaehcmlbgfaaGa
namespace Go.Proofs.Ytcikaehcmlbgfaa
set_option linter.unusedVariables false
set_option linter.unusedSimpArgs false
open Go.RowKit

def upB (c : UInt8) : UInt8 := if 97 ≤ c.toNat ∧ c.toNat ≤ 122 then c - 32 else c
theorem low_up (c : UInt8) : lowB (upB c) = lowB c := by
  have := u8_all (fun c => lowB (upB c) == lowB c) (by decide +kernel) c
  simpa using this
def upT (s : ByteArray) (k : Nat) : ByteArray := ⟨((s.data.toList.take k).map upB).toArray⟩
def upS (s : ByteArray) : ByteArray := ⟨(s.data.toList.map upB).toArray⟩
theorem upT_zero (s : ByteArray) : upT s 0 = ⟨#[]⟩ := by simp [upT]
theorem upT_size (s : ByteArray) (k : Nat) : (upT s k).size ≤ k := by
  rw [← size_list]; simp [upT]; omega
theorem upS_size (s : ByteArray) : (upS s).size = s.size := by
  rw [← size_list]; simp [upS]
theorem upT_succ {s : ByteArray} {k : Nat} (h : k < s.size) : upT s k ++ ⟨#[upB s[k]]⟩ = upT s (k + 1) := by
  apply bytes_ext
  rw [app_list]
  simp only [upT, List.toList_toArray]
  rw [take_snoc _ k (by rw [size_list]; exact h), get_at s k h]
  simp
theorem upT_all {s : ByteArray} {k : Nat} (h : s.size ≤ k) : upT s k = upS s := by
  unfold upT upS
  rw [List.take_of_length_le (by rw [size_list]; exact h)]
theorem up_yes {c : UInt8} (h : 97 ≤ c.toNat) (g : c.toNat ≤ 122) : ((upB c).toNat : Int) = (c.toNat : Int) - 32 := by
  unfold upB
  rw [if_pos ⟨h, g⟩, UInt8.toNat_sub]
  have : (32 : UInt8).toNat = 32 := rfl
  rw [this]
  omega
theorem up_no {c : UInt8} (h : ¬ (97 ≤ c.toNat ∧ c.toNat ≤ 122)) : upB c = c := by unfold upB; rw [if_neg h]
theorem lowS_up (s : ByteArray) : lowS (upS s) = lowS s := by
  apply bytes_ext
  rw [lowS_list, lowS_list]
  simp only [upS, lowL, List.toList_toArray, List.map_map]
  apply List.map_congr_left
  intro c _
  exact low_up c
theorem nm_up (s : ByteArray) : nm (upS s) = nm s := by
  funext f
  unfold nm sameB
  rw [lowS_up]
theorem all_up (s : ByteArray) (L : List Fd) : allF (upS s) L = allF s L := by unfold allF; rw [nm_up]
theorem del_up (s : ByteArray) (L : List Fd) : delF (upS s) L = delF s L := by unfold delF; rw [nm_up]
theorem del_swap (a b : ByteArray) (L : List Fd) : delF b (delF a L) = delF a (delF b L) := by
  unfold delF
  rw [List.filter_filter, List.filter_filter]
  apply List.filter_congr
  intro f _
  exact Bool.and_comm _ _
theorem all_count (n : ByteArray) (L : List Fd) : (allF n L).length + (delF n L).length = L.length := by
  induction L with
  | nil => rfl
  | cons f L ih =>
    unfold allF delF at *
    cases h : nm n f
    · simp [h] at ih ⊢; omega
    · simp [h] at ih ⊢; omega

set_option maxHeartbeats 16000000 in
theorem cases_walk (L : List Fd) (ad : Option Addr) (cap : Nat) (s t : ByteArray) (w : World) (hr : Row w (.slice ad L.length cap) L) (hcm : cap ≤ maxLen) (hs : ∀ f ∈ L, f.1.size ≤ maxLen ∧ f.2.size ≤ maxLen) (hws : s.size ≤ maxLen) (hwt : t.size ≤ maxLen) :
    Calls Try.prog 6 #[.slice ad L.length cap, .string s, .string t] w fun e w' => e = .returned (.bool true) ∧ Below w.heap.size w w' := by
  have HR := hide hr
  have HS := hide hs
  clear hr hs
  go_enter Try.func6, Try.ntmps6
  go_wp2_with fail
  refine (few_any L ad cap w HR.out hcm HS.out).mono ?_
  rintro e w1 ⟨r, M, rfl, hrow, hlen, hsh, hb1⟩
  clear HR HS
  obtain ⟨ar, cr, rfl⟩ := hrow.slice
  have HROW := hide hrow
  have HSH := hide (short_ok hsh)
  clear hrow hsh
  obtain ⟨p, hp⟩ : ∃ p : Nat, p = min s.size 60 := ⟨_, rfl⟩
  obtain ⟨q, hq⟩ : ∃ q : Nat, q = min t.size 60 := ⟨_, rfl⟩
  have hp1 : p ≤ s.size := by omega
  have hq1 : q ≤ t.size := by omega
  have hp2 : p ≤ 60 := by omega
  have hq2 : q ≤ 60 := by omega
  have HP := hide hp
  have HQ := hide hq
  clear hp hq
  go_wp2_with fail
  refine wp_region_held_drew (S := (fun _ => True)) (by kernel_rfl) (trivial) (fun hHeld => ?_)
  refine wpAnyH_take (i := 0) (oi := _) (v := .string s) rfl (by kernel_rfl) (by kernel_rfl) (by kernel_rfl) (fun _ _ _ h => h) (Or.inl ⟨by rfl, fun wS hSw => by go_simp⟩) (by first | trivial | assumption) ?_
  simp only [Act.put, List.setIfInBounds_toArray, List.set_cons_zero, List.set_cons_succ]
  refine wpAnyH_take (i := 1) (oi := _) (v := .string s) rfl (by kernel_rfl) (by kernel_rfl) (by kernel_rfl) (fun _ _ _ h => h) (Or.inl ⟨by rfl, fun wS hSw => by go_simp⟩) (by first | trivial | assumption) ?_
  simp only [Act.put, List.setIfInBounds_toArray, List.set_cons_zero, List.set_cons_succ]
  refine wpAnyH_take (i := 2) (oi := _) (v := .int .i64 s.size) rfl (by kernel_rfl) (by kernel_rfl) (by kernel_rfl) (fun _ _ _ h => h) (Or.inl ⟨by rfl, fun wS hSw => by go_simp⟩) (by first | trivial | assumption) ?_
  simp only [Act.put, List.setIfInBounds_toArray, List.set_cons_zero, List.set_cons_succ]
  refine wpAnyH_take (i := 3) (oi := _) (v := .int .i64 p) rfl (by kernel_rfl) (by kernel_rfl) (by kernel_rfl) (fun _ _ _ h => h) (Or.inl ⟨by rfl, fun wS hSw => by go_simp; have := HP.out; omega⟩) (by first | trivial | assumption) ?_
  simp only [Act.put, List.setIfInBounds_toArray, List.set_cons_zero, List.set_cons_succ]
  refine wpAnyH_take (i := 4) (oi := _) (v := .string (s.extract 0 p)) rfl (by kernel_rfl) (by kernel_rfl) (by kernel_rfl) (fun _ _ _ h => h) (Or.inl ⟨by rfl, fun wS hSw => by go_simp⟩) (by first | trivial | assumption) ?_
  simp only [Act.put, List.setIfInBounds_toArray, List.set_cons_zero, List.set_cons_succ]
  refine wpAnyH_take (i := 5) (oi := _) (v := .string t) rfl (by kernel_rfl) (by kernel_rfl) (by kernel_rfl) (fun _ _ _ h => h) (Or.inl ⟨by rfl, fun wS hSw => by go_simp⟩) (by first | trivial | assumption) ?_
  simp only [Act.put, List.setIfInBounds_toArray, List.set_cons_zero, List.set_cons_succ]
  refine wpAnyH_take (i := 6) (oi := _) (v := .string t) rfl (by kernel_rfl) (by kernel_rfl) (by kernel_rfl) (fun _ _ _ h => h) (Or.inl ⟨by rfl, fun wS hSw => by go_simp⟩) (by first | trivial | assumption) ?_
  simp only [Act.put, List.setIfInBounds_toArray, List.set_cons_zero, List.set_cons_succ]
  refine wpAnyH_take (i := 7) (oi := _) (v := .int .i64 t.size) rfl (by kernel_rfl) (by kernel_rfl) (by kernel_rfl) (fun _ _ _ h => h) (Or.inl ⟨by rfl, fun wS hSw => by go_simp⟩) (by first | trivial | assumption) ?_
  simp only [Act.put, List.setIfInBounds_toArray, List.set_cons_zero, List.set_cons_succ]
  refine wpAnyH_take (i := 8) (oi := _) (v := .int .i64 q) rfl (by kernel_rfl) (by kernel_rfl) (by kernel_rfl) (fun _ _ _ h => h) (Or.inl ⟨by rfl, fun wS hSw => by go_simp; have := HQ.out; omega⟩) (by first | trivial | assumption) ?_
  simp only [Act.put, List.setIfInBounds_toArray, List.set_cons_zero, List.set_cons_succ]
  refine wpAnyH_take (i := 9) (oi := _) (v := .string (t.extract 0 q)) rfl (by kernel_rfl) (by kernel_rfl) (by kernel_rfl) (fun _ _ _ h => h) (Or.inl ⟨by rfl, fun wS hSw => by go_simp⟩) (by first | trivial | assumption) ?_
  simp only [Act.put, List.setIfInBounds_toArray, List.set_cons_zero, List.set_cons_succ]
  refine wpAnyH_ready (rs := [10]) (by kernel_rfl) (by simp) ?_
  refine AllReadyH.cons (o := _) rfl (fun K hK => ?_) AllReadyH.nil
  go_simp
  refine hK.out _ _ (trivial) (fun hHeld => ?_)
  clear hK K
  refine wpAnyH_ready (rs := [11]) (by kernel_rfl) (by simp) ?_
  refine AllReadyH.cons (o := _) rfl (fun K hK => ?_) AllReadyH.nil
  go_simp
  refine hK.out _ _ (trivial) (fun hHeld => ?_)
  clear hK K
  refine wpAnyH_done (by kernel_rfl) ?_ _
  have hxs : (s.extract 0 p).size ≤ 60 := by rw [ByteArray.size_extract]; omega
  have hys : (t.extract 0 q).size ≤ 60 := by rw [ByteArray.size_extract]; omega
  generalize s.extract 0 p = x at hxs ⊢
  generalize t.extract 0 q = y at hys ⊢
  have HROW := hide (show Row w1.drew (.slice ar M.length cr) M from HROW.out)
  have hb2 : Below w.heap.size w w1.drew := hb1.drew
  clear hb1
  go_wp2_with fail
  generalize w1.drew = w2 at *
  go_loopw [7, 8, 9, 30] (fun o _ _ i wr => ∃ k : Nat, k ≤ x.size ∧ i = .int .i64 k ∧ o = .string (upT x k) ∧ Below w2.heap.size w2 wr) (fun _ _ _ i _ => x.size - (intOf i).toNat)
  case atStart => exact ⟨0, Nat.zero_le _, rfl, by rw [upT_zero], Below.refl _ _⟩
  case round =>
    obtain ⟨k, hk, rfl, rfl, hbr⟩ := hrel
    have hts := upT_size x k
    by_cases hlt : k < x.size
    · have hltz : (k : Int) < x.size := by omega
      have hc := (x[k]).toNat_lt
      have HU := hide (upT_succ hlt)
      have HBN : Hid (∀ z, Below w2.heap.size w2 (wr.alloc (.cells #[z] 5))) := fun z => hbr.alloc hbr.size _
      clear hbr
      by_cases hcap : 97 ≤ (x[k]).toNat ∧ (x[k]).toNat ≤ 122
      · obtain ⟨h1, h2⟩ := hcap
        have hcv := one_byte wr (upB x[k]) ((x[k]).toNat - 32) (up_yes h1 h2).symm
        go_wp2_with fail
        refine ⟨⟨k + 1, by omega, by go_num, by rw [← HU.out], HBN.out _⟩, by simp [intOf]; omega⟩
      · have hlo := up_no hcap
        rw [hlo] at HU
        have hcv := one_byte wr x[k] (x[k]).toNat rfl
        clear hlo
        by_cases h1 : 97 ≤ (x[k]).toNat
        · have h2 : ¬ (x[k]).toNat ≤ 122 := fun h => hcap ⟨h1, h⟩
          have h2d : decide (((x[k]).toNat : Int) ≤ 122) = false := decide_eq_false (by omega)
          clear hcap
          go_wp2_with fail
          refine ⟨⟨k + 1, by omega, by go_num, by rw [← HU.out], HBN.out _⟩, by simp [intOf]; omega⟩
        · clear hcap
          go_wp2_with fail
          refine ⟨⟨k + 1, by omega, by go_num, by rw [← HU.out], HBN.out _⟩, by simp [intOf]; omega⟩
    · have hd : decide ((k : Int) < x.size) = false := decide_eq_false (by omega)
      have hU := upT_all (s := x) (k := k) (by omega)
      rw [hU]
      clear hU hts
      have hus := upS_size x
      have HUS := hide hus
      have HR2 := hide (HROW.out.below hbr)
      have hB2 := hb2.trans (hbr.mono hb2.size)
      have HU := hide (And.intro (all_up x) (del_up x))
      generalize upS x = u at hus HUS HU ⊢
      clear hbr HROW hus
      have HML : Hid (M.length ≤ 1000000) := by unfold Hid; omega
      go_wp2_with fail
      refine (get_any M _ x wr HR2.out HML.out HSH.out (by omega)).mono ?_
      rintro e w3 ⟨rfl, hb3⟩
      have HR3 := hide (HR2.out.below hb3)
      have hB3 := hB2.trans (hb3.mono hB2.size)
      clear hb3 hB2 HR2
      go_wp2_with fail
      refine (get_any M _ u w3 HR3.out HML.out HSH.out (by have := HUS.out; omega)).mono ?_
      rintro e w4 ⟨rfl, hb4⟩
      have HR4 := hide (HR3.out.below hb4)
      have hB4 := hB3.trans (hb4.mono hB3.size)
      have hg1 : getS u M = getS x M := by unfold getS; rw [HU.out.1]
      have hg2 : hasB u M = hasB x M := by unfold hasB; rw [HU.out.1]
      rw [hg1, hg2]
      clear hb4 hB3 HR3 hg1 hg2
      generalize getS x M = gx
      generalize hasB x M = hx
      go_wp2_with fail
      refine (remove_any M _ x w4 HR4.out HML.out HSH.out (by omega)).mono ?_
      rintro e w5 ⟨r5, rfl, ho5, hb5⟩
      have HR5 := hide (HR4.out.below hb5)
      have hB5 := hB4.trans (hb5.mono hB4.size)
      have HO5 := hide ho5
      clear hb5 hB4 HR4 ho5
      go_wp2_with fail
      refine (remove_any (delF x M) r5 y w5 HO5.out.row (Nat.le_trans (del_le _ _) HML.out) (del_short HSH.out) (by omega)).mono ?_
      rintro e w6 ⟨r6, rfl, ho6, hb6⟩
      have HR6 := hide (HR5.out.below hb6)
      have hB6 := hB5.trans (hb6.mono hB5.size)
      have HO6 := hide ho6
      clear hb6 hB5 HR5 ho6 HO5
      go_wp2_with fail
      refine (remove_any M _ y w6 HR6.out HML.out HSH.out (by omega)).mono ?_
      rintro e w7 ⟨r7, rfl, ho7, hb7⟩
      have HR7 := hide (HR6.out.below hb7)
      have hB7 := hB6.trans (hb7.mono hB6.size)
      have HO7 := hide (And.intro ho7 (HO6.out.below hb7))
      clear hb7 hB6 HR6 ho7 HO6
      go_wp2_with fail
      refine (remove_any (delF y M) r7 u w7 HO7.out.1.row (Nat.le_trans (del_le _ _) HML.out) (del_short HSH.out) (by have := HUS.out; omega)).mono ?_
      rintro e w8 ⟨r8, rfl, ho8, hb8⟩
      have HR8 := hide (HR7.out.below hb8)
      have hB8 := hB7.trans (hb8.mono hB7.size)
      have heq : delF u (delF y M) = delF y (delF x M) := by rw [HU.out.2, del_swap]
      rw [heq] at ho8
      have HO8 := hide (And.intro ho8 (HO7.out.2.below hb8))
      clear hb8 hB7 HR7 ho8 HO7 heq
      go_wp2_with fail
      refine (alive_any w8).mono ?_
      rintro e w9 ⟨rfl, hb9⟩
      have HR9 := hide (HR8.out.below hb9)
      have hB9 := hB8.trans (hb9.mono hB8.size)
      have HO9 := hide (And.intro (HO8.out.1.below hb9) (HO8.out.2.below hb9))
      clear hb9 hB8 HR8 HO8
      go_wp2_with fail
      refine (like_same _ _ _ w9 HO9.out.2.row HO9.out.1.row (Nat.le_trans (del_le _ _) (Nat.le_trans (del_le _ _) HML.out))).mono ?_
      rintro e w10 ⟨rfl, hb10⟩
      have HR10 := hide (HR9.out.below hb10)
      have hB10 := hB9.trans (hb10.mono hB9.size)
      clear hb10 hB9 HR9 HO9
      go_wp2_with fail
      refine (values_any M _ x w10 HR10.out HML.out HSH.out (by omega)).mono ?_
      rintro e w11 ⟨r11, rfl, ho11, hb11⟩
      have HR11 := hide (HR10.out.below hb11)
      have hB11 := hB10.trans (hb11.mono hB10.size)
      obtain ⟨a11, c11, hr11, -⟩ := ho11.row
      subst hr11
      clear hb11 hB10 HR10 ho11
      go_wp2_with fail
      refine (remove_any M _ x w11 HR11.out HML.out HSH.out (by omega)).mono ?_
      rintro e w12 ⟨r12, rfl, ho12, hb12⟩
      have hB12 := hB11.trans (hb12.mono hB11.size)
      obtain ⟨a12, c12, hr12⟩ := ho12.row.slice
      subst hr12
      have hcnt : ((allF x M).length : Int) = (M.length : Int) - ((delF x M).length : Int) := by have := all_count x M; omega
      have hdl : (delF x M).length ≤ M.length := del_le _ _
      have hbt : (((allF x M).length : Int) == (M.length : Int) - ((delF x M).length : Int)) = true := by rw [hcnt]; simp
      clear hcnt ho12
      go_wp2_with fail
      go_ret
      exact ⟨rfl, hB12⟩

end Go.Proofs.Ytcikaehcmlbgfaa
