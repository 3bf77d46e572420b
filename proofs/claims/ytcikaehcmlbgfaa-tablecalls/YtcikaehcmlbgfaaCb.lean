/- The walk of TableCalls. -/
import Derived.Test.YtcikaehcmlbgfaaSa
namespace Go.Proofs.Ytcikaehcmlbgfaa
set_option linter.unusedVariables false
set_option linter.unusedSimpArgs false
open Go.RowKit

/-- A row of texts that can be read. -/
def TRow (w : World) (v : Value) (L : List ByteArray) : Prop := ∃ (a : Option Addr) (cap : Nat), v = .slice a L.length cap ∧ L.length ≤ cap ∧
    ∀ k (h : k < L.length), ∃ g, a = some ⟨g, 0, none⟩ ∧ g < w.heap.size ∧ w.cell? ⟨g, k, none⟩ = some (.string L[k])
theorem TRow.below {w w' : World} {v : Value} {L : List ByteArray} (h : TRow w v L) (hb : Below w.heap.size w w') : TRow w' v L := by
  obtain ⟨a, cap, h1, h2, h3⟩ := h
  refine ⟨a, cap, h1, h2, fun k hk => ?_⟩
  obtain ⟨g, e, hg, c0⟩ := h3 k hk
  exact ⟨g, e, Nat.lt_of_lt_of_le hg hb.size, ((stays hb).1 _ _ hg).trans c0⟩

/-- What the walk carries: nothing of old has turned, and these rows can be read. -/
structure Bag (W : World) (F : Nat) (f : Fd) (rows : List (Value × List Fd)) (texts : List (Value × List ByteArray)) (w : World) : Prop where
  below : Below W.heap.size W w
  lt : F < w.heap.size
  c0 : w.cell? ⟨F, 0, none⟩ = some (.string f.1)
  c1 : w.cell? ⟨F, 1, none⟩ = some (.string f.2)
  rows : ∀ r ∈ rows, Row w r.1 r.2
  texts : ∀ r ∈ texts, TRow w r.1 r.2
theorem Bag.on {W w w' : World} {F : Nat} {f : Fd} {R : List (Value × List Fd)} {T : List (Value × List ByteArray)} (h : Bag W F f R T w) (hb : Below w.heap.size w w') : Bag W F f R T w' :=
  ⟨h.below.trans (hb.mono h.below.size), Nat.lt_of_lt_of_le h.lt hb.size, ((stays hb).1 _ _ h.lt).trans h.c0, ((stays hb).1 _ _ h.lt).trans h.c1, fun r hr => (h.rows r hr).below hb, fun r hr => (h.texts r hr).below hb⟩
theorem Bag.row {W w : World} {F : Nat} {f : Fd} {R : List (Value × List Fd)} {T : List (Value × List ByteArray)} (h : Bag W F f R T w) {v : Value} {L : List Fd} (hv : Row w v L) : Bag W F f ((v, L) :: R) T w :=
  ⟨h.below, h.lt, h.c0, h.c1, fun r hr => (List.mem_cons.1 hr).elim (fun e => by rw [e]; exact hv) (h.rows r), h.texts⟩
theorem Bag.text {W w : World} {F : Nat} {f : Fd} {R : List (Value × List Fd)} {T : List (Value × List ByteArray)} (h : Bag W F f R T w) {v : Value} {L : List ByteArray} (hv : TRow w v L) : Bag W F f R ((v, L) :: T) w :=
  ⟨h.below, h.lt, h.c0, h.c1, h.rows, fun r hr => (List.mem_cons.1 hr).elim (fun e => by rw [e]; exact hv) (h.texts r)⟩
theorem add_le (L : List Fd) (f : Fd) : (addL L f).length ≤ L.length + 1 := by
  unfold addL
  split
  · split
    · simp
    · simp
  · simp
theorem setR_le (L : List Fd) (f : Fd) : (setR L f).length ≤ L.length + 1 := by
  unfold setR
  split
  · split
    · simp
    · exact setL_le f L
  · simp

set_option maxHeartbeats 32000000 in
set_option maxRecDepth 100000 in
theorem calls_walk (L : List Fd) (ad : Option Addr) (cap : Nat) (s t : ByteArray) (w : World) (hr : Row w (.slice ad L.length cap) L) (hcm : cap ≤ maxLen) (hs : ∀ f ∈ L, f.1.size ≤ maxLen ∧ f.2.size ≤ maxLen) (hws : s.size ≤ maxLen) (hwt : t.size ≤ maxLen) :
    Calls Try.prog 3 #[.slice ad L.length cap, .string s, .string t] w fun e w' => e = .returned (.bool true) ∧ Below w.heap.size w w' := by
  have HR := hide hr
  have HS := hide hs
  clear hr hs
  go_enter Try.func3, Try.ntmps3
  go_wp2_with fail
  refine (few_any L ad cap w HR.out hcm HS.out).mono ?_
  rintro e w1 ⟨r, M, rfl, hrow, hlen, hsh, hb1⟩
  clear HR HS
  obtain ⟨ar, cr, rfl⟩ := hrow.slice
  have HROW := hide hrow
  have HSH := hide (short_ok hsh)
  clear hrow hsh
  obtain ⟨p, hp⟩ : ∃ p : Nat, p = min s.size 60 := ⟨_, rfl⟩
  obtain ⟨q, hq⟩ : ∃ q : Nat, q = min t.size 1010 := ⟨_, rfl⟩
  have hp1 : p ≤ s.size := by omega
  have hq1 : q ≤ t.size := by omega
  have hp2 : p ≤ 60 := by omega
  have hq2 : q ≤ 1010 := by omega
  have HP := hide hp
  have HQ := hide hq
  clear hp hq
  go_wp2_with fail
  refine wp_region_held_drew (S := (fun _ => True)) (by kernel_rfl) (trivial) (fun hHeld => ?_)
  refine wpAnyH_take (i := 0) (oi := _) (v := .string s) rfl (by kernel_rfl) (by kernel_rfl) (by kernel_rfl) (fun _ _ _ h => h) (Or.inl ⟨by rfl, fun wS hSw => by go_simp⟩) (by first | trivial | assumption) ?_
  simp only [Act.put, List.setIfInBounds_toArray, List.set_cons_zero, List.set_cons_succ]
  refine wpAnyH_take (i := 1) (oi := _) (v := .string s) rfl (by kernel_rfl) (by kernel_rfl) (by kernel_rfl) (fun _ _ _ h => h) (Or.inl ⟨by rfl, fun wS hSw => by go_simp⟩) (by first | trivial | assumption) ?_
  simp only [Act.put, List.setIfInBounds_toArray, List.set_cons_zero, List.set_cons_succ]
  refine wpAnyH_take (i := 2) (oi := _) (v := .int .i64 s.size) rfl (by kernel_rfl) (by kernel_rfl) (by kernel_rfl) (fun _ _ _ h => h) (Or.inl ⟨by rfl, fun wS hSw => by go_simp⟩) (by first | trivial | assumption) ?_
  simp only [Act.put, List.setIfInBounds_toArray, List.set_cons_zero, List.set_cons_succ]
  refine wpAnyH_take (i := 3) (oi := _) (v := .int .i64 p) rfl (by kernel_rfl) (by kernel_rfl) (by kernel_rfl) (fun _ _ _ h => h) (Or.inl ⟨by rfl, fun wS hSw => by go_simp; have := HP.out; omega⟩) (by first | trivial | assumption) ?_
  simp only [Act.put, List.setIfInBounds_toArray, List.set_cons_zero, List.set_cons_succ]
  refine wpAnyH_take (i := 4) (oi := _) (v := .string (s.extract 0 p)) rfl (by kernel_rfl) (by kernel_rfl) (by kernel_rfl) (fun _ _ _ h => h) (Or.inl ⟨by rfl, fun wS hSw => by go_simp⟩) (by first | trivial | assumption) ?_
  simp only [Act.put, List.setIfInBounds_toArray, List.set_cons_zero, List.set_cons_succ]
  refine wpAnyH_take (i := 5) (oi := _) (v := .string t) rfl (by kernel_rfl) (by kernel_rfl) (by kernel_rfl) (fun _ _ _ h => h) (Or.inl ⟨by rfl, fun wS hSw => by go_simp⟩) (by first | trivial | assumption) ?_
  simp only [Act.put, List.setIfInBounds_toArray, List.set_cons_zero, List.set_cons_succ]
  refine wpAnyH_take (i := 6) (oi := _) (v := .string t) rfl (by kernel_rfl) (by kernel_rfl) (by kernel_rfl) (fun _ _ _ h => h) (Or.inl ⟨by rfl, fun wS hSw => by go_simp⟩) (by first | trivial | assumption) ?_
  simp only [Act.put, List.setIfInBounds_toArray, List.set_cons_zero, List.set_cons_succ]
  refine wpAnyH_take (i := 7) (oi := _) (v := .int .i64 t.size) rfl (by kernel_rfl) (by kernel_rfl) (by kernel_rfl) (fun _ _ _ h => h) (Or.inl ⟨by rfl, fun wS hSw => by go_simp⟩) (by first | trivial | assumption) ?_
  simp only [Act.put, List.setIfInBounds_toArray, List.set_cons_zero, List.set_cons_succ]
  refine wpAnyH_take (i := 8) (oi := _) (v := .int .i64 q) rfl (by kernel_rfl) (by kernel_rfl) (by kernel_rfl) (fun _ _ _ h => h) (Or.inl ⟨by rfl, fun wS hSw => by go_simp; have := HQ.out; omega⟩) (by first | trivial | assumption) ?_
  simp only [Act.put, List.setIfInBounds_toArray, List.set_cons_zero, List.set_cons_succ]
  refine wpAnyH_take (i := 9) (oi := _) (v := .string (t.extract 0 q)) rfl (by kernel_rfl) (by kernel_rfl) (by kernel_rfl) (fun _ _ _ h => h) (Or.inl ⟨by rfl, fun wS hSw => by go_simp⟩) (by first | trivial | assumption) ?_
  simp only [Act.put, List.setIfInBounds_toArray, List.set_cons_zero, List.set_cons_succ]
  refine wpAnyH_ready (rs := [10]) (by kernel_rfl) (by simp) ?_
  refine AllReadyH.cons (o := _) rfl (fun K hK => ?_) AllReadyH.nil
  go_simp
  refine hK.out _ _ (trivial) (fun hHeld => ?_)
  clear hK K
  refine wpAnyH_ready (rs := [11]) (by kernel_rfl) (by simp) ?_
  refine AllReadyH.cons (o := _) rfl (fun K hK => ?_) AllReadyH.nil
  go_simp
  refine hK.out _ _ (trivial) (fun hHeld => ?_)
  clear hK K
  refine wpAnyH_done (by kernel_rfl) ?_ _
  have hxs : (s.extract 0 p).size ≤ 60 := by rw [ByteArray.size_extract]; omega
  have hys : (t.extract 0 q).size ≤ 1010 := by rw [ByteArray.size_extract]; omega
  generalize s.extract 0 p = x at hxs ⊢
  generalize t.extract 0 q = y at hys ⊢
  have HROW := hide (show Row w1.drew (.slice ar M.length cr) M from HROW.out)
  have hb2 : Below w.heap.size w w1.drew := hb1.drew
  clear hb1 HP HQ
  have hba := one_alloc w1.drew #[.string x, .string y] 25
  have hba2 := hb2.alloc hb2.size (.cells #[.string x, .string y] 25)
  have hbag : Bag w w1.heap.size (x, y) [(.slice ar M.length cr, M)] [] (w1.drew.alloc (.cells #[.string x, .string y] 25)) :=
    ⟨hba2, by simp, by go_simp, by go_simp, fun r hr => by obtain rfl : r = (.slice ar M.length cr, M) := by simpa using hr
                                                           exact HROW.out.below hba, fun r hr => absurd hr (by simp)⟩
  have HB := hide hbag
  have HML : Hid (M.length ≤ 900) := by unfold Hid; omega
  have hx1 : x.size ≤ 10000 := by omega
  have hy1 : y.size ≤ 10000 := by omega
  clear hba hba2 hbag hb2 HROW
  go_wp2_with fail
  refine (add_any M _ (x, y) _ (HB.out.rows (.slice ar M.length cr, M) (by simp)) (by have := HML.out; omega) HSH.out hx1 hy1).mono ?_
  rintro e w2 ⟨ra, rfl, hoa, hba⟩
  have hbag := (HB.out.on hba).row hoa.row
  clear HB
  have HB := hide hbag
  clear hbag hoa hba
  have d0 := HB.out.c0
  have d1 := HB.out.c1
  go_wp2_with fail
  refine (refadd_any M _ (x, y) _ (HB.out.rows (.slice ar M.length cr, M) (by simp)) (by have := HML.out; omega) HSH.out hx1 hy1).mono ?_
  rintro e w3 ⟨rb, rfl, hob, hbb⟩
  have hbag := (HB.out.on hbb).row hob.row
  clear HB d0 d1
  have HB := hide hbag
  clear hbag hob hbb
  generalize (addE M (x, y)) = ea
  go_wp2_with fail
  refine (set_any M _ (x, y) _ (HB.out.rows (.slice ar M.length cr, M) (by simp)) (by have := HML.out; omega) HSH.out hx1 hy1).mono ?_
  rintro e w4 ⟨rc, rfl, hoc, hbc⟩
  have hbag := (HB.out.on hbc).row hoc.row
  clear HB
  have HB := hide hbag
  clear hbag hoc hbc
  have d0 := HB.out.c0
  have d1 := HB.out.c1
  go_wp2_with fail
  refine (refset_any M _ (x, y) _ (HB.out.rows (.slice ar M.length cr, M) (by simp)) (by have := HML.out; omega) HSH.out hx1 hy1).mono ?_
  rintro e w5 ⟨rd, rfl, hod, hbd⟩
  have hbag := (HB.out.on hbd).row hod.row
  clear HB d0 d1
  have HB := hide hbag
  clear hbag hod hbd
  generalize (setE M (x, y)) = ec
  go_wp2_with fail
  refine (refall_any M _ x _ (HB.out.rows (.slice ar M.length cr, M) (by simp)) (by have := HML.out; omega) HSH.out (by omega)).mono ?_
  rintro e w6 ⟨rt, rfl, hot, hbt⟩
  have hbag := (HB.out.on hbt).text hot.row
  clear HB
  have HB := hide hbag
  clear hbag hot hbt
  go_wp2_with fail
  refine (get_any M _ x _ (HB.out.rows (.slice ar M.length cr, M) (by simp)) (by have := HML.out; omega) HSH.out (by omega)).mono ?_
  rintro e w7 ⟨rfl, hbg⟩
  have hbag := (HB.out.on hbg)
  clear HB
  have HB := hide hbag
  clear hbag hbg
  go_wp2_with fail
  refine (joined_any M _ x _ (HB.out.rows (.slice ar M.length cr, M) (by simp)) (by have := HML.out; omega) HSH.out (by omega)).mono ?_
  rintro e w8 ⟨rfl, hbj⟩
  have hbag := (HB.out.on hbj)
  clear HB
  have HB := hide hbag
  clear hbag hbj
  go_wp2_with fail
  refine (values_any M _ x _ (HB.out.rows (.slice ar M.length cr, M) (by simp)) (by have := HML.out; omega) HSH.out (by omega)).mono ?_
  rintro e w9 ⟨rv, rfl, hov, hbv⟩
  have hbag := (HB.out.on hbv).text hov.row
  clear HB
  have HB := hide hbag
  clear hbag hov hbv
  have HAS := hide (all_short (n := x) HSH.out)
  have HAL : Hid ((allF x M).length ≤ 1000) := Nat.le_trans (all_le _ _) (by have := HML.out; omega)
  have hGH : getS x M = (allF x M).headD ⟨#[]⟩ ∧ hasB x M = decide (0 < (allF x M).length) := ⟨rfl, rfl⟩
  rw [hGH.1, hGH.2]
  clear hGH
  generalize allF x M = A at HB HAS HAL ⊢
  obtain ⟨at', ct, hrt, hct, hcellt⟩ := HB.out.texts (rt, A) (by simp)
  obtain ⟨av, cv, hrv, hcv, hcellv⟩ := HB.out.texts (rv, A) (by simp)
  simp only at hrt hrv
  subst hrt hrv
  have HCT := hide hcellt
  have HCV := hide hcellv
  have hAl := HAL.out
  clear hcellt hcellv
  obtain ⟨J, hJ⟩ : ∃ J, joinS A = J := ⟨_, rfl⟩
  have HJ := hide hJ
  rw [hJ]
  clear hJ
  cases A with
  | nil =>
    rw [show (([] : List ByteArray).headD ⟨#[]⟩) = ⟨#[]⟩ from rfl, show (([] : List ByteArray).length) = 0 from rfl, show decide (0 < 0) = false from rfl]
    have hJe : J = ⟨#[]⟩ := by rw [← HJ.out]; rfl
    subst hJe
    go_wp2_with fail
    refine (refjoined_any [] at' ct w9 hct (by simp) HAS.out HCT.out).mono ?_
    rintro e w10 ⟨rfl, rfl⟩
    rw [joinS_nil]
    clear HCT HCV
    go_wp2_with fail
    go_loopw [22, 125] (fun _ i wr => i = .int .i64 0 ∧ ∃ n : Nat, wr = w10.drewN n) (fun _ i _ => 0)
    case atStart => exact ⟨rfl, 0, by simp [World.drewN]⟩
    case round =>
      obtain ⟨rfl, n, rfl⟩ := hrel
      have HB := hide (HB.out.on (below_drewN (Below.refl _ _) n))
      go_wp2_with fail
      refine (alive_any _).mono ?_
      rintro e w11 ⟨rfl, hb11⟩
      have hbag := HB.out.on hb11
      clear HB hb11
      have HB := hide hbag
      clear hbag
      go_wp2_with fail
      refine (right_any M _ _ (HB.out.rows (.slice ar M.length cr, M) (by simp)) (by have := HML.out; omega) HSH.out).mono ?_
      rintro e w12 ⟨rfl, hb12⟩
      have hbag := HB.out.on hb12
      clear HB hb12
      have HB := hide hbag
      clear hbag
      go_wp2_with fail
      refine (refright_any M _ _ (HB.out.rows (.slice ar M.length cr, M) (by simp)) (by have := HML.out; omega) HSH.out).mono ?_
      rintro e w13 ⟨rfl, hb13⟩
      have hbag := HB.out.on hb13
      clear HB hb13
      have HB := hide hbag
      clear hbag
      generalize rightF M = rm
      go_wp2_with fail
      refine (like_same (addL M (x, y)) ra rb _ (HB.out.rows (ra, addL M (x, y)) (by simp)) (HB.out.rows (rb, addL M (x, y)) (by simp)) (Nat.le_trans (add_le _ _) (by have := HML.out; omega))).mono ?_
      rintro e w14 ⟨rfl, hb14⟩
      have hbag := HB.out.on hb14
      clear HB hb14
      have HB := hide hbag
      clear hbag
      go_wp2_with fail
      refine (like_same (setR M (x, y)) rc rd _ (HB.out.rows (rc, setR M (x, y)) (by simp)) (HB.out.rows (rd, setR M (x, y)) (by simp)) (Nat.le_trans (setR_le _ _) (by have := HML.out; omega))).mono ?_
      rintro e w15 ⟨rfl, hb15⟩
      have hbag := HB.out.on hb15
      clear HB hb15
      have HB := hide hbag
      clear hbag
      go_wp2_with fail
      refine (remove_any M _ x _ (HB.out.rows (.slice ar M.length cr, M) (by simp)) (by have := HML.out; omega) HSH.out (by omega)).mono ?_
      rintro e w16 ⟨re, rfl, hoe, hb16⟩
      have hbag := (HB.out.on hb16).row hoe.row
      clear HB hb16 hoe
      have HB := hide hbag
      clear hbag
      go_wp2_with fail
      refine (refremove_any M _ x _ (HB.out.rows (.slice ar M.length cr, M) (by simp)) (by have := HML.out; omega) HSH.out (by omega)).mono ?_
      rintro e w17 ⟨rg, rfl, hog, hb17⟩
      have hbag := (HB.out.on hb17).row hog.row
      clear HB hb17 hog
      have HB := hide hbag
      clear hbag
      go_wp2_with fail
      refine (like_same (delF x M) re rg _ (HB.out.rows (re, delF x M) (by simp)) (HB.out.rows (rg, delF x M) (by simp)) (Nat.le_trans (del_le _ _) (by have := HML.out; omega))).mono ?_
      rintro e w18 ⟨rfl, hb18⟩
      have hbag := HB.out.on hb18
      go_wp2_with fail
      go_ret
      exact ⟨rfl, hbag.below⟩
  | cons a A =>
    have hJe : Hid (joinS (a :: A) = J) := HJ
    rw [show ((a :: A).headD ⟨#[]⟩) = a from rfl, show decide (0 < (a :: A).length) = true from rfl]
    obtain ⟨g0, hg0, -, v0⟩ := HCT.out 0 (by simp)
    obtain ⟨g1, hg1, -, -⟩ := HCV.out 0 (by simp)
    subst hg0 hg1
    simp only [List.getElem_cons_zero] at v0
    obtain ⟨m, hm⟩ : ∃ m, (a :: A).length = m := ⟨_, rfl⟩
    have hm0 : 0 < m := by rw [← hm]; simp
    have hm0z : (0 : Int) < m := by omega
    have HM := hide hm
    have HXT : Hid (∀ k, k < m → ∃ z, w9.cell? ⟨g0, k, none⟩ = some (.string z) ∧ w9.cell? ⟨g1, k, none⟩ = some (.string z)) := by
      unfold Hid
      intro k hk
      rw [← hm] at hk
      obtain ⟨b0, hb0, -, z0⟩ := HCT.out k hk
      obtain ⟨b1, hb1, -, z1⟩ := HCV.out k hk
      cases hb0
      cases hb1
      exact ⟨_, z0, z1⟩
    have HRJ := hide (refjoined_any (a :: A) (some ⟨g0, 0, none⟩) ct w9 hct (by omega) HAS.out HCT.out)
    rw [hJe.out] at HRJ
    rw [hm] at hct hcv hAl HRJ ⊢
    clear hm HCT HCV HJ hJe
    go_wp2_with fail
    refine HRJ.out.mono ?_
    rintro e w10 ⟨rfl, rfl⟩
    clear HRJ
    go_wp2_with fail
    go_loopw [22, 125] (fun _ i wr => ∃ k n : Nat, k ≤ m ∧ i = .int .i64 k ∧ wr = w10.drewN n) (fun _ i _ => m - (intOf i).toNat)
    case atStart => exact ⟨0, 0, Nat.zero_le _, rfl, by simp [World.drewN]⟩
    case round =>
      obtain ⟨k, n, hk, rfl, rfl⟩ := hrel
      by_cases hlt : k < m
      · have hltz : (k : Int) < m := by omega
        obtain ⟨z, z0, z1⟩ := HXT.out k hlt
        go_wp2_with fail
        go_quiet (fail)
        go_wp2_with fail
        exact ⟨⟨k + 1, n + nq, by omega, by go_num, rfl⟩, by simp [intOf]; omega⟩
      · have hd : decide ((k : Int) < m) = false := decide_eq_false (by omega)
        have HB := hide (HB.out.on (below_drewN (Below.refl _ _) n))
        go_wp2_with fail
        refine (alive_any _).mono ?_
        rintro e w11 ⟨rfl, hb11⟩
        have hbag := HB.out.on hb11
        clear HB hb11
        have HB := hide hbag
        clear hbag
        go_wp2_with fail
        refine (right_any M _ _ (HB.out.rows (.slice ar M.length cr, M) (by simp)) (by have := HML.out; omega) HSH.out).mono ?_
        rintro e w12 ⟨rfl, hb12⟩
        have hbag := HB.out.on hb12
        clear HB hb12
        have HB := hide hbag
        clear hbag
        go_wp2_with fail
        refine (refright_any M _ _ (HB.out.rows (.slice ar M.length cr, M) (by simp)) (by have := HML.out; omega) HSH.out).mono ?_
        rintro e w13 ⟨rfl, hb13⟩
        have hbag := HB.out.on hb13
        clear HB hb13
        have HB := hide hbag
        clear hbag
        generalize rightF M = rm
        go_wp2_with fail
        refine (like_same (addL M (x, y)) ra rb _ (HB.out.rows (ra, addL M (x, y)) (by simp)) (HB.out.rows (rb, addL M (x, y)) (by simp)) (Nat.le_trans (add_le _ _) (by have := HML.out; omega))).mono ?_
        rintro e w14 ⟨rfl, hb14⟩
        have hbag := HB.out.on hb14
        clear HB hb14
        have HB := hide hbag
        clear hbag
        go_wp2_with fail
        refine (like_same (setR M (x, y)) rc rd _ (HB.out.rows (rc, setR M (x, y)) (by simp)) (HB.out.rows (rd, setR M (x, y)) (by simp)) (Nat.le_trans (setR_le _ _) (by have := HML.out; omega))).mono ?_
        rintro e w15 ⟨rfl, hb15⟩
        have hbag := HB.out.on hb15
        clear HB hb15
        have HB := hide hbag
        clear hbag
        go_wp2_with fail
        refine (remove_any M _ x _ (HB.out.rows (.slice ar M.length cr, M) (by simp)) (by have := HML.out; omega) HSH.out (by omega)).mono ?_
        rintro e w16 ⟨re, rfl, hoe, hb16⟩
        have hbag := (HB.out.on hb16).row hoe.row
        clear HB hb16 hoe
        have HB := hide hbag
        clear hbag
        go_wp2_with fail
        refine (refremove_any M _ x _ (HB.out.rows (.slice ar M.length cr, M) (by simp)) (by have := HML.out; omega) HSH.out (by omega)).mono ?_
        rintro e w17 ⟨rg, rfl, hog, hb17⟩
        have hbag := (HB.out.on hb17).row hog.row
        clear HB hb17 hog
        have HB := hide hbag
        clear hbag
        go_wp2_with fail
        refine (like_same (delF x M) re rg _ (HB.out.rows (re, delF x M) (by simp)) (HB.out.rows (rg, delF x M) (by simp)) (Nat.le_trans (del_le _ _) (by have := HML.out; omega))).mono ?_
        rintro e w18 ⟨rfl, hb18⟩
        have hbag := HB.out.on hb18
        go_wp2_with fail
        go_ret
        exact ⟨rfl, hbag.below⟩

end Go.Proofs.Ytcikaehcmlbgfaa
