/- The walk of HopStrips. -/
import Derived.Test.YtojoidhjlbcijaaDoorLk
namespace Go.Proofs.YtojoidhjlbcijaaDoor
set_option linter.unusedVariables false
set_option linter.unusedSimpArgs false
set_option maxRecDepth 100000
open Go.RowKit

theorem upR_le (L : List Fd) (h d : ByteArray) : (upR L h d).length ≤ 40 := by
  by_cases hz : upE L h d = 0
  · exact right_le (up_facts hz).2.2.1
  · rw [up_bad hz]; simp

set_option maxHeartbeats 16000000 in
theorem strips_walk (s : St) (L : List Fd) (ad : Option Addr) (cap : Nat) (a b : ByteArray) (w : World) (hr : Row w (.slice ad L.length cap) L) (hcm : cap ≤ maxLen) (hs : ∀ f ∈ L, f.1.size ≤ maxLen ∧ f.2.size ≤ maxLen) (hwa : a.size ≤ maxLen) (hwb : b.size ≤ maxLen) :
    Calls Tryd.prog 3 #[s.v, .slice ad L.length cap, .string a, .string b] w fun e w' => e = .returned (.bool true) ∧ Below w.heap.size w w' := by
  have hbx := Bx.new w s
  have hb0 : Below w.heap.size w (w.alloc (.cells #[.string s.m, .string s.t, .int .i64 s.c, .string s.r, .int .i64 s.n] 23)) := one_alloc w _ 23
  have HR := hide (hr.below hb0)
  have HS := hide hs
  clear hr hs
  obtain ⟨p, hp⟩ : ∃ p : Nat, p = min a.size 1010 := ⟨_, rfl⟩
  obtain ⟨q, hq⟩ : ∃ q : Nat, q = min b.size 60 := ⟨_, rfl⟩
  have hp1 : p ≤ a.size := by omega
  have hq1 : q ≤ b.size := by omega
  have hp2 : p ≤ 1010 := by omega
  have hq2 : q ≤ 60 := by omega
  have HP := hide hp
  have HQ := hide hq
  clear hp hq
  unfold St.v
  go_enter Tryd.func3, Tryd.ntmps3
  go_wp2_with fail
  generalize (w.alloc (.cells #[.string s.m, .string s.t, .int .i64 s.c, .string s.r, .int .i64 s.n] 23)) = wb at hbx hb0 HR ⊢
  refine wp_region_held_drew (S := (fun _ => True)) (by kernel_rfl) (trivial) (fun hHeld => ?_)
  refine wpAnyH_take (i := 0) (oi := _) (v := .slice ad L.length cap) rfl (by kernel_rfl) (by kernel_rfl) (by kernel_rfl) (fun _ _ _ h => h) (Or.inl ⟨by rfl, fun wS hSw => by go_simp⟩) (by first | trivial | assumption) ?_
  simp only [Act.put, List.getElem_toArray, List.getElem_cons_zero, List.getElem_cons_succ, List.setIfInBounds_toArray, List.set_cons_zero, List.set_cons_succ]
  refine wpAnyH_take (i := 2) (oi := _) (v := .string a) rfl (by kernel_rfl) (by kernel_rfl) (by kernel_rfl) (fun _ _ _ h => h) (Or.inl ⟨by rfl, fun wS hSw => by go_simp⟩) (by first | trivial | assumption) ?_
  simp only [Act.put, List.getElem_toArray, List.getElem_cons_zero, List.getElem_cons_succ, List.setIfInBounds_toArray, List.set_cons_zero, List.set_cons_succ]
  refine wpAnyH_take (i := 3) (oi := _) (v := .string a) rfl (by kernel_rfl) (by kernel_rfl) (by kernel_rfl) (fun _ _ _ h => h) (Or.inl ⟨by rfl, fun wS hSw => by go_simp⟩) (by first | trivial | assumption) ?_
  simp only [Act.put, List.getElem_toArray, List.getElem_cons_zero, List.getElem_cons_succ, List.setIfInBounds_toArray, List.set_cons_zero, List.set_cons_succ]
  refine wpAnyH_take (i := 4) (oi := _) (v := .int .i64 a.size) rfl (by kernel_rfl) (by kernel_rfl) (by kernel_rfl) (fun _ _ _ h => h) (Or.inl ⟨by rfl, fun wS hSw => by go_simp⟩) (by first | trivial | assumption) ?_
  simp only [Act.put, List.getElem_toArray, List.getElem_cons_zero, List.getElem_cons_succ, List.setIfInBounds_toArray, List.set_cons_zero, List.set_cons_succ]
  refine wpAnyH_take (i := 5) (oi := _) (v := .int .i64 p) rfl (by kernel_rfl) (by kernel_rfl) (by kernel_rfl) (fun _ _ _ h => h) (Or.inl ⟨by rfl, fun wS hSw => by go_simp; have := HP.out; omega⟩) (by first | trivial | assumption) ?_
  simp only [Act.put, List.getElem_toArray, List.getElem_cons_zero, List.getElem_cons_succ, List.setIfInBounds_toArray, List.set_cons_zero, List.set_cons_succ]
  refine wpAnyH_take (i := 6) (oi := _) (v := .string (a.extract 0 p)) rfl (by kernel_rfl) (by kernel_rfl) (by kernel_rfl) (fun _ _ _ h => h) (Or.inl ⟨by rfl, fun wS hSw => by go_simp⟩) (by first | trivial | assumption) ?_
  simp only [Act.put, List.getElem_toArray, List.getElem_cons_zero, List.getElem_cons_succ, List.setIfInBounds_toArray, List.set_cons_zero, List.set_cons_succ]
  refine wpAnyH_take (i := 7) (oi := _) (v := .string b) rfl (by kernel_rfl) (by kernel_rfl) (by kernel_rfl) (fun _ _ _ h => h) (Or.inl ⟨by rfl, fun wS hSw => by go_simp⟩) (by first | trivial | assumption) ?_
  simp only [Act.put, List.getElem_toArray, List.getElem_cons_zero, List.getElem_cons_succ, List.setIfInBounds_toArray, List.set_cons_zero, List.set_cons_succ]
  refine wpAnyH_take (i := 8) (oi := _) (v := .string b) rfl (by kernel_rfl) (by kernel_rfl) (by kernel_rfl) (fun _ _ _ h => h) (Or.inl ⟨by rfl, fun wS hSw => by go_simp⟩) (by first | trivial | assumption) ?_
  simp only [Act.put, List.getElem_toArray, List.getElem_cons_zero, List.getElem_cons_succ, List.setIfInBounds_toArray, List.set_cons_zero, List.set_cons_succ]
  refine wpAnyH_take (i := 9) (oi := _) (v := .int .i64 b.size) rfl (by kernel_rfl) (by kernel_rfl) (by kernel_rfl) (fun _ _ _ h => h) (Or.inl ⟨by rfl, fun wS hSw => by go_simp⟩) (by first | trivial | assumption) ?_
  simp only [Act.put, List.getElem_toArray, List.getElem_cons_zero, List.getElem_cons_succ, List.setIfInBounds_toArray, List.set_cons_zero, List.set_cons_succ]
  refine wpAnyH_take (i := 10) (oi := _) (v := .int .i64 q) rfl (by kernel_rfl) (by kernel_rfl) (by kernel_rfl) (fun _ _ _ h => h) (Or.inl ⟨by rfl, fun wS hSw => by go_simp; have := HQ.out; omega⟩) (by first | trivial | assumption) ?_
  simp only [Act.put, List.getElem_toArray, List.getElem_cons_zero, List.getElem_cons_succ, List.setIfInBounds_toArray, List.set_cons_zero, List.set_cons_succ]
  refine wpAnyH_take (i := 11) (oi := _) (v := .string (b.extract 0 q)) rfl (by kernel_rfl) (by kernel_rfl) (by kernel_rfl) (fun _ _ _ h => h) (Or.inl ⟨by rfl, fun wS hSw => by go_simp⟩) (by first | trivial | assumption) ?_
  simp only [Act.put, List.getElem_toArray, List.getElem_cons_zero, List.getElem_cons_succ, List.setIfInBounds_toArray, List.set_cons_zero, List.set_cons_succ]
  refine wpAnyH_ready (rs := [1]) (by kernel_rfl) (by simp) ?_
  refine AllReadyH.cons (o := _) rfl (fun K hK => ?_) AllReadyH.nil
  go_simp
  refine (few_any L ad cap wb.drew HR.out hcm HS.out).mono ?_
  rintro e w1 ⟨r, M, rfl, hrow, hlen, hsh, hb1⟩
  refine hK.out _ _ (trivial) (fun hHeld => ?_)
  clear hK K
  refine wpAnyH_ready (rs := [12]) (by kernel_rfl) (by simp) ?_
  refine AllReadyH.cons (o := _) rfl (fun K hK => ?_) AllReadyH.nil
  go_simp
  refine hK.out _ _ (trivial) (fun hHeld => ?_)
  clear hK K
  refine wpAnyH_ready (rs := [13]) (by kernel_rfl) (by simp) ?_
  refine AllReadyH.cons (o := _) rfl (fun K hK => ?_) AllReadyH.nil
  go_simp
  refine hK.out _ _ (trivial) (fun hHeld => ?_)
  clear hK K
  refine wpAnyH_ready (rs := [14]) (by kernel_rfl) (by simp) ?_
  refine AllReadyH.cons (o := _) rfl (fun K hK => ?_) AllReadyH.nil
  go_simp
  refine hK.out _ _ (trivial) (fun hHeld => ?_)
  clear hK K
  refine wpAnyH_done (by kernel_rfl) ?_ _
  have hxs : (a.extract 0 p).size ≤ 1010 := by rw [ByteArray.size_extract]; omega
  have hys : (b.extract 0 q).size ≤ 60 := by rw [ByteArray.size_extract]; omega
  generalize a.extract 0 p = x at hxs ⊢
  generalize b.extract 0 q = y at hys ⊢
  have hb1' : Below wb.heap.size wb w1 := (Below.refl _ _).drew.trans hb1
  have hB1 := hb0.trans (hb1'.mono hb0.size)
  have HBX := hide (hbx.below hb1')
  have hsm := few_sm hsh
  have hul := upR_le M x y
  have HRO := hide hrow
  clear HP HQ HR HS hsh hb1 hb1' hb0 hbx hrow
  -- the three answers
  have HC := hide (strip_any M r w1 HRO.out (by omega) hsm)
  go_wp2_with fail
  refine HC.out.mono ?_
  rintro e w2 ⟨r2, rfl, ho2, hb2⟩
  have hB2 := hB1.trans (hb2.mono hB1.size)
  have HR2 := hide (HRO.out.below hb2)
  have HX2 := hide (HBX.out.below hb2)
  clear HC HRO HBX hb2 hB1
  have HC := hide (up_any M r x y w2 HR2.out (by omega) hsm hxs (by omega))
  go_wp2_with fail
  refine HC.out.mono ?_
  rintro e w3 ⟨r3, rfl, ho3, hb3⟩
  have hB3 := hB2.trans (hb3.mono hB2.size)
  have HR3 := hide (HR2.out.below hb3)
  have HX3 := hide (HX2.out.below hb3)
  have ho23 := ho2.below hb3
  clear HC HR2 HX2 hb3 hB2 ho2
  have HC := hide (down_any M r w3 HR3.out (by omega) hsm)
  go_wp2_with fail
  refine HC.out.mono ?_
  rintro e w4 ⟨r4, rfl, ho4, hb4⟩
  have hB4 := hB3.trans (hb4.mono hB3.size)
  have HR4 := hide (HR3.out.below hb4)
  have HX4 := hide (HX3.out.below hb4)
  have ho24 := ho23.below hb4
  have ho34 := ho3.below hb4
  clear HC HR3 HX3 hb4 hB3 ho3 ho23
  go_wp2_with fail
  obtain ⟨kk, hkk⟩ : ∃ kk, keepF s.n M = kk := ⟨_, rfl⟩
  have HK := hide hkk
  clear hkk
  have H10 := hide (fun (W : World) (h : Below w4.heap.size w4 W) => HR4.out.below h)
  have H11 := hide (fun (W : World) (h : Below w4.heap.size w4 W) => HX4.out.below h)
  refine wp_region_held_drew (S := (fun w' => Below w4.heap.size w4 w' ∧ Bx w' w.heap.size s)) (by kernel_rfl) (⟨(Below.refl _ _).drew, HX4.out.below (Below.refl _ _).drew⟩) (fun hHeld => ?_)
  refine wpAnyH_take (i := 0) (oi := _) (v := .agg #[.string s.m, .string s.t, .int .i64 s.c, .string s.r, .int .i64 s.n]) rfl (by kernel_rfl) (by kernel_rfl) (by kernel_rfl) (fun _ _ _ h => h) (Or.inl ⟨by kernel_rfl, fun wS hSw => by obtain ⟨_, h0, h1, h2, h3, h4, _⟩ := hSw; go_simp⟩) (by first | trivial | assumption) ?_
  simp only [Act.put, List.getElem_toArray, List.getElem_cons_zero, List.getElem_cons_succ, List.setIfInBounds_toArray, List.set_cons_zero, List.set_cons_succ]
  refine wpAnyH_take (i := 1) (oi := _) (v := r) rfl (by kernel_rfl) (by kernel_rfl) (by kernel_rfl) (fun _ _ _ h => h) (Or.inl ⟨by kernel_rfl, fun wS hSw => by skip; go_simp⟩) (by first | trivial | assumption) ?_
  simp only [Act.put, List.getElem_toArray, List.getElem_cons_zero, List.getElem_cons_succ, List.setIfInBounds_toArray, List.set_cons_zero, List.set_cons_succ]
  refine wpAnyH_take (i := 3) (oi := _) (v := .agg #[.string s.m, .string s.t, .int .i64 s.c, .string s.r, .int .i64 s.n]) rfl (by kernel_rfl) (by kernel_rfl) (by kernel_rfl) (fun _ _ _ h => h) (Or.inl ⟨by kernel_rfl, fun wS hSw => by obtain ⟨_, h0, h1, h2, h3, h4, _⟩ := hSw; go_simp⟩) (by first | trivial | assumption) ?_
  simp only [Act.put, List.getElem_toArray, List.getElem_cons_zero, List.getElem_cons_succ, List.setIfInBounds_toArray, List.set_cons_zero, List.set_cons_succ]
  refine wpAnyH_take (i := 4) (oi := _) (v := r) rfl (by kernel_rfl) (by kernel_rfl) (by kernel_rfl) (fun _ _ _ h => h) (Or.inl ⟨by kernel_rfl, fun wS hSw => by skip; go_simp⟩) (by first | trivial | assumption) ?_
  simp only [Act.put, List.getElem_toArray, List.getElem_cons_zero, List.getElem_cons_succ, List.setIfInBounds_toArray, List.set_cons_zero, List.set_cons_succ]
  refine wpAnyH_ready (rs := [2]) (by kernel_rfl) (by simp) ?_
  refine AllReadyH.cons (o := _) rfl (fun K hK => ?_) AllReadyH.nil
  go_simp
  refine (keeps_any s M r w4.drew (H10.out _ (Below.refl _ _).drew) (by omega) hsm).mono ?_
  rintro e w5 ⟨rfl, hb5⟩
  rw [HK.out]
  have hW5 : Below w4.heap.size w4 w5 := (Below.refl _ _).drew.trans hb5
  have hS5 : Below w4.heap.size w4 w5 ∧ Bx w5 w.heap.size s := ⟨hW5, H11.out _ hW5⟩
  clear hb5
  refine hK.out _ _ (hS5) (fun hHeld => ?_)
  clear hK K
  refine wpAnyH_ready (rs := [5]) (by kernel_rfl) (by simp) ?_
  refine AllReadyH.cons (o := _) rfl (fun K hK => ?_) AllReadyH.nil
  go_simp
  refine (refkeeps_any s M r w5 (H10.out _ hW5) (by omega) hsm).mono ?_
  rintro e w6 ⟨rfl, hb6⟩
  rw [HK.out]
  have hW6 : Below w4.heap.size w4 w6 := hW5.trans (hb6.mono hW5.size)
  have hS6 : Below w4.heap.size w4 w6 ∧ Bx w6 w.heap.size s := ⟨hW6, H11.out _ hW6⟩
  clear hb6
  refine hK.out _ _ (hS6) (fun hHeld => ?_)
  clear hK K
  refine wpAnyH_take (i := 6) (oi := _) (v := .bool false) rfl (by kernel_rfl) (by kernel_rfl) (by kernel_rfl) (fun _ _ _ h => h) (Or.inl ⟨by kernel_rfl, fun wS hSw => by skip; go_simp⟩) (by first | trivial | assumption) ?_
  simp only [Act.put, List.getElem_toArray, List.getElem_cons_zero, List.getElem_cons_succ, List.setIfInBounds_toArray, List.set_cons_zero, List.set_cons_succ]
  refine wpAnyH_take (i := 7) (oi := _) (v := .bool false) rfl (by kernel_rfl) (by kernel_rfl) (by kernel_rfl) (fun _ _ _ h => h) (Or.inl ⟨by kernel_rfl, fun wS hSw => by skip; go_simp⟩) (by first | trivial | assumption) ?_
  simp only [Act.put, List.getElem_toArray, List.getElem_cons_zero, List.getElem_cons_succ, List.setIfInBounds_toArray, List.set_cons_zero, List.set_cons_succ]
  refine wpAnyH_ready (rs := [8]) (by kernel_rfl) (by simp) ?_
  refine AllReadyH.cons (o := _) rfl (fun K hK => ?_) AllReadyH.nil
  go_simp
  refine (alive_any w6).mono ?_
  rintro e w7 ⟨rfl, hb7⟩
  have hW7 : Below w4.heap.size w4 w7 := hW6.trans (hb7.mono hW6.size)
  have hS7 : Below w4.heap.size w4 w7 ∧ Bx w7 w.heap.size s := ⟨hW7, H11.out _ hW7⟩
  clear hb7
  refine hK.out _ _ (hS7) (fun hHeld => ?_)
  clear hK K
  refine wpAnyH_take (i := 9) (oi := _) (v := .bool false) rfl (by kernel_rfl) (by kernel_rfl) (by kernel_rfl) (fun _ _ _ h => h) (Or.inl ⟨by kernel_rfl, fun wS hSw => by skip; go_simp⟩) (by first | trivial | assumption) ?_
  simp only [Act.put, List.getElem_toArray, List.getElem_cons_zero, List.getElem_cons_succ, List.setIfInBounds_toArray, List.set_cons_zero, List.set_cons_succ]
  refine wpAnyH_take (i := 10) (oi := _) (v := .bool false) rfl (by kernel_rfl) (by kernel_rfl) (by kernel_rfl) (fun _ _ _ h => h) (Or.inl ⟨by kernel_rfl, fun wS hSw => by skip; go_simp⟩) (by first | trivial | assumption) ?_
  simp only [Act.put, List.getElem_toArray, List.getElem_cons_zero, List.getElem_cons_succ, List.setIfInBounds_toArray, List.set_cons_zero, List.set_cons_succ]
  refine wpAnyH_done (by kernel_rfl) ?_ _
  have hB7 := hB4.trans (hW7.mono hB4.size)
  have HR7 := hide (H10.out _ hW7)
  have ho27 := ho24.below hW7
  have ho37 := ho34.below hW7
  have ho47 := ho4.below hW7
  clear HK H10 H11 HR4 HX4 ho24 ho34 ho4 hW5 hW6 hS5 hS6 hS7 hW7 hB4
  go_wp2_with fail
  refine (refright_any M r w7 HR7.out (by omega) hsm.sh).mono ?_
  rintro e w8 ⟨rfl, hb8⟩
  have hB8 := hB7.trans (hb8.mono hB7.size)
  have HR8 := hide (HR7.out.below hb8)
  have ho28 := ho27.below hb8
  have ho38 := ho37.below hb8
  have ho48 := ho47.below hb8
  clear HR7 ho27 ho37 ho47 hb8 hB7
  cases hR : rightF M
  · rw [(str_no hR).2] at ho28 ho48
    rw [(up_no x y hR).2] at ho38
    rw [(str_no hR).1, (up_no x y hR).1]
    obtain ⟨a2, k2, rfl⟩ := own_nothing ho28
    obtain ⟨a3, k3, rfl⟩ := own_nothing ho38
    obtain ⟨a4, k4, rfl⟩ := own_nothing (show Own w8 _ r4 [] from ho48)
    clear ho28 ho38 ho48 HR8
    go_wp2_with fail
    go_ret
    exact ⟨rfl, hB8⟩
  · rw [(str_yes hR).2] at ho28 ho48
    rw [(str_yes hR).1]
    have hsl := str_le M
    have hss := str_sm hsm
    have HUC := hide (refup_any M r x y w8 HR8.out (by omega) hsm hxs (by omega) hR)
    have HLM : Hid (M.length ≤ 45) := hlen
    have hdl := del_le ctrS (strF M)
    have HSM := hide hsm
    clear hsm hR
    obtain ⟨E, hE⟩ : ∃ E, upE M x y = E := ⟨_, rfl⟩
    rw [hE] at HUC ⊢
    generalize upR M x y = U at *
    go_wp2_with fail
    refine HUC.out.mono ?_
    rintro e w9 ⟨r9, rfl, ho9, hb9⟩
    have hB9 := hB8.trans (hb9.mono hB8.size)
    have HR9 := hide (HR8.out.below hb9)
    have H2 := hide (ho28.below hb9)
    have H3 := hide (ho38.below hb9)
    have H4 := hide (ho48.below hb9)
    have H9 := hide ho9
    clear HUC HR8 ho28 ho38 ho48 ho9 hb9 hB8 hE
    go_wp2_with fail
    refine (refstrip_any M r w9 HR9.out (by omega) HSM.out).mono ?_
    rintro e w10 ⟨r10, rfl, ho10, hb10⟩
    have hB10 := hB9.trans (hb10.mono hB9.size)
    have HR10 := hide (HR9.out.below hb10)
    have I2 := hide (H2.out.below hb10)
    have I3 := hide (H3.out.below hb10)
    have I4 := hide (H4.out.below hb10)
    have I9 := hide (H9.out.below hb10)
    clear HR9 H2 H3 H4 H9 hb10 hB9
    go_wp2_with fail
    refine (like_same (strF M) _ _ w10 I2.out.row ho10.row (by omega)).mono ?_
    rintro e w11 ⟨rfl, hb11⟩
    have hB11 := hB10.trans (hb11.mono hB10.size)
    have HR11 := hide (HR10.out.below hb11)
    have J3 := hide (I3.out.below hb11)
    have J4 := hide (I4.out.below hb11)
    have J9 := hide (I9.out.below hb11)
    clear HR10 I2 I3 I4 I9 hb11 hB10 ho10
    go_wp2_with fail
    refine (like_same U _ _ w11 J3.out.row J9.out.row (by omega)).mono ?_
    rintro e w12 ⟨rfl, hb12⟩
    have hB12 := hB11.trans (hb12.mono hB11.size)
    have HR12 := hide (HR11.out.below hb12)
    have K4 := hide (J4.out.below hb12)
    clear HR11 J3 J4 J9 hb12 hB11
    go_wp2_with fail
    refine (refstrip_any M r w12 HR12.out (by omega) HSM.out).mono ?_
    rintro e w13 ⟨r13, rfl, ho13, hb13⟩
    have hB13 := hB12.trans (hb13.mono hB12.size)
    have L4 := hide (K4.out.below hb13)
    clear HR12 K4 hb13 hB12
    go_wp2_with fail
    refine (refremove_any (strF M) r13 ctrW w13 ho13.row (by omega) hss.sh (by decide)).mono ?_
    rintro e w14 ⟨r14, rfl, ho14, hb14⟩
    rw [del_low low_ctr] at ho14
    have hB14 := hB13.trans (hb14.mono hB13.size)
    have M4 := hide (L4.out.below hb14)
    clear L4 hb14 hB13 ho13
    go_wp2_with fail
    refine (like_same (delF ctrS (strF M)) _ _ w14 M4.out.row ho14.row (by omega)).mono ?_
    rintro e w15 ⟨rfl, hb15⟩
    go_wp2_with fail
    go_ret
    exact ⟨rfl, hB14.trans (hb15.mono hB14.size)⟩

end Go.Proofs.YtojoidhjlbcijaaDoor
