/- The walk of ChunkSame. -/
import Derived.Test.YtalhfifippfnkaaDoorLa
namespace Go.Proofs.YtalhfifippfnkaaDoor
set_option linter.unusedVariables false
set_option linter.unusedSimpArgs false
open Go.RowKit

theorem same_one (S : ByteArray) (h : S.size ≤ 1000) : ∃ n, fdV k0 (encS S ++ ⟨#[48, 13, 10, 13, 10]⟩).data.toList = .tuple #[.agg #[.int .i64 4, .string ⟨#[]⟩, .int .i64 0, .int .i64 (S.size : Int)], .string S, .int .i64 n, .int .i64 0] := by
  have ef : [S.data.toList].flatten = S.data.toList := by rw [List.flatten_cons, List.flatten_nil, List.append_nil]
  have := run_back [S.data.toList] [] (by rw [ef, size_list]; omega)
  rw [encs_one, List.append_nil, ef] at this
  have e := fdV_good ((fd_zero _).trans this)
  rw [← bs_of rfl, size_list] at e
  exact ⟨_, by rw [app_list, encS_list]; exact e⟩
theorem same_two (S A B : ByteArray) (h : S.size ≤ 1000) (hab : A.data.toList ++ B.data.toList = S.data.toList) : ∃ n, fdV k0 (encS A ++ encS B ++ ⟨#[48, 59, 97, 61, 98, 13, 10, 116, 58, 32, 49, 10, 117, 58, 32, 50, 13, 10, 13, 10]⟩).data.toList = .tuple #[.agg #[.int .i64 4, .string ⟨#[]⟩, .int .i64 0, .int .i64 (S.size : Int)], .string S, .int .i64 n, .int .i64 0] := by
  have ef : [A.data.toList, B.data.toList].flatten = S.data.toList := by rw [List.flatten_cons, List.flatten_cons, List.flatten_nil, List.append_nil, hab]
  have := run_tails [A.data.toList, B.data.toList] (by rw [ef, size_list]; omega)
  rw [encs_two, ef] at this
  have e := fdV_good ((fd_zero _).trans this)
  rw [← bs_of rfl, size_list] at e
  exact ⟨_, by rw [app_list, app_list, encS_list, encS_list]; exact e⟩
theorem end_size : (⟨#[48, 13, 10, 13, 10]⟩ : ByteArray).size = 5 := rfl
theorem tail_size : (⟨#[48, 59, 97, 61, 98, 13, 10, 116, 58, 32, 49, 10, 117, 58, 32, 50, 13, 10, 13, 10]⟩ : ByteArray).size = 20 := rfl
theorem cut_two (S : ByteArray) (c : Nat) : (S.extract 0 c).data.toList ++ (S.extract c S.size).data.toList = S.data.toList := by
  rw [ext_take, ext_drop, List.take_append_drop]

set_option maxRecDepth 100000 in
set_option maxHeartbeats 4000000 in
theorem same_walk (s : ByteArray) (y : Int) (w : World) (hs : s.size ≤ maxLen) (ht : Tabs w) :
    Calls Tryd.prog 5 #[.string s, .int .i64 y] w fun e w' => e = .returned (.bool true) ∧ Below w.heap.size w w' := by
  unfold maxLen at hs
  obtain ⟨m, hm, hm2, hm3⟩ : ∃ m : Nat, min (s.size : Int) 1000 = (m : Int) ∧ m ≤ 1000 ∧ m ≤ s.size := ⟨(min (s.size : Int) 1000).toNat, by omega, by omega, by omega⟩
  have hms : (s.extract 0 m).size = m := by rw [ByteArray.size_extract]; omega
  obtain ⟨c, hc, hc2⟩ : ∃ c : Nat, min (max y 0) (m : Int) = (c : Int) ∧ c ≤ m := ⟨(min (max y 0) (m : Int)).toNat, by omega, by omega⟩
  have hmi : (m : Int) ≤ (s.size : Int) := by omega
  go_enter Tryd.func5, Tryd.ntmps5
  go_wp2_with fail
  generalize s.extract 0 m = S at hms ⊢
  have hS : S.size ≤ 1000 := by omega
  have hcS : c ≤ S.size := by omega
  have hcz : (0 : Int) ≤ (c : Int) := by omega
  have hci : (c : Int) ≤ (S.size : Int) := by omega
  have h1 : (S.extract 0 c).size ≤ 1000 := by rw [ByteArray.size_extract]; omega
  have h2 : (S.extract c S.size).size ≤ 1000 := by rw [ByteArray.size_extract]; omega
  obtain ⟨n1, hv1⟩ := same_one S hS
  obtain ⟨n2, hv2⟩ := same_two S (S.extract 0 c) (S.extract c S.size) hS (cut_two S c)
  have HV1 := hide hv1
  have HV2 := hide hv2
  have s1 := encS_size S (by omega)
  have s2 := encS_size (S.extract 0 c) (by omega)
  have s3 := encS_size (S.extract c S.size) (by omega)
  clear hv1 hv2 hms hm hm2 hm3 hmi hc hc2
  refine (encode_any S _ (by omega) ht).mono ?_
  rintro e w1 ⟨rfl, hb1⟩
  go_wp2_with fail
  refine (endc_any _).mono ?_
  rintro e w2 ⟨rfl, rfl⟩
  go_wp2_with fail
  refine (feed_zero _ _ (by rw [app_size, end_size]; omega)).mono ?_
  rintro e w3 ⟨rfl, hb3⟩
  rw [HV1.out]
  have B3 := hb1.trans (hb3.mono hb1.size)
  have hX : Four (w3.alloc (.cells #[.int .i64 4, .string ⟨#[]⟩, .int .i64 0, .int .i64 (S.size : Int)] 25)) w3.heap.size ⟨4, ⟨#[]⟩, 0, (S.size : Int)⟩ := Four.new w3 ⟨4, ⟨#[]⟩, 0, (S.size : Int)⟩
  have B4 := B3.alloc B3.size (.cells #[.int .i64 4, .string ⟨#[]⟩, .int .i64 0, .int .i64 (S.size : Int)] 25)
  go_wp2_with fail
  generalize World.alloc _ _ = W4 at hX B4 ⊢
  generalize w3.heap.size = N3 at hX ⊢
  clear hb1 hb3 B3
  go_cut [9, 10, 12] (fun s9 s10 s12 wc => ∃ M : Nat, s9 = .pointer (some ⟨M, 0, none⟩) ∧ s10 = .string S ∧ s12 = .int .i64 0 ∧ Four wc M ⟨4, ⟨#[]⟩, 0, (S.size : Int)⟩ ∧ Four wc N3 ⟨4, ⟨#[]⟩, 0, (S.size : Int)⟩ ∧ Below w.heap.size w wc)
  case first =>
    have hX9 := hX.drew
    have hB9 := below_drew B4
    refine wp_region_held_drew (S := (fun _ => True)) (by kernel_rfl) (trivial) (fun hHeld => ?_)
    generalize hw9 : W4.drew = w9 at hX9 hB9 ⊢
    clear hw9
    refine wpAnyH_take (i := 0) (oi := _) (v := .agg #[.int .i64 0, .string ⟨#[]⟩, .int .i64 0, .int .i64 0]) rfl (by kernel_rfl) (by kernel_rfl) (by kernel_rfl) (fun _ _ _ h => h) (Or.inl ⟨by rfl, fun wS hSw => by go_simp⟩) (by first | trivial | assumption) ?_
    simp only [Act.put, List.getElem_toArray, List.getElem_cons_zero, List.getElem_cons_succ, List.setIfInBounds_toArray, List.set_cons_zero, List.set_cons_succ]
    refine wpAnyH_take (i := 1) (oi := _) (v := .string S) rfl (by kernel_rfl) (by kernel_rfl) (by kernel_rfl) (fun _ _ _ h => h) (Or.inl ⟨by rfl, fun wS hSw => by go_simp⟩) (by first | trivial | assumption) ?_
    simp only [Act.put, List.getElem_toArray, List.getElem_cons_zero, List.getElem_cons_succ, List.setIfInBounds_toArray, List.set_cons_zero, List.set_cons_succ]
    refine wpAnyH_take (i := 2) (oi := _) (v := .int .i64 (c : Int)) rfl (by kernel_rfl) (by kernel_rfl) (by kernel_rfl) (fun _ _ _ h => h) (Or.inl ⟨by rfl, fun wS hSw => by go_simp⟩) (by first | trivial | assumption) ?_
    simp only [Act.put, List.getElem_toArray, List.getElem_cons_zero, List.getElem_cons_succ, List.setIfInBounds_toArray, List.set_cons_zero, List.set_cons_succ]
    refine wpAnyH_take (i := 3) (oi := _) (v := .string (S.extract 0 c)) rfl (by kernel_rfl) (by kernel_rfl) (by kernel_rfl) (fun _ _ _ h => h) (Or.inl ⟨by rfl, fun wS hSw => by go_simp⟩) (by first | trivial | assumption) ?_
    simp only [Act.put, List.getElem_toArray, List.getElem_cons_zero, List.getElem_cons_succ, List.setIfInBounds_toArray, List.set_cons_zero, List.set_cons_succ]
    refine wpAnyH_take (i := 5) (oi := _) (v := .string S) rfl (by kernel_rfl) (by kernel_rfl) (by kernel_rfl) (fun _ _ _ h => h) (Or.inl ⟨by rfl, fun wS hSw => by go_simp⟩) (by first | trivial | assumption) ?_
    simp only [Act.put, List.getElem_toArray, List.getElem_cons_zero, List.getElem_cons_succ, List.setIfInBounds_toArray, List.set_cons_zero, List.set_cons_succ]
    refine wpAnyH_take (i := 6) (oi := _) (v := .int .i64 (c : Int)) rfl (by kernel_rfl) (by kernel_rfl) (by kernel_rfl) (fun _ _ _ h => h) (Or.inl ⟨by rfl, fun wS hSw => by go_simp⟩) (by first | trivial | assumption) ?_
    simp only [Act.put, List.getElem_toArray, List.getElem_cons_zero, List.getElem_cons_succ, List.setIfInBounds_toArray, List.set_cons_zero, List.set_cons_succ]
    refine wpAnyH_take (i := 7) (oi := _) (v := .string (S.extract c S.size)) rfl (by kernel_rfl) (by kernel_rfl) (by kernel_rfl) (fun _ _ _ h => h) (Or.inl ⟨by rfl, fun wS hSw => by go_simp⟩) (by first | trivial | assumption) ?_
    simp only [Act.put, List.getElem_toArray, List.getElem_cons_zero, List.getElem_cons_succ, List.setIfInBounds_toArray, List.set_cons_zero, List.set_cons_succ]
    refine wpAnyH_ready (rs := [4, 17]) (by kernel_rfl) (by simp) ?_
    refine AllReadyH.cons (o := _) rfl (fun K hK => ?_) (AllReadyH.cons (o := _) rfl (fun K hK => ?_) AllReadyH.nil)
    · go_simp
      refine (encode_any (S.extract 0 c) _ (by omega) (ht.below hB9)).mono ?_
      rintro e w11 ⟨rfl, hb11⟩
      refine hK.out _ _ (trivial) (fun hHeld => ?_)
      clear hK K
      have hX11 := hX9.below hb11
      have hB11 := hB9.trans (hb11.mono hB9.size)
      clear hb11
      refine wpAnyH_ready (rs := [8, 17]) (by kernel_rfl) (by simp) ?_
      refine AllReadyH.cons (o := _) rfl (fun K hK => ?_) (AllReadyH.cons (o := _) rfl (fun K hK => ?_) AllReadyH.nil)
      · go_simp
        refine (encode_any (S.extract c S.size) _ (by omega) (ht.below hB11)).mono ?_
        rintro e w12 ⟨rfl, hb12⟩
        refine hK.out _ _ (trivial) (fun hHeld => ?_)
        clear hK K
        have hX12 := hX11.below hb12
        have hB12 := hB11.trans (hb12.mono hB11.size)
        clear hb12
        refine wpAnyH_take (i := 9) (oi := _) (v := .string (encS (S.extract 0 c) ++ encS (S.extract c S.size))) rfl (by kernel_rfl) (by kernel_rfl) (by kernel_rfl) (fun _ _ _ h => h) (Or.inl ⟨by rfl, fun wS hSw => by go_simp; omega⟩) (by first | trivial | assumption) ?_
        simp only [Act.put, List.getElem_toArray, List.getElem_cons_zero, List.getElem_cons_succ, List.setIfInBounds_toArray, List.set_cons_zero, List.set_cons_succ]
        refine wpAnyH_take (i := 10) (oi := _) (v := .string (encS (S.extract 0 c) ++ encS (S.extract c S.size) ++ ⟨#[48, 59, 97, 61, 98, 13, 10, 116, 58, 32, 49, 10, 117, 58, 32, 50, 13, 10, 13, 10]⟩)) rfl (by kernel_rfl) (by kernel_rfl) (by kernel_rfl) (fun _ _ _ h => h) (Or.inl ⟨by rfl, fun wS hSw => by go_simp; omega⟩) (by first | trivial | assumption) ?_
        simp only [Act.put, List.getElem_toArray, List.getElem_cons_zero, List.getElem_cons_succ, List.setIfInBounds_toArray, List.set_cons_zero, List.set_cons_succ]
        refine wpAnyH_ready (rs := [11, 17]) (by kernel_rfl) (by simp) ?_
        refine AllReadyH.cons (o := _) rfl (fun K hK => ?_) (AllReadyH.cons (o := _) rfl (fun K hK => ?_) AllReadyH.nil)
        · go_simp
          refine (feed_zero _ _ (by rw [app_size, app_size, tail_size]; omega)).mono ?_
          rintro e w13 ⟨rfl, hb13⟩
          rw [HV2.out]
          refine hK.out _ _ (trivial) (fun hHeld => ?_)
          clear hK K
          have hX13 := hX12.below hb13
          have hB13 := hB12.trans (hb13.mono hB12.size)
          clear hb13
          refine wpAnyH_take (i := 12) (oi := _) (v := .tuple #[.agg #[.int .i64 4, .string ⟨#[]⟩, .int .i64 0, .int .i64 (S.size : Int)], .string S, .int .i64 n2, .int .i64 0]) rfl (by kernel_rfl) (by kernel_rfl) (by kernel_rfl) (fun _ _ _ h => h) (Or.inl ⟨by rfl, fun wS hSw => by go_simp⟩) (by first | trivial | assumption) ?_
          simp only [Act.put, List.getElem_toArray, List.getElem_cons_zero, List.getElem_cons_succ, List.setIfInBounds_toArray, List.set_cons_zero, List.set_cons_succ]
          refine wpAnyH_take (i := 13) (oi := _) (v := .agg #[.int .i64 4, .string ⟨#[]⟩, .int .i64 0, .int .i64 (S.size : Int)]) rfl (by kernel_rfl) (by kernel_rfl) (by kernel_rfl) (fun _ _ _ h => h) (Or.inl ⟨by rfl, fun wS hSw => by go_simp⟩) (by first | trivial | assumption) ?_
          simp only [Act.put, List.getElem_toArray, List.getElem_cons_zero, List.getElem_cons_succ, List.setIfInBounds_toArray, List.set_cons_zero, List.set_cons_succ]
          refine wpAnyH_take (i := 14) (oi := _) (v := .string S) rfl (by kernel_rfl) (by kernel_rfl) (by kernel_rfl) (fun _ _ _ h => h) (Or.inl ⟨by rfl, fun wS hSw => by go_simp⟩) (by first | trivial | assumption) ?_
          simp only [Act.put, List.getElem_toArray, List.getElem_cons_zero, List.getElem_cons_succ, List.setIfInBounds_toArray, List.set_cons_zero, List.set_cons_succ]
          refine wpAnyH_take (i := 15) (oi := _) (v := .int .i64 n2) rfl (by kernel_rfl) (by kernel_rfl) (by kernel_rfl) (fun _ _ _ h => h) (Or.inl ⟨by rfl, fun wS hSw => by go_simp⟩) (by first | trivial | assumption) ?_
          simp only [Act.put, List.getElem_toArray, List.getElem_cons_zero, List.getElem_cons_succ, List.setIfInBounds_toArray, List.set_cons_zero, List.set_cons_succ]
          refine wpAnyH_take (i := 16) (oi := _) (v := .int .i64 0) rfl (by kernel_rfl) (by kernel_rfl) (by kernel_rfl) (fun _ _ _ h => h) (Or.inl ⟨by rfl, fun wS hSw => by go_simp⟩) (by first | trivial | assumption) ?_
          simp only [Act.put, List.getElem_toArray, List.getElem_cons_zero, List.getElem_cons_succ, List.setIfInBounds_toArray, List.set_cons_zero, List.set_cons_succ]
          refine wpAnyH_ready (rs := [17]) (by kernel_rfl) (by simp) ?_
          refine AllReadyH.cons (o := _) rfl (fun K hK => ?_) AllReadyH.nil
          go_simp
          refine hK.out _ _ trivial (fun hHeld => ?_)
          clear hK K
          have hl14 := hX13.lt
          have hY14 : Four (w13.alloc (.cells #[.int .i64 0, .string ⟨#[]⟩, .int .i64 0, .int .i64 0] 25)) w13.heap.size k0 := Four.new w13 k0
          have hX14 := hX13.below ((Below.refl _ _).alloc (Nat.le_refl _) (.cells #[.int .i64 0, .string ⟨#[]⟩, .int .i64 0, .int .i64 0] 25))
          have hB14 := hB13.alloc hB13.size (.cells #[.int .i64 0, .string ⟨#[]⟩, .int .i64 0, .int .i64 0] 25)
          have hz14 := hB13.size
          generalize w13.heap.size = M at hl14 hY14 hz14 ⊢
          generalize hw14 : World.alloc _ _ = w14 at hY14 hX14 hB14 ⊢
          clear hw14
          have y0 := hY14.c0
          have y1 := hY14.c1
          have y2 := hY14.c2
          have y3 := hY14.c3
          have yf := hY14.fz
          refine wpAnyH_ready (rs := [18]) (by kernel_rfl) (by simp) ?_
          refine AllReadyH.cons (o := _) rfl (fun K hK => ?_) AllReadyH.nil
          go_simp
          refine hK.out _ _ (trivial) (fun hHeld => ?_)
          clear hK K
          refine wpAnyH_ready (rs := [19]) (by kernel_rfl) (by simp) ?_
          refine AllReadyH.cons (o := _) rfl (fun K hK => ?_) AllReadyH.nil
          go_simp
          refine hK.out _ _ (trivial) (fun hHeld => ?_)
          clear hK K
          refine wpAnyH_ready (rs := [20]) (by kernel_rfl) (by simp) ?_
          refine AllReadyH.cons (o := _) rfl (fun K hK => ?_) AllReadyH.nil
          go_simp
          refine hK.out _ _ (trivial) (fun hHeld => ?_)
          clear hK K
          refine wpAnyH_ready (rs := [21]) (by kernel_rfl) (by simp) ?_
          refine AllReadyH.cons (o := _) rfl (fun K hK => ?_) AllReadyH.nil
          go_simp
          refine hK.out _ _ (trivial) (fun hHeld => ?_)
          clear hK K
          refine wpAnyH_done (by kernel_rfl) ?_ _
          go_wp2_with fail
          go_meet
          have hP := put4_four hY14 ⟨4, ⟨#[]⟩, 0, (S.size : Int)⟩
          have hO := put4_other (M := M) hX14 ⟨4, ⟨#[]⟩, 0, (S.size : Int)⟩ (by omega)
          have hE := put4_below hB14 (show w.heap.size ≤ M by omega) ⟨4, ⟨#[]⟩, 0, (S.size : Int)⟩
          dsimp only [put4] at hP hO hE
          exact ⟨M, rfl, rfl, rfl, hP, hO, hE⟩
        · go_simp
          refine hK.out _ _ trivial (fun hHeld => ?_)
          clear hK K
          have hl15 := hX12.lt
          have hY15 : Four (w12.alloc (.cells #[.int .i64 0, .string ⟨#[]⟩, .int .i64 0, .int .i64 0] 25)) w12.heap.size k0 := Four.new w12 k0
          have hX15 := hX12.below ((Below.refl _ _).alloc (Nat.le_refl _) (.cells #[.int .i64 0, .string ⟨#[]⟩, .int .i64 0, .int .i64 0] 25))
          have hB15 := hB12.alloc hB12.size (.cells #[.int .i64 0, .string ⟨#[]⟩, .int .i64 0, .int .i64 0] 25)
          have hz15 := hB12.size
          generalize w12.heap.size = M at hl15 hY15 hz15 ⊢
          generalize hw15 : World.alloc _ _ = w15 at hY15 hX15 hB15 ⊢
          clear hw15
          refine wpAnyH_ready (rs := [11]) (by kernel_rfl) (by simp) ?_
          refine AllReadyH.cons (o := _) rfl (fun K hK => ?_) AllReadyH.nil
          go_simp
          refine (feed_zero _ _ (by rw [app_size, app_size, tail_size]; omega)).mono ?_
          rintro e w16 ⟨rfl, hb16⟩
          rw [HV2.out]
          refine hK.out _ _ (trivial) (fun hHeld => ?_)
          clear hK K
          have hX16 := hX15.below hb16
          have hB16 := hB15.trans (hb16.mono hB15.size)
          have hY16 := hY15.below hb16
          clear hb16
          refine wpAnyH_take (i := 12) (oi := _) (v := .tuple #[.agg #[.int .i64 4, .string ⟨#[]⟩, .int .i64 0, .int .i64 (S.size : Int)], .string S, .int .i64 n2, .int .i64 0]) rfl (by kernel_rfl) (by kernel_rfl) (by kernel_rfl) (fun _ _ _ h => h) (Or.inl ⟨by rfl, fun wS hSw => by go_simp⟩) (by first | trivial | assumption) ?_
          simp only [Act.put, List.getElem_toArray, List.getElem_cons_zero, List.getElem_cons_succ, List.setIfInBounds_toArray, List.set_cons_zero, List.set_cons_succ]
          refine wpAnyH_take (i := 13) (oi := _) (v := .agg #[.int .i64 4, .string ⟨#[]⟩, .int .i64 0, .int .i64 (S.size : Int)]) rfl (by kernel_rfl) (by kernel_rfl) (by kernel_rfl) (fun _ _ _ h => h) (Or.inl ⟨by rfl, fun wS hSw => by go_simp⟩) (by first | trivial | assumption) ?_
          simp only [Act.put, List.getElem_toArray, List.getElem_cons_zero, List.getElem_cons_succ, List.setIfInBounds_toArray, List.set_cons_zero, List.set_cons_succ]
          refine wpAnyH_take (i := 14) (oi := _) (v := .string S) rfl (by kernel_rfl) (by kernel_rfl) (by kernel_rfl) (fun _ _ _ h => h) (Or.inl ⟨by rfl, fun wS hSw => by go_simp⟩) (by first | trivial | assumption) ?_
          simp only [Act.put, List.getElem_toArray, List.getElem_cons_zero, List.getElem_cons_succ, List.setIfInBounds_toArray, List.set_cons_zero, List.set_cons_succ]
          refine wpAnyH_take (i := 15) (oi := _) (v := .int .i64 n2) rfl (by kernel_rfl) (by kernel_rfl) (by kernel_rfl) (fun _ _ _ h => h) (Or.inl ⟨by rfl, fun wS hSw => by go_simp⟩) (by first | trivial | assumption) ?_
          simp only [Act.put, List.getElem_toArray, List.getElem_cons_zero, List.getElem_cons_succ, List.setIfInBounds_toArray, List.set_cons_zero, List.set_cons_succ]
          refine wpAnyH_take (i := 16) (oi := _) (v := .int .i64 0) rfl (by kernel_rfl) (by kernel_rfl) (by kernel_rfl) (fun _ _ _ h => h) (Or.inl ⟨by rfl, fun wS hSw => by go_simp⟩) (by first | trivial | assumption) ?_
          simp only [Act.put, List.getElem_toArray, List.getElem_cons_zero, List.getElem_cons_succ, List.setIfInBounds_toArray, List.set_cons_zero, List.set_cons_succ]
          have y0 := hY16.c0
          have y1 := hY16.c1
          have y2 := hY16.c2
          have y3 := hY16.c3
          have yf := hY16.fz
          refine wpAnyH_ready (rs := [18]) (by kernel_rfl) (by simp) ?_
          refine AllReadyH.cons (o := _) rfl (fun K hK => ?_) AllReadyH.nil
          go_simp
          refine hK.out _ _ (trivial) (fun hHeld => ?_)
          clear hK K
          refine wpAnyH_ready (rs := [19]) (by kernel_rfl) (by simp) ?_
          refine AllReadyH.cons (o := _) rfl (fun K hK => ?_) AllReadyH.nil
          go_simp
          refine hK.out _ _ (trivial) (fun hHeld => ?_)
          clear hK K
          refine wpAnyH_ready (rs := [20]) (by kernel_rfl) (by simp) ?_
          refine AllReadyH.cons (o := _) rfl (fun K hK => ?_) AllReadyH.nil
          go_simp
          refine hK.out _ _ (trivial) (fun hHeld => ?_)
          clear hK K
          refine wpAnyH_ready (rs := [21]) (by kernel_rfl) (by simp) ?_
          refine AllReadyH.cons (o := _) rfl (fun K hK => ?_) AllReadyH.nil
          go_simp
          refine hK.out _ _ (trivial) (fun hHeld => ?_)
          clear hK K
          refine wpAnyH_done (by kernel_rfl) ?_ _
          go_wp2_with fail
          go_meet
          have hP := put4_four hY16 ⟨4, ⟨#[]⟩, 0, (S.size : Int)⟩
          have hO := put4_other (M := M) hX16 ⟨4, ⟨#[]⟩, 0, (S.size : Int)⟩ (by omega)
          have hE := put4_below hB16 (show w.heap.size ≤ M by omega) ⟨4, ⟨#[]⟩, 0, (S.size : Int)⟩
          dsimp only [put4] at hP hO hE
          exact ⟨M, rfl, rfl, rfl, hP, hO, hE⟩
      · go_simp
        refine hK.out _ _ trivial (fun hHeld => ?_)
        clear hK K
        have hl17 := hX11.lt
        have hY17 : Four (w11.alloc (.cells #[.int .i64 0, .string ⟨#[]⟩, .int .i64 0, .int .i64 0] 25)) w11.heap.size k0 := Four.new w11 k0
        have hX17 := hX11.below ((Below.refl _ _).alloc (Nat.le_refl _) (.cells #[.int .i64 0, .string ⟨#[]⟩, .int .i64 0, .int .i64 0] 25))
        have hB17 := hB11.alloc hB11.size (.cells #[.int .i64 0, .string ⟨#[]⟩, .int .i64 0, .int .i64 0] 25)
        have hz17 := hB11.size
        generalize w11.heap.size = M at hl17 hY17 hz17 ⊢
        generalize hw17 : World.alloc _ _ = w17 at hY17 hX17 hB17 ⊢
        clear hw17
        refine wpAnyH_ready (rs := [8]) (by kernel_rfl) (by simp) ?_
        refine AllReadyH.cons (o := _) rfl (fun K hK => ?_) AllReadyH.nil
        go_simp
        refine (encode_any (S.extract c S.size) _ (by omega) (ht.below hB17)).mono ?_
        rintro e w18 ⟨rfl, hb18⟩
        refine hK.out _ _ (trivial) (fun hHeld => ?_)
        clear hK K
        have hX18 := hX17.below hb18
        have hB18 := hB17.trans (hb18.mono hB17.size)
        have hY18 := hY17.below hb18
        clear hb18
        refine wpAnyH_take (i := 9) (oi := _) (v := .string (encS (S.extract 0 c) ++ encS (S.extract c S.size))) rfl (by kernel_rfl) (by kernel_rfl) (by kernel_rfl) (fun _ _ _ h => h) (Or.inl ⟨by rfl, fun wS hSw => by go_simp; omega⟩) (by first | trivial | assumption) ?_
        simp only [Act.put, List.getElem_toArray, List.getElem_cons_zero, List.getElem_cons_succ, List.setIfInBounds_toArray, List.set_cons_zero, List.set_cons_succ]
        refine wpAnyH_take (i := 10) (oi := _) (v := .string (encS (S.extract 0 c) ++ encS (S.extract c S.size) ++ ⟨#[48, 59, 97, 61, 98, 13, 10, 116, 58, 32, 49, 10, 117, 58, 32, 50, 13, 10, 13, 10]⟩)) rfl (by kernel_rfl) (by kernel_rfl) (by kernel_rfl) (fun _ _ _ h => h) (Or.inl ⟨by rfl, fun wS hSw => by go_simp; omega⟩) (by first | trivial | assumption) ?_
        simp only [Act.put, List.getElem_toArray, List.getElem_cons_zero, List.getElem_cons_succ, List.setIfInBounds_toArray, List.set_cons_zero, List.set_cons_succ]
        refine wpAnyH_ready (rs := [11]) (by kernel_rfl) (by simp) ?_
        refine AllReadyH.cons (o := _) rfl (fun K hK => ?_) AllReadyH.nil
        go_simp
        refine (feed_zero _ _ (by rw [app_size, app_size, tail_size]; omega)).mono ?_
        rintro e w19 ⟨rfl, hb19⟩
        rw [HV2.out]
        refine hK.out _ _ (trivial) (fun hHeld => ?_)
        clear hK K
        have hX19 := hX18.below hb19
        have hB19 := hB18.trans (hb19.mono hB18.size)
        have hY19 := hY18.below hb19
        clear hb19
        refine wpAnyH_take (i := 12) (oi := _) (v := .tuple #[.agg #[.int .i64 4, .string ⟨#[]⟩, .int .i64 0, .int .i64 (S.size : Int)], .string S, .int .i64 n2, .int .i64 0]) rfl (by kernel_rfl) (by kernel_rfl) (by kernel_rfl) (fun _ _ _ h => h) (Or.inl ⟨by rfl, fun wS hSw => by go_simp⟩) (by first | trivial | assumption) ?_
        simp only [Act.put, List.getElem_toArray, List.getElem_cons_zero, List.getElem_cons_succ, List.setIfInBounds_toArray, List.set_cons_zero, List.set_cons_succ]
        refine wpAnyH_take (i := 13) (oi := _) (v := .agg #[.int .i64 4, .string ⟨#[]⟩, .int .i64 0, .int .i64 (S.size : Int)]) rfl (by kernel_rfl) (by kernel_rfl) (by kernel_rfl) (fun _ _ _ h => h) (Or.inl ⟨by rfl, fun wS hSw => by go_simp⟩) (by first | trivial | assumption) ?_
        simp only [Act.put, List.getElem_toArray, List.getElem_cons_zero, List.getElem_cons_succ, List.setIfInBounds_toArray, List.set_cons_zero, List.set_cons_succ]
        refine wpAnyH_take (i := 14) (oi := _) (v := .string S) rfl (by kernel_rfl) (by kernel_rfl) (by kernel_rfl) (fun _ _ _ h => h) (Or.inl ⟨by rfl, fun wS hSw => by go_simp⟩) (by first | trivial | assumption) ?_
        simp only [Act.put, List.getElem_toArray, List.getElem_cons_zero, List.getElem_cons_succ, List.setIfInBounds_toArray, List.set_cons_zero, List.set_cons_succ]
        refine wpAnyH_take (i := 15) (oi := _) (v := .int .i64 n2) rfl (by kernel_rfl) (by kernel_rfl) (by kernel_rfl) (fun _ _ _ h => h) (Or.inl ⟨by rfl, fun wS hSw => by go_simp⟩) (by first | trivial | assumption) ?_
        simp only [Act.put, List.getElem_toArray, List.getElem_cons_zero, List.getElem_cons_succ, List.setIfInBounds_toArray, List.set_cons_zero, List.set_cons_succ]
        refine wpAnyH_take (i := 16) (oi := _) (v := .int .i64 0) rfl (by kernel_rfl) (by kernel_rfl) (by kernel_rfl) (fun _ _ _ h => h) (Or.inl ⟨by rfl, fun wS hSw => by go_simp⟩) (by first | trivial | assumption) ?_
        simp only [Act.put, List.getElem_toArray, List.getElem_cons_zero, List.getElem_cons_succ, List.setIfInBounds_toArray, List.set_cons_zero, List.set_cons_succ]
        have y0 := hY19.c0
        have y1 := hY19.c1
        have y2 := hY19.c2
        have y3 := hY19.c3
        have yf := hY19.fz
        refine wpAnyH_ready (rs := [18]) (by kernel_rfl) (by simp) ?_
        refine AllReadyH.cons (o := _) rfl (fun K hK => ?_) AllReadyH.nil
        go_simp
        refine hK.out _ _ (trivial) (fun hHeld => ?_)
        clear hK K
        refine wpAnyH_ready (rs := [19]) (by kernel_rfl) (by simp) ?_
        refine AllReadyH.cons (o := _) rfl (fun K hK => ?_) AllReadyH.nil
        go_simp
        refine hK.out _ _ (trivial) (fun hHeld => ?_)
        clear hK K
        refine wpAnyH_ready (rs := [20]) (by kernel_rfl) (by simp) ?_
        refine AllReadyH.cons (o := _) rfl (fun K hK => ?_) AllReadyH.nil
        go_simp
        refine hK.out _ _ (trivial) (fun hHeld => ?_)
        clear hK K
        refine wpAnyH_ready (rs := [21]) (by kernel_rfl) (by simp) ?_
        refine AllReadyH.cons (o := _) rfl (fun K hK => ?_) AllReadyH.nil
        go_simp
        refine hK.out _ _ (trivial) (fun hHeld => ?_)
        clear hK K
        refine wpAnyH_done (by kernel_rfl) ?_ _
        go_wp2_with fail
        go_meet
        have hP := put4_four hY19 ⟨4, ⟨#[]⟩, 0, (S.size : Int)⟩
        have hO := put4_other (M := M) hX19 ⟨4, ⟨#[]⟩, 0, (S.size : Int)⟩ (by omega)
        have hE := put4_below hB19 (show w.heap.size ≤ M by omega) ⟨4, ⟨#[]⟩, 0, (S.size : Int)⟩
        dsimp only [put4] at hP hO hE
        exact ⟨M, rfl, rfl, rfl, hP, hO, hE⟩
    · go_simp
      refine hK.out _ _ trivial (fun hHeld => ?_)
      clear hK K
      have hl20 := hX9.lt
      have hY20 : Four (w9.alloc (.cells #[.int .i64 0, .string ⟨#[]⟩, .int .i64 0, .int .i64 0] 25)) w9.heap.size k0 := Four.new w9 k0
      have hX20 := hX9.below ((Below.refl _ _).alloc (Nat.le_refl _) (.cells #[.int .i64 0, .string ⟨#[]⟩, .int .i64 0, .int .i64 0] 25))
      have hB20 := hB9.alloc hB9.size (.cells #[.int .i64 0, .string ⟨#[]⟩, .int .i64 0, .int .i64 0] 25)
      have hz20 := hB9.size
      generalize w9.heap.size = M at hl20 hY20 hz20 ⊢
      generalize hw20 : World.alloc _ _ = w20 at hY20 hX20 hB20 ⊢
      clear hw20
      refine wpAnyH_ready (rs := [4]) (by kernel_rfl) (by simp) ?_
      refine AllReadyH.cons (o := _) rfl (fun K hK => ?_) AllReadyH.nil
      go_simp
      refine (encode_any (S.extract 0 c) _ (by omega) (ht.below hB20)).mono ?_
      rintro e w21 ⟨rfl, hb21⟩
      refine hK.out _ _ (trivial) (fun hHeld => ?_)
      clear hK K
      have hX21 := hX20.below hb21
      have hB21 := hB20.trans (hb21.mono hB20.size)
      have hY21 := hY20.below hb21
      clear hb21
      refine wpAnyH_ready (rs := [8]) (by kernel_rfl) (by simp) ?_
      refine AllReadyH.cons (o := _) rfl (fun K hK => ?_) AllReadyH.nil
      go_simp
      refine (encode_any (S.extract c S.size) _ (by omega) (ht.below hB21)).mono ?_
      rintro e w22 ⟨rfl, hb22⟩
      refine hK.out _ _ (trivial) (fun hHeld => ?_)
      clear hK K
      have hX22 := hX21.below hb22
      have hB22 := hB21.trans (hb22.mono hB21.size)
      have hY22 := hY21.below hb22
      clear hb22
      refine wpAnyH_take (i := 9) (oi := _) (v := .string (encS (S.extract 0 c) ++ encS (S.extract c S.size))) rfl (by kernel_rfl) (by kernel_rfl) (by kernel_rfl) (fun _ _ _ h => h) (Or.inl ⟨by rfl, fun wS hSw => by go_simp; omega⟩) (by first | trivial | assumption) ?_
      simp only [Act.put, List.getElem_toArray, List.getElem_cons_zero, List.getElem_cons_succ, List.setIfInBounds_toArray, List.set_cons_zero, List.set_cons_succ]
      refine wpAnyH_take (i := 10) (oi := _) (v := .string (encS (S.extract 0 c) ++ encS (S.extract c S.size) ++ ⟨#[48, 59, 97, 61, 98, 13, 10, 116, 58, 32, 49, 10, 117, 58, 32, 50, 13, 10, 13, 10]⟩)) rfl (by kernel_rfl) (by kernel_rfl) (by kernel_rfl) (fun _ _ _ h => h) (Or.inl ⟨by rfl, fun wS hSw => by go_simp; omega⟩) (by first | trivial | assumption) ?_
      simp only [Act.put, List.getElem_toArray, List.getElem_cons_zero, List.getElem_cons_succ, List.setIfInBounds_toArray, List.set_cons_zero, List.set_cons_succ]
      refine wpAnyH_ready (rs := [11]) (by kernel_rfl) (by simp) ?_
      refine AllReadyH.cons (o := _) rfl (fun K hK => ?_) AllReadyH.nil
      go_simp
      refine (feed_zero _ _ (by rw [app_size, app_size, tail_size]; omega)).mono ?_
      rintro e w23 ⟨rfl, hb23⟩
      rw [HV2.out]
      refine hK.out _ _ (trivial) (fun hHeld => ?_)
      clear hK K
      have hX23 := hX22.below hb23
      have hB23 := hB22.trans (hb23.mono hB22.size)
      have hY23 := hY22.below hb23
      clear hb23
      refine wpAnyH_take (i := 12) (oi := _) (v := .tuple #[.agg #[.int .i64 4, .string ⟨#[]⟩, .int .i64 0, .int .i64 (S.size : Int)], .string S, .int .i64 n2, .int .i64 0]) rfl (by kernel_rfl) (by kernel_rfl) (by kernel_rfl) (fun _ _ _ h => h) (Or.inl ⟨by rfl, fun wS hSw => by go_simp⟩) (by first | trivial | assumption) ?_
      simp only [Act.put, List.getElem_toArray, List.getElem_cons_zero, List.getElem_cons_succ, List.setIfInBounds_toArray, List.set_cons_zero, List.set_cons_succ]
      refine wpAnyH_take (i := 13) (oi := _) (v := .agg #[.int .i64 4, .string ⟨#[]⟩, .int .i64 0, .int .i64 (S.size : Int)]) rfl (by kernel_rfl) (by kernel_rfl) (by kernel_rfl) (fun _ _ _ h => h) (Or.inl ⟨by rfl, fun wS hSw => by go_simp⟩) (by first | trivial | assumption) ?_
      simp only [Act.put, List.getElem_toArray, List.getElem_cons_zero, List.getElem_cons_succ, List.setIfInBounds_toArray, List.set_cons_zero, List.set_cons_succ]
      refine wpAnyH_take (i := 14) (oi := _) (v := .string S) rfl (by kernel_rfl) (by kernel_rfl) (by kernel_rfl) (fun _ _ _ h => h) (Or.inl ⟨by rfl, fun wS hSw => by go_simp⟩) (by first | trivial | assumption) ?_
      simp only [Act.put, List.getElem_toArray, List.getElem_cons_zero, List.getElem_cons_succ, List.setIfInBounds_toArray, List.set_cons_zero, List.set_cons_succ]
      refine wpAnyH_take (i := 15) (oi := _) (v := .int .i64 n2) rfl (by kernel_rfl) (by kernel_rfl) (by kernel_rfl) (fun _ _ _ h => h) (Or.inl ⟨by rfl, fun wS hSw => by go_simp⟩) (by first | trivial | assumption) ?_
      simp only [Act.put, List.getElem_toArray, List.getElem_cons_zero, List.getElem_cons_succ, List.setIfInBounds_toArray, List.set_cons_zero, List.set_cons_succ]
      refine wpAnyH_take (i := 16) (oi := _) (v := .int .i64 0) rfl (by kernel_rfl) (by kernel_rfl) (by kernel_rfl) (fun _ _ _ h => h) (Or.inl ⟨by rfl, fun wS hSw => by go_simp⟩) (by first | trivial | assumption) ?_
      simp only [Act.put, List.getElem_toArray, List.getElem_cons_zero, List.getElem_cons_succ, List.setIfInBounds_toArray, List.set_cons_zero, List.set_cons_succ]
      have y0 := hY23.c0
      have y1 := hY23.c1
      have y2 := hY23.c2
      have y3 := hY23.c3
      have yf := hY23.fz
      refine wpAnyH_ready (rs := [18]) (by kernel_rfl) (by simp) ?_
      refine AllReadyH.cons (o := _) rfl (fun K hK => ?_) AllReadyH.nil
      go_simp
      refine hK.out _ _ (trivial) (fun hHeld => ?_)
      clear hK K
      refine wpAnyH_ready (rs := [19]) (by kernel_rfl) (by simp) ?_
      refine AllReadyH.cons (o := _) rfl (fun K hK => ?_) AllReadyH.nil
      go_simp
      refine hK.out _ _ (trivial) (fun hHeld => ?_)
      clear hK K
      refine wpAnyH_ready (rs := [20]) (by kernel_rfl) (by simp) ?_
      refine AllReadyH.cons (o := _) rfl (fun K hK => ?_) AllReadyH.nil
      go_simp
      refine hK.out _ _ (trivial) (fun hHeld => ?_)
      clear hK K
      refine wpAnyH_ready (rs := [21]) (by kernel_rfl) (by simp) ?_
      refine AllReadyH.cons (o := _) rfl (fun K hK => ?_) AllReadyH.nil
      go_simp
      refine hK.out _ _ (trivial) (fun hHeld => ?_)
      clear hK K
      refine wpAnyH_done (by kernel_rfl) ?_ _
      go_wp2_with fail
      go_meet
      have hP := put4_four hY23 ⟨4, ⟨#[]⟩, 0, (S.size : Int)⟩
      have hO := put4_other (M := M) hX23 ⟨4, ⟨#[]⟩, 0, (S.size : Int)⟩ (by omega)
      have hE := put4_below hB23 (show w.heap.size ≤ M by omega) ⟨4, ⟨#[]⟩, 0, (S.size : Int)⟩
      dsimp only [put4] at hP hO hE
      exact ⟨M, rfl, rfl, rfl, hP, hO, hE⟩
  case rest =>
    obtain ⟨M, rfl, rfl, rfl, hP, hO, hE⟩ := hcut
    go_wp2_with fail
    refine (alive_any _).mono ?_
    rintro e w7 ⟨rfl, hb7⟩
    have hP7 := hP.below hb7
    have hO7 := hO.below hb7
    have p0 := hP7.c0
    have p1 := hP7.c1
    have p2 := hP7.c2
    have p3 := hP7.c3
    have o0 := hO7.c0
    have o1 := hO7.c1
    have o2 := hO7.c2
    have o3 := hO7.c3
    go_wp2_with fail
    go_ret
    exact ⟨rfl, hE.trans (hb7.mono hE.size)⟩

end Go.Proofs.YtalhfifippfnkaaDoor
