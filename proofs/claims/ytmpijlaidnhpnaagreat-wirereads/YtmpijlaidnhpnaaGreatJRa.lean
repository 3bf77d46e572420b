/- The walks of the document's own Say. The walks of the document's own Request and Answer. -/
import Derived.Test.YtmpijlaidnhpnaaGreatJGf
import Derived.Test.YtmpijlaidnhpnaaGreatJWx
import Derived.Test.YtmpijlaidnhpnaaGreatJNd
namespace Go.Proofs.YtmpijlaidnhpnaaGreat
set_option linter.unusedVariables false
set_option linter.unusedSimpArgs false
set_option maxRecDepth 100000
open Go.RowKit Rf

theorem refjoin_row (A : List ByteArray) (v : Value) (w : World) (hr : RowS w v A) (hl : A.length ≤ 1000000) (hs : VSh A) :
    Calls Tryz.prog 88 #[v] w fun e w' => e = .returned (.string (joinS A)) ∧ w' = w := by
  obtain ⟨a, cap, rfl, hcap, hR⟩ := hr
  exact refjoined_any A a cap w hcap hl hs hR

set_option maxHeartbeats 8000000 in
theorem refsay_any (mn : Int) (L : List Fd) (v : Value) (w : World) (hr : Row w v L) (hl : L.length ≤ 50) (hs : Sh L) :
    Calls Tryz.prog 67 #[.int .i64 mn, v] w fun e w' => e = .returned (anV (elseF (sayF mn L) (-1))) ∧ Below w.heap.size w w' := by
  have hT0 : Tw (w.alloc (.cells #[.int .i64 0, .int .i64 0] 28)) w.heap.size 0 0 := Tw.new w 0 0
  have hB0 := one_alloc w #[.int .i64 0, .int .i64 0] 28
  have hR0 := hr.below hB0
  have HJ := hide (join_short hs hl)
  have HA := hide (Nat.le_trans (all_le lenS L) hl)
  have HA2 := hide (Nat.le_trans (all_le tecS L) hl)
  have HV := hide (all_short (n := lenS) hs)
  have HV2 := hide (all_short (n := tecS) hs)
  have htc : ∀ w0, Row w0 v L → Calls Tryz.prog 86 #[v, .string ⟨#[116, 114, 97, 110, 115, 102, 101, 114, 45, 101, 110, 99, 111, 100, 105, 110, 103]⟩] w0 fun e w' => ∃ r, e = .returned r ∧ OwnS w' w0.heap.size r (allF tecW L) ∧ Below w0.heap.size w0 w' := fun w0 h => refall_any L v tecW w0 h (by omega) hs (by decide)
  have hac : ∀ w0, Row w0 v L → Calls Tryz.prog 86 #[v, .string ⟨#[99, 111, 110, 116, 101, 110, 116, 45, 108, 101, 110, 103, 116, 104]⟩] w0 fun e w' => ∃ r, e = .returned r ∧ OwnS w' w0.heap.size r (allF lenW L) ∧ Below w0.heap.size w0 w' := fun w0 h => refall_any L v lenW w0 h (by omega) hs (by decide)
  rw [all_te] at htc
  rw [all_cl] at hac
  have HS1 : Hid (0 < (allF tecS L).length → (0 < (allF lenS L).length ∨ mn = 0 ∨ (lowS (joinS (allF tecS L))).data.toList ≠ chL) → elseF (sayF mn L) (-1) = (0, 0, 32)) := fun h g => by rw [say_te h g]; rfl
  have HS2 : Hid (0 < (allF tecS L).length → ¬ 0 < (allF lenS L).length → mn ≠ 0 → (lowS (joinS (allF tecS L))).data.toList = chL → elseF (sayF mn L) (-1) = (2, 0, 0)) := fun h g1 g2 g3 => by rw [say_ch h g1 g2 g3]; rfl
  have HS3 : Hid (¬ 0 < (allF tecS L).length → elseF (sayF mn L) (-1) = elseF (lenA (allF lenS L)) (-1)) := fun h => by rw [say_len h]
  obtain ⟨B, hBB⟩ : ∃ B, allF tecS L = B := ⟨_, rfl⟩
  obtain ⟨A, hA⟩ : ∃ A, allF lenS L = A := ⟨_, rfl⟩
  rw [hBB] at htc HJ HA2 HV2 HS1 HS2 HS3
  rw [hA] at hac HA HV HS1 HS2 HS3
  clear hA hBB hs hr
  have HR0 := hide hR0
  obtain ⟨aa, ca, rfl⟩ := hR0.slice
  clear hR0
  by_cases h1 : 0 < B.length
  · have h1z : (0 : Int) < B.length := by omega
    by_cases h2 : 0 < A.length
    · have HE := hide (HS1.out h1 (Or.inl h2))
      have h2z : (0 : Int) < A.length := by omega
      go_enter Tryz.func67, Tryz.ntmps67
      go_wp2_with fail
      generalize w.alloc _ = W0 at hT0 hB0 HR0 ⊢
      refine (htc _ HR0.out).mono ?_
      rintro e w1 ⟨rb, rfl, hob, hb1⟩
      have hT1 := hT0.below hb1
      have hB1 := hB0.trans (hb1.mono hB0.size)
      have HR1 := hide (HR0.out.below hb1)
      clear hT0 hB0 HR0 hb1
      go_wp2_with fail
      refine (hac _ HR1.out).mono ?_
      rintro e w2 ⟨ra, rfl, hoa, hb2⟩
      have hT2 := hT1.below hb2
      have hB2 := hB1.trans (hb2.mono hB1.size)
      have HO := hide hoa.rows
      have HP := hide (hob.rows.below hb2)
      obtain ⟨ab, cb, rfl, hcb, -⟩ := hoa.rows
      obtain ⟨ac, cc, rfl, hcc, -⟩ := hob.rows
      obtain ⟨z0, z1, -, zf⟩ := id hT2
      clear hT1 hB1 HR1 hb2 hoa hob
      go_wp2_with fail
      refine bodyPost_ret (v := anV (0, 0, 32)) (by simp [results, Tryz.results67, go_sem, anV, z0, z1, zf]) rfl ⟨by rw [HE.out], ?_⟩
      exact put2_below hB2 (Nat.le_refl _) 0 0
    · have h2z : decide ((0 : Int) < A.length) = false := decide_eq_false (by omega)
      by_cases h3 : mn = 0
      · have HE := hide (HS1.out h1 (Or.inr (Or.inl h3)))
        have h3b : (mn == 0) = true := by rw [h3]; rfl
        go_enter Tryz.func67, Tryz.ntmps67
        go_wp2_with fail
        generalize w.alloc _ = W0 at hT0 hB0 HR0 ⊢
        refine (htc _ HR0.out).mono ?_
        rintro e w1 ⟨rb, rfl, hob, hb1⟩
        have hT1 := hT0.below hb1
        have hB1 := hB0.trans (hb1.mono hB0.size)
        have HR1 := hide (HR0.out.below hb1)
        clear hT0 hB0 HR0 hb1
        go_wp2_with fail
        refine (hac _ HR1.out).mono ?_
        rintro e w2 ⟨ra, rfl, hoa, hb2⟩
        have hT2 := hT1.below hb2
        have hB2 := hB1.trans (hb2.mono hB1.size)
        have HO := hide hoa.rows
        have HP := hide (hob.rows.below hb2)
        obtain ⟨ab, cb, rfl, hcb, -⟩ := hoa.rows
        obtain ⟨ac, cc, rfl, hcc, -⟩ := hob.rows
        obtain ⟨z0, z1, -, zf⟩ := id hT2
        clear hT1 hB1 HR1 hb2 hoa hob
        go_wp2_with fail
        refine bodyPost_ret (v := anV (0, 0, 32)) (by simp [results, Tryz.results67, go_sem, anV, z0, z1, zf]) rfl ⟨by rw [HE.out], ?_⟩
        exact put2_below hB2 (Nat.le_refl _) 0 0
      · have h3b : (mn == 0) = false := by simpa using h3
        cases h4 : ((lowS (joinS B)).toList == [99, 104, 117, 110, 107, 101, 100])
        · have HE := hide (HS1.out h1 (Or.inr (Or.inr (ne_of_beq h4))))
          have h4n : ((lowS (joinS B)).toList != [99, 104, 117, 110, 107, 101, 100]) = true := by unfold bne; rw [h4]; rfl
          have hj1 := HJ.out
          go_enter Tryz.func67, Tryz.ntmps67
          go_wp2_with fail
          generalize w.alloc _ = W0 at hT0 hB0 HR0 ⊢
          refine (htc _ HR0.out).mono ?_
          rintro e w1 ⟨rb, rfl, hob, hb1⟩
          have hT1 := hT0.below hb1
          have hB1 := hB0.trans (hb1.mono hB0.size)
          have HR1 := hide (HR0.out.below hb1)
          clear hT0 hB0 HR0 hb1
          go_wp2_with fail
          refine (hac _ HR1.out).mono ?_
          rintro e w2 ⟨ra, rfl, hoa, hb2⟩
          have hT2 := hT1.below hb2
          have hB2 := hB1.trans (hb2.mono hB1.size)
          have HO := hide hoa.rows
          have HP := hide (hob.rows.below hb2)
          obtain ⟨ab, cb, rfl, hcb, -⟩ := hoa.rows
          obtain ⟨ac, cc, rfl, hcc, -⟩ := hob.rows
          obtain ⟨z0, z1, -, zf⟩ := id hT2
          clear hT1 hB1 HR1 hb2 hoa hob
          go_wp2_with fail
          refine (refjoin_row B _ _ HP.out (Nat.le_trans HA2.out (by decide)) HV2.out).mono ?_
          rintro e w3 ⟨rfl, rfl⟩
          go_wp2_with fail
          refine (reflower_any (joinS B) _ hj1).mono ?_
          rintro e w3 ⟨rfl, hb3⟩
          have hT3 := hT2.below hb3
          have hB3 := hB2.trans (hb3.mono hB2.size)
          clear z0 z1 zf hB2
          have hB2 := hB3
          obtain ⟨z0, z1, -, zf⟩ := id hT3
          go_wp2_with fail
          refine bodyPost_ret (v := anV (0, 0, 32)) (by simp [results, Tryz.results67, go_sem, anV, z0, z1, zf]) rfl ⟨by rw [HE.out], ?_⟩
          exact put2_below hB2 (Nat.le_refl _) 0 0
        · have HE := hide (HS2.out h1 h2 h3 (eq_of_beq h4))
          have h4n : ((lowS (joinS B)).toList != [99, 104, 117, 110, 107, 101, 100]) = false := by unfold bne; rw [h4]; rfl
          have hj1 := HJ.out
          go_enter Tryz.func67, Tryz.ntmps67
          go_wp2_with fail
          generalize w.alloc _ = W0 at hT0 hB0 HR0 ⊢
          refine (htc _ HR0.out).mono ?_
          rintro e w1 ⟨rb, rfl, hob, hb1⟩
          have hT1 := hT0.below hb1
          have hB1 := hB0.trans (hb1.mono hB0.size)
          have HR1 := hide (HR0.out.below hb1)
          clear hT0 hB0 HR0 hb1
          go_wp2_with fail
          refine (hac _ HR1.out).mono ?_
          rintro e w2 ⟨ra, rfl, hoa, hb2⟩
          have hT2 := hT1.below hb2
          have hB2 := hB1.trans (hb2.mono hB1.size)
          have HO := hide hoa.rows
          have HP := hide (hob.rows.below hb2)
          obtain ⟨ab, cb, rfl, hcb, -⟩ := hoa.rows
          obtain ⟨ac, cc, rfl, hcc, -⟩ := hob.rows
          obtain ⟨z0, z1, -, zf⟩ := id hT2
          clear hT1 hB1 HR1 hb2 hoa hob
          go_wp2_with fail
          refine (refjoin_row B _ _ HP.out (Nat.le_trans HA2.out (by decide)) HV2.out).mono ?_
          rintro e w3 ⟨rfl, rfl⟩
          go_wp2_with fail
          refine (reflower_any (joinS B) _ hj1).mono ?_
          rintro e w3 ⟨rfl, hb3⟩
          have hT3 := hT2.below hb3
          have hB3 := hB2.trans (hb3.mono hB2.size)
          clear z0 z1 zf
          obtain ⟨z0, z1, -, zf⟩ := id hT3
          go_wp2_with fail
          refine bodyPost_ret (v := anV (2, 0, 0)) (by simp [results, Tryz.results67, go_sem, anV, z0, z1, zf]) rfl ⟨by rw [HE.out], ?_⟩
          exact put2_below hB3 (Nat.le_refl _) 2 0
  · have h1z : decide ((0 : Int) < B.length) = false := decide_eq_false (by omega)
    have HE0 := hide (HS3.out h1)
    by_cases h2 : 0 < A.length
    · have h2z : ((A.length : Int) == 0) = false := beq_eq_false_iff_ne.2 (by omega)
      have HK1 : Hid (∀ y ∈ A, rdE 10 y.data.toList = 10 → elseF (sayF mn L) (-1) = (0, 0, 32)) := fun y hy h => by rw [HE0.out, lenA_bad hy h]; rfl
      have HK2 : Hid (∀ a ∈ A, ∀ b ∈ A, lsF a ≠ lsF b → elseF (sayF mn L) (-1) = (0, 0, 32)) := fun a ha b hb h => by rw [HE0.out, lenA_two ha hb h]; rfl
      have HK3 : Hid (∀ c, (∀ y ∈ A, rdE 10 y.data.toList ≠ 10 ∧ numF y = c) → (20000 < c → elseF (sayF mn L) (-1) = (0, 0, 2)) ∧ (¬ 20000 < c → elseF (sayF mn L) (-1) = ((1 : Int), (c : Int), (0 : Int)))) := fun c h => by
        have := lenA_one h2 h
        exact ⟨fun g => by rw [HE0.out, this.1 g]; rfl, fun g => by rw [HE0.out, this.2 g, else_yes (by simp)]; rfl⟩
      clear HS1 HS2 HS3 HE0
      go_enter Tryz.func67, Tryz.ntmps67
      go_wp2_with fail
      generalize w.alloc _ = W0 at hT0 hB0 HR0 ⊢
      refine (htc _ HR0.out).mono ?_
      rintro e w1 ⟨rb, rfl, hob, hb1⟩
      have hT1 := hT0.below hb1
      have hB1 := hB0.trans (hb1.mono hB0.size)
      have HR1 := hide (HR0.out.below hb1)
      clear hT0 hB0 HR0 hb1
      go_wp2_with fail
      refine (hac _ HR1.out).mono ?_
      rintro e w2 ⟨ra, rfl, hoa, hb2⟩
      have hT2 := hT1.below hb2
      have hB2 := hB1.trans (hb2.mono hB1.size)
      have HO := hide hoa.rows
      have HP := hide (hob.rows.below hb2)
      obtain ⟨ab, cb, rfl, hcb, -⟩ := hoa.rows
      obtain ⟨ac, cc, rfl, hcc, -⟩ := hob.rows
      obtain ⟨z0, z1, -, zf⟩ := id hT2
      clear hT1 hB1 HR1 hb2 hoa hob
      go_wp2_with fail
      have hzA : 0 < A.length := h2
      have hA50 : A.length ≤ 50 := HA.out
      go_loop [8, 9, 10, 11, 12, 41] (fun f _ _ _ _ i => ∃ (j c : Nat), j ≤ A.length ∧ i = .int .i64 j ∧ f = .int .u64 c ∧ c ≤ 18446744073709551615 ∧ Hid (∀ y ∈ A.take j, rdE 10 y.data.toList ≠ 10 ∧ numF y = c)) (fun _ _ _ _ _ i => A.length - (intOf i).toNat)
      case atStart => exact ⟨0, 0, Nat.zero_le _, rfl, rfl, Nat.zero_le _, by simp [Hid]⟩
      case round =>
        obtain ⟨j, c, hj, rfl, rfl, hcle, hall⟩ := hrel
        by_cases hlt : j < A.length
        · have hltz : (j : Int) < A.length := by omega
          obtain ⟨a', c', he, -, hcells⟩ := HO.out
          obtain ⟨g, e', hg, c0⟩ := hcells j hlt
          have hab : ab = some ⟨g, 0, none⟩ := by cases he; exact e'
          subst hab
          have hys := HV.out _ (List.getElem_mem hlt)
          have K1 := hide (HK1.out _ (List.getElem_mem hlt))
          have K2 := hide (fun h => HK2.out _ (List.getElem_mem hlt) _ (List.getElem_mem hzA) h)
          have H0 : Hid (0 < j → rdE 10 (A[0]'hzA).data.toList ≠ 10 ∧ numF (A[0]'hzA) = c) := fun h => hall.out _ (by
            rw [List.mem_take_iff_getElem]
            exact ⟨0, by omega, rfl⟩)
          have NXT : Hid (∀ q : Nat, rdE 10 (A[j]'hlt).data.toList ≠ 10 → numF (A[j]'hlt) = q → (0 < j → c = q) → ∀ y ∈ A.take (j + 1), rdE 10 y.data.toList ≠ 10 ∧ numF y = q) := by
            intro q h1 h2 h3
            by_cases j0 : 0 < j
            · have := h3 j0
              subst this
              exact take_next (p := fun y => rdE 10 y.data.toList ≠ 10 ∧ numF y = c) hlt hall.out ⟨h1, h2⟩
            · obtain rfl : j = 0 := by omega
              exact take_next (p := fun y => rdE 10 y.data.toList ≠ 10 ∧ numF y = q) hlt (by simp) ⟨h1, h2⟩
          have HD : Hid (rdE 10 (A[j]'hlt).data.toList ≠ 10 → 0 < j → c ≠ numF (A[j]'hlt) → elseF (sayF mn L) (-1) = (0, 0, 32)) := by
            intro h1 j0 h3
            have h0 := H0.out j0
            exact K2.out (fun e => h3 (h0.2.symm.trans ((num_ls h1 h0.1).1 e).symm))
          have NUM : Hid (numF (A[j]'hlt) = if rdE 10 (A[j]'hlt).data.toList = 2 then 18446744073709551615 else rdN 10 (A[j]'hlt).data.toList) := rfl
          obtain ⟨y, hy⟩ : ∃ y, A[j]'hlt = y := ⟨_, rfl⟩
          rw [hy] at c0 hys K1 NXT HD NUM
          clear hy hcells K2 H0 hall HO HP
          have hrd := fun w => refRead10 y w (by unfold maxLen; omega)
          have hle := rdN_le 10 y.data.toList
          generalize rdN 10 y.data.toList = N at hrd hle NUM
          rcases rdE_three y.data.toList with E | E | E
          · rw [E] at hrd NUM
            have N0 : Hid (numF y = N) := NUM.out
            have HD' := hide (HD.out (by rw [E]; decide))
            have NX' := hide (fun q => NXT.out q (by rw [E]; decide))
            clear K1 HD NXT NUM E
            by_cases j0 : 0 < j
            · have j0z : (0 : Int) < j := by omega
              by_cases hcq : c = N
              · subst hcq
                go_wp2_with fail
                refine (hrd _).mono ?_
                rintro e w3 ⟨rfl, rfl⟩
                go_wp2_with fail
                exact ⟨⟨j + 1, c, by omega, by go_num, rfl, hcle, NX'.out c N0.out (fun _ => rfl)⟩, by simp [intOf]; omega⟩
              · have HE := hide (HD'.out j0 (by rw [N0.out]; exact hcq))
                have hcb : ((N : Int) != (c : Int)) = true := by rw [bne_iff_ne]; omega
                clear HD' NX'
                go_wp2_with fail
                refine (hrd _).mono ?_
                rintro e w3 ⟨rfl, rfl⟩
                go_wp2_with fail
                refine bodyPost_ret (v := anV (0, 0, 32)) (by simp [results, Tryz.results67, go_sem, anV, z0, z1, zf]) rfl ⟨by rw [HE.out], ?_⟩
                exact put2_below hB2 (Nat.le_refl _) 0 0
            · have j0z : decide ((0 : Int) < j) = false := decide_eq_false (by omega)
              go_wp2_with fail
              refine (hrd _).mono ?_
              rintro e w3 ⟨rfl, rfl⟩
              go_wp2_with fail
              exact ⟨⟨j + 1, N, by omega, by go_num, rfl, by omega, NX'.out N N0.out (fun h => absurd h j0)⟩, by simp [intOf]; omega⟩
          · rw [E] at hrd
            have HE := hide (K1.out E)
            clear K1 HD NXT NUM E
            go_wp2_with fail
            refine (hrd _).mono ?_
            rintro e w3 ⟨rfl, rfl⟩
            go_wp2_with fail
            refine bodyPost_ret (v := anV (0, 0, 32)) (by simp [results, Tryz.results67, go_sem, anV, z0, z1, zf]) rfl ⟨by rw [HE.out], ?_⟩
            exact put2_below hB2 (Nat.le_refl _) 0 0
          · rw [E] at hrd NUM
            have N0 : Hid (numF y = 18446744073709551615) := NUM.out
            have HD' := hide (HD.out (by rw [E]; decide))
            have NX' := hide (fun q => NXT.out q (by rw [E]; decide))
            clear K1 HD NXT NUM E
            by_cases j0 : 0 < j
            · have j0z : (0 : Int) < j := by omega
              by_cases hcq : c = 18446744073709551615
              · subst hcq
                go_wp2_with fail
                refine (hrd _).mono ?_
                rintro e w3 ⟨rfl, rfl⟩
                go_wp2_with fail
                exact ⟨⟨j + 1, 18446744073709551615, by omega, by go_num, rfl, hcle, NX'.out _ N0.out (fun _ => rfl)⟩, by simp [intOf]; omega⟩
              · have HE := hide (HD'.out j0 (by rw [N0.out]; exact hcq))
                have hcb : ((18446744073709551615 : Int) != (c : Int)) = true := by rw [bne_iff_ne]; omega
                clear HD' NX'
                go_wp2_with fail
                refine (hrd _).mono ?_
                rintro e w3 ⟨rfl, rfl⟩
                go_wp2_with fail
                refine bodyPost_ret (v := anV (0, 0, 32)) (by simp [results, Tryz.results67, go_sem, anV, z0, z1, zf]) rfl ⟨by rw [HE.out], ?_⟩
                exact put2_below hB2 (Nat.le_refl _) 0 0
            · have j0z : decide ((0 : Int) < j) = false := decide_eq_false (by omega)
              go_wp2_with fail
              refine (hrd _).mono ?_
              rintro e w3 ⟨rfl, rfl⟩
              go_wp2_with fail
              exact ⟨⟨j + 1, 18446744073709551615, by omega, by go_num, rfl, by omega, NX'.out _ N0.out (fun h => absurd h j0)⟩, by simp [intOf]; omega⟩
        · have hd : decide ((j : Int) < A.length) = false := decide_eq_false (by omega)
          rw [List.take_of_length_le (by omega)] at hall
          have HL := hide (HK3.out c hall.out)
          clear hall
          by_cases hbig : 20000 < c
          · have HE := hide (HL.out.1 hbig)
            have hbz : (20000 : Int) < (c : Int) := by omega
            clear hbig
            go_wp2_with fail
            refine bodyPost_ret (v := anV (0, 0, 2)) (by simp [results, Tryz.results67, go_sem, anV, z0, z1, zf]) rfl ⟨by rw [HE.out], ?_⟩
            exact put2_below hB2 (Nat.le_refl _) 0 0
          · have HE := hide (HL.out.2 hbig)
            have hbz : decide ((20000 : Int) < (c : Int)) = false := decide_eq_false (by omega)
            have hcw := i64_fits (z := c) (by omega)
            clear hbig
            go_wp2_with fail
            refine bodyPost_ret (v := anV (1, c, 0)) (by simp [results, Tryz.results67, go_sem, anV, z0, z1, zf]) rfl ⟨by rw [HE.out], ?_⟩
            exact put2_below hB2 (Nat.le_refl _) 1 c
    · have h2z : ((A.length : Int) == 0) = true := beq_iff_eq.2 (by omega)
      have HE : Hid (elseF (sayF mn L) (-1) = (-1, 0, 0)) := by unfold Hid; rw [HE0.out, len_nil h2]; rfl
      go_enter Tryz.func67, Tryz.ntmps67
      go_wp2_with fail
      generalize w.alloc _ = W0 at hT0 hB0 HR0 ⊢
      refine (htc _ HR0.out).mono ?_
      rintro e w1 ⟨rb, rfl, hob, hb1⟩
      have hT1 := hT0.below hb1
      have hB1 := hB0.trans (hb1.mono hB0.size)
      have HR1 := hide (HR0.out.below hb1)
      clear hT0 hB0 HR0 hb1
      go_wp2_with fail
      refine (hac _ HR1.out).mono ?_
      rintro e w2 ⟨ra, rfl, hoa, hb2⟩
      have hT2 := hT1.below hb2
      have hB2 := hB1.trans (hb2.mono hB1.size)
      have HO := hide hoa.rows
      have HP := hide (hob.rows.below hb2)
      obtain ⟨ab, cb, rfl, hcb, -⟩ := hoa.rows
      obtain ⟨ac, cc, rfl, hcc, -⟩ := hob.rows
      obtain ⟨z0, z1, -, zf⟩ := id hT2
      clear hT1 hB1 HR1 hb2 hoa hob
      go_wp2_with fail
      refine bodyPost_ret (v := anV (-1, 0, 0)) (by simp [results, Tryz.results67, go_sem, anV, z0, z1, zf]) rfl ⟨by rw [HE.out], ?_⟩
      exact put2_below hB2 (Nat.le_refl _) (-1) 0

end Go.Proofs.YtmpijlaidnhpnaaGreat

namespace Go.Proofs.YtmpijlaidnhpnaaGreat
set_option linter.unusedVariables false
set_option linter.unusedSimpArgs false
set_option maxRecDepth 100000
open Go.RowKit

set_option maxHeartbeats 4000000 in
theorem refrequest_any (s : St) (L : List Fd) (v : Value) (w : World) (hs : Short s) (hr : Row w v L) (hl : L.length ≤ 50) (hS : Sh L) :
    Calls Tryz.prog 51 #[s.v, v] w fun en w' => en = .returned (anV (reqF s L)) ∧ Below w.heap.size w w' := by
  have hF : Five ((w.alloc (.cells #[.string s.m, .string s.t, .int .i64 s.c, .string s.r, .int .i64 s.n] 23)).alloc (.cells #[.int .i64 0, .int .i64 0] 28)) w.heap.size s := (Five.new w s).alloc _
  have hT : Tw ((w.alloc (.cells #[.string s.m, .string s.t, .int .i64 s.c, .string s.r, .int .i64 s.n] 23)).alloc (.cells #[.int .i64 0, .int .i64 0] 28)) (w.heap.size + 1) 0 0 := by
    have := Tw.new (w.alloc (.cells #[.string s.m, .string s.t, .int .i64 s.c, .string s.r, .int .i64 s.n] 23)) 0 0
    rwa [show (w.alloc (.cells #[.string s.m, .string s.t, .int .i64 s.c, .string s.r, .int .i64 s.n] 23)).heap.size = w.heap.size + 1 by simp] at this
  have hB : Below w.heap.size w ((w.alloc (.cells #[.string s.m, .string s.t, .int .i64 s.c, .string s.r, .int .i64 s.n] 23)).alloc (.cells #[.int .i64 0, .int .i64 0] 28)) := (one_alloc w _ _).alloc (by simp) _
  have hR := hide (hr.below hB)
  have hrt := fun w => srefright_any s w hs
  have hrf := fun w h => refright_any L v w h (by omega) hS
  have hsay := fun w h => refsay_any s.n L v w h hl hS
  obtain ⟨aa, ca, rfl⟩ := hr.slice
  clear hr hS
  cases hq : rtB s
  · have HE := hide (req_arg (s := s) (L := L) (Or.inl (by rw [hq]; rfl)))
    rw [hq] at hrt
    clear hq
    unfold St.v at hrt ⊢
    go_enter Tryz.func51, Tryz.ntmps51
    go_wp2_with fail
    generalize World.alloc _ _ = W1 at hF hT hB hR ⊢
    obtain ⟨c0, c1, c2, c3, c4, -, cf⟩ := id hF
    go_wp2_with fail
    refine (hrt _).mono ?_
    rintro en w1 ⟨rfl, hb1⟩
    have hF1 := hF.below hb1
    have hT1 := hT.below hb1
    have hB1 := hB.trans (hb1.mono hB.size)
    have hR1 := hide (hR.out.below hb1)
    clear hF hT hB hR hb1 c0 c1 c2 c3 c4 cf
    obtain ⟨c0, c1, c2, c3, c4, -, cf⟩ := id hF1
    obtain ⟨t0, t1, -, tf⟩ := id hT1
    go_wp2_with fail
    refine bodyPost_ret (v := anV (0, 0, 1)) (by simp [results, Tryz.results51, go_sem, anV, t0, t1, tf]) rfl ⟨by rw [HE.out], ?_⟩
    exact put2_below hB1 (by omega) 0 0
  · rw [hq] at hrt
    by_cases hc : s.c = 0
    · have hcb : (s.c != 0) = false := by rw [hc]; rfl
      cases hf : rightF L
      · have HE := hide (req_arg (s := s) (L := L) (Or.inl (by rw [hq, hf]; rfl)))
        rw [hf] at hrf
        clear hq hf hc
        unfold St.v at hrt ⊢
        go_enter Tryz.func51, Tryz.ntmps51
        go_wp2_with fail
        generalize World.alloc _ _ = W1 at hF hT hB hR ⊢
        obtain ⟨c0, c1, c2, c3, c4, -, cf⟩ := id hF
        go_wp2_with fail
        refine (hrt _).mono ?_
        rintro en w1 ⟨rfl, hb1⟩
        have hF1 := hF.below hb1
        have hT1 := hT.below hb1
        have hB1 := hB.trans (hb1.mono hB.size)
        have hR1 := hide (hR.out.below hb1)
        clear hF hT hB hR hb1 c0 c1 c2 c3 c4 cf
        obtain ⟨c0, c1, c2, c3, c4, -, cf⟩ := id hF1
        obtain ⟨t0, t1, -, tf⟩ := id hT1
        go_wp2_with fail
        refine (hrf _ hR1.out).mono ?_
        rintro en w1' ⟨rfl, hb1⟩
        have hF2 := hF1.below hb1
        have hT2 := hT1.below hb1
        have hB2 := hB1.trans (hb1.mono hB1.size)
        have hR2 := hide (hR1.out.below hb1)
        clear hF1 hT1 hB1 hR1 hb1 c0 c1 c2 c3 c4 cf t0 t1 tf
        have hF1 := hF2
        have hT1 := hT2
        have hB1 := hB2
        have hR1 := hR2
        obtain ⟨c0, c1, c2, c3, c4, -, cf⟩ := id hF1
        obtain ⟨t0, t1, -, tf⟩ := id hT1
        clear hF2 hT2 hB2 hR2
        go_wp2_with fail
        refine bodyPost_ret (v := anV (0, 0, 1)) (by simp [results, Tryz.results51, go_sem, anV, t0, t1, tf]) rfl ⟨by rw [HE.out], ?_⟩
        exact put2_below hB1 (by omega) 0 0
      · have HE := hide (req_say (s := s) (L := L) (by rw [hq, hf]; rfl) hc)
        rw [hf] at hrf
        clear hq hf hc
        unfold St.v at hrt ⊢
        go_enter Tryz.func51, Tryz.ntmps51
        go_wp2_with fail
        generalize World.alloc _ _ = W1 at hF hT hB hR ⊢
        obtain ⟨c0, c1, c2, c3, c4, -, cf⟩ := id hF
        go_wp2_with fail
        refine (hrt _).mono ?_
        rintro en w1 ⟨rfl, hb1⟩
        have hF1 := hF.below hb1
        have hT1 := hT.below hb1
        have hB1 := hB.trans (hb1.mono hB.size)
        have hR1 := hide (hR.out.below hb1)
        clear hF hT hB hR hb1 c0 c1 c2 c3 c4 cf
        obtain ⟨c0, c1, c2, c3, c4, -, cf⟩ := id hF1
        obtain ⟨t0, t1, -, tf⟩ := id hT1
        go_wp2_with fail
        refine (hrf _ hR1.out).mono ?_
        rintro en w1' ⟨rfl, hb1⟩
        have hF2 := hF1.below hb1
        have hT2 := hT1.below hb1
        have hB2 := hB1.trans (hb1.mono hB1.size)
        have hR2 := hide (hR1.out.below hb1)
        clear hF1 hT1 hB1 hR1 hb1 c0 c1 c2 c3 c4 cf t0 t1 tf
        have hF1 := hF2
        have hT1 := hT2
        have hB1 := hB2
        have hR1 := hR2
        obtain ⟨c0, c1, c2, c3, c4, -, cf⟩ := id hF1
        obtain ⟨t0, t1, -, tf⟩ := id hT1
        clear hF2 hT2 hB2 hR2
        go_wp2_with fail
        refine (hsay _ hR1.out).mono ?_
        rintro en w2 ⟨rfl, hb2⟩
        have hB2' := hB1.trans (hb2.mono hB1.size)
        by_cases hneg : (elseF (sayF s.n L) (-1)).1 < 0
        · obtain ⟨h1, h2⟩ := else_neg 0 hneg
          rw [h1] at HE
          obtain ⟨⟨A1, A2, A3⟩, hA⟩ : ∃ q, elseF (sayF s.n L) (-1) = q := ⟨_, rfl⟩
          rw [hA] at hneg h2 ⊢
          simp only at hneg h2
          subst h2
          clear hA h1
          have hT2 := (hT1.below hb2).alloc (.cells #[.int .i64 A1, .int .i64 A2] 28)
          have hB2 := hB2'.alloc hB2'.size (.cells #[.int .i64 A1, .int .i64 A2] 28)
          have hX := Tw.new w2 A1 A2
          have hlt2 : w.heap.size + 1 < w2.heap.size := (hT1.below hb2).lt
          have s0 := (hT1.below hb2).c0
          have s1 := (hT1.below hb2).c1
          have sf := (hT1.below hb2).fz
          clear hb2 t0 t1 tf
          obtain ⟨t0, t1, -, tf⟩ := id hT2
          obtain ⟨x0, x1, -, xf⟩ := id hX
          unfold anV
          go_wp2_with fail
          refine bodyPost_ret (v := anV (0, 0, 0)) (by simp [results, Tryz.results51, go_sem, anV, t0, t1, tf, *]) rfl ⟨by rw [HE.out], ?_⟩
          have hB3 := put2_below hB2' (N := w.heap.size + 1) (by omega) 0 0
          exact hB3.alloc hB3.size _
        · have h1 := else_pos 0 hneg
          rw [h1] at HE
          obtain ⟨⟨A1, A2, A3⟩, hA⟩ : ∃ q, elseF (sayF s.n L) (-1) = q := ⟨_, rfl⟩
          rw [hA] at hneg HE ⊢
          simp only at hneg
          clear hA h1
          have hT2 := (hT1.below hb2).alloc (.cells #[.int .i64 A1, .int .i64 A2] 28)
          have hB2 := hB2'.alloc hB2'.size (.cells #[.int .i64 A1, .int .i64 A2] 28)
          have hX := Tw.new w2 A1 A2
          clear hB2' hb2 t0 t1 tf
          obtain ⟨t0, t1, -, tf⟩ := id hT2
          obtain ⟨x0, x1, -, xf⟩ := id hX
          have hnz : decide (A1 < 0) = false := decide_eq_false hneg
          unfold anV
          go_wp2_with fail
          refine bodyPost_ret (v := anV (A1, A2, A3)) (by simp [results, Tryz.results51, go_sem, anV, t0, t1, tf]) rfl ⟨by rw [HE.out], ?_⟩
          exact put2_below hB2 (by omega) A1 A2
    · have HE := hide (req_arg (s := s) (L := L) (Or.inr hc))
      have hcb : (s.c != 0) = true := by simpa using hc
      clear hq hc
      unfold St.v at hrt ⊢
      go_enter Tryz.func51, Tryz.ntmps51
      go_wp2_with fail
      generalize World.alloc _ _ = W1 at hF hT hB hR ⊢
      obtain ⟨c0, c1, c2, c3, c4, -, cf⟩ := id hF
      go_wp2_with fail
      refine (hrt _).mono ?_
      rintro en w1 ⟨rfl, hb1⟩
      have hF1 := hF.below hb1
      have hT1 := hT.below hb1
      have hB1 := hB.trans (hb1.mono hB.size)
      have hR1 := hide (hR.out.below hb1)
      clear hF hT hB hR hb1 c0 c1 c2 c3 c4 cf
      obtain ⟨c0, c1, c2, c3, c4, -, cf⟩ := id hF1
      obtain ⟨t0, t1, -, tf⟩ := id hT1
      go_wp2_with fail
      refine bodyPost_ret (v := anV (0, 0, 1)) (by simp [results, Tryz.results51, go_sem, anV, t0, t1, tf]) rfl ⟨by rw [HE.out], ?_⟩
      exact put2_below hB1 (by omega) 0 0

set_option maxHeartbeats 8000000 in
theorem refanswer_any (s : St) (L : List Fd) (m : ByteArray) (v : Value) (w : World) (hs : Short s) (hr : Row w v L) (hl : L.length ≤ 50) (hS : Sh L) :
    Calls Tryz.prog 52 #[s.v, v, .string m] w fun en w' => en = .returned (anV (ansF s L m)) ∧ Below w.heap.size w w' := by
  have hF : Five ((w.alloc (.cells #[.string s.m, .string s.t, .int .i64 s.c, .string s.r, .int .i64 s.n] 23)).alloc (.cells #[.int .i64 0, .int .i64 0] 28)) w.heap.size s := (Five.new w s).alloc _
  have hT : Tw ((w.alloc (.cells #[.string s.m, .string s.t, .int .i64 s.c, .string s.r, .int .i64 s.n] 23)).alloc (.cells #[.int .i64 0, .int .i64 0] 28)) (w.heap.size + 1) 0 0 := by
    have := Tw.new (w.alloc (.cells #[.string s.m, .string s.t, .int .i64 s.c, .string s.r, .int .i64 s.n] 23)) 0 0
    rwa [show (w.alloc (.cells #[.string s.m, .string s.t, .int .i64 s.c, .string s.r, .int .i64 s.n] 23)).heap.size = w.heap.size + 1 by simp] at this
  have hB : Below w.heap.size w ((w.alloc (.cells #[.string s.m, .string s.t, .int .i64 s.c, .string s.r, .int .i64 s.n] 23)).alloc (.cells #[.int .i64 0, .int .i64 0] 28)) := (one_alloc w _ _).alloc (by simp) _
  have hR := hide (hr.below hB)
  have hrt := fun w => srefright_any s w hs
  have hrf := fun w h => refright_any L v w h (by omega) hS
  have hsay := fun w h => refsay_any s.n L v w h hl hS
  obtain ⟨aa, ca, rfl⟩ := hr.slice
  clear hr hS
  cases hq : rtB s
  · have HE := hide (ans_arg (s := s) (L := L) (m := m) (Or.inl (by rw [hq]; rfl)))
    rw [hq] at hrt
    clear hq
    unfold St.v at hrt ⊢
    go_enter Tryz.func52, Tryz.ntmps52
    go_wp2_with fail
    generalize World.alloc _ _ = W1 at hF hT hB hR ⊢
    obtain ⟨c0, c1, c2, c3, c4, -, cf⟩ := id hF
    go_wp2_with fail
    refine (hrt _).mono ?_
    rintro en w1 ⟨rfl, hb1⟩
    have hF1 := hF.below hb1
    have hT1 := hT.below hb1
    have hB1 := hB.trans (hb1.mono hB.size)
    have hR1 := hide (hR.out.below hb1)
    clear hF hT hB hR hb1 c0 c1 c2 c3 c4 cf
    obtain ⟨c0, c1, c2, c3, c4, -, cf⟩ := id hF1
    obtain ⟨t0, t1, -, tf⟩ := id hT1
    go_wp2_with fail
    refine bodyPost_ret (v := anV (0, 0, 1)) (by simp [results, Tryz.results52, go_sem, anV, t0, t1, tf]) rfl ⟨by rw [HE.out], ?_⟩
    exact put2_below hB1 (by omega) 0 0
  · rw [hq] at hrt
    by_cases hc : s.c = 0
    · have HE := hide (ans_arg (s := s) (L := L) (m := m) (Or.inr hc))
      have hcb : (s.c == 0) = true := by rw [hc]; rfl
      clear hq hc
      unfold St.v at hrt ⊢
      go_enter Tryz.func52, Tryz.ntmps52
      go_wp2_with fail
      generalize World.alloc _ _ = W1 at hF hT hB hR ⊢
      obtain ⟨c0, c1, c2, c3, c4, -, cf⟩ := id hF
      go_wp2_with fail
      refine (hrt _).mono ?_
      rintro en w1 ⟨rfl, hb1⟩
      have hF1 := hF.below hb1
      have hT1 := hT.below hb1
      have hB1 := hB.trans (hb1.mono hB.size)
      have hR1 := hide (hR.out.below hb1)
      clear hF hT hB hR hb1 c0 c1 c2 c3 c4 cf
      obtain ⟨c0, c1, c2, c3, c4, -, cf⟩ := id hF1
      obtain ⟨t0, t1, -, tf⟩ := id hT1
      go_wp2_with fail
      refine bodyPost_ret (v := anV (0, 0, 1)) (by simp [results, Tryz.results52, go_sem, anV, t0, t1, tf]) rfl ⟨by rw [HE.out], ?_⟩
      exact put2_below hB1 (by omega) 0 0
    · have hcb : (s.c == 0) = false := by simpa using hc
      cases hf : rightF L
      · have HE := hide (ans_arg (s := s) (L := L) (m := m) (Or.inl (by rw [hq, hf]; rfl)))
        rw [hf] at hrf
        clear hq hf hc
        unfold St.v at hrt ⊢
        go_enter Tryz.func52, Tryz.ntmps52
        go_wp2_with fail
        generalize World.alloc _ _ = W1 at hF hT hB hR ⊢
        obtain ⟨c0, c1, c2, c3, c4, -, cf⟩ := id hF
        go_wp2_with fail
        refine (hrt _).mono ?_
        rintro en w1 ⟨rfl, hb1⟩
        have hF1 := hF.below hb1
        have hT1 := hT.below hb1
        have hB1 := hB.trans (hb1.mono hB.size)
        have hR1 := hide (hR.out.below hb1)
        clear hF hT hB hR hb1 c0 c1 c2 c3 c4 cf
        obtain ⟨c0, c1, c2, c3, c4, -, cf⟩ := id hF1
        obtain ⟨t0, t1, -, tf⟩ := id hT1
        go_wp2_with fail
        refine (hrf _ hR1.out).mono ?_
        rintro en w1' ⟨rfl, hb1⟩
        have hF2 := hF1.below hb1
        have hT2 := hT1.below hb1
        have hB2 := hB1.trans (hb1.mono hB1.size)
        have hR2 := hide (hR1.out.below hb1)
        clear hF1 hT1 hB1 hR1 hb1 c0 c1 c2 c3 c4 cf t0 t1 tf
        have hF1 := hF2
        have hT1 := hT2
        have hB1 := hB2
        have hR1 := hR2
        obtain ⟨c0, c1, c2, c3, c4, -, cf⟩ := id hF1
        obtain ⟨t0, t1, -, tf⟩ := id hT1
        clear hF2 hT2 hB2 hR2
        go_wp2_with fail
        refine bodyPost_ret (v := anV (0, 0, 1)) (by simp [results, Tryz.results52, go_sem, anV, t0, t1, tf]) rfl ⟨by rw [HE.out], ?_⟩
        exact put2_below hB1 (by omega) 0 0
      · have hboth : (rtB s && rightF L) = true := by rw [hq, hf]; rfl
        rw [hf] at hrf
        clear hq hf
        have HBB : Hid (bareB s.c = (decide (s.c < 200) || decide (s.c = 204) || decide (s.c = 304))) := rfl
        cases h1 : decide (s.c < 200)
        · cases h2 : (s.c == 204)
          · cases h3 : (s.c == 304)
            · cases hm : (m.toList == [72, 69, 65, 68])
              · have HE := hide (ans_say (s := s) (L := L) (m := m) hboth hc (by rw [HBB.out, h1, decide_eq_false (beq_eq_false_iff_ne.1 h2), decide_eq_false (beq_eq_false_iff_ne.1 h3)]; rfl) hm)
                clear hboth HBB hc
                unfold St.v at hrt ⊢
                go_enter Tryz.func52, Tryz.ntmps52
                go_wp2_with fail
                generalize World.alloc _ _ = W1 at hF hT hB hR ⊢
                obtain ⟨c0, c1, c2, c3, c4, -, cf⟩ := id hF
                go_wp2_with fail
                refine (hrt _).mono ?_
                rintro en w1 ⟨rfl, hb1⟩
                have hF1 := hF.below hb1
                have hT1 := hT.below hb1
                have hB1 := hB.trans (hb1.mono hB.size)
                have hR1 := hide (hR.out.below hb1)
                clear hF hT hB hR hb1 c0 c1 c2 c3 c4 cf
                obtain ⟨c0, c1, c2, c3, c4, -, cf⟩ := id hF1
                obtain ⟨t0, t1, -, tf⟩ := id hT1
                go_wp2_with fail
                refine (hrf _ hR1.out).mono ?_
                rintro en w1' ⟨rfl, hb1⟩
                have hF2 := hF1.below hb1
                have hT2 := hT1.below hb1
                have hB2 := hB1.trans (hb1.mono hB1.size)
                have hR2 := hide (hR1.out.below hb1)
                clear hF1 hT1 hB1 hR1 hb1 c0 c1 c2 c3 c4 cf t0 t1 tf
                have hF1 := hF2
                have hT1 := hT2
                have hB1 := hB2
                have hR1 := hR2
                obtain ⟨c0, c1, c2, c3, c4, -, cf⟩ := id hF1
                obtain ⟨t0, t1, -, tf⟩ := id hT1
                clear hF2 hT2 hB2 hR2
                go_wp2_with fail
                refine (hsay _ hR1.out).mono ?_
                rintro en w2 ⟨rfl, hb2⟩
                have hB2' := hB1.trans (hb2.mono hB1.size)
                by_cases hneg : (elseF (sayF s.n L) (-1)).1 < 0
                · obtain ⟨h1, h2⟩ := else_neg 3 hneg
                  rw [h1] at HE
                  obtain ⟨⟨A1, A2, A3⟩, hA⟩ : ∃ q, elseF (sayF s.n L) (-1) = q := ⟨_, rfl⟩
                  rw [hA] at hneg h2 ⊢
                  simp only at hneg h2
                  subst h2
                  clear hA h1
                  have hT2 := (hT1.below hb2).alloc (.cells #[.int .i64 A1, .int .i64 A2] 28)
                  have hB2 := hB2'.alloc hB2'.size (.cells #[.int .i64 A1, .int .i64 A2] 28)
                  have hX := Tw.new w2 A1 A2
                  have hlt2 : w.heap.size + 1 < w2.heap.size := (hT1.below hb2).lt
                  have s0 := (hT1.below hb2).c0
                  have s1 := (hT1.below hb2).c1
                  have sf := (hT1.below hb2).fz
                  clear hb2 t0 t1 tf
                  obtain ⟨t0, t1, -, tf⟩ := id hT2
                  obtain ⟨x0, x1, -, xf⟩ := id hX
                  unfold anV
                  go_wp2_with fail
                  refine bodyPost_ret (v := anV (3, 0, 0)) (by simp [results, Tryz.results52, go_sem, anV, t0, t1, tf, *]) rfl ⟨by rw [HE.out], ?_⟩
                  have hB3 := put2_below hB2' (N := w.heap.size + 1) (by omega) 3 0
                  exact hB3.alloc hB3.size _
                · have h1 := else_pos 3 hneg
                  rw [h1] at HE
                  obtain ⟨⟨A1, A2, A3⟩, hA⟩ : ∃ q, elseF (sayF s.n L) (-1) = q := ⟨_, rfl⟩
                  rw [hA] at hneg HE ⊢
                  simp only at hneg
                  clear hA h1
                  have hT2 := (hT1.below hb2).alloc (.cells #[.int .i64 A1, .int .i64 A2] 28)
                  have hB2 := hB2'.alloc hB2'.size (.cells #[.int .i64 A1, .int .i64 A2] 28)
                  have hX := Tw.new w2 A1 A2
                  clear hB2' hb2 t0 t1 tf
                  obtain ⟨t0, t1, -, tf⟩ := id hT2
                  obtain ⟨x0, x1, -, xf⟩ := id hX
                  have hnz : decide (A1 < 0) = false := decide_eq_false hneg
                  unfold anV
                  go_wp2_with fail
                  refine bodyPost_ret (v := anV (A1, A2, A3)) (by simp [results, Tryz.results52, go_sem, anV, t0, t1, tf]) rfl ⟨by rw [HE.out], ?_⟩
                  exact put2_below hB2 (by omega) A1 A2
              · have HE := hide (ans_bare (s := s) (L := L) (m := m) hboth hc (Or.inr hm))
                clear hboth HBB hc
                unfold St.v at hrt ⊢
                go_enter Tryz.func52, Tryz.ntmps52
                go_wp2_with fail
                generalize World.alloc _ _ = W1 at hF hT hB hR ⊢
                obtain ⟨c0, c1, c2, c3, c4, -, cf⟩ := id hF
                go_wp2_with fail
                refine (hrt _).mono ?_
                rintro en w1 ⟨rfl, hb1⟩
                have hF1 := hF.below hb1
                have hT1 := hT.below hb1
                have hB1 := hB.trans (hb1.mono hB.size)
                have hR1 := hide (hR.out.below hb1)
                clear hF hT hB hR hb1 c0 c1 c2 c3 c4 cf
                obtain ⟨c0, c1, c2, c3, c4, -, cf⟩ := id hF1
                obtain ⟨t0, t1, -, tf⟩ := id hT1
                go_wp2_with fail
                refine (hrf _ hR1.out).mono ?_
                rintro en w1' ⟨rfl, hb1⟩
                have hF2 := hF1.below hb1
                have hT2 := hT1.below hb1
                have hB2 := hB1.trans (hb1.mono hB1.size)
                have hR2 := hide (hR1.out.below hb1)
                clear hF1 hT1 hB1 hR1 hb1 c0 c1 c2 c3 c4 cf t0 t1 tf
                have hF1 := hF2
                have hT1 := hT2
                have hB1 := hB2
                have hR1 := hR2
                obtain ⟨c0, c1, c2, c3, c4, -, cf⟩ := id hF1
                obtain ⟨t0, t1, -, tf⟩ := id hT1
                clear hF2 hT2 hB2 hR2
                go_wp2_with fail
                refine bodyPost_ret (v := anV (0, 0, 0)) (by simp [results, Tryz.results52, go_sem, anV, t0, t1, tf]) rfl ⟨by rw [HE.out], ?_⟩
                exact put2_below hB1 (by omega) 0 0
            · have HE := hide (ans_bare (s := s) (L := L) (m := m) hboth hc (Or.inl (by rw [HBB.out, decide_eq_true (beq_iff_eq.1 h3)]; simp)))
              clear hboth HBB hc
              unfold St.v at hrt ⊢
              go_enter Tryz.func52, Tryz.ntmps52
              go_wp2_with fail
              generalize World.alloc _ _ = W1 at hF hT hB hR ⊢
              obtain ⟨c0, c1, c2, c3, c4, -, cf⟩ := id hF
              go_wp2_with fail
              refine (hrt _).mono ?_
              rintro en w1 ⟨rfl, hb1⟩
              have hF1 := hF.below hb1
              have hT1 := hT.below hb1
              have hB1 := hB.trans (hb1.mono hB.size)
              have hR1 := hide (hR.out.below hb1)
              clear hF hT hB hR hb1 c0 c1 c2 c3 c4 cf
              obtain ⟨c0, c1, c2, c3, c4, -, cf⟩ := id hF1
              obtain ⟨t0, t1, -, tf⟩ := id hT1
              go_wp2_with fail
              refine (hrf _ hR1.out).mono ?_
              rintro en w1' ⟨rfl, hb1⟩
              have hF2 := hF1.below hb1
              have hT2 := hT1.below hb1
              have hB2 := hB1.trans (hb1.mono hB1.size)
              have hR2 := hide (hR1.out.below hb1)
              clear hF1 hT1 hB1 hR1 hb1 c0 c1 c2 c3 c4 cf t0 t1 tf
              have hF1 := hF2
              have hT1 := hT2
              have hB1 := hB2
              have hR1 := hR2
              obtain ⟨c0, c1, c2, c3, c4, -, cf⟩ := id hF1
              obtain ⟨t0, t1, -, tf⟩ := id hT1
              clear hF2 hT2 hB2 hR2
              go_wp2_with fail
              refine bodyPost_ret (v := anV (0, 0, 0)) (by simp [results, Tryz.results52, go_sem, anV, t0, t1, tf]) rfl ⟨by rw [HE.out], ?_⟩
              exact put2_below hB1 (by omega) 0 0
          · have HE := hide (ans_bare (s := s) (L := L) (m := m) hboth hc (Or.inl (by rw [HBB.out, decide_eq_true (beq_iff_eq.1 h2)]; simp)))
            clear hboth HBB hc
            unfold St.v at hrt ⊢
            go_enter Tryz.func52, Tryz.ntmps52
            go_wp2_with fail
            generalize World.alloc _ _ = W1 at hF hT hB hR ⊢
            obtain ⟨c0, c1, c2, c3, c4, -, cf⟩ := id hF
            go_wp2_with fail
            refine (hrt _).mono ?_
            rintro en w1 ⟨rfl, hb1⟩
            have hF1 := hF.below hb1
            have hT1 := hT.below hb1
            have hB1 := hB.trans (hb1.mono hB.size)
            have hR1 := hide (hR.out.below hb1)
            clear hF hT hB hR hb1 c0 c1 c2 c3 c4 cf
            obtain ⟨c0, c1, c2, c3, c4, -, cf⟩ := id hF1
            obtain ⟨t0, t1, -, tf⟩ := id hT1
            go_wp2_with fail
            refine (hrf _ hR1.out).mono ?_
            rintro en w1' ⟨rfl, hb1⟩
            have hF2 := hF1.below hb1
            have hT2 := hT1.below hb1
            have hB2 := hB1.trans (hb1.mono hB1.size)
            have hR2 := hide (hR1.out.below hb1)
            clear hF1 hT1 hB1 hR1 hb1 c0 c1 c2 c3 c4 cf t0 t1 tf
            have hF1 := hF2
            have hT1 := hT2
            have hB1 := hB2
            have hR1 := hR2
            obtain ⟨c0, c1, c2, c3, c4, -, cf⟩ := id hF1
            obtain ⟨t0, t1, -, tf⟩ := id hT1
            clear hF2 hT2 hB2 hR2
            go_wp2_with fail
            refine bodyPost_ret (v := anV (0, 0, 0)) (by simp [results, Tryz.results52, go_sem, anV, t0, t1, tf]) rfl ⟨by rw [HE.out], ?_⟩
            exact put2_below hB1 (by omega) 0 0
        · have HE := hide (ans_bare (s := s) (L := L) (m := m) hboth hc (Or.inl (by rw [HBB.out, h1]; simp)))
          clear hboth HBB hc
          unfold St.v at hrt ⊢
          go_enter Tryz.func52, Tryz.ntmps52
          go_wp2_with fail
          generalize World.alloc _ _ = W1 at hF hT hB hR ⊢
          obtain ⟨c0, c1, c2, c3, c4, -, cf⟩ := id hF
          go_wp2_with fail
          refine (hrt _).mono ?_
          rintro en w1 ⟨rfl, hb1⟩
          have hF1 := hF.below hb1
          have hT1 := hT.below hb1
          have hB1 := hB.trans (hb1.mono hB.size)
          have hR1 := hide (hR.out.below hb1)
          clear hF hT hB hR hb1 c0 c1 c2 c3 c4 cf
          obtain ⟨c0, c1, c2, c3, c4, -, cf⟩ := id hF1
          obtain ⟨t0, t1, -, tf⟩ := id hT1
          go_wp2_with fail
          refine (hrf _ hR1.out).mono ?_
          rintro en w1' ⟨rfl, hb1⟩
          have hF2 := hF1.below hb1
          have hT2 := hT1.below hb1
          have hB2 := hB1.trans (hb1.mono hB1.size)
          have hR2 := hide (hR1.out.below hb1)
          clear hF1 hT1 hB1 hR1 hb1 c0 c1 c2 c3 c4 cf t0 t1 tf
          have hF1 := hF2
          have hT1 := hT2
          have hB1 := hB2
          have hR1 := hR2
          obtain ⟨c0, c1, c2, c3, c4, -, cf⟩ := id hF1
          obtain ⟨t0, t1, -, tf⟩ := id hT1
          clear hF2 hT2 hB2 hR2
          go_wp2_with fail
          refine bodyPost_ret (v := anV (0, 0, 0)) (by simp [results, Tryz.results52, go_sem, anV, t0, t1, tf]) rfl ⟨by rw [HE.out], ?_⟩
          exact put2_below hB1 (by omega) 0 0

end Go.Proofs.YtmpijlaidnhpnaaGreat
