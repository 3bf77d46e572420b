/- The walks of what a saying becomes, of which answers have no body, and of which first line and row may be. The walk of what fields say. -/
import Derived.Test.YtmpijlaidnhpnaaGreatJGa
import Derived.Test.YtmpijlaidnhpnaaGreatJSd
import Derived.Deep.RegionHeld
namespace Go.Proofs.YtmpijlaidnhpnaaGreat
set_option linter.unusedVariables false
set_option linter.unusedSimpArgs false
set_option maxRecDepth 100000
open Go.RowKit

set_option maxHeartbeats 1000000 in
theorem bodiless_any (c : Int) (w : World) :
    Calls Tryz.prog 72 #[.int .i64 c] w fun e w' => e = .returned (.bool (bareB c)) ∧ w' = w := by
  have HV : Hid (bareB c = (decide (c < 200) || decide (c = 204) || decide (c = 304))) := rfl
  by_cases h1 : c < 200
  · rw [decide_eq_true h1] at HV
    go_enter Tryz.func72, Tryz.ntmps72
    go_wp2_with fail
    go_ret
    exact ⟨ret_bool (by rw [HV.out]; simp), rfl⟩
  · have h1d : decide (c < 200) = false := decide_eq_false h1
    rw [h1d] at HV
    by_cases h2 : c = 204
    · subst h2
      go_enter Tryz.func72, Tryz.ntmps72
      go_wp2_with fail
      go_ret
      exact ⟨ret_bool (by rw [HV.out]; simp), rfl⟩
    · have h2d : (c == 204) = false := by simpa using h2
      rw [decide_eq_false h2] at HV
      by_cases h3 : c = 304
      · subst h3
        go_enter Tryz.func72, Tryz.ntmps72
        go_wp2_with fail
        go_ret
        exact ⟨ret_bool (by rw [HV.out]; simp), rfl⟩
      · have h3d : (c == 304) = false := by simpa using h3
        rw [decide_eq_false h3] at HV
        go_enter Tryz.func72, Tryz.ntmps72
        go_wp2_with fail
        go_ret
        exact ⟨ret_bool (by rw [HV.out]; simp), rfl⟩

set_option maxHeartbeats 1000000 in
theorem both_any (s : St) (L : List Fd) (v : Value) (w : World) (hs : Short s) (hr : Row w v L) (hl : L.length ≤ 1000000) (hS : Sh L) :
    Calls Tryz.prog 69 #[s.v, v] w fun e w' => e = .returned (.bool (rtB s && rightF L)) ∧ Below w.heap.size w w' := by
  have hnew := Five.new w s
  have hbn : Below w.heap.size w (w.alloc (.cells s.cs.toArray 23)) := (Below.refl _ _).alloc (Nat.le_refl _) _
  have hrn := hr.below hbn
  unfold St.cs at hnew hbn hrn
  cases h1 : rtB s
  · have H1 := hide h1
    clear h1
    unfold St.v
    go_enter Tryz.func69, Tryz.ntmps69
    go_wp2_with fail
    generalize w.alloc _ = W1 at hnew hbn hrn ⊢
    refine (sright_any s _ hs).mono ?_
    rintro e w1 ⟨rfl, hb1⟩
    rw [H1.out]
    go_wp2_with fail
    go_ret
    exact ⟨ret_bool (by simp), hbn.trans (hb1.mono hbn.size)⟩
  · have H1 := hide h1
    clear h1
    unfold St.v
    go_enter Tryz.func69, Tryz.ntmps69
    go_wp2_with fail
    generalize w.alloc _ = W1 at hnew hbn hrn ⊢
    refine (sright_any s _ hs).mono ?_
    rintro e w1 ⟨rfl, hb1⟩
    rw [H1.out]
    have hr1 := hrn.below hb1
    have hB1 := hbn.trans (hb1.mono hbn.size)
    go_wp2_with fail
    refine (right_any L v _ hr1 hl hS).mono ?_
    rintro e w2 ⟨rfl, hb2⟩
    go_wp2_with fail
    go_ret
    exact ⟨ret_bool (by simp), hB1.trans (hb2.mono hB1.size)⟩

end Go.Proofs.YtmpijlaidnhpnaaGreat

namespace Go.Proofs.YtmpijlaidnhpnaaGreat
set_option linter.unusedVariables false
set_option linter.unusedSimpArgs false
set_option maxRecDepth 100000
open Go.RowKit

theorem OwnS.rows {w : World} {base : Nat} {v : Value} {A : List ByteArray} (h : OwnS w base v A) : RowS w v A := h.row
theorem join_short {L : List Fd} (hs : Sh L) (hl : L.length ≤ 50) : (joinS (allF tecS L)).size ≤ 1000000 := by
  have h1 := joinS_size (all_short (n := tecS) hs)
  have h2 := all_le tecS L
  have h3 : (allF tecS L).length * 10002 ≤ 50 * 10002 := Nat.mul_le_mul_right _ (Nat.le_trans h2 hl)
  omega

set_option maxHeartbeats 4000000 in
theorem fieldsSay_any (mn : Int) (L : List Fd) (v : Value) (w : World) (hr : Row w v L) (hl : L.length ≤ 50) (hs : Sh L) :
    Calls Tryz.prog 70 #[.int .i64 mn, v] w fun e w' => e = .returned (syV (sayF mn L)) ∧ Below w.heap.size w w' := by
  have hN0 : Th (w.alloc (.cells #[.int .i64 0, .int .u64 0, .int .i64 0] 105)) w.heap.size 0 0 0 := Th.new w 0 0 0
  have hB0 := one_alloc w #[.int .i64 0, .int .u64 0, .int .i64 0] 105
  have hR0 := hr.below hB0
  have HJ := hide (join_short hs hl)
  have HA := hide (all_le lenS L)
  have HV := hide (all_short (n := lenS) hs)
  have hjc : ∀ w0, Row w0 v L → Calls Tryz.prog 91 #[v, .string ⟨#[84, 114, 97, 110, 115, 102, 101, 114, 45, 69, 110, 99, 111, 100, 105, 110, 103]⟩] w0 fun e w' => e = .returned (.tuple #[.string (joinS (allF tecS L)), .bool (hasB tecS L)]) ∧ Below w0.heap.size w0 w' := fun w0 h => joined_any L v tecS w0 h (by omega) hs (by decide)
  have hac : ∀ w0, Row w0 v L → Calls Tryz.prog 92 #[v, .string ⟨#[67, 111, 110, 116, 101, 110, 116, 45, 76, 101, 110, 103, 116, 104]⟩] w0 fun e w' => ∃ r, e = .returned r ∧ OwnS w' w0.heap.size r (allF lenS L) ∧ Below w0.heap.size w0 w' := fun w0 h => values_any L v lenS w0 h (by omega) hs (by decide)
  have HS1 : Hid (0 < (allF tecS L).length → (0 < (allF lenS L).length ∨ mn = 0 ∨ (lowS (joinS (allF tecS L))).data.toList ≠ chL) → sayF mn L = (0, 0, 32)) := say_te
  have HS2 : Hid (0 < (allF tecS L).length → ¬ 0 < (allF lenS L).length → mn ≠ 0 → (lowS (joinS (allF tecS L))).data.toList = chL → sayF mn L = (2, 0, 0)) := say_ch
  have HS3 : Hid (¬ 0 < (allF tecS L).length → sayF mn L = lenA (allF lenS L)) := say_len
  have HB : Hid (hasB tecS L = decide (0 < (allF tecS L).length)) := rfl
  obtain ⟨J, hJ⟩ : ∃ J, joinS (allF tecS L) = J := ⟨_, rfl⟩
  obtain ⟨A, hA⟩ : ∃ A, allF lenS L = A := ⟨_, rfl⟩
  obtain ⟨m, hm⟩ : ∃ m, (allF tecS L).length = m := ⟨_, rfl⟩
  rw [hJ] at hjc HJ HS1 HS2
  rw [hA] at hac HA HV HS1 HS2 HS3
  rw [hm] at HS1 HS2 HS3 HB
  clear hJ hA hm hs hr
  have HR0 := hide hR0
  obtain ⟨aa, ca, rfl⟩ := hR0.slice
  clear hR0
  by_cases h1 : 0 < m
  · have HB' : hasB tecS L = true := by rw [HB.out]; exact decide_eq_true h1
    by_cases h2 : 0 < A.length
    · have HE := hide (HS1.out h1 (Or.inl h2))
      have h2z : (0 : Int) < A.length := by omega
      go_enter Tryz.func70, Tryz.ntmps70
      go_wp2_with fail
      generalize w.alloc _ = W0 at hN0 hB0 HR0 ⊢
      refine (hjc _ HR0.out).mono ?_
      rintro e w1 ⟨rfl, hb1⟩
      rw [HB']
      have hN1 := hN0.below hb1
      have hB1 := hB0.trans (hb1.mono hB0.size)
      have HR1 := hide (HR0.out.below hb1)
      clear hN0 hB0 HR0 hb1
      go_wp2_with fail
      refine (hac _ HR1.out).mono ?_
      rintro e w2 ⟨r, rfl, ho, hb2⟩
      have hN2 := hN1.below hb2
      have hB2 := hB1.trans (hb2.mono hB1.size)
      have HO := hide ho.rows
      obtain ⟨ab, cb, rfl, hcb, -⟩ := ho.rows
      obtain ⟨z0, z1, z2, -, zf⟩ := id hN2
      clear hN1 hB1 HR1 hb2 ho
      go_wp2_with fail
      refine bodyPost_ret (v := syV (0, 0, 32)) (by simp [results, Tryz.results70, go_sem, syV, z0, z1, z2, zf]) rfl ⟨by rw [HE.out], ?_⟩
      exact put3_below hB2 (Nat.le_refl _) 0 0 32
    · have h2z : decide ((0 : Int) < A.length) = false := decide_eq_false (by omega)
      by_cases h3 : mn = 0
      · have HE := hide (HS1.out h1 (Or.inr (Or.inl h3)))
        have h3b : (mn == 0) = true := by rw [h3]; rfl
        go_enter Tryz.func70, Tryz.ntmps70
        go_wp2_with fail
        generalize w.alloc _ = W0 at hN0 hB0 HR0 ⊢
        refine (hjc _ HR0.out).mono ?_
        rintro e w1 ⟨rfl, hb1⟩
        rw [HB']
        have hN1 := hN0.below hb1
        have hB1 := hB0.trans (hb1.mono hB0.size)
        have HR1 := hide (HR0.out.below hb1)
        clear hN0 hB0 HR0 hb1
        go_wp2_with fail
        refine (hac _ HR1.out).mono ?_
        rintro e w2 ⟨r, rfl, ho, hb2⟩
        have hN2 := hN1.below hb2
        have hB2 := hB1.trans (hb2.mono hB1.size)
        have HO := hide ho.rows
        obtain ⟨ab, cb, rfl, hcb, -⟩ := ho.rows
        obtain ⟨z0, z1, z2, -, zf⟩ := id hN2
        clear hN1 hB1 HR1 hb2 ho
        go_wp2_with fail
        refine bodyPost_ret (v := syV (0, 0, 32)) (by simp [results, Tryz.results70, go_sem, syV, z0, z1, z2, zf]) rfl ⟨by rw [HE.out], ?_⟩
        exact put3_below hB2 (Nat.le_refl _) 0 0 32
      · have h3b : (mn == 0) = false := by simpa using h3
        cases h4 : ((lowS J).toList == [99, 104, 117, 110, 107, 101, 100])
        · have HE := hide (HS1.out h1 (Or.inr (Or.inr (ne_of_beq h4))))
          have h4n : ((lowS J).toList != [99, 104, 117, 110, 107, 101, 100]) = true := by unfold bne; rw [h4]; rfl
          have hj1 := HJ.out
          go_enter Tryz.func70, Tryz.ntmps70
          go_wp2_with fail
          generalize w.alloc _ = W0 at hN0 hB0 HR0 ⊢
          refine (hjc _ HR0.out).mono ?_
          rintro e w1 ⟨rfl, hb1⟩
          rw [HB']
          have hN1 := hN0.below hb1
          have hB1 := hB0.trans (hb1.mono hB0.size)
          have HR1 := hide (HR0.out.below hb1)
          clear hN0 hB0 HR0 hb1
          go_wp2_with fail
          refine (hac _ HR1.out).mono ?_
          rintro e w2 ⟨r, rfl, ho, hb2⟩
          have hN2 := hN1.below hb2
          have hB2 := hB1.trans (hb2.mono hB1.size)
          have HO := hide ho.rows
          obtain ⟨ab, cb, rfl, hcb, -⟩ := ho.rows
          obtain ⟨z0, z1, z2, -, zf⟩ := id hN2
          clear hN1 hB1 HR1 hb2 ho
          go_wp2_with fail
          refine (lower_any J _ hj1).mono ?_
          rintro e w3 ⟨rfl, hb3⟩
          have hN3 := hN2.below hb3
          have hB3 := hB2.trans (hb3.mono hB2.size)
          clear z0 z1 z2 zf hB2
          have hB2 := hB3
          obtain ⟨z0, z1, z2, -, zf⟩ := id hN3
          go_wp2_with fail
          refine bodyPost_ret (v := syV (0, 0, 32)) (by simp [results, Tryz.results70, go_sem, syV, z0, z1, z2, zf]) rfl ⟨by rw [HE.out], ?_⟩
          exact put3_below hB2 (Nat.le_refl _) 0 0 32
        · have HE := hide (HS2.out h1 h2 h3 (eq_of_beq h4))
          have h4n : ((lowS J).toList != [99, 104, 117, 110, 107, 101, 100]) = false := by unfold bne; rw [h4]; rfl
          have hj1 := HJ.out
          go_enter Tryz.func70, Tryz.ntmps70
          go_wp2_with fail
          generalize w.alloc _ = W0 at hN0 hB0 HR0 ⊢
          refine (hjc _ HR0.out).mono ?_
          rintro e w1 ⟨rfl, hb1⟩
          rw [HB']
          have hN1 := hN0.below hb1
          have hB1 := hB0.trans (hb1.mono hB0.size)
          have HR1 := hide (HR0.out.below hb1)
          clear hN0 hB0 HR0 hb1
          go_wp2_with fail
          refine (hac _ HR1.out).mono ?_
          rintro e w2 ⟨r, rfl, ho, hb2⟩
          have hN2 := hN1.below hb2
          have hB2 := hB1.trans (hb2.mono hB1.size)
          have HO := hide ho.rows
          obtain ⟨ab, cb, rfl, hcb, -⟩ := ho.rows
          obtain ⟨z0, z1, z2, -, zf⟩ := id hN2
          clear hN1 hB1 HR1 hb2 ho
          go_wp2_with fail
          refine (lower_any J _ hj1).mono ?_
          rintro e w3 ⟨rfl, hb3⟩
          have hN3 := hN2.below hb3
          have hB3 := hB2.trans (hb3.mono hB2.size)
          clear z0 z1 z2 zf
          obtain ⟨z0, z1, z2, -, zf⟩ := id hN3
          go_wp2_with fail
          refine bodyPost_ret (v := syV (2, 0, 0)) (by simp [results, Tryz.results70, go_sem, syV, z0, z1, z2, zf]) rfl ⟨by rw [HE.out], ?_⟩
          exact put3_below hB3 (Nat.le_refl _) 2 0 0
  · have HB' : hasB tecS L = false := by rw [HB.out]; exact decide_eq_false h1
    have HE := hide (HS3.out h1)
    by_cases h2 : 0 < A.length
    · have h2z : (0 : Int) < A.length := by omega
      go_enter Tryz.func70, Tryz.ntmps70
      go_wp2_with fail
      generalize w.alloc _ = W0 at hN0 hB0 HR0 ⊢
      refine (hjc _ HR0.out).mono ?_
      rintro e w1 ⟨rfl, hb1⟩
      rw [HB']
      have hN1 := hN0.below hb1
      have hB1 := hB0.trans (hb1.mono hB0.size)
      have HR1 := hide (HR0.out.below hb1)
      clear hN0 hB0 HR0 hb1
      go_wp2_with fail
      refine (hac _ HR1.out).mono ?_
      rintro e w2 ⟨r, rfl, ho, hb2⟩
      have hN2 := hN1.below hb2
      have hB2 := hB1.trans (hb2.mono hB1.size)
      have HO := hide ho.rows
      obtain ⟨ab, cb, rfl, hcb, -⟩ := ho.rows
      obtain ⟨z0, z1, z2, -, zf⟩ := id hN2
      clear hN1 hB1 HR1 hb2 ho
      cases A with
      | nil => exact absurd h2 (by simp)
      | cons x t =>
        have HL : Hid (t.length ≤ 1000) := by unfold Hid; have := HA.out; simp at this; omega
        have HE2 : Hid (sayF mn L = lensF x t) := HE.out
        go_wp2_with fail
        refine (lengthsSay_any x t _ _ HO.out HL.out HV.out).mono ?_
        rintro e w3 ⟨rfl, hb3⟩
        have hN3 := hN2.below hb3
        have hB3 := hB2.trans (hb3.mono hB2.size)
        clear z0 z1 z2 zf
        obtain ⟨z0, z1, z2, -, zf⟩ := id hN3
        obtain ⟨⟨k, z, e⟩, hk⟩ : ∃ q, lensF x t = q := ⟨_, rfl⟩
        rw [hk] at HE2 ⊢
        clear hk
        unfold syV
        go_wp2_with fail
        refine bodyPost_ret (v := syV (k, z, e)) (by simp [results, Tryz.results70, go_sem, syV, z0, z1, z2, zf]) rfl ⟨by rw [HE2.out], ?_⟩
        exact put3_below hB3 (Nat.le_refl _) k z e
    · have h2z : decide ((0 : Int) < A.length) = false := decide_eq_false (by omega)
      have HE2 := hide (HE.out.trans (len_nil h2))
      go_enter Tryz.func70, Tryz.ntmps70
      go_wp2_with fail
      generalize w.alloc _ = W0 at hN0 hB0 HR0 ⊢
      refine (hjc _ HR0.out).mono ?_
      rintro e w1 ⟨rfl, hb1⟩
      rw [HB']
      have hN1 := hN0.below hb1
      have hB1 := hB0.trans (hb1.mono hB0.size)
      have HR1 := hide (HR0.out.below hb1)
      clear hN0 hB0 HR0 hb1
      go_wp2_with fail
      refine (hac _ HR1.out).mono ?_
      rintro e w2 ⟨r, rfl, ho, hb2⟩
      have hN2 := hN1.below hb2
      have hB2 := hB1.trans (hb2.mono hB1.size)
      have HO := hide ho.rows
      obtain ⟨ab, cb, rfl, hcb, -⟩ := ho.rows
      obtain ⟨z0, z1, z2, -, zf⟩ := id hN2
      clear hN1 hB1 HR1 hb2 ho
      go_wp2_with fail
      refine bodyPost_ret (v := syV (0, 0, 0)) (by simp [results, Tryz.results70, go_sem, syV, z0, z1, z2, zf]) rfl ⟨by rw [HE2.out], ?_⟩
      exact put3_below hB2 (Nat.le_refl _) 0 0 0

end Go.Proofs.YtmpijlaidnhpnaaGreat
