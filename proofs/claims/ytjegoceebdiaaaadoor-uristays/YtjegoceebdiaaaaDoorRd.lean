/- The walk of the document's own place. -/
import Derived.Test.YtjegoceebdiaaaaDoorRc
import Derived.Test.YtjegoceebdiaaaaDoorUf
namespace Go.Proofs.YtjegoceebdiaaaaDoor
set_option linter.unusedVariables false
set_option linter.unusedSimpArgs false
open Go.RowKit

def plU (s : ByteArray) : U :=
  if laI 58 s.data.toList < 0 then ⟨true, lowS s, 0, ⟨#[]⟩, false, ⟨#[]⟩⟩
  else ⟨true, lowS (s.extract 0 (laI 58 s.data.toList).toNat),
    if rdE 10 (s.data.toList.drop ((laI 58 s.data.toList).toNat + 1)) ≠ 0 ∨ rdN 10 (s.data.toList.drop ((laI 58 s.data.toList).toNat + 1)) = 0 ∨ 6 < s.size - (laI 58 s.data.toList).toNat then -1
    else (rdN 10 (s.data.toList.drop ((laI 58 s.data.toList).toNat + 1)) : Int), ⟨#[]⟩, false, ⟨#[]⟩⟩

theorem pl_none {s : ByteArray} (h : laI 58 s.data.toList = -1) : plU s = ⟨true, lowS s, 0, ⟨#[]⟩, false, ⟨#[]⟩⟩ := by
  unfold plU; rw [if_pos (by omega)]
theorem pl_bad {s : ByteArray} {k : Nat} (h : laI 58 s.data.toList = k) (g : rdE 10 (s.data.toList.drop (k + 1)) ≠ 0 ∨ rdN 10 (s.data.toList.drop (k + 1)) = 0 ∨ 6 < s.size - k) : plU s = ⟨true, lowS (s.extract 0 k), -1, ⟨#[]⟩, false, ⟨#[]⟩⟩ := by
  unfold plU
  rw [h, if_neg (by omega), Int.toNat_natCast, if_pos g]
theorem pl_good {s : ByteArray} {k : Nat} (h : laI 58 s.data.toList = k) (g1 : rdE 10 (s.data.toList.drop (k + 1)) = 0) (g2 : ¬ rdN 10 (s.data.toList.drop (k + 1)) = 0) (g3 : ¬ 6 < s.size - k) : plU s = ⟨true, lowS (s.extract 0 k), (rdN 10 (s.data.toList.drop (k + 1)) : Int), ⟨#[]⟩, false, ⟨#[]⟩⟩ := by
  unfold plU
  rw [h, if_neg (by omega), Int.toNat_natCast, if_neg (by simp only [not_or, Decidable.not_not]; exact ⟨g1, g2, g3⟩)]

theorem last_is (s : ByteArray) (c : UInt8) (x : Int) (n : Int) (hx : x = (c.toNat : Int)) (h : laI c s.data.toList = n) (w : World) (hs : s.size ≤ 1000000) :
    Calls Tryd.prog 38 #[.string s, .int .u8 x] w fun e w' => e = .returned (.int .i64 n) ∧ w' = w := by
  subst hx
  rw [← h]
  exact last_any s c w hs

theorem Six.allocs {w : World} {N : Nat} {u : U} (h : Six w N u) :
    (∀ o, (w.alloc o).cell? ⟨N, 0, none⟩ = some (.bool u.abs)) ∧ (∀ o, (w.alloc o).cell? ⟨N, 1, none⟩ = some (.string u.host)) ∧ (∀ o, (w.alloc o).cell? ⟨N, 2, none⟩ = some (.int .i64 u.port)) ∧ (∀ o, (w.alloc o).cell? ⟨N, 3, none⟩ = some (.string u.path)) ∧ (∀ o, (w.alloc o).cell? ⟨N, 4, none⟩ = some (.bool u.asks)) ∧ (∀ o, (w.alloc o).cell? ⟨N, 5, none⟩ = some (.string u.query)) ∧ ∀ o k, (w.alloc o).frozen? ⟨N, k, none⟩ = false :=
  ⟨fun o => (h.alloc o).c0, fun o => (h.alloc o).c1, fun o => (h.alloc o).c2, fun o => (h.alloc o).c3, fun o => (h.alloc o).c4, fun o => (h.alloc o).c5, fun o k => (h.alloc o).fz k⟩

set_option maxRecDepth 100000 in
set_option maxHeartbeats 1000000 in
theorem refplace_any (s : ByteArray) (w : World) (hs : s.size ≤ 10000) :
    Calls Tryd.prog 29 #[.string s] w fun e w' => e = .returned ((plU s).v) ∧ Below w.heap.size w w' := by
  have hR0 := six_zero w
  have hB0 : Below w.heap.size w (w.alloc (.cells #[.bool false, .string ⟨#[]⟩, .int .i64 0, .string ⟨#[]⟩, .bool false, .string ⟨#[]⟩] 23)) := (Below.refl _ _).alloc (Nat.le_refl _) _
  have hge := laI_ge 58 s.data.toList
  have hlt := laI_lt 58 s.data.toList
  rw [size_list] at hlt
  by_cases hneg : laI 58 s.data.toList = -1
  · have HR := hide (pl_none hneg)
    have HN := hide hneg
    clear hneg hge hlt
    go_enter Tryd.func29, Tryd.ntmps29
    go_wp2_with fail
    generalize World.alloc _ _ = W0 at hR0 hB0 ⊢
    refine (last_is s 58 58 _ rfl HN.out _ (by omega)).mono ?_
    rintro e w1 ⟨rfl, hw1⟩
    subst hw1
    go_wp2_with fail
    refine (reflower_any s _ (by omega)).mono ?_
    rintro e w2 ⟨rfl, hb2⟩
    have hR2 := hR0.below hb2
    have hB2 := hB0.trans (hb2.mono hB0.size)
    clear hb2 hR0 hB0
    obtain ⟨r0, r1, r2, r3, r4, r5, -, rf⟩ := id hR2
    go_wp2_with fail
    refine bodyPost_ret (v := U.v ⟨true, lowS s, 0, ⟨#[]⟩, false, ⟨#[]⟩⟩) (by simp [results, Tryd.results29, go_sem, U.v, *]) rfl ⟨by rw [HR.out], ?_⟩
    exact put6_below hB2 (Nat.le_refl _) ⟨true, lowS s, 0, ⟨#[]⟩, false, ⟨#[]⟩⟩
  · obtain ⟨k, hk⟩ : ∃ k : Nat, laI 58 s.data.toList = k := ⟨(laI 58 s.data.toList).toNat, by omega⟩
    have hks : k + 1 ≤ s.size := by
      rcases hlt with h | h
      · omega
      · rw [h] at hk; rw [laI_nil] at hk; omega
    have hel : (s.extract (k + 1) s.size).data.toList = s.data.toList.drop (k + 1) := ext_drop _ _
    have hrd := rdN_le 10 (s.data.toList.drop (k + 1))
    have hrr := refRead10 (s.extract (k + 1) s.size)
    rw [hel] at hrr
    have hes : (s.extract 0 k).size ≤ 10000 := by rw [ByteArray.size_extract]; omega
    have hlo := lowS_size (s.extract 0 k)
    have HK := hide hk
    have hsx : (s.extract (k + 1) s.size).size ≤ maxLen := maxLen_of (by rw [ByteArray.size_extract]; omega)
    clear hneg hge hlt hel
    by_cases h1 : rdE 10 (s.data.toList.drop (k + 1)) = 0
    · by_cases h2 : rdN 10 (s.data.toList.drop (k + 1)) = 0
      · have HR := hide (pl_bad hk (Or.inr (Or.inl h2)))
        rw [h1, h2] at hrr
        clear hk hrd h1 h2
        go_enter Tryd.func29, Tryd.ntmps29
        go_wp2_with fail
        generalize World.alloc _ _ = W0 at hR0 hB0 ⊢
        refine (last_is s 58 58 _ rfl HK.out _ (by omega)).mono ?_
        rintro e w1 ⟨rfl, hw1⟩
        subst hw1
        go_wp2_with fail
        refine (hrr _ hsx).mono ?_
        rintro e w1 ⟨rfl, hw1⟩
        subst hw1
        go_wp2_with fail
        refine (reflower_any (s.extract 0 k) _ (by omega)).mono ?_
        rintro e w2 ⟨rfl, hb2⟩
        have hR2 := hR0.below hb2
        have hB2 := hB0.trans (hb2.mono hB0.size)
        clear hb2 hR0 hB0
        obtain ⟨a0, a1, a2, a3, a4, a5, af⟩ := hR2.allocs
        go_wp2_with fail
        refine bodyPost_ret (v := U.v ⟨true, lowS (s.extract 0 k), -1, ⟨#[]⟩, false, ⟨#[]⟩⟩) (by simp [results, Tryd.results29, go_sem, U.v, *]) rfl ⟨by rw [HR.out], ?_⟩
        exact put6_below (hB2.alloc hB2.size _) (Nat.le_refl _) ⟨true, lowS (s.extract 0 k), -1, ⟨#[]⟩, false, ⟨#[]⟩⟩
      · by_cases h3 : 6 < s.size - k
        · have HR := hide (pl_bad hk (Or.inr (Or.inr h3)))
          have h3z : (6 : Int) < (s.size : Int) - (k : Int) := by omega
          have hm0 : ((rdN 10 (s.data.toList.drop (k + 1)) : Int) == 0) = false := by rw [beq_eq_false_iff_ne]; omega
          have hwr : IntKind.i64.wrap (rdN 10 (s.data.toList.drop (k + 1)) : Int) = (rdN 10 (s.data.toList.drop (k + 1)) : Int) := by simp [IntKind.wrap, IntKind.bits, IntKind.signed]; omega
          rw [h1] at hrr
          generalize rdN 10 (s.data.toList.drop (k + 1)) = m at hrr hrd h2 hm0 hwr
          clear hk h1
          go_enter Tryd.func29, Tryd.ntmps29
          go_wp2_with fail
          generalize World.alloc _ _ = W0 at hR0 hB0 ⊢
          refine (last_is s 58 58 _ rfl HK.out _ (by omega)).mono ?_
          rintro e w1 ⟨rfl, hw1⟩
          subst hw1
          go_wp2_with fail
          refine (hrr _ hsx).mono ?_
          rintro e w1 ⟨rfl, hw1⟩
          subst hw1
          go_wp2_with fail
          refine (reflower_any (s.extract 0 k) _ (by omega)).mono ?_
          rintro e w2 ⟨rfl, hb2⟩
          have hR2 := hR0.below hb2
          have hB2 := hB0.trans (hb2.mono hB0.size)
          clear hb2 hR0 hB0
          obtain ⟨a0, a1, a2, a3, a4, a5, af⟩ := hR2.allocs
          go_wp2_with fail
          refine bodyPost_ret (v := U.v ⟨true, lowS (s.extract 0 k), -1, ⟨#[]⟩, false, ⟨#[]⟩⟩) (by simp [results, Tryd.results29, go_sem, U.v, *]) rfl ⟨by rw [HR.out], ?_⟩
          exact put6_below (hB2.alloc hB2.size _) (Nat.le_refl _) ⟨true, lowS (s.extract 0 k), -1, ⟨#[]⟩, false, ⟨#[]⟩⟩
        · have HR := hide (pl_good hk h1 h2 h3)
          have h3z : decide ((6 : Int) < (s.size : Int) - (k : Int)) = false := decide_eq_false (by omega)
          have hm0 : ((rdN 10 (s.data.toList.drop (k + 1)) : Int) == 0) = false := by rw [beq_eq_false_iff_ne]; omega
          have hwr : IntKind.i64.wrap (rdN 10 (s.data.toList.drop (k + 1)) : Int) = (rdN 10 (s.data.toList.drop (k + 1)) : Int) := by simp [IntKind.wrap, IntKind.bits, IntKind.signed]; omega
          rw [h1] at hrr
          generalize rdN 10 (s.data.toList.drop (k + 1)) = m at hrr hrd h2 hm0 hwr HR
          clear hk h1
          go_enter Tryd.func29, Tryd.ntmps29
          go_wp2_with fail
          generalize World.alloc _ _ = W0 at hR0 hB0 ⊢
          refine (last_is s 58 58 _ rfl HK.out _ (by omega)).mono ?_
          rintro e w1 ⟨rfl, hw1⟩
          subst hw1
          go_wp2_with fail
          refine (hrr _ hsx).mono ?_
          rintro e w1 ⟨rfl, hw1⟩
          subst hw1
          go_wp2_with fail
          refine (reflower_any (s.extract 0 k) _ (by omega)).mono ?_
          rintro e w2 ⟨rfl, hb2⟩
          have hR2 := hR0.below hb2
          have hB2 := hB0.trans (hb2.mono hB0.size)
          clear hb2 hR0 hB0
          obtain ⟨a0, a1, a2, a3, a4, a5, af⟩ := hR2.allocs
          go_wp2_with fail
          refine bodyPost_ret (v := U.v ⟨true, lowS (s.extract 0 k), (m : Int), ⟨#[]⟩, false, ⟨#[]⟩⟩) (by simp [results, Tryd.results29, go_sem, U.v, *]) rfl ⟨by rw [HR.out], ?_⟩
          exact put6_below (hB2.alloc hB2.size _) (Nat.le_refl _) ⟨true, lowS (s.extract 0 k), (m : Int), ⟨#[]⟩, false, ⟨#[]⟩⟩
    · have HR := hide (pl_bad hk (Or.inl h1))
      have he0 : ((rdE 10 (s.data.toList.drop (k + 1)) : Int) == 0) = false := by rw [beq_eq_false_iff_ne]; omega
      have hwr : IntKind.i64.wrap (rdN 10 (s.data.toList.drop (k + 1)) : Int) = (rdN 10 (s.data.toList.drop (k + 1)) : Int) := by simp [IntKind.wrap, IntKind.bits, IntKind.signed]; omega
      generalize rdN 10 (s.data.toList.drop (k + 1)) = m at hrr hrd hwr
      generalize rdE 10 (s.data.toList.drop (k + 1)) = q at hrr h1 he0
      clear hk
      go_enter Tryd.func29, Tryd.ntmps29
      go_wp2_with fail
      generalize World.alloc _ _ = W0 at hR0 hB0 ⊢
      refine (last_is s 58 58 _ rfl HK.out _ (by omega)).mono ?_
      rintro e w1 ⟨rfl, hw1⟩
      subst hw1
      go_wp2_with fail
      refine (hrr _ hsx).mono ?_
      rintro e w1 ⟨rfl, hw1⟩
      subst hw1
      go_wp2_with fail
      refine (reflower_any (s.extract 0 k) _ (by omega)).mono ?_
      rintro e w2 ⟨rfl, hb2⟩
      have hR2 := hR0.below hb2
      have hB2 := hB0.trans (hb2.mono hB0.size)
      clear hb2 hR0 hB0
      obtain ⟨a0, a1, a2, a3, a4, a5, af⟩ := hR2.allocs
      go_wp2_with fail
      refine bodyPost_ret (v := U.v ⟨true, lowS (s.extract 0 k), -1, ⟨#[]⟩, false, ⟨#[]⟩⟩) (by simp [results, Tryd.results29, go_sem, U.v, *]) rfl ⟨by rw [HR.out], ?_⟩
      exact put6_below (hB2.alloc hB2.size _) (Nat.le_refl _) ⟨true, lowS (s.extract 0 k), -1, ⟨#[]⟩, false, ⟨#[]⟩⟩

end Go.Proofs.YtjegoceebdiaaaaDoor
