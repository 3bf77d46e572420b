/- The walk of Resolve. -/
import Derived.Test.YtjegoceebdiaaaaDoorUf
namespace Go.Proofs.YtjegoceebdiaaaaDoor
set_option linter.unusedVariables false
set_option linter.unusedSimpArgs false
open Go.RowKit

theorem seen_fits {b u : U} (hb : Short b) (hu : Short u) (h1 : b.path.size ≤ 5000) (h2 : u.path.size ≤ 5000) (pb : placeB b = true) (pu : placeB u = true) : Fits (seen b u) := by
  have qb := place_port pb
  have qu := place_port pu
  cases ha : u.abs
  · by_cases h0 : u.path.data.toList = []
    · cases hq : u.asks
      · rw [seen_base ha h0 hq]; exact hb.fits pb
      · rw [seen_query ha h0 hq]; exact ⟨hb.host, hb.path, hu.query, qb.1, qb.2⟩
    · rw [seen_path ha h0]
      have c1 := cleanS_size (fromS b.path u.path)
      have c2 := fromS_size b.path u.path
      exact ⟨hb.host, by show (cleanS (fromS b.path u.path)).size ≤ 10000; omega, hu.query, qb.1, qb.2⟩
  · rw [seen_abs ha]
    have c1 := cleanS_size u.path
    exact ⟨hu.host, by show (cleanS u.path).size ≤ 10000; omega, hu.query, qu.1, qu.2⟩

theorem rs_bad {b u : U} (h : (rtU b && rtU u && b.abs) = false) : rsU b u = U0 ∧ rsE b u = 1 := by
  unfold rsU rsE; rw [if_neg (by simp [h]), if_neg (by simp [h])]; exact ⟨rfl, rfl⟩
theorem rs_long {b u : U} (h : (rtU b && rtU u && b.abs) = true) (g : 500 < (wrL (seen b u)).length) : rsU b u = U0 ∧ rsE b u = 2 := by
  unfold rsU rsE; rw [if_pos h, if_pos h, if_pos g, if_pos g]; exact ⟨rfl, rfl⟩
theorem rs_good {b u : U} (h : (rtU b && rtU u && b.abs) = true) (g : ¬ 500 < (wrL (seen b u)).length) : rsU b u = seen b u ∧ rsE b u = 0 := by
  unfold rsU rsE; rw [if_pos h, if_pos h, if_neg g, if_neg g]; exact ⟨rfl, rfl⟩

set_option maxRecDepth 100000 in
set_option maxHeartbeats 1000000 in
theorem resolve_any (b u : U) (w : World) (hb : Short b) (hu : Short u) (hb5 : b.path.size ≤ 5000) (hu5 : u.path.size ≤ 5000) (ht : Tabs w) :
    Calls Tryd.prog 17 #[b.v, u.v] w fun e w' => e = .returned (.tuple #[(rsU b u).v, .int .i64 (rsE b u)]) ∧ Below w.heap.size w w' := by
  have hS := start3 w b u
  have htS := ht.below hS.b
  unfold U.v
  cases h1 : rtU b
  · have HR := hide (rs_bad (b := b) (u := u) (by rw [h1]; rfl))
    have H1 := hide h1
    clear h1
    go_enter Tryd.func17, Tryd.ntmps17
    go_wp2_with fail
    generalize World.alloc _ _ = W0 at hS htS ⊢
    refine (right_any b _ hb htS).mono ?_
    rintro e w1 ⟨rfl, hb1⟩
    rw [H1.out]
    have hS1 := hS.below hb1
    clear hb1 hS htS W0
    obtain ⟨z0, z1, z2, z3, z4, z5, -, zf⟩ := id hS1.z
    go_wp2_with fail
    refine bodyPost_ret (v := .tuple #[U0.v, .int .i64 1]) (by simp [results, Tryd.results17, go_sem, U0_v, *]) rfl ⟨ret_ue HR.out.1.symm HR.out.2.symm, ?_⟩
    exact put6_below hS1.b (by omega) U0
  · cases h2 : rtU u
    · have HR := hide (rs_bad (b := b) (u := u) (by rw [h1, h2]; rfl))
      have H1 := hide h1
      have H2 := hide h2
      clear h1 h2
      go_enter Tryd.func17, Tryd.ntmps17
      go_wp2_with fail
      generalize World.alloc _ _ = W0 at hS htS ⊢
      refine (right_any b _ hb htS).mono ?_
      rintro e w1 ⟨rfl, hb1⟩
      rw [H1.out]
      have hS1 := hS.below hb1
      have htS1 := htS.below hb1
      clear hb1 hS htS W0
      obtain ⟨y0, y1, y2, y3, y4, y5, -, -⟩ := id hS1.y
      go_wp2_with fail
      refine (right_any u _ hu htS1).mono ?_
      rintro e w2 ⟨rfl, hb2⟩
      rw [H2.out]
      have hS2 := hS1.below hb2
      clear hb2 hS1 htS1 y0 y1 y2 y3 y4 y5
      obtain ⟨z0, z1, z2, z3, z4, z5, -, zf⟩ := id hS2.z
      go_wp2_with fail
      refine bodyPost_ret (v := .tuple #[U0.v, .int .i64 1]) (by simp [results, Tryd.results17, go_sem, U0_v, *]) rfl ⟨ret_ue HR.out.1.symm HR.out.2.symm, ?_⟩
      exact put6_below hS2.b (by omega) U0
    · cases h3 : b.abs
      · have HR := hide (rs_bad (b := b) (u := u) (by rw [h1, h2, h3]; rfl))
        have H1 := hide h1
        have H2 := hide h2
        clear h1 h2
        rw [h3] at hS htS
        go_enter Tryd.func17, Tryd.ntmps17
        go_wp2_with fail
        generalize World.alloc _ _ = W0 at hS htS ⊢
        have hra := right_any b W0 hb htS
        unfold U.v at hra
        rw [h3] at hra
        refine hra.mono ?_
        rintro e w1 ⟨rfl, hb1⟩
        rw [H1.out]
        have hS1 := hS.below hb1
        have htS1 := htS.below hb1
        clear hb1 hS htS hra W0
        obtain ⟨y0, y1, y2, y3, y4, y5, -, -⟩ := id hS1.y
        go_wp2_with fail
        refine (right_any u _ hu htS1).mono ?_
        rintro e w2 ⟨rfl, hb2⟩
        rw [H2.out]
        have hS2 := hS1.below hb2
        clear hb2 hS1 htS1 y0 y1 y2 y3 y4 y5
        obtain ⟨z0, z1, z2, z3, z4, z5, -, zf⟩ := id hS2.z
        have x0 := hS2.x.c0
        rw [h3] at x0
        go_wp2_with fail
        refine bodyPost_ret (v := .tuple #[U0.v, .int .i64 1]) (by simp [results, Tryd.results17, go_sem, U0_v, *]) rfl ⟨ret_ue HR.out.1.symm HR.out.2.symm, ?_⟩
        exact put6_below hS2.b (by omega) U0
      · have HF := hide (seen_fits hb hu hb5 hu5 (rt_place h1) (rt_place h2))
        have hall : (rtU b && rtU u && b.abs) = true := by rw [h1, h2, h3]; rfl
        have HALL := hide hall
        have H1 := hide h1
        have H2 := hide h2
        have hwz := wrS_size (seen b u)
        have hwl : (wrS (seen b u)).size ≤ 100000 := by
          rw [hwz]
          have hps := prtS_size HF.out.p0 HF.out.p1
          have f1 := HF.out.host
          have f2 := HF.out.path
          have f3 := HF.out.query
          have e2 : (prtL (seen b u).port).length ≤ 6 := by rw [← bytes_list (prtL (seen b u).port), size_list]; exact hps
          unfold wrL qryL
          rw [← size_list] at f1 f2 f3
          cases (seen b u).abs <;> cases (seen b u).asks <;> simp [httpL] <;> simp at f1 f2 f3 <;> omega
        clear h1 h2 hall
        rw [h3] at hS htS
        go_enter Tryd.func17, Tryd.ntmps17
        go_wp2_with fail
        generalize World.alloc _ _ = W0 at hS htS ⊢
        have hra := right_any b W0 hb htS
        unfold U.v at hra
        rw [h3] at hra
        refine hra.mono ?_
        rintro e w1 ⟨rfl, hb1⟩
        rw [H1.out]
        have hS1 := hS.below hb1
        have htS1 := htS.below hb1
        clear hb1 hS htS hra W0
        obtain ⟨y0, y1, y2, y3, y4, y5, -, -⟩ := id hS1.y
        go_wp2_with fail
        refine (right_any u _ hu htS1).mono ?_
        rintro e w2 ⟨rfl, hb2⟩
        rw [H2.out]
        have hS2 := hS1.below hb2
        have htS2 := htS1.below hb2
        clear hb2 hS1 htS1 y0 y1 y2 y3 y4 y5
        obtain ⟨x0, x1, x2, x3, x4, x5, -, -⟩ := id hS2.x
        obtain ⟨y0, y1, y2, y3, y4, y5, -, -⟩ := id hS2.y
        rw [h3] at x0
        go_wp2_with fail
        have hse := seenFrom_any b u w2 hb hu
        unfold U.v at hse
        rw [h3] at hse
        refine hse.mono ?_
        rintro e w3 ⟨rfl, hb3⟩
        clear hse
        have hS3 := hS2.below hb3
        have htS3 := htS2.below hb3
        clear hb3 hS2 htS2 x0 x1 x2 x3 x4 x5 y0 y1 y2 y3 y4 y5
        obtain ⟨T, hT⟩ : ∃ T, seen b u = T := ⟨_, rfl⟩
        have HT := hide hT
        rw [hT] at HF hwz hwl ⊢
        clear hT
        have hB4 : Below w3.heap.size w3 (w3.alloc (.cells T.cs.toArray 23)) := (Below.refl _ _).alloc (Nat.le_refl _) _
        have hT4 := Six.new w3 T
        have hS4 := hS3.below hB4
        have htS4 := htS3.below hB4
        unfold U.cs at hT4 hS4 htS4
        clear hB4 hS3 htS3
        go_wp2_with fail
        generalize World.alloc _ _ = W4 at hT4 hS4 htS4 ⊢
        refine (written_any T _ HF.out htS4).mono ?_
        rintro e w5 ⟨rfl, hb5⟩
        have hS5 := hS4.below hb5
        have hT5 := hT4.below hb5
        clear hb5 hS4 hT4 htS4 W4
        obtain ⟨z0, z1, z2, z3, z4, z5, -, zf⟩ := id hS5.z
        obtain ⟨t0, t1, t2, t3, t4, t5, -, -⟩ := id hT5
        by_cases hlen : 500 < (wrS T).size
        · have HR := hide (rs_long HALL.out (by rw [HT.out, ← hwz]; exact hlen))
          have hlz : (500 : Int) < ((wrS T).size : Int) := by omega
          go_wp2_with fail
          refine bodyPost_ret (v := .tuple #[U0.v, .int .i64 2]) (by simp [results, Tryd.results17, go_sem, U0_v, *]) rfl ⟨ret_ue HR.out.1.symm HR.out.2.symm, ?_⟩
          exact put6_below hS5.b (by omega) U0
        · have HR := hide (rs_good HALL.out (by rw [HT.out, ← hwz]; exact hlen))
          rw [HT.out] at HR
          have hlz : decide ((500 : Int) < ((wrS T).size : Int)) = false := decide_eq_false (by omega)
          go_wp2_with fail
          refine bodyPost_ret (v := .tuple #[T.v, .int .i64 0]) (by simp [results, Tryd.results17, go_sem, U.v, *]) rfl ⟨ret_ue HR.out.1.symm HR.out.2.symm, ?_⟩
          exact put6_below hS5.b (by omega) T

end Go.Proofs.YtjegoceebdiaaaaDoor
