/- The walks of the document's own Request and Answer. -/
import Derived.Test.YtplanlhgcckioaaRa
namespace Go.Proofs.Ytplanlhgcckioaa
set_option linter.unusedVariables false
set_option linter.unusedSimpArgs false
set_option maxRecDepth 100000
open Go.RowKit

set_option maxHeartbeats 4000000 in
theorem refrequest_any (s : St) (L : List Fd) (v : Value) (w : World) (hs : Short s) (hr : Row w v L) (hl : L.length ≤ 50) (hS : Sh L) :
    Calls Try.prog 8 #[s.v, v] w fun en w' => en = .returned (anV (reqF s L)) ∧ Below w.heap.size w w' := by
  have hF : Five ((w.alloc (.cells #[.string s.m, .string s.t, .int .i64 s.c, .string s.r, .int .i64 s.n] 23)).alloc (.cells #[.int .i64 0, .int .i64 0] 28)) w.heap.size s := (Five.new w s).alloc _
  have hT : Tw ((w.alloc (.cells #[.string s.m, .string s.t, .int .i64 s.c, .string s.r, .int .i64 s.n] 23)).alloc (.cells #[.int .i64 0, .int .i64 0] 28)) (w.heap.size + 1) 0 0 := by
    have := Tw.new (w.alloc (.cells #[.string s.m, .string s.t, .int .i64 s.c, .string s.r, .int .i64 s.n] 23)) 0 0
    rwa [show (w.alloc (.cells #[.string s.m, .string s.t, .int .i64 s.c, .string s.r, .int .i64 s.n] 23)).heap.size = w.heap.size + 1 by simp] at this
  have hB : Below w.heap.size w ((w.alloc (.cells #[.string s.m, .string s.t, .int .i64 s.c, .string s.r, .int .i64 s.n] 23)).alloc (.cells #[.int .i64 0, .int .i64 0] 28)) := (one_alloc w _ _).alloc (by simp) _
  have hR := hide (hr.below hB)
  have hrt := fun w => srefright_any s w hs
  have hrf := fun w h => refright_any L v w h (by omega) hS
  have hsay := fun w h => refsay_any s.n L v w h hl hS
  obtain ⟨aa, ca, rfl⟩ := hr.slice
  clear hr hS
  cases hq : rtB s
  · have HE := hide (req_arg (s := s) (L := L) (Or.inl (by rw [hq]; rfl)))
    rw [hq] at hrt
    clear hq
    unfold St.v at hrt ⊢
    go_enter Try.func8, Try.ntmps8
    go_wp2_with fail
    generalize World.alloc _ _ = W1 at hF hT hB hR ⊢
    obtain ⟨c0, c1, c2, c3, c4, -, cf⟩ := id hF
    go_wp2_with fail
    refine (hrt _).mono ?_
    rintro en w1 ⟨rfl, hb1⟩
    have hF1 := hF.below hb1
    have hT1 := hT.below hb1
    have hB1 := hB.trans (hb1.mono hB.size)
    have hR1 := hide (hR.out.below hb1)
    clear hF hT hB hR hb1 c0 c1 c2 c3 c4 cf
    obtain ⟨c0, c1, c2, c3, c4, -, cf⟩ := id hF1
    obtain ⟨t0, t1, -, tf⟩ := id hT1
    go_wp2_with fail
    refine bodyPost_ret (v := anV (0, 0, 1)) (by simp [results, Try.results8, go_sem, anV, t0, t1, tf]) rfl ⟨by rw [HE.out], ?_⟩
    exact put2_below hB1 (by omega) 0 0
  · rw [hq] at hrt
    by_cases hc : s.c = 0
    · have hcb : (s.c != 0) = false := by rw [hc]; rfl
      cases hf : rightF L
      · have HE := hide (req_arg (s := s) (L := L) (Or.inl (by rw [hq, hf]; rfl)))
        rw [hf] at hrf
        clear hq hf hc
        unfold St.v at hrt ⊢
        go_enter Try.func8, Try.ntmps8
        go_wp2_with fail
        generalize World.alloc _ _ = W1 at hF hT hB hR ⊢
        obtain ⟨c0, c1, c2, c3, c4, -, cf⟩ := id hF
        go_wp2_with fail
        refine (hrt _).mono ?_
        rintro en w1 ⟨rfl, hb1⟩
        have hF1 := hF.below hb1
        have hT1 := hT.below hb1
        have hB1 := hB.trans (hb1.mono hB.size)
        have hR1 := hide (hR.out.below hb1)
        clear hF hT hB hR hb1 c0 c1 c2 c3 c4 cf
        obtain ⟨c0, c1, c2, c3, c4, -, cf⟩ := id hF1
        obtain ⟨t0, t1, -, tf⟩ := id hT1
        go_wp2_with fail
        refine (hrf _ hR1.out).mono ?_
        rintro en w1' ⟨rfl, hb1⟩
        have hF2 := hF1.below hb1
        have hT2 := hT1.below hb1
        have hB2 := hB1.trans (hb1.mono hB1.size)
        have hR2 := hide (hR1.out.below hb1)
        clear hF1 hT1 hB1 hR1 hb1 c0 c1 c2 c3 c4 cf t0 t1 tf
        have hF1 := hF2
        have hT1 := hT2
        have hB1 := hB2
        have hR1 := hR2
        obtain ⟨c0, c1, c2, c3, c4, -, cf⟩ := id hF1
        obtain ⟨t0, t1, -, tf⟩ := id hT1
        clear hF2 hT2 hB2 hR2
        go_wp2_with fail
        refine bodyPost_ret (v := anV (0, 0, 1)) (by simp [results, Try.results8, go_sem, anV, t0, t1, tf]) rfl ⟨by rw [HE.out], ?_⟩
        exact put2_below hB1 (by omega) 0 0
      · have HE := hide (req_say (s := s) (L := L) (by rw [hq, hf]; rfl) hc)
        rw [hf] at hrf
        clear hq hf hc
        unfold St.v at hrt ⊢
        go_enter Try.func8, Try.ntmps8
        go_wp2_with fail
        generalize World.alloc _ _ = W1 at hF hT hB hR ⊢
        obtain ⟨c0, c1, c2, c3, c4, -, cf⟩ := id hF
        go_wp2_with fail
        refine (hrt _).mono ?_
        rintro en w1 ⟨rfl, hb1⟩
        have hF1 := hF.below hb1
        have hT1 := hT.below hb1
        have hB1 := hB.trans (hb1.mono hB.size)
        have hR1 := hide (hR.out.below hb1)
        clear hF hT hB hR hb1 c0 c1 c2 c3 c4 cf
        obtain ⟨c0, c1, c2, c3, c4, -, cf⟩ := id hF1
        obtain ⟨t0, t1, -, tf⟩ := id hT1
        go_wp2_with fail
        refine (hrf _ hR1.out).mono ?_
        rintro en w1' ⟨rfl, hb1⟩
        have hF2 := hF1.below hb1
        have hT2 := hT1.below hb1
        have hB2 := hB1.trans (hb1.mono hB1.size)
        have hR2 := hide (hR1.out.below hb1)
        clear hF1 hT1 hB1 hR1 hb1 c0 c1 c2 c3 c4 cf t0 t1 tf
        have hF1 := hF2
        have hT1 := hT2
        have hB1 := hB2
        have hR1 := hR2
        obtain ⟨c0, c1, c2, c3, c4, -, cf⟩ := id hF1
        obtain ⟨t0, t1, -, tf⟩ := id hT1
        clear hF2 hT2 hB2 hR2
        go_wp2_with fail
        refine (hsay _ hR1.out).mono ?_
        rintro en w2 ⟨rfl, hb2⟩
        have hB2' := hB1.trans (hb2.mono hB1.size)
        by_cases hneg : (elseF (sayF s.n L) (-1)).1 < 0
        · obtain ⟨h1, h2⟩ := else_neg 0 hneg
          rw [h1] at HE
          obtain ⟨⟨A1, A2, A3⟩, hA⟩ : ∃ q, elseF (sayF s.n L) (-1) = q := ⟨_, rfl⟩
          rw [hA] at hneg h2 ⊢
          simp only at hneg h2
          subst h2
          clear hA h1
          have hT2 := (hT1.below hb2).alloc (.cells #[.int .i64 A1, .int .i64 A2] 28)
          have hB2 := hB2'.alloc hB2'.size (.cells #[.int .i64 A1, .int .i64 A2] 28)
          have hX := Tw.new w2 A1 A2
          have hlt2 : w.heap.size + 1 < w2.heap.size := (hT1.below hb2).lt
          have s0 := (hT1.below hb2).c0
          have s1 := (hT1.below hb2).c1
          have sf := (hT1.below hb2).fz
          clear hb2 t0 t1 tf
          obtain ⟨t0, t1, -, tf⟩ := id hT2
          obtain ⟨x0, x1, -, xf⟩ := id hX
          unfold anV
          go_wp2_with fail
          refine bodyPost_ret (v := anV (0, 0, 0)) (by simp [results, Try.results8, go_sem, anV, t0, t1, tf, *]) rfl ⟨by rw [HE.out], ?_⟩
          have hB3 := put2_below hB2' (N := w.heap.size + 1) (by omega) 0 0
          exact hB3.alloc hB3.size _
        · have h1 := else_pos 0 hneg
          rw [h1] at HE
          obtain ⟨⟨A1, A2, A3⟩, hA⟩ : ∃ q, elseF (sayF s.n L) (-1) = q := ⟨_, rfl⟩
          rw [hA] at hneg HE ⊢
          simp only at hneg
          clear hA h1
          have hT2 := (hT1.below hb2).alloc (.cells #[.int .i64 A1, .int .i64 A2] 28)
          have hB2 := hB2'.alloc hB2'.size (.cells #[.int .i64 A1, .int .i64 A2] 28)
          have hX := Tw.new w2 A1 A2
          clear hB2' hb2 t0 t1 tf
          obtain ⟨t0, t1, -, tf⟩ := id hT2
          obtain ⟨x0, x1, -, xf⟩ := id hX
          have hnz : decide (A1 < 0) = false := decide_eq_false hneg
          unfold anV
          go_wp2_with fail
          refine bodyPost_ret (v := anV (A1, A2, A3)) (by simp [results, Try.results8, go_sem, anV, t0, t1, tf]) rfl ⟨by rw [HE.out], ?_⟩
          exact put2_below hB2 (by omega) A1 A2
    · have HE := hide (req_arg (s := s) (L := L) (Or.inr hc))
      have hcb : (s.c != 0) = true := by simpa using hc
      clear hq hc
      unfold St.v at hrt ⊢
      go_enter Try.func8, Try.ntmps8
      go_wp2_with fail
      generalize World.alloc _ _ = W1 at hF hT hB hR ⊢
      obtain ⟨c0, c1, c2, c3, c4, -, cf⟩ := id hF
      go_wp2_with fail
      refine (hrt _).mono ?_
      rintro en w1 ⟨rfl, hb1⟩
      have hF1 := hF.below hb1
      have hT1 := hT.below hb1
      have hB1 := hB.trans (hb1.mono hB.size)
      have hR1 := hide (hR.out.below hb1)
      clear hF hT hB hR hb1 c0 c1 c2 c3 c4 cf
      obtain ⟨c0, c1, c2, c3, c4, -, cf⟩ := id hF1
      obtain ⟨t0, t1, -, tf⟩ := id hT1
      go_wp2_with fail
      refine bodyPost_ret (v := anV (0, 0, 1)) (by simp [results, Try.results8, go_sem, anV, t0, t1, tf]) rfl ⟨by rw [HE.out], ?_⟩
      exact put2_below hB1 (by omega) 0 0

set_option maxHeartbeats 8000000 in
theorem refanswer_any (s : St) (L : List Fd) (m : ByteArray) (v : Value) (w : World) (hs : Short s) (hr : Row w v L) (hl : L.length ≤ 50) (hS : Sh L) :
    Calls Try.prog 10 #[s.v, v, .string m] w fun en w' => en = .returned (anV (ansF s L m)) ∧ Below w.heap.size w w' := by
  have hF : Five ((w.alloc (.cells #[.string s.m, .string s.t, .int .i64 s.c, .string s.r, .int .i64 s.n] 23)).alloc (.cells #[.int .i64 0, .int .i64 0] 28)) w.heap.size s := (Five.new w s).alloc _
  have hT : Tw ((w.alloc (.cells #[.string s.m, .string s.t, .int .i64 s.c, .string s.r, .int .i64 s.n] 23)).alloc (.cells #[.int .i64 0, .int .i64 0] 28)) (w.heap.size + 1) 0 0 := by
    have := Tw.new (w.alloc (.cells #[.string s.m, .string s.t, .int .i64 s.c, .string s.r, .int .i64 s.n] 23)) 0 0
    rwa [show (w.alloc (.cells #[.string s.m, .string s.t, .int .i64 s.c, .string s.r, .int .i64 s.n] 23)).heap.size = w.heap.size + 1 by simp] at this
  have hB : Below w.heap.size w ((w.alloc (.cells #[.string s.m, .string s.t, .int .i64 s.c, .string s.r, .int .i64 s.n] 23)).alloc (.cells #[.int .i64 0, .int .i64 0] 28)) := (one_alloc w _ _).alloc (by simp) _
  have hR := hide (hr.below hB)
  have hrt := fun w => srefright_any s w hs
  have hrf := fun w h => refright_any L v w h (by omega) hS
  have hsay := fun w h => refsay_any s.n L v w h hl hS
  obtain ⟨aa, ca, rfl⟩ := hr.slice
  clear hr hS
  cases hq : rtB s
  · have HE := hide (ans_arg (s := s) (L := L) (m := m) (Or.inl (by rw [hq]; rfl)))
    rw [hq] at hrt
    clear hq
    unfold St.v at hrt ⊢
    go_enter Try.func10, Try.ntmps10
    go_wp2_with fail
    generalize World.alloc _ _ = W1 at hF hT hB hR ⊢
    obtain ⟨c0, c1, c2, c3, c4, -, cf⟩ := id hF
    go_wp2_with fail
    refine (hrt _).mono ?_
    rintro en w1 ⟨rfl, hb1⟩
    have hF1 := hF.below hb1
    have hT1 := hT.below hb1
    have hB1 := hB.trans (hb1.mono hB.size)
    have hR1 := hide (hR.out.below hb1)
    clear hF hT hB hR hb1 c0 c1 c2 c3 c4 cf
    obtain ⟨c0, c1, c2, c3, c4, -, cf⟩ := id hF1
    obtain ⟨t0, t1, -, tf⟩ := id hT1
    go_wp2_with fail
    refine bodyPost_ret (v := anV (0, 0, 1)) (by simp [results, Try.results10, go_sem, anV, t0, t1, tf]) rfl ⟨by rw [HE.out], ?_⟩
    exact put2_below hB1 (by omega) 0 0
  · rw [hq] at hrt
    by_cases hc : s.c = 0
    · have HE := hide (ans_arg (s := s) (L := L) (m := m) (Or.inr hc))
      have hcb : (s.c == 0) = true := by rw [hc]; rfl
      clear hq hc
      unfold St.v at hrt ⊢
      go_enter Try.func10, Try.ntmps10
      go_wp2_with fail
      generalize World.alloc _ _ = W1 at hF hT hB hR ⊢
      obtain ⟨c0, c1, c2, c3, c4, -, cf⟩ := id hF
      go_wp2_with fail
      refine (hrt _).mono ?_
      rintro en w1 ⟨rfl, hb1⟩
      have hF1 := hF.below hb1
      have hT1 := hT.below hb1
      have hB1 := hB.trans (hb1.mono hB.size)
      have hR1 := hide (hR.out.below hb1)
      clear hF hT hB hR hb1 c0 c1 c2 c3 c4 cf
      obtain ⟨c0, c1, c2, c3, c4, -, cf⟩ := id hF1
      obtain ⟨t0, t1, -, tf⟩ := id hT1
      go_wp2_with fail
      refine bodyPost_ret (v := anV (0, 0, 1)) (by simp [results, Try.results10, go_sem, anV, t0, t1, tf]) rfl ⟨by rw [HE.out], ?_⟩
      exact put2_below hB1 (by omega) 0 0
    · have hcb : (s.c == 0) = false := by simpa using hc
      cases hf : rightF L
      · have HE := hide (ans_arg (s := s) (L := L) (m := m) (Or.inl (by rw [hq, hf]; rfl)))
        rw [hf] at hrf
        clear hq hf hc
        unfold St.v at hrt ⊢
        go_enter Try.func10, Try.ntmps10
        go_wp2_with fail
        generalize World.alloc _ _ = W1 at hF hT hB hR ⊢
        obtain ⟨c0, c1, c2, c3, c4, -, cf⟩ := id hF
        go_wp2_with fail
        refine (hrt _).mono ?_
        rintro en w1 ⟨rfl, hb1⟩
        have hF1 := hF.below hb1
        have hT1 := hT.below hb1
        have hB1 := hB.trans (hb1.mono hB.size)
        have hR1 := hide (hR.out.below hb1)
        clear hF hT hB hR hb1 c0 c1 c2 c3 c4 cf
        obtain ⟨c0, c1, c2, c3, c4, -, cf⟩ := id hF1
        obtain ⟨t0, t1, -, tf⟩ := id hT1
        go_wp2_with fail
        refine (hrf _ hR1.out).mono ?_
        rintro en w1' ⟨rfl, hb1⟩
        have hF2 := hF1.below hb1
        have hT2 := hT1.below hb1
        have hB2 := hB1.trans (hb1.mono hB1.size)
        have hR2 := hide (hR1.out.below hb1)
        clear hF1 hT1 hB1 hR1 hb1 c0 c1 c2 c3 c4 cf t0 t1 tf
        have hF1 := hF2
        have hT1 := hT2
        have hB1 := hB2
        have hR1 := hR2
        obtain ⟨c0, c1, c2, c3, c4, -, cf⟩ := id hF1
        obtain ⟨t0, t1, -, tf⟩ := id hT1
        clear hF2 hT2 hB2 hR2
        go_wp2_with fail
        refine bodyPost_ret (v := anV (0, 0, 1)) (by simp [results, Try.results10, go_sem, anV, t0, t1, tf]) rfl ⟨by rw [HE.out], ?_⟩
        exact put2_below hB1 (by omega) 0 0
      · have hboth : (rtB s && rightF L) = true := by rw [hq, hf]; rfl
        rw [hf] at hrf
        clear hq hf
        have HBB : Hid (bareB s.c = (decide (s.c < 200) || decide (s.c = 204) || decide (s.c = 304))) := rfl
        cases h1 : decide (s.c < 200)
        · cases h2 : (s.c == 204)
          · cases h3 : (s.c == 304)
            · cases hm : (m.toList == [72, 69, 65, 68])
              · have HE := hide (ans_say (s := s) (L := L) (m := m) hboth hc (by rw [HBB.out, h1, decide_eq_false (beq_eq_false_iff_ne.1 h2), decide_eq_false (beq_eq_false_iff_ne.1 h3)]; rfl) hm)
                clear hboth HBB hc
                unfold St.v at hrt ⊢
                go_enter Try.func10, Try.ntmps10
                go_wp2_with fail
                generalize World.alloc _ _ = W1 at hF hT hB hR ⊢
                obtain ⟨c0, c1, c2, c3, c4, -, cf⟩ := id hF
                go_wp2_with fail
                refine (hrt _).mono ?_
                rintro en w1 ⟨rfl, hb1⟩
                have hF1 := hF.below hb1
                have hT1 := hT.below hb1
                have hB1 := hB.trans (hb1.mono hB.size)
                have hR1 := hide (hR.out.below hb1)
                clear hF hT hB hR hb1 c0 c1 c2 c3 c4 cf
                obtain ⟨c0, c1, c2, c3, c4, -, cf⟩ := id hF1
                obtain ⟨t0, t1, -, tf⟩ := id hT1
                go_wp2_with fail
                refine (hrf _ hR1.out).mono ?_
                rintro en w1' ⟨rfl, hb1⟩
                have hF2 := hF1.below hb1
                have hT2 := hT1.below hb1
                have hB2 := hB1.trans (hb1.mono hB1.size)
                have hR2 := hide (hR1.out.below hb1)
                clear hF1 hT1 hB1 hR1 hb1 c0 c1 c2 c3 c4 cf t0 t1 tf
                have hF1 := hF2
                have hT1 := hT2
                have hB1 := hB2
                have hR1 := hR2
                obtain ⟨c0, c1, c2, c3, c4, -, cf⟩ := id hF1
                obtain ⟨t0, t1, -, tf⟩ := id hT1
                clear hF2 hT2 hB2 hR2
                go_wp2_with fail
                refine (hsay _ hR1.out).mono ?_
                rintro en w2 ⟨rfl, hb2⟩
                have hB2' := hB1.trans (hb2.mono hB1.size)
                by_cases hneg : (elseF (sayF s.n L) (-1)).1 < 0
                · obtain ⟨h1, h2⟩ := else_neg 3 hneg
                  rw [h1] at HE
                  obtain ⟨⟨A1, A2, A3⟩, hA⟩ : ∃ q, elseF (sayF s.n L) (-1) = q := ⟨_, rfl⟩
                  rw [hA] at hneg h2 ⊢
                  simp only at hneg h2
                  subst h2
                  clear hA h1
                  have hT2 := (hT1.below hb2).alloc (.cells #[.int .i64 A1, .int .i64 A2] 28)
                  have hB2 := hB2'.alloc hB2'.size (.cells #[.int .i64 A1, .int .i64 A2] 28)
                  have hX := Tw.new w2 A1 A2
                  have hlt2 : w.heap.size + 1 < w2.heap.size := (hT1.below hb2).lt
                  have s0 := (hT1.below hb2).c0
                  have s1 := (hT1.below hb2).c1
                  have sf := (hT1.below hb2).fz
                  clear hb2 t0 t1 tf
                  obtain ⟨t0, t1, -, tf⟩ := id hT2
                  obtain ⟨x0, x1, -, xf⟩ := id hX
                  unfold anV
                  go_wp2_with fail
                  refine bodyPost_ret (v := anV (3, 0, 0)) (by simp [results, Try.results10, go_sem, anV, t0, t1, tf, *]) rfl ⟨by rw [HE.out], ?_⟩
                  have hB3 := put2_below hB2' (N := w.heap.size + 1) (by omega) 3 0
                  exact hB3.alloc hB3.size _
                · have h1 := else_pos 3 hneg
                  rw [h1] at HE
                  obtain ⟨⟨A1, A2, A3⟩, hA⟩ : ∃ q, elseF (sayF s.n L) (-1) = q := ⟨_, rfl⟩
                  rw [hA] at hneg HE ⊢
                  simp only at hneg
                  clear hA h1
                  have hT2 := (hT1.below hb2).alloc (.cells #[.int .i64 A1, .int .i64 A2] 28)
                  have hB2 := hB2'.alloc hB2'.size (.cells #[.int .i64 A1, .int .i64 A2] 28)
                  have hX := Tw.new w2 A1 A2
                  clear hB2' hb2 t0 t1 tf
                  obtain ⟨t0, t1, -, tf⟩ := id hT2
                  obtain ⟨x0, x1, -, xf⟩ := id hX
                  have hnz : decide (A1 < 0) = false := decide_eq_false hneg
                  unfold anV
                  go_wp2_with fail
                  refine bodyPost_ret (v := anV (A1, A2, A3)) (by simp [results, Try.results10, go_sem, anV, t0, t1, tf]) rfl ⟨by rw [HE.out], ?_⟩
                  exact put2_below hB2 (by omega) A1 A2
              · have HE := hide (ans_bare (s := s) (L := L) (m := m) hboth hc (Or.inr hm))
                clear hboth HBB hc
                unfold St.v at hrt ⊢
                go_enter Try.func10, Try.ntmps10
                go_wp2_with fail
                generalize World.alloc _ _ = W1 at hF hT hB hR ⊢
                obtain ⟨c0, c1, c2, c3, c4, -, cf⟩ := id hF
                go_wp2_with fail
                refine (hrt _).mono ?_
                rintro en w1 ⟨rfl, hb1⟩
                have hF1 := hF.below hb1
                have hT1 := hT.below hb1
                have hB1 := hB.trans (hb1.mono hB.size)
                have hR1 := hide (hR.out.below hb1)
                clear hF hT hB hR hb1 c0 c1 c2 c3 c4 cf
                obtain ⟨c0, c1, c2, c3, c4, -, cf⟩ := id hF1
                obtain ⟨t0, t1, -, tf⟩ := id hT1
                go_wp2_with fail
                refine (hrf _ hR1.out).mono ?_
                rintro en w1' ⟨rfl, hb1⟩
                have hF2 := hF1.below hb1
                have hT2 := hT1.below hb1
                have hB2 := hB1.trans (hb1.mono hB1.size)
                have hR2 := hide (hR1.out.below hb1)
                clear hF1 hT1 hB1 hR1 hb1 c0 c1 c2 c3 c4 cf t0 t1 tf
                have hF1 := hF2
                have hT1 := hT2
                have hB1 := hB2
                have hR1 := hR2
                obtain ⟨c0, c1, c2, c3, c4, -, cf⟩ := id hF1
                obtain ⟨t0, t1, -, tf⟩ := id hT1
                clear hF2 hT2 hB2 hR2
                go_wp2_with fail
                refine bodyPost_ret (v := anV (0, 0, 0)) (by simp [results, Try.results10, go_sem, anV, t0, t1, tf]) rfl ⟨by rw [HE.out], ?_⟩
                exact put2_below hB1 (by omega) 0 0
            · have HE := hide (ans_bare (s := s) (L := L) (m := m) hboth hc (Or.inl (by rw [HBB.out, decide_eq_true (beq_iff_eq.1 h3)]; simp)))
              clear hboth HBB hc
              unfold St.v at hrt ⊢
              go_enter Try.func10, Try.ntmps10
              go_wp2_with fail
              generalize World.alloc _ _ = W1 at hF hT hB hR ⊢
              obtain ⟨c0, c1, c2, c3, c4, -, cf⟩ := id hF
              go_wp2_with fail
              refine (hrt _).mono ?_
              rintro en w1 ⟨rfl, hb1⟩
              have hF1 := hF.below hb1
              have hT1 := hT.below hb1
              have hB1 := hB.trans (hb1.mono hB.size)
              have hR1 := hide (hR.out.below hb1)
              clear hF hT hB hR hb1 c0 c1 c2 c3 c4 cf
              obtain ⟨c0, c1, c2, c3, c4, -, cf⟩ := id hF1
              obtain ⟨t0, t1, -, tf⟩ := id hT1
              go_wp2_with fail
              refine (hrf _ hR1.out).mono ?_
              rintro en w1' ⟨rfl, hb1⟩
              have hF2 := hF1.below hb1
              have hT2 := hT1.below hb1
              have hB2 := hB1.trans (hb1.mono hB1.size)
              have hR2 := hide (hR1.out.below hb1)
              clear hF1 hT1 hB1 hR1 hb1 c0 c1 c2 c3 c4 cf t0 t1 tf
              have hF1 := hF2
              have hT1 := hT2
              have hB1 := hB2
              have hR1 := hR2
              obtain ⟨c0, c1, c2, c3, c4, -, cf⟩ := id hF1
              obtain ⟨t0, t1, -, tf⟩ := id hT1
              clear hF2 hT2 hB2 hR2
              go_wp2_with fail
              refine bodyPost_ret (v := anV (0, 0, 0)) (by simp [results, Try.results10, go_sem, anV, t0, t1, tf]) rfl ⟨by rw [HE.out], ?_⟩
              exact put2_below hB1 (by omega) 0 0
          · have HE := hide (ans_bare (s := s) (L := L) (m := m) hboth hc (Or.inl (by rw [HBB.out, decide_eq_true (beq_iff_eq.1 h2)]; simp)))
            clear hboth HBB hc
            unfold St.v at hrt ⊢
            go_enter Try.func10, Try.ntmps10
            go_wp2_with fail
            generalize World.alloc _ _ = W1 at hF hT hB hR ⊢
            obtain ⟨c0, c1, c2, c3, c4, -, cf⟩ := id hF
            go_wp2_with fail
            refine (hrt _).mono ?_
            rintro en w1 ⟨rfl, hb1⟩
            have hF1 := hF.below hb1
            have hT1 := hT.below hb1
            have hB1 := hB.trans (hb1.mono hB.size)
            have hR1 := hide (hR.out.below hb1)
            clear hF hT hB hR hb1 c0 c1 c2 c3 c4 cf
            obtain ⟨c0, c1, c2, c3, c4, -, cf⟩ := id hF1
            obtain ⟨t0, t1, -, tf⟩ := id hT1
            go_wp2_with fail
            refine (hrf _ hR1.out).mono ?_
            rintro en w1' ⟨rfl, hb1⟩
            have hF2 := hF1.below hb1
            have hT2 := hT1.below hb1
            have hB2 := hB1.trans (hb1.mono hB1.size)
            have hR2 := hide (hR1.out.below hb1)
            clear hF1 hT1 hB1 hR1 hb1 c0 c1 c2 c3 c4 cf t0 t1 tf
            have hF1 := hF2
            have hT1 := hT2
            have hB1 := hB2
            have hR1 := hR2
            obtain ⟨c0, c1, c2, c3, c4, -, cf⟩ := id hF1
            obtain ⟨t0, t1, -, tf⟩ := id hT1
            clear hF2 hT2 hB2 hR2
            go_wp2_with fail
            refine bodyPost_ret (v := anV (0, 0, 0)) (by simp [results, Try.results10, go_sem, anV, t0, t1, tf]) rfl ⟨by rw [HE.out], ?_⟩
            exact put2_below hB1 (by omega) 0 0
        · have HE := hide (ans_bare (s := s) (L := L) (m := m) hboth hc (Or.inl (by rw [HBB.out, h1]; simp)))
          clear hboth HBB hc
          unfold St.v at hrt ⊢
          go_enter Try.func10, Try.ntmps10
          go_wp2_with fail
          generalize World.alloc _ _ = W1 at hF hT hB hR ⊢
          obtain ⟨c0, c1, c2, c3, c4, -, cf⟩ := id hF
          go_wp2_with fail
          refine (hrt _).mono ?_
          rintro en w1 ⟨rfl, hb1⟩
          have hF1 := hF.below hb1
          have hT1 := hT.below hb1
          have hB1 := hB.trans (hb1.mono hB.size)
          have hR1 := hide (hR.out.below hb1)
          clear hF hT hB hR hb1 c0 c1 c2 c3 c4 cf
          obtain ⟨c0, c1, c2, c3, c4, -, cf⟩ := id hF1
          obtain ⟨t0, t1, -, tf⟩ := id hT1
          go_wp2_with fail
          refine (hrf _ hR1.out).mono ?_
          rintro en w1' ⟨rfl, hb1⟩
          have hF2 := hF1.below hb1
          have hT2 := hT1.below hb1
          have hB2 := hB1.trans (hb1.mono hB1.size)
          have hR2 := hide (hR1.out.below hb1)
          clear hF1 hT1 hB1 hR1 hb1 c0 c1 c2 c3 c4 cf t0 t1 tf
          have hF1 := hF2
          have hT1 := hT2
          have hB1 := hB2
          have hR1 := hR2
          obtain ⟨c0, c1, c2, c3, c4, -, cf⟩ := id hF1
          obtain ⟨t0, t1, -, tf⟩ := id hT1
          clear hF2 hT2 hB2 hR2
          go_wp2_with fail
          refine bodyPost_ret (v := anV (0, 0, 0)) (by simp [results, Try.results10, go_sem, anV, t0, t1, tf]) rfl ⟨by rw [HE.out], ?_⟩
          exact put2_below hB1 (by omega) 0 0

end Go.Proofs.Ytplanlhgcckioaa
