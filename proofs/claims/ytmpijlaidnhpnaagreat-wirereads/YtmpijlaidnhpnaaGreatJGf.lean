/- The walks of Request and Answer, and of the statements' own question whether anything answers. -/
import Derived.Test.YtmpijlaidnhpnaaGreatJGb
namespace Go.Proofs.YtmpijlaidnhpnaaGreat
set_option linter.unusedVariables false
set_option linter.unusedSimpArgs false
set_option maxRecDepth 100000
open Go.RowKit

theorem lens_le (x : ByteArray) (r : List ByteArray) : (lensF x r).2.1 ≤ 1099511627776 := by
  unfold lensF
  split
  · unfold ls2
    split
    · exact Nat.zero_le _
    · exact ls_le x
  · exact Nat.zero_le _
theorem say_le (n : Int) (L : List Fd) : (sayF n L).2.1 ≤ 1099511627776 := by
  unfold sayF
  split
  · split <;> exact Nat.zero_le _
  · cases allF lenS L with
    | nil => exact Nat.zero_le _
    | cons x r => exact lens_le x r
theorem req_arg {s : St} {L : List Fd} (h : (rtB s && rightF L) = false ∨ s.c ≠ 0) : reqF s L = (0, 0, 1) := by
  unfold reqF
  rcases h with h | h
  · rw [h]; rfl
  · rw [decide_eq_false h]; simp
theorem req_say {s : St} {L : List Fd} (h : (rtB s && rightF L) = true) (g : s.c = 0) : reqF s L = elseF (sayF s.n L) 0 := by
  unfold reqF
  rw [h, decide_eq_true g]; rfl
theorem ans_arg {s : St} {L : List Fd} {m : ByteArray} (h : (rtB s && rightF L) = false ∨ s.c = 0) : ansF s L m = (0, 0, 1) := by
  unfold ansF
  rcases h with h | h
  · rw [h]; rfl
  · rw [decide_eq_true h]; simp
theorem ans_bare {s : St} {L : List Fd} {m : ByteArray} (h : (rtB s && rightF L) = true) (g : s.c ≠ 0) (b : bareB s.c = true ∨ (m.toList == hdL) = true) : ansF s L m = (0, 0, 0) := by
  unfold ansF
  rw [h, decide_eq_false g]
  rcases b with b | b <;> rw [b] <;> simp
theorem ans_say {s : St} {L : List Fd} {m : ByteArray} (h : (rtB s && rightF L) = true) (g : s.c ≠ 0) (b : bareB s.c = false) (b' : (m.toList == hdL) = false) : ansF s L m = elseF (sayF s.n L) 3 := by
  unfold ansF
  rw [h, decide_eq_false g, b, b']; simp

set_option maxHeartbeats 4000000 in
theorem request_any (s : St) (L : List Fd) (v : Value) (w : World) (hs : Short s) (hr : Row w v L) (hl : L.length ≤ 50) (hS : Sh L) :
    Calls Tryz.prog 55 #[s.v, v] w fun en w' => en = .returned (anV (reqF s L)) ∧ Below w.heap.size w w' := by
  have hF : Five ((w.alloc (.cells #[.string s.m, .string s.t, .int .i64 s.c, .string s.r, .int .i64 s.n] 23)).alloc (.cells #[.int .i64 0, .int .i64 0] 28)) w.heap.size s := (Five.new w s).alloc _
  have hT : Tw ((w.alloc (.cells #[.string s.m, .string s.t, .int .i64 s.c, .string s.r, .int .i64 s.n] 23)).alloc (.cells #[.int .i64 0, .int .i64 0] 28)) (w.heap.size + 1) 0 0 := by
    have := Tw.new (w.alloc (.cells #[.string s.m, .string s.t, .int .i64 s.c, .string s.r, .int .i64 s.n] 23)) 0 0
    rwa [show (w.alloc (.cells #[.string s.m, .string s.t, .int .i64 s.c, .string s.r, .int .i64 s.n] 23)).heap.size = w.heap.size + 1 by simp] at this
  have hB : Below w.heap.size w ((w.alloc (.cells #[.string s.m, .string s.t, .int .i64 s.c, .string s.r, .int .i64 s.n] 23)).alloc (.cells #[.int .i64 0, .int .i64 0] 28)) := (one_alloc w _ _).alloc (by simp) _
  have hR := hide (hr.below hB)
  have hboth := fun w h => both_any s L v w hs h (by omega) hS
  have HS := hide hS
  have hle := say_le s.n L
  obtain ⟨aa, ca, rfl⟩ := hr.slice
  clear hr hS
  cases hq : (rtB s && rightF L)
  · have HE := hide (req_arg (s := s) (L := L) (Or.inl hq))
    rw [hq] at hboth
    clear hq
    unfold St.v at hboth ⊢
    go_enter Tryz.func55, Tryz.ntmps55
    go_wp2_with fail
    generalize World.alloc _ _ = W1 at hF hT hB hR ⊢
    obtain ⟨c0, c1, c2, c3, c4, -, cf⟩ := id hF
    go_wp2_with fail
    refine (hboth _ hR.out).mono ?_
    rintro en w1 ⟨rfl, hb1⟩
    have hF1 := hF.below hb1
    have hT1 := hT.below hb1
    have hB1 := hB.trans (hb1.mono hB.size)
    have hR1 := hide (hR.out.below hb1)
    clear hF hT hB hR hb1 c0 c1 c2 c3 c4 cf
    obtain ⟨c0, c1, c2, c3, c4, -, cf⟩ := id hF1
    obtain ⟨t0, t1, -, tf⟩ := id hT1
    go_wp2_with fail
    refine bodyPost_ret (v := anV (0, 0, 1)) (by simp [results, Tryz.results55, go_sem, anV, t0, t1, tf]) rfl ⟨by rw [HE.out], ?_⟩
    exact put2_below hB1 (by omega) 0 0
  · by_cases hc : s.c = 0
    · have HE := hide (req_say hq hc)
      rw [hq] at hboth
      have hcb : (s.c != 0) = false := by rw [hc]; rfl
      obtain ⟨⟨k, z, e⟩, hk⟩ : ∃ q, sayF s.n L = q := ⟨_, rfl⟩
      have hsay := fun w h => fieldsSay_any s.n L (.slice aa L.length ca) w h hl HS.out
      rw [hk] at HE hle hsay
      simp only at hle
      clear hk hq hc
      unfold St.v at hboth ⊢
      go_enter Tryz.func55, Tryz.ntmps55
      go_wp2_with fail
      generalize World.alloc _ _ = W1 at hF hT hB hR ⊢
      obtain ⟨c0, c1, c2, c3, c4, -, cf⟩ := id hF
      go_wp2_with fail
      refine (hboth _ hR.out).mono ?_
      rintro en w1 ⟨rfl, hb1⟩
      have hF1 := hF.below hb1
      have hT1 := hT.below hb1
      have hB1 := hB.trans (hb1.mono hB.size)
      have hR1 := hide (hR.out.below hb1)
      clear hF hT hB hR hb1 c0 c1 c2 c3 c4 cf
      obtain ⟨c0, c1, c2, c3, c4, -, cf⟩ := id hF1
      obtain ⟨t0, t1, -, tf⟩ := id hT1
      go_wp2_with fail
      refine (hsay _ hR1.out).mono ?_
      rintro en w2 ⟨rfl, hb2⟩
      have hT2 := hT1.below hb2
      have hB2 := hB1.trans (hb2.mono hB1.size)
      go_wp2_with fail
      refine (orElse_any k z e 0 _ hle).mono ?_
      rintro en w3 ⟨rfl, hb3⟩
      have hT3 := hT2.below hb3
      have hB3 := hB2.trans (hb3.mono hB2.size)
      clear t0 t1 tf
      obtain ⟨t0, t1, -, tf⟩ := id hT3
      obtain ⟨⟨A1, A2, A3⟩, hA⟩ : ∃ q, elseF (k, z, e) 0 = q := ⟨_, rfl⟩
      rw [hA] at HE ⊢
      clear hA
      unfold anV
      go_wp2_with fail
      refine bodyPost_ret (v := anV (A1, A2, A3)) (by simp [results, Tryz.results55, go_sem, anV, t0, t1, tf]) rfl ⟨by rw [HE.out], ?_⟩
      exact put2_below hB3 (by omega) A1 A2
    · have HE := hide (req_arg (s := s) (L := L) (Or.inr hc))
      have hcb : (s.c != 0) = true := by simpa using hc
      rw [hq] at hboth
      clear hq hc
      unfold St.v at hboth ⊢
      go_enter Tryz.func55, Tryz.ntmps55
      go_wp2_with fail
      generalize World.alloc _ _ = W1 at hF hT hB hR ⊢
      obtain ⟨c0, c1, c2, c3, c4, -, cf⟩ := id hF
      go_wp2_with fail
      refine (hboth _ hR.out).mono ?_
      rintro en w1 ⟨rfl, hb1⟩
      have hF1 := hF.below hb1
      have hT1 := hT.below hb1
      have hB1 := hB.trans (hb1.mono hB.size)
      have hR1 := hide (hR.out.below hb1)
      clear hF hT hB hR hb1 c0 c1 c2 c3 c4 cf
      obtain ⟨c0, c1, c2, c3, c4, -, cf⟩ := id hF1
      obtain ⟨t0, t1, -, tf⟩ := id hT1
      go_wp2_with fail
      refine bodyPost_ret (v := anV (0, 0, 1)) (by simp [results, Tryz.results55, go_sem, anV, t0, t1, tf]) rfl ⟨by rw [HE.out], ?_⟩
      exact put2_below hB1 (by omega) 0 0

set_option maxHeartbeats 4000000 in
theorem answer_any (s : St) (L : List Fd) (m : ByteArray) (v : Value) (w : World) (hs : Short s) (hr : Row w v L) (hl : L.length ≤ 50) (hS : Sh L) :
    Calls Tryz.prog 56 #[s.v, v, .string m] w fun en w' => en = .returned (anV (ansF s L m)) ∧ Below w.heap.size w w' := by
  have hF : Five ((w.alloc (.cells #[.string s.m, .string s.t, .int .i64 s.c, .string s.r, .int .i64 s.n] 23)).alloc (.cells #[.int .i64 0, .int .i64 0] 28)) w.heap.size s := (Five.new w s).alloc _
  have hT : Tw ((w.alloc (.cells #[.string s.m, .string s.t, .int .i64 s.c, .string s.r, .int .i64 s.n] 23)).alloc (.cells #[.int .i64 0, .int .i64 0] 28)) (w.heap.size + 1) 0 0 := by
    have := Tw.new (w.alloc (.cells #[.string s.m, .string s.t, .int .i64 s.c, .string s.r, .int .i64 s.n] 23)) 0 0
    rwa [show (w.alloc (.cells #[.string s.m, .string s.t, .int .i64 s.c, .string s.r, .int .i64 s.n] 23)).heap.size = w.heap.size + 1 by simp] at this
  have hB : Below w.heap.size w ((w.alloc (.cells #[.string s.m, .string s.t, .int .i64 s.c, .string s.r, .int .i64 s.n] 23)).alloc (.cells #[.int .i64 0, .int .i64 0] 28)) := (one_alloc w _ _).alloc (by simp) _
  have hR := hide (hr.below hB)
  have hboth := fun w h => both_any s L v w hs h (by omega) hS
  have HS := hide hS
  have hle := say_le s.n L
  obtain ⟨aa, ca, rfl⟩ := hr.slice
  clear hr hS
  cases hq : (rtB s && rightF L)
  · have HE := hide (ans_arg (s := s) (L := L) (m := m) (Or.inl hq))
    rw [hq] at hboth
    clear hq
    unfold St.v at hboth ⊢
    go_enter Tryz.func56, Tryz.ntmps56
    go_wp2_with fail
    generalize World.alloc _ _ = W1 at hF hT hB hR ⊢
    obtain ⟨c0, c1, c2, c3, c4, -, cf⟩ := id hF
    go_wp2_with fail
    refine (hboth _ hR.out).mono ?_
    rintro en w1 ⟨rfl, hb1⟩
    have hF1 := hF.below hb1
    have hT1 := hT.below hb1
    have hB1 := hB.trans (hb1.mono hB.size)
    have hR1 := hide (hR.out.below hb1)
    clear hF hT hB hR hb1 c0 c1 c2 c3 c4 cf
    obtain ⟨c0, c1, c2, c3, c4, -, cf⟩ := id hF1
    obtain ⟨t0, t1, -, tf⟩ := id hT1
    go_wp2_with fail
    refine bodyPost_ret (v := anV (0, 0, 1)) (by simp [results, Tryz.results56, go_sem, anV, t0, t1, tf]) rfl ⟨by rw [HE.out], ?_⟩
    exact put2_below hB1 (by omega) 0 0
  · by_cases hc : s.c = 0
    · have HE := hide (ans_arg (s := s) (L := L) (m := m) (Or.inr hc))
      have hcb : (s.c == 0) = true := by rw [hc]; rfl
      rw [hq] at hboth
      clear hq hc
      unfold St.v at hboth ⊢
      go_enter Tryz.func56, Tryz.ntmps56
      go_wp2_with fail
      generalize World.alloc _ _ = W1 at hF hT hB hR ⊢
      obtain ⟨c0, c1, c2, c3, c4, -, cf⟩ := id hF
      go_wp2_with fail
      refine (hboth _ hR.out).mono ?_
      rintro en w1 ⟨rfl, hb1⟩
      have hF1 := hF.below hb1
      have hT1 := hT.below hb1
      have hB1 := hB.trans (hb1.mono hB.size)
      have hR1 := hide (hR.out.below hb1)
      clear hF hT hB hR hb1 c0 c1 c2 c3 c4 cf
      obtain ⟨c0, c1, c2, c3, c4, -, cf⟩ := id hF1
      obtain ⟨t0, t1, -, tf⟩ := id hT1
      go_wp2_with fail
      refine bodyPost_ret (v := anV (0, 0, 1)) (by simp [results, Tryz.results56, go_sem, anV, t0, t1, tf]) rfl ⟨by rw [HE.out], ?_⟩
      exact put2_below hB1 (by omega) 0 0
    · have hcb : (s.c == 0) = false := by simpa using hc
      rw [hq] at hboth
      cases hbar : bareB s.c
      · cases hm : (m.toList == [72, 69, 65, 68])
        · have HE := hide (ans_say (m := m) hq hc hbar hm)
          obtain ⟨⟨k, z, e⟩, hk⟩ : ∃ q, sayF s.n L = q := ⟨_, rfl⟩
          have hsay := fun w h => fieldsSay_any s.n L (.slice aa L.length ca) w h hl HS.out
          have hbl := fun w => bodiless_any s.c w
          rw [hbar] at hbl
          rw [hk] at HE hle hsay
          simp only at hle
          clear hk hq hc hbar
          unfold St.v at hboth ⊢
          go_enter Tryz.func56, Tryz.ntmps56
          go_wp2_with fail
          generalize World.alloc _ _ = W1 at hF hT hB hR ⊢
          obtain ⟨c0, c1, c2, c3, c4, -, cf⟩ := id hF
          go_wp2_with fail
          refine (hboth _ hR.out).mono ?_
          rintro en w1 ⟨rfl, hb1⟩
          have hF1 := hF.below hb1
          have hT1 := hT.below hb1
          have hB1 := hB.trans (hb1.mono hB.size)
          have hR1 := hide (hR.out.below hb1)
          clear hF hT hB hR hb1 c0 c1 c2 c3 c4 cf
          obtain ⟨c0, c1, c2, c3, c4, -, cf⟩ := id hF1
          obtain ⟨t0, t1, -, tf⟩ := id hT1
          go_wp2_with fail
          refine (hbl _).mono ?_
          rintro en w2 ⟨rfl, rfl⟩
          go_wp2_with fail
          refine (hsay _ hR1.out).mono ?_
          rintro en w2 ⟨rfl, hb2⟩
          have hT2 := hT1.below hb2
          have hB2 := hB1.trans (hb2.mono hB1.size)
          go_wp2_with fail
          refine (orElse_any k z e 3 _ hle).mono ?_
          rintro en w3 ⟨rfl, hb3⟩
          have hT3 := hT2.below hb3
          have hB3 := hB2.trans (hb3.mono hB2.size)
          clear t0 t1 tf
          obtain ⟨t0, t1, -, tf⟩ := id hT3
          obtain ⟨⟨A1, A2, A3⟩, hA⟩ : ∃ q, elseF (k, z, e) 3 = q := ⟨_, rfl⟩
          rw [hA] at HE ⊢
          clear hA
          unfold anV
          go_wp2_with fail
          refine bodyPost_ret (v := anV (A1, A2, A3)) (by simp [results, Tryz.results56, go_sem, anV, t0, t1, tf]) rfl ⟨by rw [HE.out], ?_⟩
          exact put2_below hB3 (by omega) A1 A2
        · have HE := hide (ans_bare (m := m) hq hc (Or.inr hm))
          have hbl := fun w => bodiless_any s.c w
          rw [hbar] at hbl
          clear hq hc hbar
          unfold St.v at hboth ⊢
          go_enter Tryz.func56, Tryz.ntmps56
          go_wp2_with fail
          generalize World.alloc _ _ = W1 at hF hT hB hR ⊢
          obtain ⟨c0, c1, c2, c3, c4, -, cf⟩ := id hF
          go_wp2_with fail
          refine (hboth _ hR.out).mono ?_
          rintro en w1 ⟨rfl, hb1⟩
          have hF1 := hF.below hb1
          have hT1 := hT.below hb1
          have hB1 := hB.trans (hb1.mono hB.size)
          have hR1 := hide (hR.out.below hb1)
          clear hF hT hB hR hb1 c0 c1 c2 c3 c4 cf
          obtain ⟨c0, c1, c2, c3, c4, -, cf⟩ := id hF1
          obtain ⟨t0, t1, -, tf⟩ := id hT1
          go_wp2_with fail
          refine (hbl _).mono ?_
          rintro en w2 ⟨rfl, rfl⟩
          go_wp2_with fail
          refine bodyPost_ret (v := anV (0, 0, 0)) (by simp [results, Tryz.results56, go_sem, anV, t0, t1, tf]) rfl ⟨by rw [HE.out], ?_⟩
          exact put2_below hB1 (by omega) 0 0
      · have HE := hide (ans_bare (m := m) hq hc (Or.inl hbar))
        have hbl := fun w => bodiless_any s.c w
        rw [hbar] at hbl
        clear hq hc hbar
        unfold St.v at hboth ⊢
        go_enter Tryz.func56, Tryz.ntmps56
        go_wp2_with fail
        generalize World.alloc _ _ = W1 at hF hT hB hR ⊢
        obtain ⟨c0, c1, c2, c3, c4, -, cf⟩ := id hF
        go_wp2_with fail
        refine (hboth _ hR.out).mono ?_
        rintro en w1 ⟨rfl, hb1⟩
        have hF1 := hF.below hb1
        have hT1 := hT.below hb1
        have hB1 := hB.trans (hb1.mono hB.size)
        have hR1 := hide (hR.out.below hb1)
        clear hF hT hB hR hb1 c0 c1 c2 c3 c4 cf
        obtain ⟨c0, c1, c2, c3, c4, -, cf⟩ := id hF1
        obtain ⟨t0, t1, -, tf⟩ := id hT1
        go_wp2_with fail
        refine (hbl _).mono ?_
        rintro en w2 ⟨rfl, rfl⟩
        go_wp2_with fail
        refine bodyPost_ret (v := anV (0, 0, 0)) (by simp [results, Tryz.results56, go_sem, anV, t0, t1, tf]) rfl ⟨by rw [HE.out], ?_⟩
        exact put2_below hB1 (by omega) 0 0

end Go.Proofs.YtmpijlaidnhpnaaGreat
