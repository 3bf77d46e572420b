/- The walks of the document's own Print, Parse and Status. -/
import Derived.Test.YtmpijlaidnhpnaaGreatJSd
import Derived.Test.YtmpijlaidnhpnaaGreatJSc
import Derived.Test.YtmpijlaidnhpnaaGreatJNd
import Derived.Test.YtmpijlaidnhpnaaGreatJSx
namespace Go.Proofs.YtmpijlaidnhpnaaGreat.Sr
set_option linter.unusedVariables false
set_option linter.unusedSimpArgs false
set_option maxRecDepth 100000
open Go.RowKit

theorem refdec_any (n : Int) (h0 : 0 ≤ n) (h1 : n ≤ 599) (w : World) :
    Calls Tryz.prog 84 #[.int .u64 n, .int .u64 10] w fun e w' => e = .returned (.string (decI n)) ∧ ∃ k, w' = w.drewN k := by
  obtain ⟨u, rfl⟩ : ∃ u : Nat, n = u := ⟨n.toNat, by omega⟩
  have h := refDigits10 u (by omega) w
  have e : decI (u : Int) = ⟨(dgs 10 (by omega) u).toArray⟩ := by unfold decI decS; simp
  rw [e]
  exact h

set_option maxRecDepth 100000 in
set_option maxHeartbeats 1000000 in
theorem refprint_any (s : St) (w : World) (hs : Short s) (hr : rtB s = true) :
    Calls Tryz.prog 65 #[s.v] w fun e w' => e = .returned (.string (wrS s)) ∧ Below w.heap.size w w' := by
  have hnew := Five.new w s
  have hbn : Below w.heap.size w (w.alloc (.cells s.cs.toArray 23)) := (Below.refl _ _).alloc (Nat.le_refl _) _
  unfold St.cs at hnew hbn
  have f1 := hs.m
  have f2 := hs.t
  have f3 := hs.r
  have hn : 0 ≤ s.n ∧ s.n ≤ 599 := by rcases rt_minor hr with e | e <;> omega
  have hns := decI_size hn.1 hn.2
  have HN := hide (refdec_any s.n hn.1 hn.2)
  have hwn := u64_id (n := s.n) hn.1 (by omega)
  by_cases hc : s.c = 0
  · have HW := hide (wrS_req hc)
    obtain ⟨m, t, c, r, n⟩ := s
    obtain rfl : c = 0 := hc
    unfold St.v
    dsimp only at hnew hbn f1 f2 f3 hn hns HN HW hwn
    generalize wrS ⟨m, t, 0, r, n⟩ = R at HW ⊢
    clear hs hr hn
    generalize decI n = V at hns HN HW
    have k1 : ¬ 9223372036854775807 < 7 + V.size := by omega
    go_enter Tryz.func65, Tryz.ntmps65
    go_wp2_with fail
    generalize w.alloc _ = W1 at hnew hbn ⊢
    refine (HN.out _).mono ?_
    rintro e w1 ⟨rfl, k, rfl⟩
    have hX := hnew.drewN k
    have hB := below_quiet hbn k
    generalize W1.drewN k = W2 at hX hB ⊢
    obtain ⟨c0, c1, c2, c3, c4, -, -⟩ := hX
    dsimp only at c0 c1 c2 c3 c4
    go_wp2_with fail
    go_ret
    exact ⟨by rw [HW.out]; rfl, hB⟩
  · have HW := hide (wrS_sta hc)
    have q := rt_sta hr hc
    have hk0 : 0 ≤ s.c := by have := q.c0; omega
    have hk1 := q.c1
    have hcs := decI_size hk0 hk1
    have HC := hide (refdec_any s.c hk0 hk1)
    have hwc := u64_id (n := s.c) hk0 (by omega)
    have hcd : (s.c == 0) = false := by simpa using hc
    unfold St.v
    generalize wrS s = R at HW ⊢
    clear hs hr hn hc q hk0 hk1
    generalize decI s.n = V at hns HN HW
    generalize decI s.c = C at hcs HC HW
    have k1 : ¬ 9223372036854775807 < 7 + V.size := by omega
    have k2 : ¬ 9223372036854775807 < 7 + V.size + 1 := by omega
    have k3 : ¬ 9223372036854775807 < 7 + V.size + 1 + C.size := by omega
    have k4 : ¬ 9223372036854775807 < 7 + V.size + 1 + C.size + 1 := by omega
    have k5 : ¬ 9223372036854775807 < 7 + V.size + 1 + C.size + 1 + s.r.size := by omega
    go_enter Tryz.func65, Tryz.ntmps65
    go_wp2_with fail
    generalize w.alloc _ = W1 at hnew hbn ⊢
    refine (HN.out _).mono ?_
    rintro e w1 ⟨rfl, k, rfl⟩
    have hX := hnew.drewN k
    have hB := below_quiet hbn k
    generalize W1.drewN k = W2 at hX hB ⊢
    obtain ⟨c0, c1, c2, c3, c4, -, -⟩ := hX
    go_wp2_with fail
    go_quiet (first | (go_at_call 84; refine Calls.quiet_of (HC.out _)))
    go_wp2_with fail
    go_ret
    exact ⟨by rw [HW.out]; rfl, below_quiet hB _⟩

theorem rp_short {s : ByteArray} (hs : s.size ≤ 5000) : Short (rpU s) := by
  have h := ps_short hs
  exact ⟨h.m, h.t, h.r⟩
theorem rs_short {s : ByteArray} (hs : s.size ≤ 5000) : Short (rsU s) := by
  have h := st_short hs
  exact ⟨h.m, h.t, h.r⟩
theorem rp_one {s : ByteArray} (h : ((aftS 32 (aftS 32 s)).toList == [72, 84, 84, 80, 47, 49, 46, 49]) = true) : rpU s = ⟨befS 32 s, befS 32 (aftS 32 s), 0, noS, 1⟩ := by
  unfold rpU; rw [if_pos (show _ = verL ++ [49] from eq_of_beq h)]
theorem rp_zero {s : ByteArray} (h : ((aftS 32 (aftS 32 s)).toList == [72, 84, 84, 80, 47, 49, 46, 49]) = false) : rpU s = ⟨befS 32 s, befS 32 (aftS 32 s), 0, noS, 0⟩ := by
  unfold rpU; rw [if_neg (show ¬ _ = verL ++ [49] from ne_of_beq h)]
theorem str_beq {a b : ByteArray} (h : a = b) : (a.toList == b.toList) = true := by rw [h]; simp
theorem str_bne {a b : ByteArray} (h : a ≠ b) : (a.toList == b.toList) = false := by
  rw [ByteArray.toList_eq, ByteArray.toList_eq]
  simpa using fun e => h (bytes_ext e)

set_option maxRecDepth 100000 in
set_option maxHeartbeats 2000000 in
theorem refparse_any (s : ByteArray) (w : World) (hs : s.size ≤ 5000) :
    Calls Tryz.prog 48 #[.string s] w fun e w' => e = .returned (.tuple #[(gvU (psU s)).v, .int .i64 (gvE (psU s))]) ∧ Below w.heap.size w w' := by
  have hR0 := five_zero w
  have hB0 : Below w.heap.size w (w.alloc (.cells #[.string ⟨#[]⟩, .string ⟨#[]⟩, .int .i64 0, .string ⟨#[]⟩, .int .i64 0] 23)) := (Below.refl _ _).alloc (Nat.le_refl _) _
  have hz0 : (w.alloc (.cells #[.string ⟨#[]⟩, .string ⟨#[]⟩, .int .i64 0, .string ⟨#[]⟩, .int .i64 0] 23)).heap.size = w.heap.size + 1 := by simp
  have a1 := befS_size 32 s
  have a2 := aftS_size 32 s
  have hsh := rp_short hs
  go_enter Tryz.func48, Tryz.ntmps48
  go_wp2_with fail
  generalize w.alloc _ = W0 at hR0 hB0 hz0 ⊢
  refine (refcut_any s _ (by omega)).mono ?_
  rintro e w1 ⟨rfl, n1, rfl⟩
  go_wp2_with fail
  refine (refcut_any (aftS 32 s) _ (by omega)).mono ?_
  rintro e w2 ⟨rfl, n2, rfl⟩
  have hR2 := (hR0.drewN n1).drewN n2
  have hB2 := below_quiet (below_quiet hB0 n1) n2
  have hz2 : ((W0.drewN n1).drewN n2).heap.size = w.heap.size + 1 := hz0
  generalize (W0.drewN n1).drewN n2 = W2 at hR2 hB2 hz2 ⊢
  clear hR0 hB0 hz0 W0
  have hN3 := Five.new W2 ⟨befS 32 s, befS 32 (aftS 32 s), 0, noS, 0⟩
  have hR3 := hR2.alloc (.cells #[.string (befS 32 s), .string (befS 32 (aftS 32 s)), .int .i64 0, .string ⟨#[]⟩, .int .i64 0] 23)
  have hB3 := hB2.alloc (o := (.cells #[.string (befS 32 s), .string (befS 32 (aftS 32 s)), .int .i64 0, .string ⟨#[]⟩, .int .i64 0] 23)) hB2.size
  unfold St.cs noS at hN3
  dsimp only at hN3
  rw [hz2] at hN3
  go_upto_if 27 with fail
  generalize W2.alloc _ = W3 at hN3 hR3 hB3 ⊢
  go_cut [28] (fun x wd => Five wd (w.heap.size + 1) (rpU s) ∧ Five wd w.heap.size St.no ∧ Below w.heap.size w wd)
  case first =>
    cases hv : ((aftS 32 (aftS 32 s)).toList == [72, 84, 84, 80, 47, 49, 46, 49])
    · have HP := hide (rp_zero hv)
      go_wp2_with fail
      go_meet
      exact ⟨by rw [HP.out]; exact hN3, hR3, hB3⟩
    · have HP := hide (rp_one hv)
      obtain ⟨c0, c1, c2, c3, c4, -, cf⟩ := id hN3
      go_wp2_with fail
      go_meet
      exact ⟨by rw [HP.out]; exact hN3.s4 1, hR3.other _ _ _ (by omega), hB3.setCell (by show w.heap.size ≤ w.heap.size + 1; omega) _⟩
  case rest =>
    obtain ⟨hN4, hR4, hB4⟩ := hcut
    clear hN3 hR3 hB3 hR2 hB2 hz2
    obtain ⟨c0, c1, c2, c3, c4, -, -⟩ := id hN4
    cases hg : rtB (psU s)
    · have HR := hide (gv_no hg)
      cases hr : rtB (rpU s)
      · have H1 := hide hr
        clear hr hg
        go_wp2_with fail
        refine (srefright_any (rpU s) _ hsh).mono ?_
        rintro e w5 ⟨rfl, hb5⟩
        rw [H1.out]
        obtain ⟨r0, r1, r2, r3, r4, -, rf⟩ := hR4.below hb5
        have hB5 := hB4.trans (hb5.mono hB4.size)
        go_wp2_with fail
        refine bodyPost_ret (v := .tuple #[St.no.v, .int .i64 30]) (by simp [results, Tryz.results48, go_sem, no_v, *]) rfl ⟨ret_se HR.out.1.symm HR.out.2.symm, ?_⟩
        exact put5_below hB5 (Nat.le_refl _) St.no
      · have H1 := hide hr
        have HP := hide (refprint_any (rpU s) · hsh hr)
        have hne := str_bne (rp_no hg hr)
        clear hr hg
        go_wp2_with fail
        refine (srefright_any (rpU s) _ hsh).mono ?_
        rintro e w5 ⟨rfl, hb5⟩
        rw [H1.out]
        have hN5 := hN4.below hb5
        have hR5 := hR4.below hb5
        have hB5 := hB4.trans (hb5.mono hB4.size)
        clear c0 c1 c2 c3 c4
        obtain ⟨c0, c1, c2, c3, c4, -, -⟩ := id hN5
        go_wp2_with fail
        refine (HP.out _).mono ?_
        rintro e w6 ⟨rfl, hb6⟩
        obtain ⟨r0, r1, r2, r3, r4, -, rf⟩ := hR5.below hb6
        have hB6 := hB5.trans (hb6.mono hB5.size)
        go_wp2_with fail
        refine bodyPost_ret (v := .tuple #[St.no.v, .int .i64 30]) (by simp [results, Tryz.results48, go_sem, no_v, *]) rfl ⟨ret_se HR.out.1.symm HR.out.2.symm, ?_⟩
        exact put5_below hB6 (Nat.le_refl _) St.no
    · have HR : Hid (gvU (psU s) = rpU s ∧ gvE (psU s) = 0) := ⟨(gv_yes hg).1.trans (rp_same hg).symm, (gv_yes hg).2⟩
      have hy := rp_yes hg
      have H1 := hide hy.1
      have HP := hide (refprint_any (rpU s) · hsh hy.1)
      have heq := str_beq hy.2
      clear hy hg
      go_wp2_with fail
      refine (srefright_any (rpU s) _ hsh).mono ?_
      rintro e w5 ⟨rfl, hb5⟩
      rw [H1.out]
      have hN5 := hN4.below hb5
      have hR5 := hR4.below hb5
      have hB5 := hB4.trans (hb5.mono hB4.size)
      clear c0 c1 c2 c3 c4
      obtain ⟨c0, c1, c2, c3, c4, -, -⟩ := id hN5
      go_wp2_with fail
      refine (HP.out _).mono ?_
      rintro e w6 ⟨rfl, hb6⟩
      obtain ⟨r0, r1, r2, r3, r4, -, rf⟩ := hR5.below hb6
      clear c0 c1 c2 c3 c4
      obtain ⟨c0, c1, c2, c3, c4, -, -⟩ := hN5.below hb6
      have hB6 := hB5.trans (hb6.mono hB5.size)
      go_wp2_with fail
      refine bodyPost_ret (v := .tuple #[(rpU s).v, .int .i64 0]) (by simp [results, Tryz.results48, go_sem, St.v, *]) rfl ⟨ret_se HR.out.1.symm HR.out.2.symm, ?_⟩
      exact put5_below hB6 (Nat.le_refl _) (rpU s)

theorem rs_one {s : ByteArray} (h : ((befS 32 s).toList == [72, 84, 84, 80, 47, 49, 46, 49]) = true) : rsU s = ⟨noS, noS, (rdN 10 (befS 32 (aftS 32 s)).data.toList : Int), aftS 32 (aftS 32 s), 1⟩ := by
  unfold rsU; rw [if_pos (show _ = verL ++ [49] from eq_of_beq h)]
theorem rs_zero {s : ByteArray} (h : ((befS 32 s).toList == [72, 84, 84, 80, 47, 49, 46, 49]) = false) : rsU s = ⟨noS, noS, (rdN 10 (befS 32 (aftS 32 s)).data.toList : Int), aftS 32 (aftS 32 s), 0⟩ := by
  unfold rsU; rw [if_neg (show ¬ _ = verL ++ [49] from ne_of_beq h)]
theorem line_has {s : ByteArray} (h : hasB 32 (aftS 32 s) = true) : lineS s = s := by
  unfold lineS; rw [if_pos ((hasL_iff _ _).1 h)]
theorem line_not {s : ByteArray} (h : hasB 32 (aftS 32 s) = false) : lineS s = s ++ ⟨#[32]⟩ := by
  unfold lineS; rw [if_neg ((hasL_false _ _).1 h)]

set_option maxRecDepth 100000 in
set_option maxHeartbeats 2000000 in
theorem refstatus_any (s : ByteArray) (w : World) (hs : s.size ≤ 5000) :
    Calls Tryz.prog 49 #[.string s] w fun e w' => e = .returned (.tuple #[(gvU (stU s)).v, .int .i64 (gvE (stU s))]) ∧ Below w.heap.size w w' := by
  have hR0 := five_zero w
  have hB0 : Below w.heap.size w (w.alloc (.cells #[.string ⟨#[]⟩, .string ⟨#[]⟩, .int .i64 0, .string ⟨#[]⟩, .int .i64 0] 23)) := (Below.refl _ _).alloc (Nat.le_refl _) _
  have hz0 : (w.alloc (.cells #[.string ⟨#[]⟩, .string ⟨#[]⟩, .int .i64 0, .string ⟨#[]⟩, .int .i64 0] 23)).heap.size = w.heap.size + 1 := by simp
  have a1 := befS_size 32 s
  have a2 := aftS_size 32 s
  have a3 := befS_size 32 (aftS 32 s)
  have hsh := rs_short hs
  have HC : Hid ((rsU s).c = (rdN 10 (befS 32 (aftS 32 s)).data.toList : Int)) := rfl
  have H1 := fun h => rs_one (s := s) h
  have H0 := fun h => rs_zero (s := s) h
  have hrd := fun w => refRead10 (befS 32 (aftS 32 s)) w (by unfold maxLen; omega)
  have hle := rdN_le 10 (befS 32 (aftS 32 s)).data.toList
  generalize rdN 10 (befS 32 (aftS 32 s)).data.toList = n at HC H1 H0 hrd hle
  have hw : IntKind.i64.wrap (n : Int) = n := by simp [IntKind.wrap, IntKind.bits, IntKind.signed]; omega
  go_enter Tryz.func49, Tryz.ntmps49
  go_wp2_with fail
  generalize w.alloc _ = W0 at hR0 hB0 hz0 ⊢
  refine (refcut_any s _ (by omega)).mono ?_
  rintro e w1 ⟨rfl, n1, rfl⟩
  go_wp2_with fail
  refine (refcut_any (aftS 32 s) _ (by omega)).mono ?_
  rintro e w2 ⟨rfl, n2, rfl⟩
  have hR2 := (hR0.drewN n1).drewN n2
  have hB2 := below_quiet (below_quiet hB0 n1) n2
  have hz2 : ((W0.drewN n1).drewN n2).heap.size = w.heap.size + 1 := hz0
  generalize (W0.drewN n1).drewN n2 = W2 at hR2 hB2 hz2 ⊢
  clear hR0 hB0 hz0 W0
  go_wp2_with fail
  refine (hrd _).mono ?_
  rintro e w2' ⟨rfl, hw2⟩
  subst hw2
  have hN3 := Five.new w2' ⟨noS, noS, (n : Int), aftS 32 (aftS 32 s), 0⟩
  have hR3 := hR2.alloc (.cells #[.string ⟨#[]⟩, .string ⟨#[]⟩, .int .i64 (n : Int), .string (aftS 32 (aftS 32 s)), .int .i64 0] 23)
  have hB3 := hB2.alloc (o := (.cells #[.string ⟨#[]⟩, .string ⟨#[]⟩, .int .i64 (n : Int), .string (aftS 32 (aftS 32 s)), .int .i64 0] 23)) hB2.size
  unfold St.cs noS at hN3
  dsimp only at hN3
  rw [hz2] at hN3
  go_upto_if 35 with fail
  generalize w2'.alloc _ = W3 at hN3 hR3 hB3 ⊢
  go_cut [36] (fun x wd => Five wd (w.heap.size + 1) (rsU s) ∧ Five wd w.heap.size St.no ∧ Below w.heap.size w wd)
  case first =>
    cases hv : ((befS 32 s).toList == [72, 84, 84, 80, 47, 49, 46, 49])
    · have HP := hide (H0 hv)
      go_wp2_with fail
      go_meet
      exact ⟨by rw [HP.out]; exact hN3, hR3, hB3⟩
    · have HP := hide (H1 hv)
      obtain ⟨c0, c1, c2, c3, c4, -, cf⟩ := id hN3
      go_wp2_with fail
      go_meet
      exact ⟨by rw [HP.out]; exact hN3.s4 1, hR3.other _ _ _ (by omega), hB3.setCell (by show w.heap.size ≤ w.heap.size + 1; omega) _⟩
  case rest =>
    obtain ⟨hN4, hR4, hB4⟩ := hcut
    clear hN3 hR3 hB3 hR2 hB2 hz2 H0 H1 hrd
    go_upto_if 38 with fail
    go_cut [0, 9] (fun x y wd => x = .string (lineS s) ∧ wd = wc)
    case first =>
      cases hv : hasB 32 (aftS 32 s)
      · have HL := hide (line_not hv)
        go_wp2_with fail
        go_meet
        exact ⟨by rw [HL.out], rfl⟩
      · have HL := hide (line_has hv)
        go_wp2_with fail
        go_meet
        exact ⟨by rw [HL.out], rfl⟩
    case rest =>
    obtain ⟨rfl, rfl⟩ := hcut
    obtain ⟨c0, c1, c2, c3, c4, -, -⟩ := id hN4
    cases hg : rtB (stU s)
    · have HR := hide (gv_no hg)
      by_cases hz : n = 0
      · have hzd : ((n : Int) == 0) = true := by rw [hz]; rfl
        clear hg
        clear hz
        obtain ⟨r0, r1, r2, r3, r4, -, rf⟩ := hR4
        go_wp2_with fail
        refine bodyPost_ret (v := .tuple #[St.no.v, .int .i64 30]) (by simp [results, Tryz.results49, go_sem, no_v, *]) rfl ⟨ret_se HR.out.1.symm HR.out.2.symm, ?_⟩
        exact put5_below hB4 (Nat.le_refl _) St.no
      · have hzd : ((n : Int) == 0) = false := by simpa using hz
        have hc0 : (rsU s).c ≠ 0 := by rw [HC.out]; omega
        clear hz
        cases hr : rtB (rsU s)
        · have H1 := hide hr
          clear hr hg hc0
          go_wp2_with fail
          refine (srefright_any (rsU s) _ hsh).mono ?_
          rintro e w5 ⟨rfl, hb5⟩
          rw [H1.out]
          obtain ⟨r0, r1, r2, r3, r4, -, rf⟩ := hR4.below hb5
          have hB5 := hB4.trans (hb5.mono hB4.size)
          go_wp2_with fail
          refine bodyPost_ret (v := .tuple #[St.no.v, .int .i64 30]) (by simp [results, Tryz.results49, go_sem, no_v, *]) rfl ⟨ret_se HR.out.1.symm HR.out.2.symm, ?_⟩
          exact put5_below hB5 (Nat.le_refl _) St.no
        · have H1 := hide hr
          have HP := hide (refprint_any (rsU s) · hsh hr)
          have hne := str_bne (rs_no hg hc0 hr)
          clear hr hg hc0
          go_wp2_with fail
          refine (srefright_any (rsU s) _ hsh).mono ?_
          rintro e w5 ⟨rfl, hb5⟩
          rw [H1.out]
          have hN5 := hN4.below hb5
          have hR5 := hR4.below hb5
          have hB5 := hB4.trans (hb5.mono hB4.size)
          clear c0 c1 c2 c3 c4
          obtain ⟨c0, c1, c2, c3, c4, -, -⟩ := id hN5
          go_wp2_with fail
          refine (HP.out _).mono ?_
          rintro e w6 ⟨rfl, hb6⟩
          obtain ⟨r0, r1, r2, r3, r4, -, rf⟩ := hR5.below hb6
          have hB6 := hB5.trans (hb6.mono hB5.size)
          go_wp2_with fail
          refine bodyPost_ret (v := .tuple #[St.no.v, .int .i64 30]) (by simp [results, Tryz.results49, go_sem, no_v, *]) rfl ⟨ret_se HR.out.1.symm HR.out.2.symm, ?_⟩
          exact put5_below hB6 (Nat.le_refl _) St.no
    · have HR : Hid (gvU (stU s) = rsU s ∧ gvE (stU s) = 0) := ⟨(gv_yes hg).1.trans (rs_same hg).symm, (gv_yes hg).2⟩
      have hy := rs_yes hg
      have hzd : ((n : Int) == 0) = false := by
        have := hy.1
        rw [HC.out] at this
        simpa using this
      have H1 := hide hy.2.1
      have HP := hide (refprint_any (rsU s) · hsh hy.2.1)
      have heq := str_beq hy.2.2
      clear hy hg
      go_wp2_with fail
      refine (srefright_any (rsU s) _ hsh).mono ?_
      rintro e w5 ⟨rfl, hb5⟩
      rw [H1.out]
      have hN5 := hN4.below hb5
      have hR5 := hR4.below hb5
      have hB5 := hB4.trans (hb5.mono hB4.size)
      clear c0 c1 c2 c3 c4
      obtain ⟨c0, c1, c2, c3, c4, -, -⟩ := id hN5
      go_wp2_with fail
      refine (HP.out _).mono ?_
      rintro e w6 ⟨rfl, hb6⟩
      obtain ⟨r0, r1, r2, r3, r4, -, rf⟩ := hR5.below hb6
      clear c0 c1 c2 c3 c4
      obtain ⟨c0, c1, c2, c3, c4, -, -⟩ := hN5.below hb6
      have hB6 := hB5.trans (hb6.mono hB5.size)
      go_wp2_with fail
      refine bodyPost_ret (v := .tuple #[(rsU s).v, .int .i64 0]) (by simp [results, Tryz.results49, go_sem, St.v, *]) rfl ⟨ret_se HR.out.1.symm HR.out.2.symm, ?_⟩
      exact put5_below hB6 (Nat.le_refl _) (rsU s)

end Go.Proofs.YtmpijlaidnhpnaaGreat.Sr
