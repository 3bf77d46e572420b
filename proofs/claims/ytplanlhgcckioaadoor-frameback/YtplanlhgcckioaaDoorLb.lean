/- The walk of FrameBack. -/
import Derived.Test.YtplanlhgcckioaaDoorMh
import Derived.Test.YtplanlhgcckioaaDoorLw
import Derived.Test.YtplanlhgcckioaaDoorFa
namespace Go.Proofs.YtplanlhgcckioaaDoor
set_option linter.unusedVariables false
set_option linter.unusedSimpArgs false
set_option maxRecDepth 100000
open Go.RowKit

theorem row_put5 {w : World} {v : Value} {M : List Fd} {N : Nat} (h : Row w v M) (hf : 0 < M.length → ∃ g n c, v = .slice (some ⟨g, 0, none⟩) n c ∧ N < g) (s : St) : Row (put5 w N s) v M :=
  ((((h.far hf 0 _).far hf 1 _).far hf 2 _).far hf 3 _).far hf 4 _
theorem tw_put5 {w : World} {N P : Nat} {k z : Int} (h : Tw w P k z) (hN : N ≠ P) (s : St) : Tw (put5 w N s) P k z :=
  ((((h.other N 0 _ hN).other N 1 _ hN).other N 2 _ hN).other N 3 _ hN).other N 4 _ hN
theorem tabs_put5 {w0 w : World} {N : Nat} (h : Tabs w0) (hb : Below w0.heap.size w0 w) : Tabs w := h.below hb
theorem rm1 (Q : List Fd) (v : Value) (w : World) (hr : Row w v Q) (hl : Q.length ≤ 100) (hs : Sh Q) :
    Calls Tryd.prog 11 #[v, .string ⟨#[99, 111, 110, 116, 101, 110, 116, 45, 108, 101, 110, 103, 116, 104]⟩] w fun e w' => ∃ r, e = .returned r ∧ Own w' w.heap.size r (delF lenS Q) ∧ Below w.heap.size w w' := by
  rw [← del_cl]; exact refremove_any Q v lenW w hr (by omega) hs (by decide)
theorem rm2 (Q : List Fd) (v : Value) (w : World) (hr : Row w v Q) (hl : Q.length ≤ 100) (hs : Sh Q) :
    Calls Tryd.prog 11 #[v, .string ⟨#[116, 114, 97, 110, 115, 102, 101, 114, 45, 101, 110, 99, 111, 100, 105, 110, 103]⟩] w fun e w' => ∃ r, e = .returned r ∧ Own w' w.heap.size r (delF tecS Q) ∧ Below w.heap.size w w' := by
  rw [← del_te]; exact refremove_any Q v tecW w hr (by omega) hs (by decide)
def gtS : ByteArray := ⟨#[71, 69, 84]⟩
theorem gt_is : (gtS.toList == hdL) = false := by decide +kernel

set_option maxHeartbeats 16000000 in
theorem back_walk (s : St) (L : List Fd) (ad : Option Addr) (cap : Nat) (K Z : Int) (w : World) (h1 : s.m.size ≤ maxLen) (h2 : s.t.size ≤ maxLen) (h3 : s.r.size ≤ maxLen)
    (hr : Row w (.slice ad L.length cap) L) (hcm : cap ≤ maxLen) (hs : ∀ f ∈ L, f.1.size ≤ maxLen ∧ f.2.size ≤ maxLen) (ht : Tabs w) :
    Calls Tryd.prog 4 #[s.v, .slice ad L.length cap, .agg #[.int .i64 K, .int .i64 Z]] w fun e w' => e = .returned (.bool true) ∧ Below w.heap.size w w' := by
  have hB : Below w.heap.size w ((w.alloc (.cells #[.string s.m, .string s.t, .int .i64 s.c, .string s.r, .int .i64 s.n] 33)).alloc (.cells #[.int .i64 K, .int .i64 Z] 24)) := (one_alloc w _ _).alloc (by simp) _
  have hF : Five ((w.alloc (.cells #[.string s.m, .string s.t, .int .i64 s.c, .string s.r, .int .i64 s.n] 33)).alloc (.cells #[.int .i64 K, .int .i64 Z] 24)) w.heap.size s := (Five.new w s).alloc _
  have hT : Tw ((w.alloc (.cells #[.string s.m, .string s.t, .int .i64 s.c, .string s.r, .int .i64 s.n] 33)).alloc (.cells #[.int .i64 K, .int .i64 Z] 24)) (w.heap.size + 1) K Z := by
    have := Tw.new (w.alloc (.cells #[.string s.m, .string s.t, .int .i64 s.c, .string s.r, .int .i64 s.n] 33)) K Z
    rwa [show (w.alloc (.cells #[.string s.m, .string s.t, .int .i64 s.c, .string s.r, .int .i64 s.n] 33)).heap.size = w.heap.size + 1 by simp] at this
  have hR := hide (hr.below hB)
  have hsm := fun w => small_any s w h1 h2 h3
  have hfw := fun w h => few_own L ad cap w h hcm hs
  have hsh := small_short s
  clear hs hcm hr h1 h2 h3
  unfold St.v at hsm ⊢
  go_enter Tryd.func4, Tryd.ntmps4
  go_wp2_with fail
  generalize World.alloc _ _ = W1 at hF hB hR hT ⊢
  obtain ⟨c0, c1, c2, c3, c4, -, -⟩ := id hF
  go_wp2_with fail
  refine (hsm _).mono ?_
  rintro e w2 ⟨rfl, hb2⟩
  have hF2 := hF.below hb2
  have hT2 := hT.below hb2
  have hB2 := hB.trans (hb2.mono hB.size)
  have hR2 := hide (hR.out.below hb2)
  clear c0 c1 c2 c3 c4 hF hB hR hb2 hT
  go_wp2_with fail
  refine (hfw _ hR2.out).mono ?_
  rintro e w3 ⟨r, M, rfl, hR3, hM, hMs, hb3, hown⟩
  have hF3 := hF2.below hb3
  have hT3 := hT2.below hb3
  have hB3 := hB2.trans (hb3.mono hB2.size)
  have hfar : 0 < M.length → ∃ g n c, r = .slice (some ⟨g, 0, none⟩) n c ∧ w.heap.size < g := fun h => by
    obtain ⟨g, n, c, hg, hle⟩ := hown h
    exact ⟨g, n, c, hg, Nat.lt_of_lt_of_le hF2.lt hle⟩
  have HR4 := hide (row_put5 hR3 hfar (smU s))
  have hF4 := put5_five hF3 (smU s)
  have hT4 := tw_put5 (N := w.heap.size) hT3 (by omega) (smU s)
  have hB4 := put5_below hB3 (Nat.le_refl _) (smU s)
  obtain ⟨ar, cr, rfl⟩ := hR3.slice
  obtain ⟨d0, d1, d2, d3, d4, -, df⟩ := id hF3
  have HS := hide (few_sh hMs)
  clear hF2 hB2 hR2 hT2 hb3 hR3 hfar hown hMs hF3 hB3 hT3 hsm hfw
  generalize smU s = F at HR4 hF4 hB4 hT4 hsh ⊢
  unfold put5 at HR4 hF4 hB4 hT4
  go_upto_region 2 with fail
  generalize World.setCell _ _ _ = W4 at HR4 hF4 hB4 hT4 ⊢
  clear d0 d1 d2 d3 d4 df
  have ht4 := ht.below hB4
  obtain ⟨t0, t1, -, -⟩ := id hT4
  go_wp2_with fail
  refine (with_any M _ K Z _ HR4.out (by omega) HS.out ht4).mono ?_
  rintro en w5 ⟨x, rfl, hox, hb⟩
  have hF5 := hF4.below hb
  have hT5 := hT4.below hb
  have hB5 := hB4.trans (hb.mono hB4.size)
  have HR5 := hide (HR4.out.below hb)
  have HX5 := hide hox.row
  have hlen := wi_len M K Z
  have HSX := hide (wi_short K (Z := Z) HS.out)
  have HOK := hide (fun h => wi_okay (L := M) (K := K) (Z := Z) h)
  have HBAD := hide (fun h => wi_bad (L := M) (K := K) (Z := Z) h)
  obtain ⟨E, hE⟩ : ∃ e, wiE M K Z = e := ⟨_, rfl⟩
  obtain ⟨X, hX⟩ : ∃ e, wiL M K Z = e := ⟨_, rfl⟩
  rw [hE] at HOK HBAD ⊢
  rw [hX] at HOK HBAD HX5 hlen HSX
  obtain ⟨ax, nx, rfl⟩ := hox.row.slice
  rw [hX] at HX5 ⊢
  clear hE hX hox hb hF4 hT4 hB4 HR4 ht4 t0 t1 ht
  by_cases g0 : E = 0
  · subst g0
    have HK := hide (HOK.out rfl)
    clear HOK HBAD
    go_wp2_with fail
    obtain ⟨hrM, hz0, hz1, hk0, hk1, hrX, hdl, hs1, hs2, hs3⟩ := HK.out
    have HS1 := hide hs1
    have HS2 := hide hs2
    have HS3 := hide hs3
    have HDL := hide hdl
    have HRX := hide hrX
    clear HK hs1 hs2 hs3 hdl hrX hrM
    refine (rm1 X _ _ HX5.out (by omega) HSX.out).mono ?_
    rintro e w6 ⟨r6, rfl, ho, hb⟩
    have hF6 := hF5.below hb
    have hT6 := hT5.below hb
    have hB6 := hB5.trans (hb.mono hB5.size)
    have HR6 := hide (HR5.out.below hb)
    have HX6 := hide (HX5.out.below hb)
    have HO6 := hide ho.row
    obtain ⟨a6, n6, rfl⟩ := ho.row.slice
    clear hF5 hT5 hB5 HR5 HX5 hb ho
    go_wp2_with fail
    refine (rm2 (delF lenS X) _ _ HO6.out (Nat.le_trans (del_le _ _) (by omega)) (del_short HSX.out)).mono ?_
    rintro e w7 ⟨r7, rfl, ho, hb⟩
    have hF7 := hF6.below hb
    have hT7 := hT6.below hb
    have hB7 := hB6.trans (hb.mono hB6.size)
    have HR7 := hide (HR6.out.below hb)
    have HX7 := hide (HX6.out.below hb)
    have HO7 : Hid (Row w7 r7 (dlF M)) := by
      have : Row w7 r7 (dlF X) := ho.row
      rw [HDL.out] at this
      exact this
    clear hF6 hT6 hB6 HR6 HX6 HO6 hb ho
    go_wp2_with fail
    refine (rm1 M _ _ HR7.out (by omega) HS.out).mono ?_
    rintro e w8 ⟨r8, rfl, ho, hb⟩
    have hF8 := hF7.below hb
    have hT8 := hT7.below hb
    have hB8 := hB7.trans (hb.mono hB7.size)
    have HX8 := hide (HX7.out.below hb)
    have HO8 := hide (HO7.out.below hb)
    have HP8 := hide ho.row
    obtain ⟨a8, n8, rfl⟩ := ho.row.slice
    clear hF7 hT7 hB7 HR7 HX7 HO7 hb ho
    go_wp2_with fail
    refine (rm2 (delF lenS M) _ _ HP8.out (Nat.le_trans (del_le _ _) (by omega)) (del_short HS.out)).mono ?_
    rintro e w9 ⟨r9, rfl, ho, hb⟩
    have hF9 := hF8.below hb
    have hT9 := hT8.below hb
    have hB9 := hB8.trans (hb.mono hB8.size)
    have HX9 := hide (HX8.out.below hb)
    have HO9 := hide (HO8.out.below hb)
    have HP9 : Hid (Row w9 r9 (dlF M)) := ho.row
    have hdm := dl_le M
    clear hF8 hT8 hB8 HX8 HO8 HP8 hb ho
    go_wp2_with fail
    refine (like_same (dlF M) r7 r9 _ HO9.out HP9.out (by omega)).mono ?_
    rintro e w10 ⟨rfl, hb⟩
    have hF10 := hF9.below hb
    have hT10 := hT9.below hb
    have hB10 := hB9.trans (hb.mono hB9.size)
    have HX10 := hide (HX9.out.below hb)
    clear hF9 hT9 hB9 HX9 HO9 HP9 hb
    go_wp2_with fail
    refine (alive_any _).mono ?_
    rintro e w11 ⟨rfl, hb⟩
    have hF11 := hF10.below hb
    have hT11 := hT10.below hb
    have hB11 := hB10.trans (hb.mono hB10.size)
    have HX11 := hide (HX10.out.below hb)
    clear hF10 hT10 hB10 HX10 hb
    have hrt := fun w => srefright_any F w hsh
    have hqq : ∀ w0, Row w0 (.slice ax X.length nx) X → Calls Tryd.prog 13 #[F.v, .slice ax X.length nx] w0 fun en w' => en = .returned (anV (reqF F X)) ∧ Below w0.heap.size w0 w' := fun w0 h => request_any F X _ w0 hsh h (by omega) HSX.out
    have haa : ∀ w0, Row w0 (.slice ax X.length nx) X → Calls Tryd.prog 14 #[F.v, .slice ax X.length nx, .string ⟨#[71, 69, 84]⟩] w0 fun en w' => en = .returned (anV (ansF F X gtS)) ∧ Below w0.heap.size w0 w' := fun w0 h => answer_any F X gtS _ w0 hsh h (by omega) HSX.out
    have HQ1 : Hid (rtB F = true → F.c = 0 → reqF F X = elseF (sayF F.n X) 0) := fun h1 h2 => req_say (by rw [h1, HRX.out]; rfl) h2
    have HQ2 : Hid (rtB F = true → F.c ≠ 0 → bareB F.c = true → ansF F X gtS = (0, 0, 0)) := fun h1 h2 h3 => ans_bare (by rw [h1, HRX.out]; rfl) h2 (Or.inl h3)
    have HQ3 : Hid (rtB F = true → F.c ≠ 0 → bareB F.c = false → ansF F X gtS = elseF (sayF F.n X) 3) := fun h1 h2 h3 => ans_say (by rw [h1, HRX.out]; rfl) h2 h3 gt_is
    clear HSX HDL HRX HS
    unfold St.v at hrt hqq haa
    obtain ⟨c0, c1, c2, c3, c4, -, -⟩ := id hF11
    obtain ⟨t0, t1, -, -⟩ := id hT11
    go_wp2_with fail
    refine (hrt _).mono ?_
    rintro e w12 ⟨rfl, hb⟩
    have hF12 := hF11.below hb
    have hT12 := hT11.below hb
    have hB12 := hB11.trans (hb.mono hB11.size)
    have HX12 := hide (HX11.out.below hb)
    clear hF11 hT11 hB11 HX11 hb c0 c1 c2 c3 c4 t0 t1 hrt
    cases hrf : rtB F
    · go_wp2_with fail
      go_ret
      exact ⟨rfl, hB12⟩
    · have HQ1' := hide (HQ1.out hrf)
      have HQ2' := hide (HQ2.out hrf)
      have HQ3' := hide (HQ3.out hrf)
      clear hrf HQ1 HQ2 HQ3
      obtain ⟨z, rfl⟩ : ∃ z : Nat, Z = z := ⟨Z.toNat, by omega⟩
      have hN12 : Hid (w.heap.size < w12.heap.size ∧ w.heap.size + 1 < w12.heap.size) := ⟨hF12.lt, hT12.lt⟩
      rcases (show K = 0 ∨ K = 1 ∨ K = 2 ∨ K = 3 by omega) with rfl | rfl | rfl | rfl
      · have e0 : ∀ k, elseF (sayF F.n X) k = (k, 0, 0) := fun k => by rw [HS3.out (by decide) (by decide)]; rfl
        obtain ⟨c0, c1, c2, c3, c4, -, -⟩ := id hF12
        obtain ⟨t0, t1, -, -⟩ := id hT12
        go_upto_region 11 with fail
        clear c0 c1 c2 c3 c4 t0 t1
        have BW := one_alloc w12 #[.int .i64 0, .int .i64 0] 24
        have hY := Tw.new w12 0 0
        generalize w12.alloc _ = W13 at BW hY ⊢
        obtain ⟨N13, hN13⟩ : ∃ n, w12.heap.size = n := ⟨_, rfl⟩
        have HN13 := hide hN13
        rw [hN13] at hY ⊢
        clear hN13
        obtain ⟨c0, c1, c2, c3, c4, -, -⟩ := hF12.below BW
        obtain ⟨t0, t1, -, -⟩ := hT12.below BW
        obtain ⟨y0, y1, -, yf⟩ := id hY
        go_upto_region 13 with fail
        by_cases hc : F.c = 0
        · have hcb : (F.c == 0) = true := beq_iff_eq.2 hc
          have e1 := HQ1'.out hc
          rw [e0] at e1
          have hq' := hqq
          rw [e1] at hq'
          unfold anV at hq'
          clear haa hqq HQ1' HQ2' HQ3' HS1 HS2 HS3 hc e1
          have hnop : True := trivial
          go_wp2_with fail
          refine (hq' _ (HX12.out.below BW)).mono ?_
          rintro e w14 ⟨rfl, hb⟩
          clear c0 c1 c2 c3 c4 t0 t1 y0 y1 yf
          have hBW := hB12.trans (BW.mono hB12.size)
          have hB14' := hBW.trans (hb.mono hBW.size)
          have hB14 := hB14'.alloc hB14'.size (.cells #[.int .i64 0, .int .i64 0] 24)
          have hY14 := (hY.below hb).alloc (.cells #[.int .i64 0, .int .i64 0] 24)
          have hX14 := Tw.new w14 0 0
          go_upto_region 17 with fail
          generalize w14.alloc _ = W15 at hB14 hY14 hX14 ⊢
          generalize w14.heap.size = N15 at hX14 ⊢
          obtain ⟨x0, x1, -, -⟩ := id hX14
          obtain ⟨y0, y1, -, -⟩ := id hY14
          go_wp2_with fail
          go_ret
          exact ⟨rfl, hB14⟩
        · have hcb : (F.c == 0) = false := beq_eq_false_iff_ne.2 hc
          cases h1 : decide (F.c < 200)
          · cases h2 : (F.c == 204)
            · cases h3 : (F.c == 304)
              · have e1 := HQ3'.out hc (by unfold bareB; rw [h1, decide_eq_false (beq_eq_false_iff_ne.1 h2), decide_eq_false (beq_eq_false_iff_ne.1 h3)]; rfl)
                rw [e0] at e1
                have ha' := haa
                rw [e1] at ha'
                unfold anV at ha'
                clear haa hqq HQ1' HQ2' HQ3' HS1 HS2 HS3 hc e1
                go_wp2_with fail
                refine (ha' _ (HX12.out.below BW)).mono ?_
                rintro e w14 ⟨rfl, hb⟩
                clear c0 c1 c2 c3 c4 t0 t1 y0 y1 yf
                have BW15' := BW.trans (hb.mono BW.size)
                have BW15 := BW15'.alloc BW15'.size (.cells #[.int .i64 3, .int .i64 0] 24)
                have hY14 := (hY.below hb).alloc (.cells #[.int .i64 3, .int .i64 0] 24)
                have hX14 := Tw.new w14 3 0
                go_upto_region 19 with fail
                have hlt14 : N13 < w14.heap.size := (hY.below hb).lt
                generalize w14.alloc _ = W15 at BW15 hY14 hX14 ⊢
                generalize w14.heap.size = N15 at hX14 hlt14 ⊢
                clear BW15' hb hY BW
                have BW := BW15
                have hY := hY14
                clear BW15 hY14
                have hB15 := hB12.trans (BW.mono hB12.size)
                obtain ⟨c0, c1, c2, c3, c4, -, -⟩ := hF12.below BW
                obtain ⟨t0, t1, -, -⟩ := hT12.below BW
                obtain ⟨y0, y1, -, yf⟩ := id hY
                obtain ⟨x0, x1, -, -⟩ := id hX14
                go_upto_region 23 with fail
                clear c0 c1 c2 c3 c4 t0 t1 y0 y1 yf
                have BW2 := put2_below BW (N := N13) (by rw [HN13.out]; exact Nat.le_refl _) 3 0
                have hY2 := put2_is hY 3 0
                have hX2 := (hX14.other N13 0 (.int .i64 3) (by omega)).other N13 1 (.int .i64 0) (by omega)
                unfold put2 at BW2 hY2
                clear x0 x1 hX14
                generalize World.setCell _ _ _ = W16 at BW2 hY2 hX2 ⊢
                have hB16 := hB12.trans (BW2.mono hB12.size)
                obtain ⟨x0, x1, -, -⟩ := id hX2
                obtain ⟨y0, y1, -, -⟩ := id hY2
                go_wp2_with fail
                go_ret
                exact ⟨rfl, hB16⟩
              · have e1 := HQ2'.out hc (by unfold bareB; rw [decide_eq_true (beq_iff_eq.1 h3)]; simp)
                have ha' := haa
                rw [e1] at ha'
                unfold anV at ha'
                clear haa hqq HQ1' HQ2' HQ3' HS1 HS2 HS3 hc e1
                go_wp2_with fail
                refine (ha' _ (HX12.out.below BW)).mono ?_
                rintro e w14 ⟨rfl, hb⟩
                clear c0 c1 c2 c3 c4 t0 t1 y0 y1 yf
                have BW15' := BW.trans (hb.mono BW.size)
                have BW15 := BW15'.alloc BW15'.size (.cells #[.int .i64 0, .int .i64 0] 24)
                have hY14 := (hY.below hb).alloc (.cells #[.int .i64 0, .int .i64 0] 24)
                have hX14 := Tw.new w14 0 0
                go_upto_region 19 with fail
                have hlt14 : N13 < w14.heap.size := (hY.below hb).lt
                generalize w14.alloc _ = W15 at BW15 hY14 hX14 ⊢
                generalize w14.heap.size = N15 at hX14 hlt14 ⊢
                clear BW15' hb hY BW
                have BW := BW15
                have hY := hY14
                clear BW15 hY14
                have hB15 := hB12.trans (BW.mono hB12.size)
                obtain ⟨c0, c1, c2, c3, c4, -, -⟩ := hF12.below BW
                obtain ⟨t0, t1, -, -⟩ := hT12.below BW
                obtain ⟨y0, y1, -, yf⟩ := id hY
                obtain ⟨x0, x1, -, -⟩ := id hX14
                go_wp2_with fail
                go_ret
                exact ⟨rfl, hB15⟩
            · have e1 := HQ2'.out hc (by unfold bareB; rw [decide_eq_true (beq_iff_eq.1 h2)]; simp)
              have ha' := haa
              rw [e1] at ha'
              unfold anV at ha'
              clear haa hqq HQ1' HQ2' HQ3' HS1 HS2 HS3 hc e1
              go_wp2_with fail
              refine (ha' _ (HX12.out.below BW)).mono ?_
              rintro e w14 ⟨rfl, hb⟩
              clear c0 c1 c2 c3 c4 t0 t1 y0 y1 yf
              have BW15' := BW.trans (hb.mono BW.size)
              have BW15 := BW15'.alloc BW15'.size (.cells #[.int .i64 0, .int .i64 0] 24)
              have hY14 := (hY.below hb).alloc (.cells #[.int .i64 0, .int .i64 0] 24)
              have hX14 := Tw.new w14 0 0
              go_upto_region 19 with fail
              have hlt14 : N13 < w14.heap.size := (hY.below hb).lt
              generalize w14.alloc _ = W15 at BW15 hY14 hX14 ⊢
              generalize w14.heap.size = N15 at hX14 hlt14 ⊢
              clear BW15' hb hY BW
              have BW := BW15
              have hY := hY14
              clear BW15 hY14
              have hB15 := hB12.trans (BW.mono hB12.size)
              obtain ⟨c0, c1, c2, c3, c4, -, -⟩ := hF12.below BW
              obtain ⟨t0, t1, -, -⟩ := hT12.below BW
              obtain ⟨y0, y1, -, yf⟩ := id hY
              obtain ⟨x0, x1, -, -⟩ := id hX14
              go_wp2_with fail
              go_ret
              exact ⟨rfl, hB15⟩
          · have e1 := HQ2'.out hc (by unfold bareB; rw [h1]; simp)
            have ha' := haa
            rw [e1] at ha'
            unfold anV at ha'
            clear haa hqq HQ1' HQ2' HQ3' HS1 HS2 HS3 hc e1
            go_wp2_with fail
            refine (ha' _ (HX12.out.below BW)).mono ?_
            rintro e w14 ⟨rfl, hb⟩
            clear c0 c1 c2 c3 c4 t0 t1 y0 y1 yf
            have BW15' := BW.trans (hb.mono BW.size)
            have BW15 := BW15'.alloc BW15'.size (.cells #[.int .i64 0, .int .i64 0] 24)
            have hY14 := (hY.below hb).alloc (.cells #[.int .i64 0, .int .i64 0] 24)
            have hX14 := Tw.new w14 0 0
            go_upto_region 19 with fail
            have hlt14 : N13 < w14.heap.size := (hY.below hb).lt
            generalize w14.alloc _ = W15 at BW15 hY14 hX14 ⊢
            generalize w14.heap.size = N15 at hX14 hlt14 ⊢
            clear BW15' hb hY BW
            have BW := BW15
            have hY := hY14
            clear BW15 hY14
            have hB15 := hB12.trans (BW.mono hB12.size)
            obtain ⟨c0, c1, c2, c3, c4, -, -⟩ := hF12.below BW
            obtain ⟨t0, t1, -, -⟩ := hT12.below BW
            obtain ⟨y0, y1, -, yf⟩ := id hY
            obtain ⟨x0, x1, -, -⟩ := id hX14
            go_wp2_with fail
            go_ret
            exact ⟨rfl, hB15⟩
      · have e0 : ∀ k, elseF (sayF F.n X) k = ((1 : Int), (z : Int), (0 : Int)) := fun k => by rw [HS1.out rfl, else_yes (by simp)]; simp
        obtain ⟨c0, c1, c2, c3, c4, -, -⟩ := id hF12
        obtain ⟨t0, t1, -, -⟩ := id hT12
        go_upto_region 11 with fail
        clear c0 c1 c2 c3 c4 t0 t1
        have BW := one_alloc w12 #[.int .i64 1, .int .i64 0] 24
        have hY := Tw.new w12 1 0
        generalize w12.alloc _ = W13 at BW hY ⊢
        obtain ⟨N13, hN13⟩ : ∃ n, w12.heap.size = n := ⟨_, rfl⟩
        have HN13 := hide hN13
        rw [hN13] at hY ⊢
        clear hN13
        obtain ⟨c0, c1, c2, c3, c4, -, -⟩ := hF12.below BW
        obtain ⟨t0, t1, -, -⟩ := hT12.below BW
        obtain ⟨y0, y1, -, yf⟩ := id hY
        go_upto_region 13 with fail
        clear c0 c1 c2 c3 c4 t0 t1 y0 y1 yf
        have BW2 := put2_below BW (N := N13) (by rw [HN13.out]; exact Nat.le_refl _) 1 z
        have hY2 := put2_is hY 1 z
        unfold put2 at BW2 hY2
        generalize World.setCell _ _ _ = W14 at BW2 hY2 ⊢
        clear BW hY
        have BW := BW2
        have hY := hY2
        clear BW2 hY2
        obtain ⟨c0, c1, c2, c3, c4, -, -⟩ := hF12.below BW
        obtain ⟨t0, t1, -, -⟩ := hT12.below BW
        obtain ⟨y0, y1, -, yf⟩ := id hY
        by_cases hc : F.c = 0
        · have hcb : (F.c == 0) = true := beq_iff_eq.2 hc
          have e1 := HQ1'.out hc
          rw [e0] at e1
          have hq' := hqq
          rw [e1] at hq'
          unfold anV at hq'
          clear haa hqq HQ1' HQ2' HQ3' HS1 HS2 HS3 hc e1
          have hnop : True := trivial
          go_wp2_with fail
          refine (hq' _ (HX12.out.below BW)).mono ?_
          rintro e w14 ⟨rfl, hb⟩
          clear c0 c1 c2 c3 c4 t0 t1 y0 y1 yf
          have hBW := hB12.trans (BW.mono hB12.size)
          have hB14' := hBW.trans (hb.mono hBW.size)
          have hB14 := hB14'.alloc hB14'.size (.cells #[.int .i64 1, .int .i64 z] 24)
          have hY14 := (hY.below hb).alloc (.cells #[.int .i64 1, .int .i64 z] 24)
          have hX14 := Tw.new w14 1 z
          go_upto_region 17 with fail
          generalize w14.alloc _ = W15 at hB14 hY14 hX14 ⊢
          generalize w14.heap.size = N15 at hX14 ⊢
          obtain ⟨x0, x1, -, -⟩ := id hX14
          obtain ⟨y0, y1, -, -⟩ := id hY14
          go_wp2_with fail
          go_ret
          exact ⟨rfl, hB14⟩
        · have hcb : (F.c == 0) = false := beq_eq_false_iff_ne.2 hc
          cases h1 : decide (F.c < 200)
          · cases h2 : (F.c == 204)
            · cases h3 : (F.c == 304)
              · have e1 := HQ3'.out hc (by unfold bareB; rw [h1, decide_eq_false (beq_eq_false_iff_ne.1 h2), decide_eq_false (beq_eq_false_iff_ne.1 h3)]; rfl)
                rw [e0] at e1
                have ha' := haa
                rw [e1] at ha'
                unfold anV at ha'
                clear haa hqq HQ1' HQ2' HQ3' HS1 HS2 HS3 hc e1
                go_wp2_with fail
                refine (ha' _ (HX12.out.below BW)).mono ?_
                rintro e w14 ⟨rfl, hb⟩
                clear c0 c1 c2 c3 c4 t0 t1 y0 y1 yf
                have BW15' := BW.trans (hb.mono BW.size)
                have BW15 := BW15'.alloc BW15'.size (.cells #[.int .i64 1, .int .i64 z] 24)
                have hY14 := (hY.below hb).alloc (.cells #[.int .i64 1, .int .i64 z] 24)
                have hX14 := Tw.new w14 1 z
                go_upto_region 19 with fail
                have hlt14 : N13 < w14.heap.size := (hY.below hb).lt
                generalize w14.alloc _ = W15 at BW15 hY14 hX14 ⊢
                generalize w14.heap.size = N15 at hX14 hlt14 ⊢
                clear BW15' hb hY BW
                have BW := BW15
                have hY := hY14
                clear BW15 hY14
                have hB15 := hB12.trans (BW.mono hB12.size)
                obtain ⟨c0, c1, c2, c3, c4, -, -⟩ := hF12.below BW
                obtain ⟨t0, t1, -, -⟩ := hT12.below BW
                obtain ⟨y0, y1, -, yf⟩ := id hY
                obtain ⟨x0, x1, -, -⟩ := id hX14
                go_wp2_with fail
                go_ret
                exact ⟨rfl, hB15⟩
              · have e1 := HQ2'.out hc (by unfold bareB; rw [decide_eq_true (beq_iff_eq.1 h3)]; simp)
                have ha' := haa
                rw [e1] at ha'
                unfold anV at ha'
                clear haa hqq HQ1' HQ2' HQ3' HS1 HS2 HS3 hc e1
                go_wp2_with fail
                refine (ha' _ (HX12.out.below BW)).mono ?_
                rintro e w14 ⟨rfl, hb⟩
                clear c0 c1 c2 c3 c4 t0 t1 y0 y1 yf
                have BW15' := BW.trans (hb.mono BW.size)
                have BW15 := BW15'.alloc BW15'.size (.cells #[.int .i64 0, .int .i64 0] 24)
                have hY14 := (hY.below hb).alloc (.cells #[.int .i64 0, .int .i64 0] 24)
                have hX14 := Tw.new w14 0 0
                go_upto_region 19 with fail
                have hlt14 : N13 < w14.heap.size := (hY.below hb).lt
                generalize w14.alloc _ = W15 at BW15 hY14 hX14 ⊢
                generalize w14.heap.size = N15 at hX14 hlt14 ⊢
                clear BW15' hb hY BW
                have BW := BW15
                have hY := hY14
                clear BW15 hY14
                have hB15 := hB12.trans (BW.mono hB12.size)
                obtain ⟨c0, c1, c2, c3, c4, -, -⟩ := hF12.below BW
                obtain ⟨t0, t1, -, -⟩ := hT12.below BW
                obtain ⟨y0, y1, -, yf⟩ := id hY
                obtain ⟨x0, x1, -, -⟩ := id hX14
                go_wp2_with fail
                go_ret
                exact ⟨rfl, hB15⟩
            · have e1 := HQ2'.out hc (by unfold bareB; rw [decide_eq_true (beq_iff_eq.1 h2)]; simp)
              have ha' := haa
              rw [e1] at ha'
              unfold anV at ha'
              clear haa hqq HQ1' HQ2' HQ3' HS1 HS2 HS3 hc e1
              go_wp2_with fail
              refine (ha' _ (HX12.out.below BW)).mono ?_
              rintro e w14 ⟨rfl, hb⟩
              clear c0 c1 c2 c3 c4 t0 t1 y0 y1 yf
              have BW15' := BW.trans (hb.mono BW.size)
              have BW15 := BW15'.alloc BW15'.size (.cells #[.int .i64 0, .int .i64 0] 24)
              have hY14 := (hY.below hb).alloc (.cells #[.int .i64 0, .int .i64 0] 24)
              have hX14 := Tw.new w14 0 0
              go_upto_region 19 with fail
              have hlt14 : N13 < w14.heap.size := (hY.below hb).lt
              generalize w14.alloc _ = W15 at BW15 hY14 hX14 ⊢
              generalize w14.heap.size = N15 at hX14 hlt14 ⊢
              clear BW15' hb hY BW
              have BW := BW15
              have hY := hY14
              clear BW15 hY14
              have hB15 := hB12.trans (BW.mono hB12.size)
              obtain ⟨c0, c1, c2, c3, c4, -, -⟩ := hF12.below BW
              obtain ⟨t0, t1, -, -⟩ := hT12.below BW
              obtain ⟨y0, y1, -, yf⟩ := id hY
              obtain ⟨x0, x1, -, -⟩ := id hX14
              go_wp2_with fail
              go_ret
              exact ⟨rfl, hB15⟩
          · have e1 := HQ2'.out hc (by unfold bareB; rw [h1]; simp)
            have ha' := haa
            rw [e1] at ha'
            unfold anV at ha'
            clear haa hqq HQ1' HQ2' HQ3' HS1 HS2 HS3 hc e1
            go_wp2_with fail
            refine (ha' _ (HX12.out.below BW)).mono ?_
            rintro e w14 ⟨rfl, hb⟩
            clear c0 c1 c2 c3 c4 t0 t1 y0 y1 yf
            have BW15' := BW.trans (hb.mono BW.size)
            have BW15 := BW15'.alloc BW15'.size (.cells #[.int .i64 0, .int .i64 0] 24)
            have hY14 := (hY.below hb).alloc (.cells #[.int .i64 0, .int .i64 0] 24)
            have hX14 := Tw.new w14 0 0
            go_upto_region 19 with fail
            have hlt14 : N13 < w14.heap.size := (hY.below hb).lt
            generalize w14.alloc _ = W15 at BW15 hY14 hX14 ⊢
            generalize w14.heap.size = N15 at hX14 hlt14 ⊢
            clear BW15' hb hY BW
            have BW := BW15
            have hY := hY14
            clear BW15 hY14
            have hB15 := hB12.trans (BW.mono hB12.size)
            obtain ⟨c0, c1, c2, c3, c4, -, -⟩ := hF12.below BW
            obtain ⟨t0, t1, -, -⟩ := hT12.below BW
            obtain ⟨y0, y1, -, yf⟩ := id hY
            obtain ⟨x0, x1, -, -⟩ := id hX14
            go_wp2_with fail
            go_ret
            exact ⟨rfl, hB15⟩
      · by_cases hn0 : F.n = 0
        · have hn1 : (F.n == 0) = true := beq_iff_eq.2 hn0
          obtain ⟨c0, c1, c2, c3, c4, -, -⟩ := id hF12
          obtain ⟨t0, t1, -, -⟩ := id hT12
          go_wp2_with fail
          go_ret
          exact ⟨rfl, hB12⟩
        · have hn1 : (F.n == 0) = false := beq_eq_false_iff_ne.2 hn0
          have e0 : ∀ k, elseF (sayF F.n X) k = (2, 0, 0) := fun k => by rw [HS2.out rfl _ hn0]; rfl
          obtain ⟨c0, c1, c2, c3, c4, -, -⟩ := id hF12
          obtain ⟨t0, t1, -, -⟩ := id hT12
          go_upto_region 11 with fail
          clear c0 c1 c2 c3 c4 t0 t1
          have BW := one_alloc w12 #[.int .i64 2, .int .i64 0] 24
          have hY := Tw.new w12 2 0
          generalize w12.alloc _ = W13 at BW hY ⊢
          obtain ⟨N13, hN13⟩ : ∃ n, w12.heap.size = n := ⟨_, rfl⟩
          have HN13 := hide hN13
          rw [hN13] at hY ⊢
          clear hN13
          obtain ⟨c0, c1, c2, c3, c4, -, -⟩ := hF12.below BW
          obtain ⟨t0, t1, -, -⟩ := hT12.below BW
          obtain ⟨y0, y1, -, yf⟩ := id hY
          go_upto_region 13 with fail
          by_cases hc : F.c = 0
          · have hcb : (F.c == 0) = true := beq_iff_eq.2 hc
            have e1 := HQ1'.out hc
            rw [e0] at e1
            have hq' := hqq
            rw [e1] at hq'
            unfold anV at hq'
            clear haa hqq HQ1' HQ2' HQ3' HS1 HS2 HS3 hc e1
            have hnop : True := trivial
            go_wp2_with fail
            refine (hq' _ (HX12.out.below BW)).mono ?_
            rintro e w14 ⟨rfl, hb⟩
            clear c0 c1 c2 c3 c4 t0 t1 y0 y1 yf
            have hBW := hB12.trans (BW.mono hB12.size)
            have hB14' := hBW.trans (hb.mono hBW.size)
            have hB14 := hB14'.alloc hB14'.size (.cells #[.int .i64 2, .int .i64 0] 24)
            have hY14 := (hY.below hb).alloc (.cells #[.int .i64 2, .int .i64 0] 24)
            have hX14 := Tw.new w14 2 0
            go_upto_region 17 with fail
            generalize w14.alloc _ = W15 at hB14 hY14 hX14 ⊢
            generalize w14.heap.size = N15 at hX14 ⊢
            obtain ⟨x0, x1, -, -⟩ := id hX14
            obtain ⟨y0, y1, -, -⟩ := id hY14
            go_wp2_with fail
            go_ret
            exact ⟨rfl, hB14⟩
          · have hcb : (F.c == 0) = false := beq_eq_false_iff_ne.2 hc
            cases h1 : decide (F.c < 200)
            · cases h2 : (F.c == 204)
              · cases h3 : (F.c == 304)
                · have e1 := HQ3'.out hc (by unfold bareB; rw [h1, decide_eq_false (beq_eq_false_iff_ne.1 h2), decide_eq_false (beq_eq_false_iff_ne.1 h3)]; rfl)
                  rw [e0] at e1
                  have ha' := haa
                  rw [e1] at ha'
                  unfold anV at ha'
                  clear haa hqq HQ1' HQ2' HQ3' HS1 HS2 HS3 hc e1
                  go_wp2_with fail
                  refine (ha' _ (HX12.out.below BW)).mono ?_
                  rintro e w14 ⟨rfl, hb⟩
                  clear c0 c1 c2 c3 c4 t0 t1 y0 y1 yf
                  have BW15' := BW.trans (hb.mono BW.size)
                  have BW15 := BW15'.alloc BW15'.size (.cells #[.int .i64 2, .int .i64 0] 24)
                  have hY14 := (hY.below hb).alloc (.cells #[.int .i64 2, .int .i64 0] 24)
                  have hX14 := Tw.new w14 2 0
                  go_upto_region 19 with fail
                  have hlt14 : N13 < w14.heap.size := (hY.below hb).lt
                  generalize w14.alloc _ = W15 at BW15 hY14 hX14 ⊢
                  generalize w14.heap.size = N15 at hX14 hlt14 ⊢
                  clear BW15' hb hY BW
                  have BW := BW15
                  have hY := hY14
                  clear BW15 hY14
                  have hB15 := hB12.trans (BW.mono hB12.size)
                  obtain ⟨c0, c1, c2, c3, c4, -, -⟩ := hF12.below BW
                  obtain ⟨t0, t1, -, -⟩ := hT12.below BW
                  obtain ⟨y0, y1, -, yf⟩ := id hY
                  obtain ⟨x0, x1, -, -⟩ := id hX14
                  go_wp2_with fail
                  go_ret
                  exact ⟨rfl, hB15⟩
                · have e1 := HQ2'.out hc (by unfold bareB; rw [decide_eq_true (beq_iff_eq.1 h3)]; simp)
                  have ha' := haa
                  rw [e1] at ha'
                  unfold anV at ha'
                  clear haa hqq HQ1' HQ2' HQ3' HS1 HS2 HS3 hc e1
                  go_wp2_with fail
                  refine (ha' _ (HX12.out.below BW)).mono ?_
                  rintro e w14 ⟨rfl, hb⟩
                  clear c0 c1 c2 c3 c4 t0 t1 y0 y1 yf
                  have BW15' := BW.trans (hb.mono BW.size)
                  have BW15 := BW15'.alloc BW15'.size (.cells #[.int .i64 0, .int .i64 0] 24)
                  have hY14 := (hY.below hb).alloc (.cells #[.int .i64 0, .int .i64 0] 24)
                  have hX14 := Tw.new w14 0 0
                  go_upto_region 19 with fail
                  have hlt14 : N13 < w14.heap.size := (hY.below hb).lt
                  generalize w14.alloc _ = W15 at BW15 hY14 hX14 ⊢
                  generalize w14.heap.size = N15 at hX14 hlt14 ⊢
                  clear BW15' hb hY BW
                  have BW := BW15
                  have hY := hY14
                  clear BW15 hY14
                  have hB15 := hB12.trans (BW.mono hB12.size)
                  obtain ⟨c0, c1, c2, c3, c4, -, -⟩ := hF12.below BW
                  obtain ⟨t0, t1, -, -⟩ := hT12.below BW
                  obtain ⟨y0, y1, -, yf⟩ := id hY
                  obtain ⟨x0, x1, -, -⟩ := id hX14
                  go_wp2_with fail
                  go_ret
                  exact ⟨rfl, hB15⟩
              · have e1 := HQ2'.out hc (by unfold bareB; rw [decide_eq_true (beq_iff_eq.1 h2)]; simp)
                have ha' := haa
                rw [e1] at ha'
                unfold anV at ha'
                clear haa hqq HQ1' HQ2' HQ3' HS1 HS2 HS3 hc e1
                go_wp2_with fail
                refine (ha' _ (HX12.out.below BW)).mono ?_
                rintro e w14 ⟨rfl, hb⟩
                clear c0 c1 c2 c3 c4 t0 t1 y0 y1 yf
                have BW15' := BW.trans (hb.mono BW.size)
                have BW15 := BW15'.alloc BW15'.size (.cells #[.int .i64 0, .int .i64 0] 24)
                have hY14 := (hY.below hb).alloc (.cells #[.int .i64 0, .int .i64 0] 24)
                have hX14 := Tw.new w14 0 0
                go_upto_region 19 with fail
                have hlt14 : N13 < w14.heap.size := (hY.below hb).lt
                generalize w14.alloc _ = W15 at BW15 hY14 hX14 ⊢
                generalize w14.heap.size = N15 at hX14 hlt14 ⊢
                clear BW15' hb hY BW
                have BW := BW15
                have hY := hY14
                clear BW15 hY14
                have hB15 := hB12.trans (BW.mono hB12.size)
                obtain ⟨c0, c1, c2, c3, c4, -, -⟩ := hF12.below BW
                obtain ⟨t0, t1, -, -⟩ := hT12.below BW
                obtain ⟨y0, y1, -, yf⟩ := id hY
                obtain ⟨x0, x1, -, -⟩ := id hX14
                go_wp2_with fail
                go_ret
                exact ⟨rfl, hB15⟩
            · have e1 := HQ2'.out hc (by unfold bareB; rw [h1]; simp)
              have ha' := haa
              rw [e1] at ha'
              unfold anV at ha'
              clear haa hqq HQ1' HQ2' HQ3' HS1 HS2 HS3 hc e1
              go_wp2_with fail
              refine (ha' _ (HX12.out.below BW)).mono ?_
              rintro e w14 ⟨rfl, hb⟩
              clear c0 c1 c2 c3 c4 t0 t1 y0 y1 yf
              have BW15' := BW.trans (hb.mono BW.size)
              have BW15 := BW15'.alloc BW15'.size (.cells #[.int .i64 0, .int .i64 0] 24)
              have hY14 := (hY.below hb).alloc (.cells #[.int .i64 0, .int .i64 0] 24)
              have hX14 := Tw.new w14 0 0
              go_upto_region 19 with fail
              have hlt14 : N13 < w14.heap.size := (hY.below hb).lt
              generalize w14.alloc _ = W15 at BW15 hY14 hX14 ⊢
              generalize w14.heap.size = N15 at hX14 hlt14 ⊢
              clear BW15' hb hY BW
              have BW := BW15
              have hY := hY14
              clear BW15 hY14
              have hB15 := hB12.trans (BW.mono hB12.size)
              obtain ⟨c0, c1, c2, c3, c4, -, -⟩ := hF12.below BW
              obtain ⟨t0, t1, -, -⟩ := hT12.below BW
              obtain ⟨y0, y1, -, yf⟩ := id hY
              obtain ⟨x0, x1, -, -⟩ := id hX14
              go_wp2_with fail
              go_ret
              exact ⟨rfl, hB15⟩
      · have e0 : ∀ k, elseF (sayF F.n X) k = (k, 0, 0) := fun k => by rw [HS3.out (by decide) (by decide)]; rfl
        obtain ⟨c0, c1, c2, c3, c4, -, -⟩ := id hF12
        obtain ⟨t0, t1, -, -⟩ := id hT12
        go_upto_region 11 with fail
        clear c0 c1 c2 c3 c4 t0 t1
        have BW := one_alloc w12 #[.int .i64 3, .int .i64 0] 24
        have hY := Tw.new w12 3 0
        generalize w12.alloc _ = W13 at BW hY ⊢
        obtain ⟨N13, hN13⟩ : ∃ n, w12.heap.size = n := ⟨_, rfl⟩
        have HN13 := hide hN13
        rw [hN13] at hY ⊢
        clear hN13
        obtain ⟨c0, c1, c2, c3, c4, -, -⟩ := hF12.below BW
        obtain ⟨t0, t1, -, -⟩ := hT12.below BW
        obtain ⟨y0, y1, -, yf⟩ := id hY
        go_upto_region 13 with fail
        by_cases hc : F.c = 0
        · have hcb : (F.c == 0) = true := beq_iff_eq.2 hc
          have e1 := HQ1'.out hc
          rw [e0] at e1
          have hq' := hqq
          rw [e1] at hq'
          unfold anV at hq'
          clear haa hqq HQ1' HQ2' HQ3' HS1 HS2 HS3 hc e1
          go_upto_region 16 with fail
          clear c0 c1 c2 c3 c4 t0 t1 y0 y1 yf
          have BW2 := put2_below BW (N := N13) (by rw [HN13.out]; exact Nat.le_refl _) 0 0
          have hY2 := put2_is hY 0 0
          unfold put2 at BW2 hY2
          generalize World.setCell _ _ _ = W14 at BW2 hY2 ⊢
          clear BW hY
          have BW := BW2
          have hY := hY2
          clear BW2 hY2
          obtain ⟨c0, c1, c2, c3, c4, -, -⟩ := hF12.below BW
          obtain ⟨t0, t1, -, -⟩ := hT12.below BW
          obtain ⟨y0, y1, -, yf⟩ := id hY
          go_wp2_with fail
          refine (hq' _ (HX12.out.below BW)).mono ?_
          rintro e w14 ⟨rfl, hb⟩
          clear c0 c1 c2 c3 c4 t0 t1 y0 y1 yf
          have hBW := hB12.trans (BW.mono hB12.size)
          have hB14' := hBW.trans (hb.mono hBW.size)
          have hB14 := hB14'.alloc hB14'.size (.cells #[.int .i64 0, .int .i64 0] 24)
          have hY14 := (hY.below hb).alloc (.cells #[.int .i64 0, .int .i64 0] 24)
          have hX14 := Tw.new w14 0 0
          go_upto_region 17 with fail
          generalize w14.alloc _ = W15 at hB14 hY14 hX14 ⊢
          generalize w14.heap.size = N15 at hX14 ⊢
          obtain ⟨x0, x1, -, -⟩ := id hX14
          obtain ⟨y0, y1, -, -⟩ := id hY14
          go_wp2_with fail
          go_ret
          exact ⟨rfl, hB14⟩
        · have hcb : (F.c == 0) = false := beq_eq_false_iff_ne.2 hc
          cases h1 : decide (F.c < 200)
          · cases h2 : (F.c == 204)
            · cases h3 : (F.c == 304)
              · have e1 := HQ3'.out hc (by unfold bareB; rw [h1, decide_eq_false (beq_eq_false_iff_ne.1 h2), decide_eq_false (beq_eq_false_iff_ne.1 h3)]; rfl)
                rw [e0] at e1
                have ha' := haa
                rw [e1] at ha'
                unfold anV at ha'
                clear haa hqq HQ1' HQ2' HQ3' HS1 HS2 HS3 hc e1
                go_wp2_with fail
                refine (ha' _ (HX12.out.below BW)).mono ?_
                rintro e w14 ⟨rfl, hb⟩
                clear c0 c1 c2 c3 c4 t0 t1 y0 y1 yf
                have BW15' := BW.trans (hb.mono BW.size)
                have BW15 := BW15'.alloc BW15'.size (.cells #[.int .i64 3, .int .i64 0] 24)
                have hY14 := (hY.below hb).alloc (.cells #[.int .i64 3, .int .i64 0] 24)
                have hX14 := Tw.new w14 3 0
                go_upto_region 19 with fail
                have hlt14 : N13 < w14.heap.size := (hY.below hb).lt
                generalize w14.alloc _ = W15 at BW15 hY14 hX14 ⊢
                generalize w14.heap.size = N15 at hX14 hlt14 ⊢
                clear BW15' hb hY BW
                have BW := BW15
                have hY := hY14
                clear BW15 hY14
                have hB15 := hB12.trans (BW.mono hB12.size)
                obtain ⟨c0, c1, c2, c3, c4, -, -⟩ := hF12.below BW
                obtain ⟨t0, t1, -, -⟩ := hT12.below BW
                obtain ⟨y0, y1, -, yf⟩ := id hY
                obtain ⟨x0, x1, -, -⟩ := id hX14
                go_wp2_with fail
                go_ret
                exact ⟨rfl, hB15⟩
              · have e1 := HQ2'.out hc (by unfold bareB; rw [decide_eq_true (beq_iff_eq.1 h3)]; simp)
                have ha' := haa
                rw [e1] at ha'
                unfold anV at ha'
                clear haa hqq HQ1' HQ2' HQ3' HS1 HS2 HS3 hc e1
                go_wp2_with fail
                refine (ha' _ (HX12.out.below BW)).mono ?_
                rintro e w14 ⟨rfl, hb⟩
                clear c0 c1 c2 c3 c4 t0 t1 y0 y1 yf
                have BW15' := BW.trans (hb.mono BW.size)
                have BW15 := BW15'.alloc BW15'.size (.cells #[.int .i64 0, .int .i64 0] 24)
                have hY14 := (hY.below hb).alloc (.cells #[.int .i64 0, .int .i64 0] 24)
                have hX14 := Tw.new w14 0 0
                go_upto_region 19 with fail
                have hlt14 : N13 < w14.heap.size := (hY.below hb).lt
                generalize w14.alloc _ = W15 at BW15 hY14 hX14 ⊢
                generalize w14.heap.size = N15 at hX14 hlt14 ⊢
                clear BW15' hb hY BW
                have BW := BW15
                have hY := hY14
                clear BW15 hY14
                have hB15 := hB12.trans (BW.mono hB12.size)
                obtain ⟨c0, c1, c2, c3, c4, -, -⟩ := hF12.below BW
                obtain ⟨t0, t1, -, -⟩ := hT12.below BW
                obtain ⟨y0, y1, -, yf⟩ := id hY
                obtain ⟨x0, x1, -, -⟩ := id hX14
                go_wp2_with fail
                go_ret
                exact ⟨rfl, hB15⟩
            · have e1 := HQ2'.out hc (by unfold bareB; rw [decide_eq_true (beq_iff_eq.1 h2)]; simp)
              have ha' := haa
              rw [e1] at ha'
              unfold anV at ha'
              clear haa hqq HQ1' HQ2' HQ3' HS1 HS2 HS3 hc e1
              go_wp2_with fail
              refine (ha' _ (HX12.out.below BW)).mono ?_
              rintro e w14 ⟨rfl, hb⟩
              clear c0 c1 c2 c3 c4 t0 t1 y0 y1 yf
              have BW15' := BW.trans (hb.mono BW.size)
              have BW15 := BW15'.alloc BW15'.size (.cells #[.int .i64 0, .int .i64 0] 24)
              have hY14 := (hY.below hb).alloc (.cells #[.int .i64 0, .int .i64 0] 24)
              have hX14 := Tw.new w14 0 0
              go_upto_region 19 with fail
              have hlt14 : N13 < w14.heap.size := (hY.below hb).lt
              generalize w14.alloc _ = W15 at BW15 hY14 hX14 ⊢
              generalize w14.heap.size = N15 at hX14 hlt14 ⊢
              clear BW15' hb hY BW
              have BW := BW15
              have hY := hY14
              clear BW15 hY14
              have hB15 := hB12.trans (BW.mono hB12.size)
              obtain ⟨c0, c1, c2, c3, c4, -, -⟩ := hF12.below BW
              obtain ⟨t0, t1, -, -⟩ := hT12.below BW
              obtain ⟨y0, y1, -, yf⟩ := id hY
              obtain ⟨x0, x1, -, -⟩ := id hX14
              go_wp2_with fail
              go_ret
              exact ⟨rfl, hB15⟩
          · have e1 := HQ2'.out hc (by unfold bareB; rw [h1]; simp)
            have ha' := haa
            rw [e1] at ha'
            unfold anV at ha'
            clear haa hqq HQ1' HQ2' HQ3' HS1 HS2 HS3 hc e1
            go_wp2_with fail
            refine (ha' _ (HX12.out.below BW)).mono ?_
            rintro e w14 ⟨rfl, hb⟩
            clear c0 c1 c2 c3 c4 t0 t1 y0 y1 yf
            have BW15' := BW.trans (hb.mono BW.size)
            have BW15 := BW15'.alloc BW15'.size (.cells #[.int .i64 0, .int .i64 0] 24)
            have hY14 := (hY.below hb).alloc (.cells #[.int .i64 0, .int .i64 0] 24)
            have hX14 := Tw.new w14 0 0
            go_upto_region 19 with fail
            have hlt14 : N13 < w14.heap.size := (hY.below hb).lt
            generalize w14.alloc _ = W15 at BW15 hY14 hX14 ⊢
            generalize w14.heap.size = N15 at hX14 hlt14 ⊢
            clear BW15' hb hY BW
            have BW := BW15
            have hY := hY14
            clear BW15 hY14
            have hB15 := hB12.trans (BW.mono hB12.size)
            obtain ⟨c0, c1, c2, c3, c4, -, -⟩ := hF12.below BW
            obtain ⟨t0, t1, -, -⟩ := hT12.below BW
            obtain ⟨y0, y1, -, yf⟩ := id hY
            obtain ⟨x0, x1, -, -⟩ := id hX14
            go_wp2_with fail
            go_ret
            exact ⟨rfl, hB15⟩
  · have g0b : (((E : Nat) : Int) != 0) = true := by rw [bne_iff_ne]; omega
    have hx0 := HBAD.out g0
    have hxl : X.length = 0 := by rw [hx0]; rfl
    clear HOK HBAD hx0
    rw [hxl]
    go_wp2_with fail
    refine (alive_any _).mono ?_
    rintro en w6 ⟨rfl, hb⟩
    have hB6 := hB5.trans (hb.mono hB5.size)
    go_wp2_with fail
    go_ret
    exact ⟨rfl, hB6⟩

end Go.Proofs.YtplanlhgcckioaaDoor
